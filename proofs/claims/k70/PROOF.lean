import PyProof.Rows.All
import Wide.All
import OpenK.AllK
import Wide.FinOn
import Lean
import PyProof.EqAt
import PyProof.EqKinds
import PyProof.TupleCall
import KE.IntBitsLaws
import PyProof.Rows.CallKwBuiltin
import KE.KRevIter
import KE.KDictSum
import PyProof.AttrMissHeap
import KE.KDictOf
import KE.KSortTup
import KE.KItemsList
import PyProof.LongRange
import PyProof.Rows.FStr
import PyProof.Rows.StrNews
import PyProof.StrLawsTight
import PyProof.StrLawsChain
import KE.KIntText
import PySem.Challenge.RW_shelfmark_k70_states_as_texts
set_option Elab.async false
set_option linter.all false
set_option maxRecDepth 100000
set_option maxHeartbeats 4000000
namespace L2
open PySem PySem.Spec PyProof.Rows
inductive Key where
  | inl (i:Int) | inr (x:Str) | non
deriving DecidableEq
def isNon:Value→Bool
  | .none=>true
  | _=>false
def keyIs:Key→Value→Bool
  | .inl k,v=>Value.isInt k v
  | .inr x,v=>Value.isStrOf x v
  | .non,v=>isNon v
def keyH (w:World):Key→Int
  | .inl k=>hashInt k
  | .inr x=>hashStr w x
  | .non=>(reduceHash 4238894112)
theorem keyIs_shape:∀ {k:Key} {v:Value},keyIs k v = true→(∃ i t,k = Key.inl i∧v = Value.int i t) ∨ (∃ x t,k = Key.inr x∧v = Value.str x t) ∨ (k = Key.non∧v = Value.none)
  | .inl i,v,h=>by
    obtain ⟨t,e⟩:=Value.isInt_shape (k:=i) (v:=v) h
    exact .inl ⟨i,t,rfl,e⟩
  | .inr x,v,h=>by
    obtain ⟨t,e⟩:=Value.isStrOf_shape (x:=x) (v:=v) h
    exact .inr (.inl ⟨x,t,rfl,e⟩)
  | .non,v,h=>by
    cases v <;> first | exact .inr (.inr ⟨rfl,rfl⟩) | exact nomatch (show false = true from h)
theorem keyIs_int (i:Int) (t:Tok):keyIs (.inl i) (.int i t) = true:=by simp [keyIs,Value.isInt]
theorem keyIs_str (x:Str) (t:Tok):keyIs (.inr x) (.str x t) = true:=by simp [keyIs,Value.isStrOf]
theorem key_ll (a b:Int):decide (Key.inl a = Key.inl b) = (a == b):=by
  by_cases e:a = b
  · subst e; simp
  · rw [decide_eq_false (fun q=>e (Key.inl.inj q))]; exact (beq_eq_false_iff_ne.mpr e).symm
theorem key_rr (a b:Str):decide (Key.inr a = Key.inr b) = decide (a = b):=by
  by_cases e:a = b
  · subst e; simp
  · rw [decide_eq_false (fun q=>e (Key.inr.inj q)),decide_eq_false e]
theorem hash_non {prog:Program} {w:World} {A:Around} {E:Value→Shared→Prop} {s:Shared} {Q:Int→Shared→Prop} (h:Q (reduceHash 4238894112) { s with toks:=s.toks + 1 }):wpAny (model prog w) A (pyHash .none) Q E s:=
  W.pyHash_slot (T:="NoneType") rfl F.slot_NoneType_hash F.entry_NoneType_hash (F.args_NoneType_hash_1 _) (beq_builtin_none _) (.inl rfl) (wpAny_bind (wpAny_pure (wpAny_bind (wpAny_mkInt (wpAny_pure ⟨_,_,rfl,h⟩)))))
theorem eq_non {prog:Program} {w:World} {A:Around} {E:Value→Shared→Prop} {s:Shared} {Q:Bool→Shared→Prop} (h:Q true s):wpAny (model prog w) A (eqBool .none .none) Q E s:=by
  unfold eqBool
  refine wpAny_holding ?_
  rw [if_pos (by decide)]
  exact wpAny_bind (wpAny_rule (wpAny_pure h))
def mixKind (prog:Program) (w:World):PySem.KeyKind prog w Key where
  is:=keyIs
  hash:=keyH w
  inj:=fun v a b ha hb=>by
    rcases keyIs_shape ha with ⟨i,t,rfl,rfl⟩ | ⟨x,t,rfl,rfl⟩ | ⟨rfl,rfl⟩ <;> rcases keyIs_shape hb with ⟨j,u,rfl,e⟩ | ⟨y,u,rfl,e⟩ | ⟨rfl,e⟩ <;>
      first | (cases e; rfl) | cases e
  byValue:=fun k v h=>by
    rcases keyIs_shape h with ⟨i,t,rfl,rfl⟩ | ⟨x,t,rfl,rfl⟩ | ⟨rfl,rfl⟩ <;> rfl
  pyHash:=fun hv h=>by
    rcases keyIs_shape hv with ⟨i,t,rfl,rfl⟩ | ⟨x,t,rfl,rfl⟩ | ⟨rfl,rfl⟩
    · exact wpAny_pyHash_int h
    · exact wpAny_pyHash_str h
    · exact hash_non h
  eqBool:=fun hu hv h=>by
    rcases keyIs_shape hu with ⟨i,t,rfl,rfl⟩ | ⟨x,t,rfl,rfl⟩ | ⟨rfl,rfl⟩ <;> rcases keyIs_shape hv with ⟨j,u,rfl,rfl⟩ | ⟨y,u,rfl,rfl⟩ | ⟨rfl,rfl⟩
    · rw [key_ll] at h; exact wpAny_eqBool_int h
    · exact SeqAt.EqAt.int_str i t y u _ _ _ _ h
    · exact SeqAt.EqAt.int_none i t _ _ _ _ h
    · exact SeqAt.EqAt.str_int x t j u _ _ _ _ h
    · rw [key_rr] at h; exact wpAny_eqBool_str h
    · exact SeqAt.EqAt.str_none x t _ _ _ _ h
    · exact SeqAt.EqAt.none_int j u _ _ _ _ h
    · exact SeqAt.EqAt.none_str y u _ _ _ _ h
    · exact eq_non h
  «strs»:=fun k x t v h=>by
    rcases keyIs_shape h with ⟨i,u,rfl,e⟩ | ⟨y,u,rfl,e⟩ | ⟨rfl,e⟩
    · exact nomatch e
    · injection e with e1 _
      subst e1
      cases v <;> rfl
    · exact nomatch e
theorem mixKind_int (prog:Program) (w:World) (i:Int) (t:Tok):(mixKind prog w).is (.inl i) (.int i t) = true:=keyIs_int i t
theorem mixKind_str (prog:Program) (w:World) (x:Str) (t:Tok):(mixKind prog w).is (.inr x) (.str x t) = true:=keyIs_str x t
inductive V where
  | non | bl (b:Bool) | int (i:Int) | str (x:Str) | byt (b:Array UInt8) | flt (b:UInt64) | ref (a:Addr) | ty (n:String)
  deriving DecidableEq
def RelV:V→Value→Prop
  | .non,u=>u = Value.none
  | .bl b,u=>u = Value.bool b
  | .int i,u=>∃ t,u = Value.int i t
  | .str x,u=>∃ t,u = Value.str x t
  | .byt b,u=>∃ t,u = Value.bytes b t
  | .flt b,u=>∃ t,u = Value.float b t
  | .ref a,u=>u = Value.ref a
  | .ty n,u=>u = Value.type n
abbrev Vals:List V→List Value→Prop:=Paired RelV
theorem Vals.length {xs:List V} {us:List Value} (r:Vals xs us):xs.length = us.length:=Paired.length r
theorem Vals.get:∀ {xs:List V} {us:List Value} {i:Nat} {x:V},Vals xs us→xs[i]? = some x→∃ u,us[i]? = some u∧RelV x u
  | _,_,_,_,.nil,e=>by simp at e
  | _,_,0,_,.cons r _,e=>by simp at e; subst e; exact ⟨_,rfl,r⟩
  | _,_,i + 1,x,.cons _ t,e=>by
    obtain ⟨u,h1,h2⟩:=Vals.get (i:=i) (x:=x) t (by simpa using e)
    exact ⟨u,by simpa using h1,h2⟩
theorem Vals.append:∀ {xs ys:List V} {us ws:List Value},Vals xs us→Vals ys ws→Vals (xs ++ ys) (us ++ ws)
  | _,_,_,_,.nil,s=>s
  | _,_,_,_,.cons r t,s=>.cons r (Vals.append t s)
theorem Vals.take:∀ {xs:List V} {us:List Value} (n:Nat),Vals xs us→Vals (xs.take n) (us.take n)
  | _,_,0,_=>.nil
  | _,_,_ + 1,.nil=>.nil
  | _,_,n + 1,.cons r t=>.cons r (Vals.take n t)
theorem Vals.drop:∀ {xs:List V} {us:List Value} (n:Nat),Vals xs us→Vals (xs.drop n) (us.drop n)
  | _,_,0,r=>r
  | _,_,_ + 1,.nil=>.nil
  | _,_,n + 1,.cons _ t=>Vals.drop n t
def RelO:Option V→Option Value→Prop
  | some v,some u=>RelV v u
  | none,none=>True
  | _,_=>False
def KV {κ:Type}:List (κ × V)→List (κ × Value)→Prop:=Paired fun (p:κ × V) (q:κ × Value)=>p.1 = q.1∧RelV p.2 q.2
def kV:Key→V
  | .inl i=>.int i
  | .inr x=>.str x
  | .non=>.non
inductive HO where
  /-- a list -/
  | lst (xs:List V)
  /-- a tuple (never changes) -/
  | tup (xs:List V)
  /-- a dict whose keys are ints and texts; one whose keys are tuples of ints and texts (the empty one is both) -/
  | dK (kvs:List (Key × V)) | dT (kvs:List (List Key × V))
  /-- a set of ints: its members,its size -/
  | set (S:Int→Bool) (n:Nat)
  /-- an instance of the class at C,its dict at dx,its attributes -/
  | ins (C dx:Addr) (fs:List (Str × V))
  /-- the dict of the instance at x -/
  | own (x:Addr)
  /-- the dict of an exception -/
  | xd (fs:List (Str × V))
  /-- a bound method,f of x -/
  | met (f x:Addr)
  /-- a range object lo,lo + 1,.. below hi -/
  | rng (lo hi:Int)
  /-- a thing that is known to the object (the script; a dict while a loop walks it): read,never written while it is so -/
  | frz (o:Obj) (u:HO)
  /-- a code object's table -/
  | tbl (ps:Array Value)
  /-- any other thing,by what is true of its one object (a def of one's own: SetO a S n:=HO.ext fun h=>..) -/
  | ext (φ:Heap→Prop)
abbrev Hp:=Addr→Option HO
def upd (H:Hp) (a:Addr) (o:HO):Hp:=fun b=>if b = a then some o else H b
theorem upd_same {H:Hp} {a:Addr} {o:HO}:upd H a o a = some o:=by unfold upd; rw [if_pos rfl]
theorem upd_ne {H:Hp} {a b:Addr} {o:HO} (h:b ≠ a):upd H a o b = H b:=by unfold upd; rw [if_neg h]
theorem ne_of_none {H:Hp} {a b:Addr} {o:HO} (h:H a = some o) (h':H b = none):a ≠ b:=by
  intro e; subst e; rw [h] at h'; cases h'
section
variable (P:Program) (w:World)
def ObjOk (H:Hp) (h:Heap) (a:Addr):HO→Prop
  | .lst xs=>xs.length ≤ sizeLine∧∃ (its:List Value) (n:Nat),Vals xs its∧h.get? a = some { cls:=.type "list",data:=.seq its.toArray n }
  | .tup xs=>xs.length ≤ sizeLine∧∃ its:List Value,Vals xs its∧IsTup h a its.toArray
  | .dK kvs=>kvs.length ≤ sizeLine∧(a == sysModules) = false∧∃ vs,KV kvs vs∧h.DictOf (mixKind P w) a vs
  | .dT kvs=>kvs.length ≤ sizeLine∧(a == sysModules) = false∧∃ xs:List (List Key × Addr × Value),
      Paired (fun (p:List Key × V) (q:List Key × Addr × Value)=>p.1 = q.1∧H q.2.1 = some (.tup (p.1.map kV))∧RelV p.2 q.2.2) kvs xs∧
      ∃ o es ep,h.get? a = some o∧o.ExactDict∧o.data = .dict es ep∧es.toList = xs.map (entryOfKey (tupleKind (mixKind P w)))∧(xs.map (·.1)).Nodup
  | .set S n=>h.SetOf (intKind P w) a S n
  | .ins C dx fs=>H dx = some (.own a)∧fs.length ≤ 1000∧dx ≠ a∧h.get? a = some (PySem.W.instObj C dx)∧
      ∃ mA,h.Ns1 dx mA∧(∀ f,RelO (fs.lookup f) (mA f))∧PySem.Within mA (fs.map (·.1))
  | .own _=>∃ o,h.get? a = some o
  | .xd fs=>∃ mA,h.Ns1 a mA∧∀ f,RelO (fs.lookup f) (mA f)
  | .rng lo hi=>∃ t u v,h.get? a = some { cls:=.type "range",data:=.fields #[.int lo t,.int hi u,.int 1 v] }
  | .frz o u=>h.get? a = some o∧ObjOk H h a u
  | .tbl ps=>h.get? a = some { cls:=.none,data:=.fields ps }
  | .met f x=>h.get? a = some (PySem.W.methodObj (.ref f) (.ref x))
  | .ext φ=>φ h∧(∃ o,h.get? a = some o)∧∀ h1 h2:Heap,φ h1→(∀ o,h1.get? a = some o→h2.get? a = some o)→φ h2
def HOk (H:Hp) (h:Heap):Prop:=∀ a o,H a = some o→ObjOk P w H h a o
end
section
variable {P:Program} {w:World} {H H':Hp} {h h':Heap} {a:Addr} {o:HO}
theorem ObjOk.lt (x:ObjOk P w H h a o):a < h.objs.size:=by
  cases o with
  | lst xs=>obtain ⟨_,_,_,_,e⟩:=x; exact Heap.lt_size e
  | tup xs=>obtain ⟨_,_,_,p⟩:=x; exact p.lt
  | dK kvs=>obtain ⟨_,_,_,_,o,_,_,e,_⟩:=x; exact Heap.lt_size e
  | dT kvs=>obtain ⟨_,_,_,_,o,_,_,e,_⟩:=x; exact Heap.lt_size e
  | set S n=>obtain ⟨o,_,_,_,e,_⟩:=x; exact Heap.lt_size e
  | ins C dx fs=>obtain ⟨_,_,_,e,_⟩:=x; exact Heap.lt_size e
  | own y=>obtain ⟨_,e⟩:=x; exact Heap.lt_size e
  | xd fs=>obtain ⟨_,⟨_,_,_,e,_⟩,_⟩:=x; exact Heap.lt_size e
  | rng lo hi=>obtain ⟨_,_,_,e⟩:=x; exact Heap.lt_size e
  | frz ob u=>obtain ⟨e,_⟩:=x; exact Heap.lt_size e
  | tbl ps=>exact Heap.lt_size (show h.get? a = some _ from x)
  | met f y=>exact Heap.lt_size (show h.get? a = some _ from x)
  | ext φ=>obtain ⟨_,⟨_,e⟩,_⟩:=x; exact Heap.lt_size e
theorem Paired.mapP {α β:Type} {F G:α→β→Prop}:∀ {l₁:List α} {l₂:List β},Paired F l₁ l₂→(∀ a b,F a b→G a b)→Paired G l₁ l₂
  | _,_,.nil,_=>.nil
  | _,_,.cons r t,f=>.cons (f _ _ r) (Paired.mapP t f)
theorem ObjOk.stay (x:ObjOk P w H h a o) (k:∀ b u,(b = a ∨ H b = some (.own a))→h.get? b = some u→h'.get? b = some u)
    (ho:∀ b,H b = some (.own a)→H' b = some (.own a)) (ht:∀ b xs,H b = some (.tup xs)→H' b = some (.tup xs)):ObjOk P w H' h' a o:=by
  induction o with
  | lst xs=>obtain ⟨z,its,n,r,e⟩:=x; exact ⟨z,its,n,r,k _ _ (.inl rfl) e⟩
  | tup xs=>obtain ⟨z,its,r,ob,e,c⟩:=x; exact ⟨z,its,r,ob,k _ _ (.inl rfl) e,c⟩
  | dK kvs=>obtain ⟨z,y,vs,r,ob,es,ep,e,c⟩:=x; exact ⟨z,y,vs,r,ob,es,ep,k _ _ (.inl rfl) e,c⟩
  | dT kvs=>
    obtain ⟨z,y,xs,r,ob,es,ep,e,c⟩:=x
    exact ⟨z,y,xs,Paired.mapP r fun p q z=>⟨z.1,ht _ _ z.2.1,z.2.2⟩,ob,es,ep,k _ _ (.inl rfl) e,c⟩
  | set S n=>obtain ⟨ob,es,ep,t,e,c⟩:=x; exact ⟨ob,es,ep,t,k _ _ (.inl rfl) e,c⟩
  | ins C dx fs=>
    obtain ⟨d,z,ne,e,mA,⟨od,es,ep,e2,c⟩,r⟩:=x
    exact ⟨ho _ d,z,ne,k _ _ (.inl rfl) e,mA,⟨od,es,ep,k _ _ (.inr d) e2,c⟩,r⟩
  | own y=>obtain ⟨ob,e⟩:=x; exact ⟨ob,k _ _ (.inl rfl) e⟩
  | xd fs=>obtain ⟨mA,⟨od,es,ep,e,c⟩,r⟩:=x; exact ⟨mA,⟨od,es,ep,k _ _ (.inl rfl) e,c⟩,r⟩
  | rng lo hi=>obtain ⟨t,u,v,e⟩:=x; exact ⟨t,u,v,k _ _ (.inl rfl) e⟩
  | frz ob u ih=>obtain ⟨e,q⟩:=x; exact ⟨k _ _ (.inl rfl) e,ih q⟩
  | tbl ps=>
    have e:h.get? a = some { cls:=.none,data:=.fields ps }:=x
    show h'.get? a = some { cls:=.none,data:=.fields ps }
    exact k a _ (.inl rfl) e
  | met f y=>
    have e:h.get? a = some (PySem.W.methodObj (.ref f) (.ref y)):=x
    show h'.get? a = some (PySem.W.methodObj (.ref f) (.ref y))
    exact k a _ (.inl rfl) e
  | ext φ=>obtain ⟨p,⟨o,e⟩,st⟩:=x; exact ⟨st _ _ p fun o q=>k _ _ (.inl rfl) q,⟨o,k _ _ (.inl rfl) e⟩,st⟩
theorem HOk.lt (x:HOk P w H h) (e:H a = some o):a < h.objs.size:=(x a o e).lt
theorem HOk.fresh (x:HOk P w H h) (e:h.objs.size ≤ a):H a = none:=by
  cases q:H a with
  | none=>rfl
  | some u=>exact absurd (Nat.lt_of_lt_of_le (x.lt q) e) (Nat.lt_irrefl _)
theorem HOk.kept (x:HOk P w H h) (k:∀ b u,h.get? b = some u→h'.get? b = some u):HOk P w H h':=fun a o e=>
  (x a o e).stay (fun b u _ q=>k b u q) (fun _ q=>q) fun _ _ q=>q
theorem HOk.laid (x:HOk P w H h) (k:∀ b u,h.get? b = some u→h'.get? b = some u) (hp:h.objs.size ≤ a) (new:ObjOk P w (upd H a o) h' a o):HOk P w (upd H a o) h':=fun b u e=>by
  have hn:=x.fresh hp
  by_cases hb:b = a
  · subst hb; rw [upd_same] at e; cases e; exact new
  · rw [upd_ne hb] at e
    exact (x b u e).stay (fun c v _ q=>k c v q) (fun c q=>by rw [upd_ne (ne_of_none q hn)]; exact q) fun c xs q=>by rw [upd_ne (ne_of_none q hn)]; exact q
end
def Rd (H:Hp) (a:Addr) (u:HO):Prop:=H a = some u ∨ ∃ o,H a = some (.frz o u)
theorem Rd.ok {P:Program} {w:World} {H:Hp} {h:Heap} {a:Addr} {u:HO} (r:Rd H a u) (x:HOk P w H h):ObjOk P w H h a u:=by
  rcases r with r | ⟨o,r⟩
  · exact x a u r
  · obtain ⟨_,q⟩:=x a _ r
    exact q
def Mut:Option HO→Prop
  | some (.lst _)=>True
  | some (.dK _)=>True
  | some (.dT _)=>True
  | some (.set _ _)=>True
  | some (.ins _ _ _)=>True
  | some (.ext _)=>True
  | _=>False
section
variable {P:Program} {w:World} {H:Hp} {h h':Heap} {x e:Addr} {o':HO}
theorem HOk.write (ok:HOk P w H h) (mu:Mut (H x)) (he:e = x ∨ H e = some (.own x)) (k:∀ b u,b ≠ e→h.get? b = some u→h'.get? b = some u) (heo:∃ u,h'.get? e = some u)
    (new:ObjOk P w (upd H x o') h' x o'):HOk P w (upd H x o') h':=fun b u q=>by
  have nown:∀ c y,H c = some (.own y)→c ≠ x:=fun c y r z=>by subst z; rw [r] at mu; exact mu
  have ntup:∀ c xs,H c = some (.tup xs)→c ≠ x:=fun c xs r z=>by subst z; rw [r] at mu; exact mu
  by_cases hb:b = x
  · subst hb; rw [upd_same] at q; cases q; exact new
  · rw [upd_ne hb] at q
    by_cases hbe:b = e
    · have q':H b = some (.own x):=by
        rcases he with z | z
        · exact absurd (hbe.trans z) hb
        · rw [hbe]; exact z
      rw [q] at q'; cases q'
      obtain ⟨v,hv⟩:=heo
      exact ⟨v,by rw [hbe]; exact hv⟩
    · refine (ok b u q).stay (fun c v hc r=>k c v ?_ r) (fun c r=>by rw [upd_ne (nown c b r)]; exact r) fun c xs r=>by rw [upd_ne (ntup c xs r)]; exact r
      rcases hc with rfl | hc
      · exact hbe
      · rintro rfl
        rcases he with z | z
        · exact nown c b hc z
        · rw [hc] at z; cases z; exact hb rfl
end
structure Un (fs ex:List Addr) (H H':Hp) (h h':Heap):Prop where
  keep:∀ b o,h.get? b = some o→H b = none→b ∉ fs→b ∉ ex→h'.get? b = some o
  slot:∀ b o,h.get? b = some o→H b = none→b ∈ fs→b ∉ ex→∃ sl,h'.get? b = some { o with slots:=sl }
  free:∀ b o,h.get? b = some o→H b = none→b ∉ ex→H' b = none
  there:∀ b o,h.get? b = some o→b ∉ ex→∃ o',h'.get? b = some o'
  tups:∀ b xs,H b = some (.tup xs)→H' b = some (.tup xs)
  frzs:∀ b o u,H b = some (.frz o u)→H' b = some (.frz o u)
  tbls:∀ b ps,H b = some (.tbl ps)→∃ more,H' b = some (.tbl (ps ++ more))
section
variable {fs fs' ex ex':List Addr} {H H1 H2:Hp} {h h1 h2 h':Heap} {a x e:Addr} {o:HO}
theorem Un.any (u:Un fs ex H H1 h h1) {b:Addr} {ob:Obj} (q:h.get? b = some ob) (n:H b = none) (hx:b ∉ ex):∃ sl,h1.get? b = some { ob with slots:=sl }:=by
  by_cases hb:b ∈ fs
  · exact u.slot b ob q n hb hx
  · exact ⟨ob.slots,u.keep b ob q n hb hx⟩
theorem Un.kept (k:∀ b u,h.get? b = some u→h'.get? b = some u):Un fs ex H H h h':=
  ⟨fun b ob q _ _ _=>k b ob q,fun b ob q _ _ _=>⟨ob.slots,k b ob q⟩,fun _ _ _ n _=>n,fun b ob q _=>⟨ob,k b ob q⟩,fun _ _ q=>q,fun _ _ _ q=>q,fun _ ps q=>⟨#[],by rw [q]; simp⟩⟩
theorem Un.refl:Un fs ex H H h h:=Un.kept fun _ _ q=>q
theorem Un.laid (k:∀ b u,h.get? b = some u→h'.get? b = some u) (hp:h.objs.size ≤ a) (hn:H a = none):Un fs ex H (upd H a o) h h' where
  keep:=fun b u q _ _ _=>k b u q
  slot:=fun b u q _ _ _=>⟨u.slots,k b u q⟩
  free:=fun b u q n _=>by rw [upd_ne (Nat.ne_of_lt (Nat.lt_of_lt_of_le (Heap.lt_size q) hp))]; exact n
  there:=fun b u q _=>⟨u,k b u q⟩
  tups:=fun b xs q=>by rw [upd_ne (ne_of_none q hn)]; exact q
  frzs:=fun b u xs q=>by rw [upd_ne (ne_of_none q hn)]; exact q
  tbls:=fun b ps q=>⟨#[],by rw [upd_ne (ne_of_none q hn),q]; simp⟩
theorem Un.write (mu:Mut (H x)) (he:e = x ∨ H e = some (.own x)) (k:∀ b u,b ≠ e→h.get? b = some u→h'.get? b = some u) (heo:∃ u,h'.get? e = some u):Un fs ex H (upd H x o) h h':=by
  have hx:∀ b,H b = none→b ≠ x:=fun b n z=>by subst z; rw [n] at mu; exact mu
  have hb:∀ b,H b = none→b ≠ e:=fun b n z=>by
    subst z
    rcases he with r | r
    · exact hx b n r
    · rw [n] at r; cases r
  have hm:∀ b u,H b = some u→¬ Mut (some u)→b ≠ x:=fun b u q nm z=>by subst z; rw [q] at mu; exact nm mu
  refine ⟨fun b u q n _ _=>k b u (hb b n) q,fun b u q n _ _=>⟨u.slots,k b u (hb b n) q⟩,fun b u q n _=>by rw [upd_ne (hx b n)]; exact n,fun b u q _=>?_,
    fun b xs q=>by rw [upd_ne (hm b _ q fun z=>z)]; exact q,fun b u xs q=>by rw [upd_ne (hm b _ q fun z=>z)]; exact q,fun b ps q=>⟨#[],by rw [upd_ne (hm b _ q fun z=>z),q]; simp⟩⟩
  by_cases hbe:b = e
  · subst hbe; exact heo
  · exact ⟨u,k b u hbe q⟩
end
def trk (h:Heap) (H:Hp):List Addr:=(List.range h.objs.size).filter fun a=>(H a).isSome
def hidT (h:Heap) (H:Hp):Heap:=PySem.W.hideAll h (trk h H)
theorem hidT_size (h:Heap) (H:Hp):(hidT h H).objs.size = h.objs.size:=PySem.W.hideAll_size _ _
theorem hidT_get {h:Heap} {H:Hp} {b:Addr} {o:Obj} (e:h.get? b = some o) (n:H b = none):(hidT h H).get? b = some o:=
  PySem.W.hideAll_get _ e fun hm=>by
    have q:(H b).isSome = true:=(List.mem_filter.mp hm).2
    rw [n] at q; simp at q
theorem of_hidT {h:Heap} {H:Hp} {b:Addr} {o:Obj} (e:(hidT h H).get? b = some o):h.get? b = some o∧H b = none:=by
  have e':h.get? b = some o:=PySem.W.of_hideAll (trk h H) e
  refine ⟨e',?_⟩
  cases q:H b with
  | none=>rfl
  | some x=>
    have hm:b ∈ trk h H:=List.mem_filter.mpr ⟨List.mem_range.mpr (Heap.lt_size e'),by simp [q]⟩
    have z:(hidT h H).get? b = none:=PySem.W.hideAll_none (trk h H) hm
    rw [z] at e; cases e
structure Mod (K:PySem.W.Frag) (mg:Str→Option Value) (base:Heap):Prop where
  kin:K.In base
  glob:base.Ns mainGlobals mg
  blt:∃ mb,base.Ns builtinsNs mb∧∀ x:Str,x ≠ "__name__"→mb x = bootBuiltins x
  nolimit:base.NoLimit
structure Cx where
  prog:Program
  w:World
  K:PySem.W.Frag
  mg:Str→Option Value
  base:Heap
  A:Around
  N:List Str
  s₀:Shared
  H₀:Hp
  env:Env
  outer:List Env
  stack:List Env
  ex:List Addr
  fn:Str→Bool
  calm:Bool
  pn:List (Addr × Obj)
  xe:Value→Shared→Prop
def frs (l:List Env):List Addr:=l.filterMap (·.frame)
abbrev Cx.fs (X:Cx):List Addr:=frs X.outer
def Vis (sc:Scope) (x:Str):Prop:=sc.names.lookup x = some .local ∨ sc.names.lookup x = some .cell ∨ sc.names.lookup x = some .free
def Loc (sc:Scope) (x:Str):Prop:=sc.names.lookup x = some .local ∨ sc.names.lookup x = some .cell
def Look (env:Env) (h:Heap) (m:Str→Option Value) (x:Str) (u:Value):Prop:=
  (env.kindOf x = some .local∧m x = some u) ∨ ((env.kindOf x = some .cell ∨ env.kindOf x = some .free)∧∃ c,env.cells.lookup x = some c∧h.IsCell c (some u))
structure Cx.Ok (X:Cx):Prop where
  mod:Mod X.K X.mg X.base
  kind:X.env.scope.kind = .function
  glob:X.env.globals = mainGlobals
  blt:X.env.builtins = builtinsNs
  above:X.s₀.heap.objs.size ≤ X.env.locals
  inj:∀ x y c,X.env.cells.lookup x = some c→X.env.cells.lookup y = some c→x = y
  has:∀ x,(X.env.kindOf x = some .cell ∨ X.env.kindOf x = some .free)→∃ c,X.env.cells.lookup x = some c
  cab:∀ x c,X.fn x = true→X.env.cells.lookup x = some c→X.s₀.heap.objs.size ≤ c
  hd:X.calm = true→X.A.handled = none
  frames:X.A.frames = some X.stack
  stk:X.stack = X.outer ∨ (X.stack = X.env :: X.outer∧X.env.frame = some X.env.locals)
  exf:∀ b ∈ X.ex,b ≠ X.env.locals∧∀ x c,X.env.cells.lookup x = some c→c ≠ b
  bs:∀ b o,X.base.get? b = some o→X.s₀.heap.get? b = some o∧X.H₀ b = none
  bsz:X.base.objs.size ≤ X.s₀.heap.objs.size
  noex:∀ b o,X.base.get? b = some o→b ∉ X.ex
  exfs:∀ b ∈ X.ex,b ∉ X.fs
  funs:X.s₀.heap.FunFrames X.base X.outer
  frf:∀ b ∈ X.fs,X.H₀ b = none
structure Inv (X:Cx) (pins:List (Addr × Obj)) (σ:List (Option V)) (H:Hp) (s:Shared):Prop where
  ok:X.Ok
  os:s.os = X.s₀.os
  bare:AllBare s.gens
  base:Un X.fs X.ex X.H₀ H X.s₀.heap s.heap
  loc:∃ m,s.heap.Ns X.env.locals m∧∀ (i:Nat) (x:Str) (v:V),X.N[i]? = some x→σ[i]? = some (some v)→Vis X.env.scope x→∃ u,RelV v u∧Look X.env s.heap m x u
  cell:∀ x c,X.env.cells.lookup x = some c→∃ v,s.heap.IsCell c v
  free:H X.env.locals = none
  freeC:∀ x c,X.env.cells.lookup x = some c→H c = none
  pin:∀ p ∈ X.pn ++ pins,s.heap.get? p.1 = some p.2∧H p.1 = none∧p.1 ≠ X.env.locals∧p.1 ∉ X.fs∧∀ v,p.2.data ≠ .cell v
  hok:HOk X.prog X.w H s.heap
  len:σ.length = X.N.length
section
variable {X:Cx} {pins:List (Addr × Obj)} {σ:List (Option V)} {H H':Hp} {s:Shared} {h':Heap}
theorem Cx.Ok.nofr (ok:X.Ok) {b:Addr} {o:Obj} (e:X.base.get? b = some o):b ∉ X.fs:=fun hb=>by
  have:=(ok.funs.mem hb).1
  rw [e] at this; cases this
theorem Inv.bs (I:Inv X pins σ H s):∀ b o,X.base.get? b = some o→s.heap.get? b = some o∧H b = none:=fun b o e=>
  ⟨I.base.keep b o (I.ok.bs b o e).1 (I.ok.bs b o e).2 (I.ok.nofr e) (I.ok.noex b o e),I.base.free b o (I.ok.bs b o e).1 (I.ok.bs b o e).2 (I.ok.noex b o e)⟩
theorem Inv.bk (I:Inv X pins σ H s):∀ b o,X.base.get? b = some o→s.heap.get? b = some o:=fun b o e=>(I.bs b o e).1
theorem Inv.mod (I:Inv X pins σ H s):Mod X.K X.mg X.base:=I.ok.mod
theorem Inv.kIn (I:Inv X pins σ H s):X.K.In s.heap:=I.ok.mod.kin.keeps I.bk
theorem Inv.lt (I:Inv X pins σ H s):X.env.locals < s.heap.objs.size:=let ⟨_,hn,_⟩:=I.loc; hn.lt
theorem Inv.sz (I:Inv X pins σ H s):X.s₀.heap.objs.size ≤ s.heap.objs.size:=Nat.le_trans I.ok.above (Nat.le_of_lt I.lt)
theorem Inv.nofs (I:Inv X pins σ H s) {a:Addr} (h:s.heap.objs.size ≤ a):a ∉ X.fs:=fun hb=>by
  obtain ⟨_,o,ho,_⟩:=I.ok.funs.mem hb
  exact absurd (Nat.lt_of_lt_of_le (Heap.lt_size ho) (Nat.le_trans I.sz h)) (Nat.lt_irrefl _)
theorem Inv.cne (I:Inv X pins σ H s):∀ x c,X.env.cells.lookup x = some c→c ≠ X.env.locals:=fun x c e z=>by
  obtain ⟨v,o,ho,hd⟩:=I.cell x c e
  obtain ⟨m,⟨o',es,ep,ho',hd',_⟩,_⟩:=I.loc
  rw [z,ho'] at ho; cases ho; rw [hd'] at hd; cases hd
theorem Inv.funs (I:Inv X pins σ H s):s.heap.FunFrames X.base X.outer:=by
  have all:∀ (l:List Env),(∀ b ∈ frs l,b ∈ X.fs)→X.s₀.heap.FunFrames X.base l→s.heap.FunFrames X.base l:=by
    intro l
    induction l with
    | nil=>intro _ _; trivial
    | cons env r ih=>
      intro hs hl
      obtain ⟨hk,⟨L,o,hf,hn,ho,hd⟩,hr⟩:=hl
      have hL:L ∈ X.fs:=hs L (by unfold frs; rw [List.filterMap_cons,hf]; exact List.mem_cons_self)
      obtain ⟨sl,e⟩:=I.base.slot L o ho (I.ok.frf L hL) hL fun z=>I.ok.exfs L z hL
      exact ⟨hk,⟨L,_,hf,hn,e,hd⟩,ih (fun b hb=>hs b (by unfold frs; rw [List.filterMap_cons,hf]; exact List.mem_cons_of_mem _ hb)) hr⟩
  exact all X.outer (fun _ hb=>hb) I.ok.funs
theorem Inv.stack (I:Inv X pins σ H s):s.heap.FunFrames X.base X.stack:=by
  rcases I.ok.stk with e | ⟨e,hf⟩
  · rw [e]; exact I.funs
  · rw [e]
    obtain ⟨m,hn,_⟩:=I.loc
    refine .cons (by rw [I.ok.kind]; decide) hf hn ?_ I.funs
    exact Heap.get?_none_of_le (Nat.le_trans I.ok.bsz I.ok.above)
theorem Inv.stkSub (I:Inv X pins σ H s):∀ b ∈ frs X.stack,b ∈ X.env.locals :: X.fs:=fun b hb=>by
  rcases I.ok.stk with e | ⟨e,hf⟩
  · rw [e] at hb; exact List.mem_cons_of_mem _ hb
  · rw [e] at hb
    unfold frs at hb
    rw [List.filterMap_cons,hf] at hb
    exact hb
theorem Inv.stkFree (I:Inv X pins σ H s):∀ b ∈ frs X.stack,H b = none:=fun b hb=>by
  rcases List.mem_cons.mp (I.stkSub b hb) with e | hb
  · rw [e]; exact I.free
  · obtain ⟨_,o,ho,_⟩:=I.ok.funs.mem hb
    exact I.base.free b o ho (I.ok.frf b hb) fun z=>I.ok.exfs b z hb
theorem Inv.step {g':Array GenState} {t':Nat} {d':Drawn} {ch:List Addr} (I:Inv X pins σ H s)
    (hch:∀ b ∈ ch,(b ∈ X.ex ∨ X.s₀.heap.objs.size ≤ b)∧b ≠ X.env.locals∧(∀ x c,X.env.cells.lookup x = some c→c ≠ b)∧∀ p ∈ X.pn ++ pins,p.1 ≠ b)
    (keep:∀ b o,b ≠ X.env.locals→b ∉ X.fs→b ∉ ch→s.heap.get? b = some o→H b = none→h'.get? b = some o)
    (slot:∀ b o,b ≠ X.env.locals→b ∈ X.fs→b ∉ ch→s.heap.get? b = some o→H b = none→∃ sl,h'.get? b = some { o with slots:=sl }) (free:∀ b o,b ∉ ch→s.heap.get? b = some o→H b = none→H' b = none)
    (there:∀ b o,b ∉ ch→s.heap.get? b = some o→∃ o',h'.get? b = some o')
    (tups:∀ b xs,H b = some (.tup xs)→H' b = some (.tup xs)) (frzs:∀ b o u,H b = some (.frz o u)→H' b = some (.frz o u)) (tbls:∀ b ps,H b = some (.tbl ps)→∃ more,H' b = some (.tbl (ps ++ more)))
    (ns:∀ m,s.heap.Ns X.env.locals m→h'.Ns X.env.locals m) (hok:HOk X.prog X.w H' h') (hg:AllBare g') :
    Inv X pins σ H' { s with heap:=h',gens:=g',drawn:=d',toks:=t' }:=by
  have neL:∀ b o,X.s₀.heap.get? b = some o→b ≠ X.env.locals:=fun b o e=>Nat.ne_of_lt (Nat.lt_of_lt_of_le (Heap.lt_size e) I.ok.above)
  have neC:∀ b o,X.s₀.heap.get? b = some o→b ∉ X.ex→b ∉ ch:=fun b o e hx hb=>by
    rcases (hch b hb).1 with z | z
    · exact hx z
    · exact absurd (Nat.lt_of_lt_of_le (Heap.lt_size e) z) (Nat.lt_irrefl _)
  have cellK:∀ x c,X.env.cells.lookup x = some c→∀ v,s.heap.IsCell c v→h'.IsCell c v:=fun x c e v ⟨o,ho,hd⟩=>by
    have nch:c ∉ ch:=fun z=>(hch c z).2.2.1 x c e rfl
    by_cases hc:c ∈ X.fs
    · obtain ⟨sl,q⟩:=slot c o (I.cne x c e) hc nch ho (I.freeC x c e)
      exact ⟨_,q,hd⟩
    · exact ⟨o,keep c o (I.cne x c e) hc nch ho (I.freeC x c e),hd⟩
  refine ⟨I.ok,I.os,hg,⟨fun b o e n hb hx=>?_,fun b o e n hb hx=>?_,fun b o e n hx=>?_,fun b o e hx=>?_,fun b xs e=>tups b xs (I.base.tups b xs e),fun b o xs e=>frzs b o xs (I.base.frzs b o xs e),fun b ps e=>?_⟩,?_,fun x c e=>?_,?_,fun x c e=>?_,fun p hp=>?_,hok,I.len⟩
  · exact keep b o (neL b o e) hb (neC b o e hx) (I.base.keep b o e n hb hx) (I.base.free b o e n hx)
  · obtain ⟨sl,e1⟩:=I.base.slot b o e n hb hx
    obtain ⟨sl',e2⟩:=slot b _ (neL b o e) hb (neC b o e hx) e1 (I.base.free b o e n hx)
    exact ⟨sl',e2⟩
  · obtain ⟨o',e1⟩:=I.base.there b o e hx
    exact free b o' (neC b o e hx) e1 (I.base.free b o e n hx)
  · obtain ⟨o',e1⟩:=I.base.there b o e hx
    exact there b o' (neC b o e hx) e1
  · obtain ⟨m1,e1⟩:=I.base.tbls b ps e
    obtain ⟨m2,e2⟩:=tbls b _ e1
    exact ⟨m1 ++ m2,by rw [e2,Array.append_assoc]⟩
  · obtain ⟨m,hn,hl⟩:=I.loc
    refine ⟨m,ns m hn,fun i x v e1 e2 e3=>?_⟩
    obtain ⟨u,r,l⟩:=hl i x v e1 e2 e3
    refine ⟨u,r,?_⟩
    rcases l with l | ⟨k,c,e,z⟩
    · exact .inl l
    · exact .inr ⟨k,c,e,cellK x c e _ z⟩
  · obtain ⟨v,z⟩:=I.cell x c e
    exact ⟨v,cellK x c e v z⟩
  · obtain ⟨m,⟨o,_,_,ho,_⟩,_⟩:=I.loc
    exact free _ o (fun z=>(hch _ z).2.1 rfl) ho I.free
  · obtain ⟨v,o,ho,hd⟩:=I.cell x c e
    exact free c o (fun z=>(hch c z).2.2.1 x c e rfl) ho (I.freeC x c e)
  · obtain ⟨e,n,ne,nf,d⟩:=I.pin p hp
    have nch:p.1 ∉ ch:=fun z=>(hch p.1 z).2.2.2 p hp rfl
    exact ⟨keep p.1 p.2 ne nf nch e n,free p.1 p.2 nch e n,ne,nf,d⟩
theorem Inv.un {t':Nat} (I:Inv X pins σ H s) (u:Un X.fs [] H H' s.heap h') (hok:HOk X.prog X.w H' h'):Inv X pins σ H' { s with heap:=h',toks:=t' }:=by
  obtain ⟨m,⟨o,es,ep,ho,r⟩,_⟩:=id I.loc
  obtain ⟨sl,hL⟩:=u.any ho I.free (by simp)
  exact I.step (g':=s.gens) (d':=s.drawn) (ch:=[]) (fun _ z=>nomatch z) (fun b o _ hb _ e n=>u.keep b o e n hb (by simp)) (fun b o _ hb _ e n=>u.slot b o e n hb (by simp)) (fun b o _ e n=>u.free b o e n (by simp)) (fun b o _ e=>u.there b o e (by simp)) u.tups u.frzs u.tbls (fun m' hm=>by
    obtain ⟨o',es',ep',ho',r'⟩:=hm
    rw [ho] at ho'; cases ho'
    exact ⟨_,es',ep',hL,r'⟩) hok I.bare
theorem Inv.call {g':Array GenState} {t':Nat} {d':Drawn} {ch:List Addr} (I:Inv X pins σ H s) (u:Un (frs X.stack) ch H H' s.heap h') (hok:HOk X.prog X.w H' h') (hg:AllBare g')
    (hch:∀ b ∈ ch,(b ∈ X.ex ∨ X.s₀.heap.objs.size ≤ b)∧b ≠ X.env.locals∧(∀ x c,X.env.cells.lookup x = some c→c ≠ b)∧∀ p ∈ X.pn ++ pins,p.1 ≠ b) :
    Inv X pins σ H' { s with heap:=h',gens:=g',drawn:=d',toks:=t' }:=by
  obtain ⟨m,⟨o,es,ep,ho,r⟩,_⟩:=id I.loc
  obtain ⟨sl,hL⟩:=u.any ho I.free fun z=>(hch _ z).2.1 rfl
  exact I.step (ch:=ch) hch (fun b o hL hb hc e n=>u.keep b o e n (fun z=>(List.mem_cons.mp (I.stkSub b z)).elim hL hb) hc) (fun b o _ _ hc e n=>u.any e n hc) (fun b o hc e n=>u.free b o e n hc) (fun b o hc e=>u.there b o e hc) u.tups u.frzs u.tbls (fun m' hm=>by
    obtain ⟨o',es',ep',ho',r'⟩:=hm
    rw [ho] at ho'; cases ho'
    exact ⟨_,es',ep',hL,r'⟩) hok hg
theorem Inv.turned {t':Nat} {it:Addr} (I:Inv X pins σ H s) (k:∀ b o,b ≠ it→s.heap.get? b = some o→h'.get? b = some o) (hn:H it = none) (hL:it ≠ X.env.locals)
    (h1:it ∈ X.ex ∨ X.s₀.heap.objs.size ≤ it) (h2:∀ x c,X.env.cells.lookup x = some c→c ≠ it) (h3:∀ p ∈ X.pn ++ pins,p.1 ≠ it):Inv X pins σ H { s with heap:=h',toks:=t' }:=by
  have nit:∀ b u,H b = some u→b ≠ it:=fun b u e z=>by rw [z,hn] at e; cases e
  refine I.step (g':=s.gens) (d':=s.drawn) (ch:=[it]) (fun b hb=>?_) (fun b o _ _ hc e _=>k b o (fun z=>hc (by simp [z])) e) (fun b o _ _ hc e _=>⟨o.slots,k b o (fun z=>hc (by simp [z])) e⟩) (fun _ _ _ _ n=>n)
    (fun b o hc e=>⟨o,k b o (fun z=>hc (by simp [z])) e⟩) (fun _ _ e=>e) (fun _ _ _ e=>e) (fun b ps e=>⟨#[],by rw [e]; simp⟩) (fun m hm=>?_) (fun b u e=>?_) I.bare
  · have e:b = it:=by simpa using hb
    subst e
    exact ⟨h1,hL,h2,h3⟩
  · obtain ⟨o,es,ep,ho,r⟩:=hm
    exact ⟨o,es,ep,k _ o (Ne.symm hL) ho,r⟩
  · refine (I.hok b u e).stay (fun c v hc q=>k c v ?_ q) (fun _ q=>q) fun _ _ q=>q
    rcases hc with z | z
    · rw [z]; exact nit b u e
    · exact nit c _ z
theorem Inv.tok (I:Inv X pins σ H s) (t:Nat):Inv X pins σ H { s with toks:=t }:=I.un (h':=s.heap) (t':=t) Un.refl I.hok
theorem Inv.kept {t':Nat} (I:Inv X pins σ H s) (k:∀ b u,s.heap.get? b = some u→h'.get? b = some u):Inv X pins σ H { s with heap:=h',toks:=t' }:=I.un (Un.kept k) (I.hok.kept k)
theorem Inv.laid {a:Addr} {o:HO} {t':Nat} (I:Inv X pins σ H s) (k:∀ b u,s.heap.get? b = some u→h'.get? b = some u) (hp:s.heap.objs.size ≤ a) (new:ObjOk X.prog X.w (upd H a o) h' a o) :
    Inv X pins σ (upd H a o) { s with heap:=h',toks:=t' }:=I.un (Un.laid k hp (I.hok.fresh hp)) (I.hok.laid k hp new)
theorem Inv.write {x e:Addr} {o:HO} {t':Nat} (I:Inv X pins σ H s) (mu:Mut (H x)) (he:e = x ∨ H e = some (.own x)) (k:∀ b u,b ≠ e→s.heap.get? b = some u→h'.get? b = some u) (heo:∃ u,h'.get? e = some u)
    (new:ObjOk X.prog X.w (upd H x o) h' x o):Inv X pins σ (upd H x o) { s with heap:=h',toks:=t' }:=I.un (Un.write mu he k heo) (I.hok.write mu he k heo new)
theorem Inv.weak {σ':List (Option V)} (I:Inv X pins σ H s) (hl:σ'.length = σ.length) (w:∀ (i:Nat) v,σ'[i]? = some (some v)→σ[i]? = some (some v)):Inv X pins σ' H s:=
  ⟨I.ok,I.os,I.bare,I.base,let ⟨m,hn,hl'⟩:=I.loc; ⟨m,hn,fun i x v e1 e2 e3=>hl' i x v e1 (w i v e2) e3⟩,I.cell,I.free,I.freeC,I.pin,I.hok,hl.trans I.len⟩
theorem Inv.pins_of {pins':List (Addr × Obj)} (I:Inv X pins σ H s) (h:∀ p ∈ pins',s.heap.get? p.1 = some p.2∧H p.1 = none∧p.1 ≠ X.env.locals∧p.1 ∉ X.fs∧∀ v,p.2.data ≠ .cell v):Inv X pins' σ H s:=
  ⟨I.ok,I.os,I.bare,I.base,I.loc,I.cell,I.free,I.freeC,fun p hp=>(List.mem_append.mp hp).elim (fun z=>I.pin p (List.mem_append_left _ z)) (h p),I.hok,I.len⟩
theorem nodup_ix {N:List Str} (hN:N.Nodup) {i j:Nat} {x:Str} (a:N[i]? = some x) (b:N[j]? = some x):i = j:=by
  obtain ⟨h1,e1⟩:=List.getElem?_eq_some_iff.mp a
  obtain ⟨h2,e2⟩:=List.getElem?_eq_some_iff.mp b
  exact (List.getElem_inj hN).mp (e1.trans e2.symm)
theorem store_ok2 {M:Model} {A:Around} {E:Value→Shared→Prop} {i:Nat} {x:Str} {v:V} {u:Value} {Q:Unit→Shared→Prop} (I:Inv X pins σ H s) (hN:X.N.Nodup) (hi:X.N[i]? = some x) (hx:Loc X.env.scope x) (r:RelV v u)
    (h:∀ s',Inv X pins (σ.set i (some v)) H s'→(∃ a,Heap.SameBut a s.heap s'.heap∧(a = X.env.locals ∨ X.env.cells.lookup x = some a))→Q () s') (hf:X.fn x = true ∨ X.env.scope.names.lookup x = some .local:=by first | exact .inl rfl | exact .inr rfl | assumption):wpAny M A (storeName X.env x u) Q E s:=by
  obtain ⟨m,hn,hl⟩:=id I.loc
  have hcls:(X.env.scope.kind == .class || (X.env.scope.kind == .module && X.env.locals != X.env.globals)) = false:=by rw [I.ok.kind]; rfl
  have hiσ:i < σ.length:=by rw [I.len]; exact (List.getElem?_eq_some_iff.mp hi).1
  have cne:=I.cne
  have tracked:∀ {a:Addr} {h':Heap},(∃ o,s.heap.get? a = some o∧H a = none)→Heap.SameBut a s.heap h'→HOk X.prog X.w H h':=fun {a h'} ha hs b ob e=>by
    obtain ⟨_,_,hfree⟩:=ha
    refine (I.hok b ob e).stay (fun c w' hc q=>(hs.2 c ?_).trans q) (fun _ q=>q) fun _ _ q=>q
    rintro rfl
    rcases hc with rfl | hc
    · rw [hfree] at e; cases e
    · rw [hfree] at hc; cases hc
  rcases hx with hk | hk
  · refine wpAny_storeName_local hk hn (fun h' hn' hs=>?_) hcls
    obtain ⟨oL,_,_,hoL,_⟩:=id hn
    refine h _ ⟨I.ok,I.os,I.bare,⟨fun b o e n hb hx=>?_,fun b o e n hb hx=>?_,I.base.free,fun b o e hx=>?_,I.base.tups,I.base.frzs,I.base.tbls⟩,⟨_,hn',fun j y v' e1 e2 e3=>?_⟩,fun y c e=>?_,I.free,I.freeC,fun p hp=>?_,tracked ⟨oL,hoL,I.free⟩ hs,by simpa using I.len⟩ ⟨_,hs,.inl rfl⟩
    · exact (hs.2 b (Nat.ne_of_lt (Nat.lt_of_lt_of_le (Heap.lt_size e) I.ok.above))).trans (I.base.keep b o e n hb hx)
    · obtain ⟨sl,e1⟩:=I.base.slot b o e n hb hx
      exact ⟨sl,(hs.2 b (Nat.ne_of_lt (Nat.lt_of_lt_of_le (Heap.lt_size e) I.ok.above))).trans e1⟩
    · obtain ⟨o',e1⟩:=I.base.there b o e hx
      exact ⟨o',(hs.2 b (Nat.ne_of_lt (Nat.lt_of_lt_of_le (Heap.lt_size e) I.ok.above))).trans e1⟩
    · by_cases hj:j = i
      · subst hj
        rw [hi] at e1; cases e1
        rw [List.getElem?_set_self hiσ] at e2
        cases e2
        exact ⟨u,r,.inl ⟨hk,by simp⟩⟩
      · rw [List.getElem?_set_ne (Ne.symm hj)] at e2
        obtain ⟨u',r',q⟩:=hl j y v' e1 e2 e3
        refine ⟨u',r',?_⟩
        rcases q with ⟨k,e⟩ | ⟨k,c,e,z⟩
        · refine .inl ⟨k,?_⟩
          have:y ≠ x:=fun e=>hj (nodup_ix hN e1 (e ▸ hi))
          simp [this,e]
        · exact .inr ⟨k,c,e,z.sameBut hs (cne y c e)⟩
    · obtain ⟨w',z⟩:=I.cell y c e
      exact ⟨w',z.sameBut hs (cne y c e)⟩
    · obtain ⟨e,n,ne,nf,d⟩:=I.pin p hp
      exact ⟨(hs.2 p.1 ne).trans e,n,ne,nf,d⟩
  · have hfn:X.fn x = true:=by
      rcases hf with z | z
      · exact z
      · rw [z] at hk; cases hk
    obtain ⟨c,hc⟩:=I.ok.has x (.inl hk)
    obtain ⟨w',z⟩:=I.cell x c hc
    refine wpAny_storeName_cell I.ok.kind hk hc z (fun h' hc' hs=>?_)
    obtain ⟨oc,hoc,hocd⟩:=id z
    refine h { s with heap:=h' } ⟨I.ok,I.os,I.bare,⟨fun b o e n hb hx=>?_,fun b o e n hb hx=>?_,I.base.free,fun b o e hx=>?_,I.base.tups,I.base.frzs,I.base.tbls⟩,⟨m,hn.sameBut hs (Ne.symm (cne x c hc)),fun j y v' e1 e2 e3=>?_⟩,fun y c' e=>?_,I.free,I.freeC,fun p hp=>?_,tracked ⟨oc,hoc,I.freeC x c hc⟩ hs,by simpa using I.len⟩ ⟨c,hs,.inr hc⟩
    · exact (hs.2 b (Nat.ne_of_lt (Nat.lt_of_lt_of_le (Heap.lt_size e) (I.ok.cab x c hfn hc)))).trans (I.base.keep b o e n hb hx)
    · obtain ⟨sl,e1⟩:=I.base.slot b o e n hb hx
      exact ⟨sl,(hs.2 b (Nat.ne_of_lt (Nat.lt_of_lt_of_le (Heap.lt_size e) (I.ok.cab x c hfn hc)))).trans e1⟩
    · obtain ⟨o',e1⟩:=I.base.there b o e hx
      exact ⟨o',(hs.2 b (Nat.ne_of_lt (Nat.lt_of_lt_of_le (Heap.lt_size e) (I.ok.cab x c hfn hc)))).trans e1⟩
    · by_cases hj:j = i
      · subst hj
        rw [hi] at e1; cases e1
        rw [List.getElem?_set_self hiσ] at e2
        cases e2
        exact ⟨u,r,.inr ⟨.inl hk,c,hc,hc'⟩⟩
      · rw [List.getElem?_set_ne (Ne.symm hj)] at e2
        obtain ⟨u',r',q⟩:=hl j y v' e1 e2 e3
        refine ⟨u',r',?_⟩
        rcases q with q | ⟨k,c',e,z'⟩
        · exact .inl q
        · refine .inr ⟨k,c',e,z'.sameBut hs ?_⟩
          rintro rfl
          exact hj (nodup_ix hN e1 (I.ok.inj _ _ _ e hc ▸ hi))
    · by_cases hcc:c' = c
      · subst hcc; exact ⟨_,hc'⟩
      · obtain ⟨w2,z2⟩:=I.cell y c' e
        exact ⟨w2,z2.sameBut hs hcc⟩
    · obtain ⟨e,n,ne,nf,d⟩:=I.pin p hp
      refine ⟨(hs.2 p.1 ?_).trans e,n,ne,nf,d⟩
      intro q
      rw [q,hoc] at e
      have q':oc = p.2:=Option.some.inj e
      exact d w' (by rw [← q']; exact hocd)
theorem store_ok {M:Model} {A:Around} {E:Value→Shared→Prop} {i:Nat} {x:Str} {v:V} {u:Value} {Q:Unit→Shared→Prop} (I:Inv X pins σ H s) (hN:X.N.Nodup) (hi:X.N[i]? = some x) (hx:Loc X.env.scope x) (r:RelV v u)
    (h:∀ s',Inv X pins (σ.set i (some v)) H s'→Q () s') (hf:X.fn x = true ∨ X.env.scope.names.lookup x = some .local:=by first | exact .inl rfl | exact .inr rfl | assumption):wpAny M A (storeName X.env x u) Q E s:=
  store_ok2 I hN hi hx r (fun s' I' _=>h s' I') hf
theorem Inv.call' {s':Shared} {ch:List Addr} (I:Inv X pins σ H s) (ho:s'.os = s.os) (u:Un (frs X.stack) ch H H' s.heap s'.heap) (hok:HOk X.prog X.w H' s'.heap) (hg:AllBare s'.gens)
    (hch:∀ b ∈ ch,(b ∈ X.ex ∨ X.s₀.heap.objs.size ≤ b)∧b ≠ X.env.locals∧(∀ x c,X.env.cells.lookup x = some c→c ≠ b)∧∀ p ∈ X.pn ++ pins,p.1 ≠ b):Inv X pins σ H' s':=by
  obtain ⟨h',g',d',t',o'⟩:=s'
  have e:o' = s.os:=ho
  subst e
  exact I.call (g':=g') (t':=t') (d':=d') u hok hg hch
end
abbrev XK:=Value→Option Addr→Hp→Prop
abbrev St:=List (Option V)
abbrev VK:=V→Hp→Prop
abbrev TE:=St→Hp→VK→Prop
abbrev TT:=St→Hp→(Bool→Hp→Prop)→Prop
abbrev TA:=St→Hp→(List V→Hp→Prop)→Prop
structure Ends where
  nx:St→Hp→Prop
  rt:VK
  bk:St→Hp→Prop:=fun _ _=>False
  ct:St→Hp→Prop:=fun _ _=>False
abbrev TS:=Ends→St→Hp→Prop
def EP (X:Cx) (pins:List (Addr × Obj)) (σ:St) (Q:VK) (u:Value) (s':Shared):Prop:=∃ v H',Inv X pins σ H' s'∧RelV v u∧Q v H'
def TP (X:Cx) (pins:List (Addr × Obj)) (σ:St) (Q:Bool→Hp→Prop) (b:Bool) (s':Shared):Prop:=∃ H',Inv X pins σ H' s'∧Q b H'
def AP (X:Cx) (pins:List (Addr × Obj)) (σ:St) (Q:List V→Hp→Prop) (us:List Value) (s':Shared):Prop:=∃ vs H',Inv X pins σ H' s'∧Vals vs us∧Q vs H'
def SP (X:Cx) (pins:List (Addr × Obj)) (D:Ends) (f:Flow) (s':Shared):Prop:=
  match f with
  | .next=>∃ σ' H',Inv X pins σ' H' s'∧D.nx σ' H'
  | .brk=>∃ σ' H',Inv X pins σ' H' s'∧D.bk σ' H'
  | .cont=>∃ σ' H',Inv X pins σ' H' s'∧D.ct σ' H'
  | .ret u=>∃ v σ' H',Inv X pins σ' H' s'∧RelV v u∧D.rt v H'
def PE (X:Cx) (e:Expr) (t:TE):Prop:=
  ∀ (pins:List (Addr × Obj)) (s:Shared) (σ:St) (H:Hp) (Q:VK),Inv X pins σ H s→t σ H Q→wpAny (model X.prog X.w) X.A (eval e X.env) (EP X pins σ Q) X.xe s
def PT (X:Cx) (e:Expr) (t:TT):Prop:=
  ∀ (pins:List (Addr × Obj)) (s:Shared) (σ:St) (H:Hp) (Q:Bool→Hp→Prop),Inv X pins σ H s→t σ H Q→wpAny (model X.prog X.w) X.A (isTrue e X.env (eval e X.env)) (TP X pins σ Q) X.xe s
def PW (X:Cx) (e:Expr) (t:TT):Prop:=
  ∀ (whole:Sem Value) (pins:List (Addr × Obj)) (s:Shared) (σ:St) (H:Hp) (Q:Bool→Hp→Prop),Inv X pins σ H s→t σ H Q→wpAny (model X.prog X.w) X.A (isTrue e X.env whole) (TP X pins σ Q) X.xe s
theorem PW.pt {X:Cx} {e:Expr} {t:TT} (h:PW X e t):PT X e t:=h _
def PA (X:Cx) (es:List Expr) (t:TA):Prop:=
  ∀ (pos:Pos) (pins:List (Addr × Obj)) (s:Shared) (σ:St) (H:Hp) (Q:List V→Hp→Prop),Inv X pins σ H s→t σ H Q→wpAny (model X.prog X.w) X.A (spliced (backTo pos (starEach es X.env))) (AP X pins σ Q) X.xe s
def PS (X:Cx) (st:Stmt) (t:TS):Prop:=
  ∀ (pins:List (Addr × Obj)) (s:Shared) (σ:St) (H:Hp) (D:Ends),Inv X pins σ H s→t D σ H→wpAny (model X.prog X.w) X.A (exec st X.env) (SP X pins D) X.xe s
def PSs (X:Cx) (st:List Stmt) (t:TS):Prop:=
  ∀ (pins:List (Addr × Obj)) (s:Shared) (σ:St) (H:Hp) (D:Ends),Inv X pins σ H s→t D σ H→wpAny (model X.prog X.w) X.A (execs st X.env) (SP X pins D) X.xe s
theorem thn {α:Type} {t:Sem α} {Q Q':α→Shared→Prop} {M:Model} {A:Around} {E:Value→Shared→Prop} {s:Shared} (h:wpAny M A t Q E s) (hQ:∀ a s,Q a s→Q' a s):wpAny M A t Q' E s:=wpAny_mono h hQ fun _ _ x=>x
section
variable {X:Cx}
def tVar (i:Nat):TE:=fun σ H Q=>∃ v,σ[i]? = some (some v)∧Q v H
def tC (v:V):TE:=fun _ H Q=>Q v H
theorem pe_var {i : Nat} {x : Str} {pos : Pos} (hN : X.N[i]? = some x) (hv : Vis X.env.scope x) (hd : (x == ("__debug__" : Str)) = false := by decide) (hcd : (x == ("__classdict__" : Str)) = false := by decide) : PE X (.Name x pos) (tVar i) := by
  intro pins s σ H Q I h
  obtain ⟨v,e,h⟩:=h
  obtain ⟨m,hn,hl⟩:=I.loc
  obtain ⟨u,r,l⟩:=hl i x v hN e hv
  have fin:EP X pins σ Q u s:=⟨v,H,I,r,h⟩
  rcases l with ⟨hk,hm⟩ | ⟨hk,c,hc,hcell⟩
  · exact wpAny_Name (wpAny_loadName_local I.ok.kind hk hn hm fin) hd
  · rcases hk with hk | hk
    · exact wpAny_Name (wpAny_loadName_cell I.ok.kind hk hc hcell fin) hd
    · exact wpAny_Name (wpAny_loadName_free I.ok.kind hk hc hcell fin hcd) hd
theorem pe_int {i j pos}:PE X (.Constant (.int i) j pos) (tC (.int i)):=fun _ _ _ H _ I h=>wpAny_Constant_int ⟨.int i,H,I.tok _,⟨_,rfl⟩,h⟩
theorem pe_bl {b j pos}:PE X (.Constant (.bool b) j pos) (tC (.bl b)):=fun _ _ _ H _ I h=>Constant_bool ⟨.bl b,H,I,rfl,h⟩
theorem pe_non {j pos}:PE X (.Constant .none j pos) (tC .non):=fun _ _ _ H _ I h=>Constant_none ⟨.non,H,I,rfl,h⟩
theorem pe_str {x j pos}:PE X (.Constant (.str x) j pos) (tC (.str x)):=fun _ _ _ H _ I h=>Calls.Constant_str ⟨.str x,H,I.tok _,⟨_,rfl⟩,h⟩
def Gl (X:Cx) (x:Str):Prop:=X.env.kindOf x = some .globalImplicit
theorem ld_glob {E:Value→Shared→Prop} {pins:List (Addr × Obj)} {s:Shared} {σ:St} {H:Hp} {x:Str} {u:Value} {pos:Pos} {Q:Value→Shared→Prop} (I:Inv X pins σ H s) (hg:Gl X x) (hm:X.mg x = some u) (h:Q u s)
    (hd:(x == ("__debug__":Str)) = false:=by decide):wpAny (model X.prog X.w) X.A (eval (.Name x pos) X.env) Q E s:=
  Calls.Name_function_global I.ok.kind hg (Calls.loadGlobal_global (by rw [I.ok.glob]; exact I.mod.glob.keeps I.bk) hm h) hd
theorem ld_blt {E:Value→Shared→Prop} {pins:List (Addr × Obj)} {s:Shared} {σ:St} {H:Hp} {x:Str} {u:Value} {pos:Pos} {Q:Value→Shared→Prop} (I:Inv X pins σ H s) (hg:Gl X x) (hm:X.mg x = none) (hv:bootBuiltins x = some u) (h:Q u s)
    (hn : x ≠ "__name__" := by decide) (hd : (x == ("__debug__" : Str)) = false := by decide) : wpAny (model X.prog X.w) X.A (eval (.Name x pos) X.env) Q E s := by
  obtain ⟨mb,h1,h2⟩:=I.mod.blt
  exact Calls.Name_function_global I.ok.kind hg (Calls.loadGlobal_builtin (by rw [I.ok.glob]; exact I.mod.glob.keeps I.bk) hm (by rw [I.ok.blt]; exact h1.keeps I.bk) ((h2 x hn).trans hv) h) hd
theorem pe_glob {x:Str} {v:V} {u:Value} {pos:Pos} (hg:Gl X x) (hm:X.mg x = some u) (r:RelV v u) (hd:(x == ("__debug__":Str)) = false:=by decide):PE X (.Name x pos) (tC v):=
  fun _ _ _ H _ I h=>ld_glob I hg hm ⟨v,H,I,r,h⟩ hd
theorem pe_bltn {x : Str} {v : V} {u : Value} {pos : Pos} (hg : Gl X x) (hm : X.mg x = none) (hv : bootBuiltins x = some u) (r : RelV v u) (hn : x ≠ "__name__" := by decide) (hd : (x == ("__debug__" : Str)) = false := by decide) : PE X (.Name x pos) (tC v) :=
  fun _ _ _ H _ I h=>ld_blt I hg hm hv ⟨v,H,I,r,h⟩ hn hd
variable {a b:Expr} {ta tb:TE} {pos:Pos}
def PC (X:Cx) (op:CmpOp) (a b:Expr) (t:TE):Prop:=
  ∀ (pins:List (Addr × Obj)) (s:Shared) (σ:St) (H:Hp) (Q:VK),Inv X pins σ H s→t σ H Q→
    wpAny (model X.prog X.w) X.A (eval a X.env) (fun v s₁=>wpAny (model X.prog X.w) X.A (eval b X.env) (fun u s₂=>wpAny (model X.prog X.w) X.A (compareOp op v u) (EP X pins σ Q) X.xe s₂) X.xe s₁) X.xe s
theorem nobehind (b:Expr) {op:CmpOp} (h:op ≠ .In) (h2:op ≠ .NotIn):behindInMarks op b = false:=by
  have e1:(op == CmpOp.In) = false:=by cases op <;> first | rfl | exact absurd rfl h
  have e2:(op == CmpOp.NotIn) = false:=by cases op <;> first | rfl | exact absurd rfl h2
  cases b <;> simp [behindInMarks,e1,e2]
def tIsN (ta:TE):TE:=fun σ H Q=>ta σ H fun x H1=>Q (.bl (decide (x = .non))) H1
theorem RelV.none_iff {x:V} {v:Value} (r:RelV x v):(v == Value.none) = decide (x = .non):=by
  cases x with
  | non=>cases r; rfl
  | bl _=>cases r; rfl
  | int _=>obtain ⟨t,rfl⟩:=r; rfl
  | str _=>obtain ⟨t,rfl⟩:=r; rfl
  | byt _=>obtain ⟨t,rfl⟩:=r; rfl
  | flt _=>obtain ⟨t,rfl⟩:=r; rfl
  | ref _=>cases r; rfl
  | ty _=>cases r; rfl
theorem pc_isN {j pos'} (ha:PE X a ta):PC X .Is a (.Constant .none j pos') (tIsN ta):=by
  intro pins s σ H Q I h
  refine thn (ha pins s σ H _ I h) fun v s1 ⟨x,H1,I1,r1,q1⟩=>?_
  exact Constant_none (is_none_gen ⟨.bl _,H1,I1,by rw [r1.none_iff]; rfl,q1⟩)
def tB (t:TE):TT:=fun σ H Q=>t σ H fun x H1=>∃ c,x = .bl c∧Q c H1
theorem pt_cmp {op:CmpOp} {t:TE} (h:PC X op a b t) (h1:behindInMarks op b = false:=by first | exact nobehind _ (by decide) (by decide) | rfl):PT X (.Compare a [op] [b] pos) (tB t):=by
  intro pins s σ H Q I hw
  refine wpAny_isTrue_Compare1 (thn (h pins s σ H _ I hw) fun v s1 h1=>thn h1 fun u s2 h2=>thn h2 fun c s3 ⟨x,H1,I1,r1,q1⟩=>?_) h1
  obtain ⟨d,rfl,q⟩:=q1
  cases r1
  exact wpAny_truthy_bool ⟨H1,I1,q⟩
theorem pt_val {e:Expr} {t:TE} (h:PE X e t) (he:∀ whole,isTrue e X.env whole = (do let v ← whole; standAt e.pos; holding [v] (truthy v)):=by intro _; rfl):PT X e (tB t):=by
  intro pins s σ H Q I hw
  refine isTrue_plain (thn (h pins s σ H _ I hw) fun v s1 ⟨x,H1,I1,r1,q1⟩=>?_) (he _)
  obtain ⟨d,rfl,q⟩:=q1
  cases r1
  exact wpAny_truthy_bool ⟨H1,I1,q⟩
variable {tA tB':TT} {rest:List Expr}
def tAnd (t u:TT):TT:=fun σ H Q=>t σ H fun c H1=>if c = true then u σ H1 Q else Q false H1
def tOr (t u:TT):TT:=fun σ H Q=>t σ H fun c H1=>if c = true then Q true H1 else u σ H1 Q
def tNot (t:TT):TT:=fun σ H Q=>t σ H fun c H1=>Q (!c) H1
theorem pw_and1 (ha:PT X a tA):PW X (.BoolOp .And [a] pos) tA:=by
  intro wh pins s σ H Q I h
  refine isTrue_and (thn (ha pins s σ H Q I h) fun c s1 e=>?_)
  cases c with
  | true=>exact isTrue_and_nil e
  | false=>exact e
theorem pw_or1 (ha:PT X a tA):PW X (.BoolOp .Or [a] pos) tA:=by
  intro wh pins s σ H Q I h
  refine isTrue_or (thn (ha pins s σ H Q I h) fun c s1 e=>?_)
  cases c with
  | false=>exact isTrue_or_nil e
  | true=>exact e
theorem pw_and (ha:PT X a tA) (hb:PW X (.BoolOp .And (b :: rest) pos) tB'):PW X (.BoolOp .And (a :: b :: rest) pos) (tAnd tA tB'):=by
  intro wh pins s σ H Q I h
  refine isTrue_and (thn (ha pins s σ H _ I h) fun c s1 ⟨H1,I1,q1⟩=>?_)
  cases c with
  | true=>exact hb wh pins s1 σ H1 Q I1 q1
  | false=>exact ⟨H1,I1,q1⟩
theorem pw_or (ha:PT X a tA) (hb:PW X (.BoolOp .Or (b :: rest) pos) tB'):PW X (.BoolOp .Or (a :: b :: rest) pos) (tOr tA tB'):=by
  intro wh pins s σ H Q I h
  refine isTrue_or (thn (ha pins s σ H _ I h) fun c s1 ⟨H1,I1,q1⟩=>?_)
  cases c with
  | true=>exact ⟨H1,I1,q1⟩
  | false=>exact hb wh pins s1 σ H1 Q I1 q1
theorem pt_not (ha:PT X a tA):PT X (.UnaryOp .Not a pos) (tNot tA):=by
  intro pins s σ H Q I h
  exact isTrue_not (ha pins s σ H (fun c H1=>Q (!c) H1) I h)
def tAndV (ta tb:TE):TE:=fun σ H Q=>ta σ H fun x H1=>∃ c,x = .bl c∧if c = true then tb σ H1 Q else Q (.bl false) H1
def tOrV (ta tb:TE):TE:=fun σ H Q=>ta σ H fun x H1=>∃ c,x = .bl c∧if c = true then Q (.bl true) H1 else tb σ H1 Q
theorem pe_one {op} {t:TE} (h:PE X a t):PE X (.BoolOp op [a] pos) t:=fun pins s σ H Q I hw=>BoolOp_one (h pins s σ H Q I hw)
theorem pe_and (ha:PE X a ta) (hb:PE X (.BoolOp .And (b :: rest) pos) tb):PE X (.BoolOp .And (a :: b :: rest) pos) (tAndV ta tb):=by
  intro pins s σ H Q I h
  refine BoolOp_and (thn (ha pins s σ H _ I h) fun v s1 ⟨x,H1,I1,r1,q1⟩=>?_)
  obtain ⟨c,rfl,q1⟩:=q1
  cases r1
  refine wpAny_truthy_bool ?_
  cases c with
  | true=>exact hb pins s1 σ H1 Q I1 q1
  | false=>exact ⟨.bl false,H1,I1,rfl,q1⟩
theorem pe_or (ha:PE X a ta) (hb:PE X (.BoolOp .Or (b :: rest) pos) tb):PE X (.BoolOp .Or (a :: b :: rest) pos) (tOrV ta tb):=by
  intro pins s σ H Q I h
  refine BoolOp_or (thn (ha pins s σ H _ I h) fun v s1 ⟨x,H1,I1,r1,q1⟩=>?_)
  obtain ⟨c,rfl,q1⟩:=q1
  cases r1
  refine wpAny_truthy_bool ?_
  cases c with
  | false=>exact hb pins s1 σ H1 Q I1 q1
  | true=>exact ⟨.bl true,H1,I1,rfl,q1⟩
def tIf (t:TT) (ta tb:TE):TE:=fun σ H Q=>t σ H fun c H1=>if c = true then ta σ H1 Q else tb σ H1 Q
theorem pe_ifExp {c:Expr} (hc:PT X c tA) (ha:PE X a ta) (hb:PE X b tb):PE X (.IfExp c a b pos) (tIf tA ta tb):=by
  intro pins s σ H Q I h
  refine wpAny_IfExp (thn (hc pins s σ H _ I h) fun d s1 ⟨H1,I1,q1⟩=>?_)
  cases d with
  | true=>exact ha pins s1 σ H1 Q I1 q1
  | false=>exact hb pins s1 σ H1 Q I1 q1
end
def SqL (K:PySem.W.Frag) (H:Hp) (a:Addr) (xs:List V):Prop:=
  Rd H a (.lst xs) ∨
    ∃ (o:Obj) (its:Array Value) (n:Nat),K.lookup a = some o∧o.cls = .type "list"∧o.dict = none∧o.data = .seq its n∧its.size ≤ sizeLine∧Vals xs its.toList
def SqT (K:PySem.W.Frag) (H:Hp) (a:Addr) (xs:List V):Prop:=
  Rd H a (.tup xs) ∨
    ∃ (o:Obj) (its:Array Value) (n:Nat),K.lookup a = some o∧o.cls = .type "tuple"∧o.data = .seq its n∧its.size ≤ sizeLine∧Vals xs its.toList
def absV:Value→Option V
  | .none=>some .non
  | .bool b=>some (.bl b)
  | .int i _=>some (.int i)
  | .str x _=>some (.str x)
  | .bytes b _=>some (.byt b)
  | .float b _=>some (.flt b)
  | .ref a=>some (.ref a)
  | .type n=>some (.ty n)
  | _=>none
theorem RelV.abs {x:V} {u:Value} (r:RelV x u):absV u = some x:=by
  cases x with
  | non=>cases r; rfl
  | bl _=>cases r; rfl
  | int _=>obtain ⟨t,rfl⟩:=r; rfl
  | str _=>obtain ⟨t,rfl⟩:=r; rfl
  | byt _=>obtain ⟨t,rfl⟩:=r; rfl
  | flt _=>obtain ⟨t,rfl⟩:=r; rfl
  | ref _=>cases r; rfl
  | ty _=>cases r; rfl
theorem RelV.inj {x y:V} {u:Value} (r:RelV x u) (q:RelV y u):x = y:=Option.some.inj (r.abs.symm.trans q.abs)
theorem Vals.inj:∀ {xs ys:List V} {us:List Value},Vals xs us→Vals ys us→xs = ys
  | _,_,_,.nil,.nil=>rfl
  | _,_,_,.cons r t,.cons r' t'=>by rw [r.inj r',Vals.inj t t']
section
variable {X:Cx} {pins:List (Addr × Obj)} {σ:St} {H:Hp} {s:Shared} {a:Addr} {xs ys:List V}
theorem SqL.of {K:PySem.W.Frag} (h:H a = some (.lst xs)):SqL K H a xs:=.inl (.inl h)
theorem SqT.of {K:PySem.W.Frag} (h:H a = some (.tup xs)):SqT K H a xs:=.inl (.inl h)
theorem Inv.list (I:Inv X pins σ H s) (h:SqL X.K H a xs):∃ its:List Value,Vals xs its∧PlainL s.heap a its.toArray∧xs.length ≤ sizeLine:=by
  rcases h with h | ⟨o,its,n,hk,hc,hd,hs,hz,r⟩
  · obtain ⟨z,its,n,r,e⟩:=h.ok I.hok
    exact ⟨its,r,⟨_,n,e,rfl,rfl,rfl⟩,z⟩
  · refine ⟨its.toList,r,⟨o,n,I.kIn a o hk,hc,hd,by simpa using hs⟩,?_⟩
    have e:=r.length
    simp only [Array.length_toList] at e
    omega
theorem Inv.tuple (I:Inv X pins σ H s) (h:SqT X.K H a xs):∃ its:List Value,Vals xs its∧IsTup s.heap a its.toArray∧xs.length ≤ sizeLine:=by
  rcases h with h | ⟨o,its,n,hk,hc,hs,hz,r⟩
  · obtain ⟨z,its,r,p⟩:=h.ok I.hok
    exact ⟨its,r,p,z⟩
  · refine ⟨its.toList,r,⟨o,I.kIn a o hk,hc,n,by simpa using hs⟩,?_⟩
    have e:=r.length
    simp only [Array.length_toList] at e
    omega
theorem Inv.list_inj (I:Inv X pins σ H s) (h:SqL X.K H a xs) (h':SqL X.K H a ys):xs = ys:=by
  obtain ⟨its,r,⟨o,n,e,_,_,d⟩,_⟩:=I.list h
  obtain ⟨its',r',⟨o',n',e',_,_,d'⟩,_⟩:=I.list h'
  rw [e] at e'; cases e'
  rw [d] at d'
  injection d' with d1 _
  have:its = its':=by simpa using congrArg Array.toList d1
  subst this
  exact r.inj r'
end
abbrev Cx.wish (X:Cx) (E:Value→Shared→Prop):Cx:={ X with xe:=E }
abbrev Cx.nox (X:Cx):Cx:=X.wish fun _ _=>False
theorem Cx.Ok.wish {X:Cx} (ok:X.Ok) (E:Value→Shared→Prop):(X.wish E).Ok:=
  ⟨ok.mod,ok.kind,ok.glob,ok.blt,ok.above,ok.inj,ok.has,ok.cab,ok.hd,ok.frames,ok.stk,ok.exf,ok.bs,ok.bsz,ok.noex,ok.exfs,ok.funs,ok.frf⟩
theorem Cx.Ok.unwish {X:Cx} {E:Value→Shared→Prop} (ok:(X.wish E).Ok):X.Ok:=
  ⟨ok.mod,ok.kind,ok.glob,ok.blt,ok.above,ok.inj,ok.has,ok.cab,ok.hd,ok.frames,ok.stk,ok.exf,ok.bs,ok.bsz,ok.noex,ok.exfs,ok.funs,ok.frf⟩
section
variable {X:Cx} {pins:List (Addr × Obj)} {σ:St} {H:Hp} {s:Shared} {E:Value→Shared→Prop}
theorem Inv.wish (I:Inv X pins σ H s) (E:Value→Shared→Prop):Inv (X.wish E) pins σ H s:=⟨I.ok.wish E,I.os,I.bare,I.base,I.loc,I.cell,I.free,I.freeC,I.pin,I.hok,I.len⟩
theorem Inv.unwish (I:Inv (X.wish E) pins σ H s):Inv X pins σ H s:=⟨I.ok.unwish,I.os,I.bare,I.base,I.loc,I.cell,I.free,I.freeC,I.pin,I.hok,I.len⟩
theorem SP.unwish {D:Ends} {f:Flow} {s':Shared} (h:SP (X.wish E) pins D f s'):SP X pins D f s':=by
  cases f with
  | next=>obtain ⟨σ',H',I,q⟩:=h; exact ⟨σ',H',I.unwish,q⟩
  | brk=>obtain ⟨σ',H',I,q⟩:=h; exact ⟨σ',H',I.unwish,q⟩
  | cont=>obtain ⟨σ',H',I,q⟩:=h; exact ⟨σ',H',I.unwish,q⟩
  | ret u=>obtain ⟨v,σ',H',I,r,q⟩:=h; exact ⟨v,σ',H',I.unwish,r,q⟩
theorem PSs.nox {st:List Stmt} {t:TS} (h:PSs X.nox st t):PSs X st t:=fun pins s σ H D I hw=>
  wpAny_mono (h pins s σ H D (I.wish _) hw) (fun _ _ q=>q.unwish) fun _ _ z=>False.elim z
end
section
variable {X:Cx} {st:Stmt} {rest:List Stmt} {t u:TS} {e:Expr} {te:TE} {pos:Pos}
def tNext:TS:=fun D σ H=>D.nx σ H
def tSeq (t u:TS):TS:=fun D σ H=>t { D with nx:=u D } σ H
theorem pss_nil:PSs X [] tNext:=fun _ _ σ H _ I h=>wpAny_execs_nil ⟨σ,H,I,h⟩
theorem pss_cons (h1:PS X st t) (h2:PSs X rest u):PSs X (st :: rest) (tSeq t u):=by
  intro pins s σ H D I h
  refine wpAny_execs_cons (thn (h1 pins s σ H { D with nx:=u D } I h) fun f s1 q=>?_)
  cases f with
  | next=>
    obtain ⟨σ',H',I',q⟩:=q
    exact h2 pins s1 σ' H' D I' q
  | ret v=>exact q
  | brk=>exact q
  | cont=>exact q
theorem pss_one (h1:PS X st t):PSs X [st] t:=by
  intro pins s σ H D I h
  refine wpAny_execs_cons (thn (h1 pins s σ H D I h) fun f s1 q=>?_)
  cases f with
  | next=>exact wpAny_execs_nil q
  | ret v=>exact q
  | brk=>exact q
  | cont=>exact q
theorem Inv.quiet {pins:List (Addr × Obj)} {σ:St} {H:Hp} {s:Shared} (I:Inv X pins σ H s):interactive X.env = false:=by simp [interactive,I.ok.kind]
def tDrop (te:TE):TS:=fun D σ H=>te σ H fun _ H1=>D.nx σ H1
theorem ps_expr (he:PE X e te) (hs:swapsWith e none pos.line X.env = pure false:=by rfl):PS X (.Expr e pos) (tDrop te):=by
  intro pins s σ H D I h
  exact wpAny_Expr_any (thn (he pins s σ H _ I h) fun v s1 ⟨x,H1,I1,r1,q1⟩=>⟨σ,H1,I1,q1⟩) I.quiet hs
def tRet (te:TE):TS:=fun D σ H=>te σ H D.rt
theorem ps_ret (he:PE X e te):PS X (.Return (some e) pos) (tRet te):=by
  intro pins s σ H D I h
  exact wpAny_Return_some (thn (he pins s σ H _ I h) fun v s1 ⟨x,H1,I1,r1,q1⟩=>⟨x,σ,H1,I1,r1,q1⟩)
def tIfS (c:TT) (t u:TS):TS:=fun D σ H=>c σ H fun b H1=>if b = true then t D σ H1 else u D σ H1
theorem ps_if {c:Expr} {a b:List Stmt} {tc:TT} (hc:PT X c tc) (ha:PSs X a t) (hb:PSs X b u):PS X (.If c a b pos) (tIfS tc t u):=by
  intro pins s σ H D I h
  refine wpAny_If (thn (hc pins s σ H _ I h) fun d s1 ⟨H1,I1,q1⟩=>?_)
  cases d with
  | true=>exact ha pins s1 σ H1 D I1 q1
  | false=>exact hb pins s1 σ H1 D I1 q1
def tNever:TS:=fun _ _ _=>False
theorem ps_never:PS X st tNever:=fun _ _ _ _ _ _ h=>h.elim
end
abbrev TG:=V→St→Hp→(St→Hp→Prop)→Prop
abbrev TGs:=List V→St→Hp→(St→Hp→Prop)→Prop
def PG (X:Cx) (target:Expr) (t:TG):Prop:=
  ∀ (pins:List (Addr × Obj)) (s:Shared) (σ:St) (H:Hp) (v:V) (u:Value) (Q:St→Hp→Prop),Inv X pins σ H s→RelV v u→t v σ H Q→
    wpAny (model X.prog X.w) X.A (assign target X.env u) (fun _ s'=>∃ σ' H',Inv X pins σ' H' s'∧Q σ' H') X.xe s
def PGs (X:Cx) (ts:List Expr) (t:TGs):Prop:=
  ∀ (pins:List (Addr × Obj)) (s:Shared) (σ:St) (H:Hp) (vs:List V) (us:List Value) (Q:St→Hp→Prop),Inv X pins σ H s→Vals vs us→t vs σ H Q→
    wpAny (model X.prog X.w) X.A (assignInOrder ((assignEach ts X.env).map (·.2)) us) (fun _ s'=>∃ σ' H',Inv X pins σ' H' s'∧Q σ' H') X.xe s
section
variable {X:Cx} {pos:Pos}
def gName (i:Nat):TG:=fun v σ H Q=>Q (σ.set i (some v)) H
theorem pg_name {i:Nat} {x:Str} (hN:X.N.Nodup) (hi:X.N[i]? = some x) (hx:Loc X.env.scope x) (hf:X.fn x = true ∨ X.env.scope.names.lookup x = some .local:=by first | exact .inl rfl | exact .inr rfl | assumption):PG X (.Name x pos) (gName i):=by
  intro pins s σ H v u Q I r h
  exact wpAny_assign_Name (store_ok I hN hi hx r (fun s' I'=>⟨_,H,I',h⟩) hf)
def gNil:TGs:=fun vs σ H Q=>vs = []∧Q σ H
def gCons (t:TG) (u:TGs):TGs:=fun vs σ H Q=>∃ v r,vs = v :: r∧t v σ H fun σ' H'=>u r σ' H' Q
theorem pgs_nil:PGs X [] gNil:=by
  intro pins s σ H vs us Q I r h
  obtain ⟨e,h⟩:=h
  subst e
  cases r
  exact assignInOrder_nil ⟨σ,H,I,h⟩
theorem pgs_cons {e:Expr} {es:List Expr} {t:TG} {u:TGs} (h1:PG X e t) (h2:PGs X es u)
    (hs:(assignEach (e :: es) X.env).map (·.2) = assign e X.env :: (assignEach es X.env).map (·.2):=by rfl):PGs X (e :: es) (gCons t u):=by
  intro pins s σ H vs us Q I r h
  obtain ⟨v,vr,e1,h⟩:=h
  subst e1
  cases r with
  | cons r rr=>
    rw [hs]
    refine assignInOrder_cons (thn (h1 pins s σ H _ _ _ I r h) fun _ s1 ⟨σ1,H1,I1,q1⟩=>?_)
    exact h2 pins s1 σ1 H1 _ _ Q I1 rr q1
def gTup (K:PySem.W.Frag) (n:Nat) (t:TGs):TG:=fun v σ H Q=>∃ a xs,v = .ref a∧SqT K H a xs∧xs.length = n∧t xs σ H Q
theorem pg_tup {es:List Expr} {k:Nat} {t:TGs} {n:Nat} (hc:X.calm = true) (h:PGs X es t)
    (hn:(assignEach es X.env).length = n:=by rfl) (hst:(assignEach es X.env).findIdx? (·.1) = none:=by rfl):PG X (.Tuple es k pos) (gTup X.K n t):=by
  intro pins s σ H v u Q I r hw
  obtain ⟨a,xs,e1,hq,hl,hw⟩:=hw
  subst e1
  cases r
  obtain ⟨its,rv,ht,hz⟩:=I.tuple hq
  refine assign_Tuple_tuple (I.ok.hd hc) ht (by simp [hn,← hl,rv.length]) hst fun h' hx=>?_
  have I1:Inv X pins σ H { s with heap:=h' }:=I.kept (t':=s.toks) fun b o e=>hx b o (Nat.ne_of_lt (Heap.lt_size e)) e
  exact h pins _ σ H xs _ Q I1 (by simpa using rv) hw
def tAsg (te:TE) (g:TG):TS:=fun D σ H=>te σ H fun x H1=>g x σ H1 D.nx
theorem ps_set {i:Nat} {x:Str} {e:Expr} {te:TE} {pos':Pos} (hN:X.N.Nodup) (hi:X.N[i]? = some x) (hx:Loc X.env.scope x) (he:PE X e te) (hs:swapsWith e (some (.Name x pos')) pos.line X.env = pure false:=by rfl) (hf:X.fn x = true ∨ X.env.scope.names.lookup x = some .local:=by first | exact .inl rfl | exact .inr rfl | assumption) :
    PS X (.Assign [.Name x pos'] e pos) (tAsg te (gName i)):=by
  intro pins s σ H D I h
  refine wpAny_Assign_Name (thn (he pins s σ H _ I h) fun v s1 ⟨y,H1,I1,r1,q1⟩=>?_) hs
  exact store_ok I1 hN hi hx r1 (fun s2 I2=>⟨_,H1,I2,q1⟩) hf
end
structure It where
  go:Nat→Hp→Prop
  yld:Nat→Hp→V→Hp→Prop
  stop:Nat→Hp→Prop
def FpOk (X:Cx) (pins:List (Addr × Obj)) (H:Hp) (b:Addr):Prop:=
  H b = none∧b ≠ X.env.locals∧b ∉ X.fs∧(b ∈ X.ex ∨ X.s₀.heap.objs.size ≤ b)∧(∀ x c,X.env.cells.lookup x = some c→c ≠ b)∧∀ p ∈ X.pn ++ pins,p.1 ≠ b
theorem Inv.fpOk {X:Cx} {pins:List (Addr × Obj)} {σ:St} {H H':Hp} {s:Shared} {b:Addr} (I:Inv X pins σ H s) (hb:s.heap.objs.size ≤ b) (hn:H' b = none):FpOk X pins H' b:=by
  refine ⟨hn,Nat.ne_of_gt (Nat.lt_of_lt_of_le I.lt hb),I.nofs hb,.inr (Nat.le_trans I.sz hb),fun x c e z=>?_,fun p hp z=>?_⟩
  · obtain ⟨v,q⟩:=I.cell x c e
    exact absurd (Nat.lt_of_lt_of_le q.lt (by rw [z]; exact hb)) (Nat.lt_irrefl _)
  · exact absurd (Nat.lt_of_lt_of_le (Heap.lt_size (I.pin p hp).1) (by rw [z]; exact hb)) (Nat.lt_irrefl _)
structure Turn (P:Program) (w:World) (K:PySem.W.Frag) (tg:Expr) (J:It) (fp:List Addr) (it:Addr) (tn:Nat→Heap→Prop):Prop where
  mem:it ∈ fp
  obj:∀ i h,tn i h→∀ b ∈ fp,∃ o,h.get? b = some o∧∀ v,o.data ≠ .cell v
  keep:∀ i h h',tn i h→(∀ b ∈ fp,∀ o,h.get? b = some o→h'.get? b = some o)→tn i h'
  item:∀ (X:Cx),X.prog = P→X.w = w→X.K = K→X.calm = true→∀ (i:Nat) (pins:List (Addr × Obj)) (s:Shared) (σ:St) (H:Hp) (E:Value→Shared→Prop),Inv X pins σ H s→(∀ b ∈ fp,FpOk X pins H b)→tn i s.heap→J.go i H→
    wpAny (model P w) X.A (pyNext (.ref it)) (fun r s1=>∃ u,r = some u∧
      wpAny (model P w) X.A (letOwnedTupleGo tg (.ref it) u) (fun _ s2=>∃ x H',Inv X pins σ H' s2∧RelV x u∧J.yld i H x H'∧tn (i + 1) s2.heap∧∀ b ∈ fp,H' b = none) E s1) E s
  done:∀ (X:Cx),X.prog = P→X.w = w→X.K = K→X.calm = true→∀ (i:Nat) (pins:List (Addr × Obj)) (s:Shared) (σ:St) (H:Hp) (E:Value→Shared→Prop),Inv X pins σ H s→(∀ b ∈ fp,FpOk X pins H b)→tn i s.heap→J.stop i H→
    wpAny (model P w) X.A (pyNext (.ref it)) (fun r s1=>r = none∧Inv X pins σ H s1) E s
  self:∀ (A:Around) (i:Nat) (s:Shared) (Q:Value→Shared→Prop) (E:Value→Shared→Prop),tn i s.heap→Q (.ref it) s→wpAny (model P w) A (pyIter (.ref it)) Q E s
abbrev TI:=St→Hp→(It→Hp→Prop)→Prop
def PIE (X:Cx) (pins:List (Addr × Obj)) (σ:St) (tg:Expr) (R:It→Hp→Prop) (itv:Value) (s2:Shared):Prop:=
  ∃ (it:Addr) (fp:List Addr) (tn:Nat→Heap→Prop) (J:It) (H':Hp),itv = .ref it∧Inv X pins σ H' s2∧Turn X.prog X.w X.K tg J fp it tn∧tn 0 s2.heap∧(∀ b ∈ fp,FpOk X pins H' b)∧R J H'
def PI (X:Cx) (tg iter:Expr) (wi:TI):Prop:=
  ∀ (pins:List (Addr × Obj)) (s:Shared) (σ:St) (H:Hp) (R:It→Hp→Prop),Inv X pins σ H s→wi σ H R→
    wpAny (model X.prog X.w) X.A (eval iter X.env) (fun v s1=>wpAny (model X.prog X.w) X.A (pyIter v) (PIE X pins σ tg R) X.xe s1) X.xe s
theorem go_of {M:Model} {A:Around} {E:Value→Shared→Prop} {s:Shared} {tg:Expr} {it:Addr} {u:Value} {o:Obj} {n:String} {vs:Array Value} {Q:Unit→Shared→Prop} (ho:s.heap.get? it = some o) (hc:o.cls = .type n) (hd:o.data = .fields vs)
    (hn : ["enumerate", "zip", "dict_itemiterator", "dict_reverseitemiterator", "odict_iterator", "itertools.zip_longest", "itertools.pairwise"].contains n = false) (hQ : Q () s) : wpAny M A (letOwnedTupleGo tg (.ref it) u) Q E s := by
  unfold letOwnedTupleGo
  cases tg <;> first
    | exact wpAny_pure hQ
    | (cases u <;> first
        | exact wpAny_pure hQ
        | (refine wpAny_bind (wpAny_load ho ?_)
           rw [hc,hd]
           show wpAny M A (if (["enumerate", "zip", "dict_itemiterator", "dict_reverseitemiterator", "odict_iterator", "itertools.zip_longest", "itertools.pairwise"].contains n && vs[0]? == some (rawInt _)) = true then _ else _) Q E s
           rw [if_neg (by intro h; rw [hn,Bool.false_and] at h; cases h)]
           exact wpAny_pure hQ))
def Itl (K:PySem.W.Frag) (a:Addr):It:=
  ⟨fun i H=>∃ xs x,SqL K H a xs∧xs[i]? = some x,fun i H x H'=>H' = H∧∀ xs,SqL K H a xs→xs[i]? = some x,fun i H=>∃ xs,SqL K H a xs∧xs.length ≤ i⟩
def Itr (lo:Int) (n:Nat):It:=⟨fun i _=>i < n,fun i H x H'=>H' = H∧x = .int (lo + i),fun i _=>n ≤ i⟩
theorem turn_list {P:Program} {w:World} {K:PySem.W.Frag} {tg:Expr} (a it:Addr):Turn P w K tg (Itl K a) [it] it (fun i h=>h.IsListIter it a i) where
  mem:=by simp
  obj:=fun i h st b hb=>by
    have e:b = it:=by simpa using hb
    subst e
    obtain ⟨o,e,c,d⟩:=st
    exact ⟨o,e,fun v z=>by rw [d] at z; cases z⟩
  keep:=fun i h h' st k=>st.at fun o e=>k it (by simp) o e
  item:=by
    intro X hP hw hK hc i pins s σ H E I hf st hg
    subst hP hw hK
    obtain ⟨xs,x,hq,hx⟩:=hg
    obtain ⟨its,rv,p,hz⟩:=I.list hq
    obtain ⟨u,hu,ru⟩:=rv.get hx
    obtain ⟨f0,f1,f2,f3,f4,f5⟩:=hf it (by simp)
    refine wpAny_pyNext_list_item st p.isList (x:=u) (by simpa using hu) fun h' st' sb=>?_
    have I1:Inv X pins σ H { s with heap:=h' }:=I.turned (t':=s.toks) (fun b o hb e=>(sb.2 b hb).trans e) f0 f1 f3 f4 f5
    obtain ⟨o,e,c,d⟩:=id st'
    exact ⟨u,rfl,go_of (s:={ s with heap:=h' }) e c d (by decide) ⟨x,H,I1,ru,⟨rfl,fun ys hy=>by rw [I.list_inj hy hq]; exact hx⟩,st',fun b hb=>(hf b hb).1⟩⟩
  done:=by
    intro X hP hw hK hc i pins s σ H E I hf st hg
    subst hP hw hK
    obtain ⟨xs,hq,hx⟩:=hg
    obtain ⟨its,rv,p,hz⟩:=I.list hq
    obtain ⟨f0,f1,f2,f3,f4,f5⟩:=hf it (by simp)
    have hl:=rv.length
    exact wpAny_pyNext_list_end (I.ok.hd hc) st p.isList (by simp; omega) fun h' eb=>⟨rfl,I.turned (t':=s.toks) (fun b o hb e=>eb b o hb e) f0 f1 f3 f4 f5⟩
  self:=fun _ _ _ _ _ st h=>wpAny_pyIter_listiter st h
theorem turn_range {P:Program} {w:World} {K:PySem.W.Frag} {tg:Expr} (it:Addr) (lo:Int) (n:Nat):Turn P w K tg (Itr lo n) [it] it (fun i h=>IsRangeIter h it (lo + (i:Nat) * 1) ((n:Int) - (i:Nat)) 1) where
  mem:=by simp
  obj:=fun i h st b hb=>by
    have e:b = it:=by simpa using hb
    subst e
    exact ⟨_,st,fun v z=>by
      have z':Data.fields _ = Data.cell v:=z
      cases z'⟩
  keep:=fun i h h' st k=>k it (by simp) _ st
  item:=by
    intro X hP hw hK hc i pins s σ H E I hf st hg
    subst hP hw hK
    obtain ⟨f0,f1,f2,f3,f4,f5⟩:=hf it (by simp)
    have W:=Walks.range (prog:=X.prog) (w:=X.w) (I.ok.hd hc) it lo 1 n
    refine W.item i s _ _ hg st fun v h' tk hv st' kk=>?_
    obtain ⟨t,rfl⟩:=hv
    have I1:Inv X pins σ H { s with heap:=h',toks:=tk }:=I.turned (fun b o hb e=>kk b o (by simpa using hb) e) f0 f1 f3 f4 f5
    refine ⟨_,rfl,go_of (s:={ s with heap:=h',toks:=tk }) (n:="range_iterator") st' rfl rfl (by decide) ⟨.int (lo + i),H,I1,⟨t,?_⟩,⟨rfl,rfl⟩,st',fun b hb=>(hf b hb).1⟩⟩
    rw [Int.mul_one]
  done:=by
    intro X hP hw hK hc i pins s σ H E I hf st hg
    subst hP hw hK
    obtain ⟨f0,f1,f2,f3,f4,f5⟩:=hf it (by simp)
    exact wpAny_pyNext_range_end (I.ok.hd hc) st (by have:n ≤ i:=hg; omega) fun h' eb=>⟨rfl,I.turned (t':=s.toks) (fun b o hb e=>eb b o hb e) f0 f1 f3 f4 f5⟩
  self:=fun _ _ _ _ _ st h=>wpAny_pyIter_rangeiter st h
section
variable {X:Cx} {tg:Expr}
def iList (K:PySem.W.Frag) (tl:TE):TI:=fun σ H R=>tl σ H fun x H1=>∃ a,x = .ref a∧(∃ xs,SqL K H1 a xs)∧R (Itl K a) H1
theorem pi_list {l:Expr} {tl:TE} (hl:PE X l tl):PI X tg l (iList X.K tl):=by
  intro pins s σ H R I h
  refine thn (hl pins s σ H _ I h) fun v s1 ⟨x,H1,I1,r1,q1⟩=>?_
  obtain ⟨a,e,⟨xs,hq⟩,q⟩:=q1
  subst e
  cases r1
  obtain ⟨its,rv,p,hz⟩:=I1.list hq
  refine wpAny_pyIter_list p.isList ?_
  refine ⟨s1.heap.objs.size,[s1.heap.objs.size],_,_,H1,rfl,I1.kept (t':=s1.toks) fun b o e=>Heap.get?_push_of_some _ e,turn_list a _,⟨_,Heap.get?_push_size _ rfl,rfl,rfl⟩,fun b hb=>?_,q⟩
  have e:b = s1.heap.objs.size:=by simpa using hb
  subst e
  exact I1.fpOk (Nat.le_refl _) (I1.hok.fresh (Nat.le_refl _))
theorem range_it {pins:List (Addr × Obj)} {σ:St} {H:Hp} {s:Shared} {R:It→Hp→Prop} {E:Value→Shared→Prop} {lo hi:Int} {t u v:Tok} {tk:Nat} (I:Inv X pins σ H s) (h1:-(2 ^ 62) ≤ lo) (h2:lo < 2 ^ 62) (h3:-(2 ^ 62) ≤ hi) (h4:hi < 2 ^ 62)
    (q:R (Itr lo (hi - lo).toNat) H):wpAny (model X.prog X.w) X.A (pyIter (.ref s.heap.objs.size)) (PIE X pins σ tg R) E { s with heap:=s.heap.push { cls:=.type "range",data:=.fields #[.int lo t,.int hi u,.int 1 v] },toks:=tk }:=by
  refine wpAny_pyIter_range (IsRange.new ..) (small_one h1 h2 h3 h4) ?_
  have I1:Inv X pins σ H { s with heap:=s.heap.push { cls:=.type "range",data:=.fields #[.int lo t,.int hi u,.int 1 v] },toks:=tk }:=I.kept fun b o e=>Heap.get?_push_of_some _ e
  refine ⟨(s.heap.push { cls := .type "range", data := .fields #[.int lo t, .int hi u, .int 1 v] }).objs.size, [(s.heap.push { cls := .type "range", data := .fields #[.int lo t, .int hi u, .int 1 v] }).objs.size], _, _, H, rfl,
    I1.kept (t':=tk) fun b o e=>Heap.get?_push_of_some _ e,turn_range _ lo (hi - lo).toNat,?_,fun b hb=>?_,q⟩
  · have e1:lo + ((0:Nat):Int) * 1 = lo:=by simp
    have e2:(((hi - lo).toNat:Nat):Int) - ((0:Nat):Int) = Builtin.Range.rangeSize lo hi 1:=by rw [rangeSize_one]; split <;> omega
    show IsRangeIter _ _ (lo + ((0:Nat):Int) * 1) ((((hi - lo).toNat:Nat):Int) - ((0:Nat):Int)) 1
    rw [e1,e2]
    exact Heap.get?_push_size _ rfl
  · have e:b = (s.heap.push { cls:=.type "range",data:=.fields #[.int lo t,.int hi u,.int 1 v] }).objs.size:=by simpa using hb
    subst e
    exact I1.fpOk (Nat.le_refl _) (I1.hok.fresh (Nat.le_refl _))
def iRng1 (ta:TA):TI:=fun σ H R=>ta σ H fun vs H1=>∃ j:Int,vs = [.int j]∧-(2 ^ 62) ≤ j∧j < 2 ^ 62∧R (Itr 0 j.toNat) H1
def iRng2 (ta:TA):TI:=fun σ H R=>ta σ H fun vs H1=>∃ i j:Int,vs = [.int i,.int j]∧(-(2 ^ 62) ≤ i∧i < 2 ^ 62∧-(2 ^ 62) ≤ j∧j < 2 ^ 62)∧R (Itr i (j - i).toNat) H1
theorem pi_range1 {a : Expr} {ta : TA} {p pos : Pos} (hg : Gl X "range") (hm : X.mg "range" = none) (ha : PA X [a] ta) (hs : starEach [a] X.env = [(false, eval a X.env)] := by rfl) : PI X tg (.Call (.Name "range" p) [a] [] pos) (iRng1 ta) := by
  intro pins s σ H R I h
  refine Call_ (ld_blt I hg hm boot_range (PyProof.Rows.callWith_type1 (thn (ha pos pins s σ H _ I h) fun us s1 ⟨vs,H1,I1,r1,q1⟩=>?_) hs rfl))
  obtain ⟨j,e,q1,q2,q⟩:=q1
  subst e
  cases r1 with
  | cons r rr=>
    cases rr
    obtain ⟨t,rfl⟩:=r
    exact call_range_1 (range_it I1 (by omega) (by omega) q1 q2 (by simpa using q))
theorem pi_range2 {a b : Expr} {ta : TA} {p pos : Pos} (hg : Gl X "range") (hm : X.mg "range" = none) (ha : PA X [a, b] ta) (hs : starEach [a, b] X.env = [(false, eval a X.env), (false, eval b X.env)] := by rfl) (hs2 : starEach [b] X.env = [(false, eval b X.env)] := by rfl) :
    PI X tg (.Call (.Name "range" p) [a,b] [] pos) (iRng2 ta):=by
  intro pins s σ H R I h
  refine Call_ (ld_blt I hg hm boot_range (PyProof.Rows.callWith_type1 (thn (ha pos pins s σ H _ I h) fun us s1 ⟨vs,H1,I1,r1,q1⟩=>?_) (by rw [hs,hs2]) (by rw [hs2]; rfl)))
  obtain ⟨i,j,e,⟨q1,q2,q3,q4⟩,q⟩:=q1
  subst e
  cases r1 with
  | cons r rr=>
    cases rr with
    | cons r' rr=>
      cases rr
      obtain ⟨t,rfl⟩:=r
      obtain ⟨t',rfl⟩:=r'
      exact call_range_2 (range_it I1 q1 q2 q3 q4 q)
def tFor (wi:TI) (g:TG) (tb:TS):TS:=fun D σ H=>wi σ H fun J H1=>∃ W:Nat→Nat→St→Hp→Prop,(∃ m,W 0 m σ H1)∧∀ i m σ H,W i m σ H→
  (J.stop i H∧D.nx σ H) ∨ (J.go i H∧∃ N:St→Hp→Prop,(∀ σ' H',N σ' H'→∃ m',m' < m∧W (i + 1) m' σ' H')∧∀ x H',J.yld i H x H'→g x σ H' fun σ2 H2=>tb { D with nx:=N,ct:=N,bk:=D.nx } σ2 H2)
def pinsAt (fp:List Addr) (h:Heap):List (Addr × Obj):=fp.filterMap fun b=>(h.get? b).map fun o=>(b,o)
theorem mem_pinsAt {fp:List Addr} {h:Heap} {b:Addr} {o:Obj} (hb:b ∈ fp) (e:h.get? b = some o):(b,o) ∈ pinsAt fp h:=List.mem_filterMap.mpr ⟨b,hb,by rw [e]; rfl⟩
theorem of_pinsAt {fp:List Addr} {h:Heap} {p:Addr × Obj} (hp:p ∈ pinsAt fp h):p.1 ∈ fp∧h.get? p.1 = some p.2:=by
  obtain ⟨b,hb,e⟩:=List.mem_filterMap.mp hp
  cases q:h.get? b with
  | none=>rw [q] at e; cases e
  | some o=>
    rw [q] at e
    have e':(b,o) = p:=Option.some.inj e
    subst e'
    exact ⟨hb,q⟩
theorem Inv.pinned {pins:List (Addr × Obj)} {σ:St} {H:Hp} {s:Shared} {fp:List Addr} (I:Inv X pins σ H s) (hf:∀ b ∈ fp,FpOk X pins H b) (ho:∀ b ∈ fp,∃ o,s.heap.get? b = some o∧∀ v,o.data ≠ .cell v):Inv X (pins ++ pinsAt fp s.heap) σ H s:=
  I.pins_of fun p hp=>(List.mem_append.mp hp).elim (fun z=>I.pin p (List.mem_append_right _ z)) fun z=>by
    obtain ⟨hb,e⟩:=of_pinsAt z
    obtain ⟨f0,f1,f2,_⟩:=hf p.1 hb
    obtain ⟨o,e',d⟩:=ho p.1 hb
    rw [e] at e'; cases e'
    exact ⟨e,f0,f1,f2,d⟩
theorem Inv.unpinned {pins pl:List (Addr × Obj)} {σ:St} {H:Hp} {s:Shared} (I:Inv X (pins ++ pl) σ H s):Inv X pins σ H s:=I.pins_of fun p hp=>I.pin p (List.mem_append_right _ (List.mem_append_left _ hp))
theorem ps_for {iter:Expr} {body:List Stmt} {wi:TI} {g:TG} {tb:TS} {pos:Pos} (hp:PassesOwn (model X.prog X.w) X.A X.env X.xe) (hc:X.calm = true) (hi:PI X tg iter wi) (hg:PG X tg g) (hb:PSs X body tb)
    (hs:∀ x,foldedSetIterable iter X.env x = pure x:=by intro _; rfl):PS X (.For tg iter body [] pos) (tFor wi g tb):=by
  intro pins s σ H D I h
  refine wpAny_For (thn (hi pins s σ H _ I h) fun v s1 h1=>thn h1 fun itv s2 h2=>?_) hs
  obtain ⟨it,fp,tn,J,H2,e,I2,T,st2,f2,W,⟨m0,w0⟩,turn⟩:=h2
  subst e
  -- what stays true of the iterator's objects through the loop
  have stat:∀ {H':Hp},(∀ b ∈ fp,H' b = none)→∀ b ∈ fp,FpOk X pins H' b:=fun hn b hb=>⟨hn b hb,(f2 b hb).2⟩
  refine codeAny_forLoop_any (fun n s'=>∃ i σ' H',Inv X pins σ' H' s'∧tn i s'.heap∧(∀ b ∈ fp,H' b = none)∧W i n σ' H') ?_ m0 ⟨0,σ,H2,I2,st2,fun b hb=>(f2 b hb).1,w0⟩
  rintro n s3 ⟨i,σ3,H3,I3,st3,fr3,w3⟩
  rcases turn i n σ3 H3 w3 with ⟨stop,qn⟩ | ⟨go,N,hN,step⟩
  · refine wpAny_passesOwn hp (thn (T.done X rfl rfl rfl hc i pins s3 σ3 H3 X.xe I3 (stat fr3) st3 stop) fun r s4 ⟨hr,I4⟩=>?_)
    subst hr
    exact wpAny_execs_nil ⟨σ3,H3,I4,qn⟩
  · refine wpAny_passesOwn hp (thn (T.item X rfl rfl rfl hc i pins s3 σ3 H3 X.xe I3 (stat fr3) st3 go) fun r s4 ⟨u,hr,h4⟩=>?_)
    subst hr
    refine wpAny_passesOwn hp (thn h4 fun _ s5 ⟨x,H5,I5,r5,y5,st5,fr5⟩=>?_)
    have I5':=I5.pinned (stat fr5) (T.obj _ _ st5)
    refine wpAny_passesOwn hp (thn (hg _ s5 σ3 H5 x u _ I5' r5 (step x H5 y5)) fun _ s6 ⟨σ6,H6,I6,q6⟩=>?_)
    refine wpAny_passesOwn hp (thn (hb _ s6 σ6 H6 _ I6 q6) fun f s7 q7=>?_)
    have again:∀ {σ7:St} {H7:Hp},Inv X (pins ++ pinsAt fp s5.heap) σ7 H7 s7→N σ7 H7→∃ m,m < n∧∃ i σ' H',Inv X pins σ' H' s7∧tn i s7.heap∧(∀ b ∈ fp,H' b = none)∧W i m σ' H':=fun {σ7 H7} I7 n7=>by
      obtain ⟨m',hm,w7⟩:=hN σ7 H7 n7
      refine ⟨m',hm,i + 1,σ7,H7,I7.unpinned,T.keep _ _ _ st5 fun b hb o e=>(I7.pin (b,o) (List.mem_append_right _ (List.mem_append_right _ (mem_pinsAt hb e)))).1,fun b hb=>?_,w7⟩
      obtain ⟨o,e,d⟩:=T.obj _ _ st5 b hb
      exact (I7.pin (b,o) (List.mem_append_right _ (List.mem_append_right _ (mem_pinsAt hb e)))).2.1
    cases f with
    | next=>obtain ⟨σ7,H7,I7,n7⟩:=q7; exact again I7 n7
    | cont=>obtain ⟨σ7,H7,I7,n7⟩:=q7; exact again I7 n7
    | brk=>obtain ⟨σ7,H7,I7,q7⟩:=q7; exact ⟨σ7,H7,I7.unpinned,q7⟩
    | ret v=>obtain ⟨x7,σ7,H7,I7,r7,q7⟩:=q7; exact ⟨x7,σ7,H7,I7.unpinned,r7,q7⟩
end
theorem for_list {K:PySem.W.Frag} {a:Addr} {xs:List V} {g:TG} {tb:TS} {D:Ends} {σ:St} {H:Hp} (Pv:Nat→St→Hp→Prop) (h0:Pv 0 σ H) (hl:∀ i σ H,i ≤ xs.length→Pv i σ H→SqL K H a xs)
    (hs:∀ i x σ H,xs[i]? = some x→Pv i σ H→g x σ H fun σ2 H2=>tb { D with nx:=Pv (i + 1),ct:=Pv (i + 1),bk:=D.nx } σ2 H2) (hd:∀ σ H,Pv xs.length σ H→D.nx σ H) :
    ∃ W:Nat→Nat→St→Hp→Prop,(∃ m,W 0 m σ H)∧∀ i m σ H,W i m σ H→
      ((Itl K a).stop i H∧D.nx σ H) ∨ ((Itl K a).go i H∧∃ N:St→Hp→Prop,(∀ σ' H',N σ' H'→∃ m',m' < m∧W (i + 1) m' σ' H')∧∀ x H',(Itl K a).yld i H x H'→g x σ H' fun σ2 H2=>tb { D with nx:=N,ct:=N,bk:=D.nx } σ2 H2):=by
  refine ⟨fun i m σ H=>m = xs.length - i∧i ≤ xs.length∧Pv i σ H,⟨xs.length,by simp,Nat.zero_le _,h0⟩,?_⟩
  rintro i m σ H ⟨rfl,hi,p⟩
  have q:=hl i σ H hi p
  by_cases hlt:i < xs.length
  · refine .inr ⟨⟨xs,xs[i],q,by simp [hlt]⟩,Pv (i + 1),fun σ' H' p'=>⟨xs.length - (i + 1),by omega,rfl,hlt,p'⟩,fun x H' y=>?_⟩
    obtain ⟨e,y⟩:=y
    subst e
    exact hs i x σ _ (y xs q) p
  · have e:i = xs.length:=by omega
    subst e
    exact .inl ⟨⟨xs,q,Nat.le_refl _⟩,hd σ H p⟩
theorem for_range {lo:Int} {n:Nat} {g:TG} {tb:TS} {D:Ends} {σ:St} {H:Hp} (Pv:Nat→St→Hp→Prop) (h0:Pv 0 σ H)
    (hs:∀ i σ H,i < n→Pv i σ H→g (.int (lo + i)) σ H fun σ2 H2=>tb { D with nx:=Pv (i + 1),ct:=Pv (i + 1),bk:=D.nx } σ2 H2) (hd:∀ σ H,Pv n σ H→D.nx σ H) :
    ∃ W:Nat→Nat→St→Hp→Prop,(∃ m,W 0 m σ H)∧∀ i m σ H,W i m σ H→
      ((Itr lo n).stop i H∧D.nx σ H) ∨ ((Itr lo n).go i H∧∃ N:St→Hp→Prop,(∀ σ' H',N σ' H'→∃ m',m' < m∧W (i + 1) m' σ' H')∧∀ x H',(Itr lo n).yld i H x H'→g x σ H' fun σ2 H2=>tb { D with nx:=N,ct:=N,bk:=D.nx } σ2 H2):=by
  refine ⟨fun i m σ H=>m = n - i∧i ≤ n∧Pv i σ H,⟨n,by simp,Nat.zero_le _,h0⟩,?_⟩
  rintro i m σ H ⟨rfl,hi,p⟩
  by_cases hlt:i < n
  · refine .inr ⟨hlt,Pv (i + 1),fun σ' H' p'=>⟨n - (i + 1),by omega,rfl,hlt,p'⟩,fun x H' y=>?_⟩
    obtain ⟨e,y⟩:=y
    subst e y
    exact hs i σ _ hlt p
  · have e:i = n:=by omega
    subst e
    exact .inl ⟨Nat.le_refl _,hd σ H p⟩
abbrev R2:=V→V→Hp→VK→Prop
def OpR (X:Cx) (f:Value→Value→Sem Value) (r:R2):Prop:=
  ∀ (pins:List (Addr × Obj)) (s:Shared) (σ:St) (H:Hp) (x y:V) (v u:Value) (Q:VK),Inv X pins σ H s→RelV x v→RelV y u→r x y H Q→
    wpAny (model X.prog X.w) X.A (f v u) (EP X pins σ Q) X.xe s
def CallR (X:Cx) (f:Value) (r:List V→Hp→VK→Prop):Prop:=
  ∀ (pins:List (Addr × Obj)) (s:Shared) (σ:St) (H:Hp) (xs:List V) (us:List Value) (Q:VK),Inv X pins σ H s→Vals xs us→r xs H Q→
    wpAny (model X.prog X.w) X.A (call f us) (EP X pins σ Q) X.xe s
def tOp (r:R2) (ta tb:TE):TE:=fun σ H Q=>ta σ H fun x H1=>tb σ H1 fun y H2=>r x y H2 Q
def rI (C:Int→Int→Prop) (g:Int→Int→V):R2:=fun x y H Q=>∃ i j,x = .int i∧y = .int j∧C i j∧Q (g i j) H
def rI0 (g:Int→Int→V):R2:=fun x y H Q=>∃ i j,x = .int i∧y = .int j∧Q (g i j) H
section
variable {X:Cx} {a b c:Expr} {ta tb tc:TE} {pos:Pos}
theorem binT (ha:PE X a ta) (hb:PE X b tb) {pins:List (Addr × Obj)} {s:Shared} {σ:St} {H:Hp} {R:V→V→Hp→Prop} (I:Inv X pins σ H s)
    (h:ta σ H fun x H1=>tb σ H1 fun y H2=>R x y H2) {Q:Value→Shared→Prop} {f:Value→Value→Sem Value}
    (hf:∀ v u s2 x y H2,Inv X pins σ H2 s2→RelV x v→RelV y u→R x y H2→wpAny (model X.prog X.w) X.A (f v u) Q X.xe s2) :
    wpAny (model X.prog X.w) X.A (eval a X.env) (fun v s₁=>wpAny (model X.prog X.w) X.A (eval b X.env) (fun u s₂=>wpAny (model X.prog X.w) X.A (f v u) Q X.xe s₂) X.xe s₁) X.xe s:=by
  refine thn (ha pins s σ H _ I h) fun v s1 ⟨x,H1,I1,r1,q1⟩=>?_
  refine thn (hb pins s1 σ H1 _ I1 q1) fun u s2 ⟨y,H2,I2,r2,q2⟩=>?_
  exact hf v u s2 x y H2 I2 r1 r2 q2
theorem pe_op {op:Operator} {r:R2} (ho:OpR X (binaryOp op) r) (ha:PE X a ta) (hb:PE X b tb):PE X (.BinOp a op b pos) (tOp r ta tb):=by
  intro pins s σ H Q I h
  exact wpAny_BinOp (binT ha hb I h fun v u s2 x y H2 I2 rx ry q=>ho pins s2 σ H2 x y v u Q I2 rx ry q)
theorem opI {f:Value→Value→Sem Value} {C:Int→Int→Prop} {g:Int→Int→Int}
    (rule:∀ (i j:Int) (t u:Tok) (s:Shared) (Q:Value→Shared→Prop) (E:Value→Shared→Prop),C i j→Q (.int (g i j) s.toks) { s with toks:=s.toks + 1 }→wpAny (model X.prog X.w) X.A (f (.int i t) (.int j u)) Q E s) :
    OpR X f (rI C fun i j=>.int (g i j)):=by
  intro pins s σ H x y v u Q I rx ry h
  obtain ⟨i,j,rfl,rfl,hc,q⟩:=h
  obtain ⟨t,rfl⟩:=rx
  obtain ⟨t',rfl⟩:=ry
  exact rule i j t t' s _ _ hc ⟨.int (g i j),H,I.tok _,⟨_,rfl⟩,q⟩
theorem opI0 {f:Value→Value→Sem Value} {g:Int→Int→Int}
    (rule:∀ (i j:Int) (t u:Tok) (s:Shared) (Q:Value→Shared→Prop) (E:Value→Shared→Prop),Q (.int (g i j) s.toks) { s with toks:=s.toks + 1 }→wpAny (model X.prog X.w) X.A (f (.int i t) (.int j u)) Q E s) :
    OpR X f (rI0 fun i j=>.int (g i j)):=by
  intro pins s σ H x y v u Q I rx ry h
  obtain ⟨i,j,rfl,rfl,q⟩:=h
  obtain ⟨t,rfl⟩:=rx
  obtain ⟨t',rfl⟩:=ry
  exact rule i j t t' s _ _ ⟨.int (g i j),H,I.tok _,⟨_,rfl⟩,q⟩
theorem opB0 {f:Value→Value→Sem Value} {g:Int→Int→Bool}
    (rule:∀ (i j:Int) (t u:Tok) (s:Shared) (Q:Value→Shared→Prop) (E:Value→Shared→Prop),Q (.bool (g i j)) s→wpAny (model X.prog X.w) X.A (f (.int i t) (.int j u)) Q E s) :
    OpR X f (rI0 fun i j=>.bl (g i j)):=by
  intro pins s σ H x y v u Q I rx ry h
  obtain ⟨i,j,rfl,rfl,q⟩:=h
  obtain ⟨t,rfl⟩:=rx
  obtain ⟨t',rfl⟩:=ry
  exact rule i j t t' s _ _ ⟨.bl (g i j),H,I,rfl,q⟩
def CDiv (i j:Int):Prop:=0 < j∧j < 1073741824
def CMul (i j:Int):Prop:=(-(2 ^ 64) < i∧i < 2 ^ 64) ∨ (-(2 ^ 64) < j∧j < 2 ^ 64)
theorem CMul.ok {i j:Int} (h:CMul i j):IntMulOk i j:=by
  rcases h with ⟨h1,h2⟩ | ⟨h1,h2⟩
  · exact .of_left (intBits_le_64 h1 h2)
  · exact .of_right (intBits_le_64 h1 h2)
theorem two_pow_nn (k:Nat):(0:Int) ≤ 2 ^ k:=by
  rw [two_pow_cast]
  exact Int.natCast_nonneg _
theorem op_add:OpR X (binaryOp .Add) (rI0 fun i j=>.int (i + j)):=opI0 fun _ _ _ _ _ _ _ q=>add_int q
theorem op_sub:OpR X (binaryOp .Sub) (rI0 fun i j=>.int (i - j)):=opI0 fun _ _ _ _ _ _ _ q=>sub_int q
theorem op_fdiv:OpR X (binaryOp .FloorDiv) (rI CDiv fun i j=>.int (i / j)):=opI fun i j _ _ _ _ _ hc q=>by
  have h1:(0:Int) < j:=hc.1
  have h2:j < 1073741824:=hc.2
  exact floordiv_int (by omega) (by rw [Int.fdiv_eq_ediv_of_nonneg i (by omega)]; exact q) (.inl (PyProof.noPylong_small (by omega)))
theorem op_mod:OpR X (binaryOp .Mod) (rI (fun _ j=>0 < j) fun i j=>.int (i % j)):=opI fun i j _ _ _ _ _ hc q=>by
  have h1:(0:Int) < j:=hc
  exact mod_int' (by omega) (by rw [Int.fmod_eq_emod_of_nonneg i (by omega)]; exact q)
theorem op_shr:OpR X (binaryOp .RShift) (rI (fun _ j=>0 ≤ j) fun i j=>.int (i / 2 ^ j.toNat)):=opI fun i j _ _ _ _ _ hc q=>
  rshift_int hc (by rw [Int.fdiv_eq_ediv_of_nonneg i (two_pow_nn _)]; exact q)
end
def scal:V→V→Bool
  | .non,.non=>true | .non,.int _=>true | .int _,.non=>true | .non,.bl _=>true | .bl _,.non=>true | .non,.str _=>true | .str _,.non=>true
  | .int _,.int _=>true | .bl _,.bl _=>true | .str _,.str _=>true | .byt _,.byt _=>true
  | .int _,.str _=>true | .str _,.int _=>true | .bl _,.str _=>true | .str _,.bl _=>true
  | _,_=>false
def rEq:R2:=fun x y H Q=>scal x y = true∧Q (.bl (decide (x = y))) H
theorem dec_int {i j:Int}:decide (V.int i = V.int j) = (i == j):=by
  rw [Bool.eq_iff_iff]
  simp
theorem dec_bl {i j:Bool}:decide (V.bl i = V.bl j) = (i == j):=by
  rw [Bool.eq_iff_iff]
  simp
theorem dec_str {i j:Str}:decide (V.str i = V.str j) = (i == j):=by
  rw [Bool.eq_iff_iff]
  simp
theorem dec_byt {i j:Array UInt8}:decide (V.byt i = V.byt j) = (i.toList == j.toList):=by
  rw [Bool.eq_iff_iff]
  cases i
  cases j
  simp
section
variable {X:Cx} {a b c:Expr} {ta tb tc:TE} {pos:Pos}
theorem fin_bl {pins:List (Addr × Obj)} {σ:St} {H:Hp} {s:Shared} {Q:VK} {k k':Bool} (I:Inv X pins σ H s) (q:Q (.bl k) H) (e:k = k'):EP X pins σ Q (.bool k') s:=by
  subst e
  exact ⟨.bl k,H,I,rfl,q⟩
theorem op_eq:OpR X (compareOp .Eq) rEq:=by
  intro pins s σ H x y v u Q I rx ry h
  obtain ⟨hs,q⟩:=h
  cases x with
  | non=>
    cases rx
    cases y with
    | non=>cases ry; exact PySem.EqNone.eq_none_none (fin_bl I q (by simp))
    | bl j=>cases ry; exact PySem.EqNone.eq_none_bool (fin_bl I q (by simp))
    | int j=>obtain ⟨t',rfl⟩:=ry; exact PySem.EqNone.eq_none_int (fin_bl I q (by simp))
    | str j=>obtain ⟨t',rfl⟩:=ry; exact PySem.EqNone.eq_none_str (fin_bl I q (by simp))
    | _=>exact absurd (show false = true from hs) Bool.false_ne_true
  | bl i=>
    cases rx
    cases y with
    | non=>cases ry; exact PySem.EqNone.eq_bool_none (fin_bl I q (by simp))
    | bl j=>cases ry; exact eq_bool (fin_bl I q dec_bl)
    | str j=>obtain ⟨t',rfl⟩:=ry; exact PySem.EqMixed.eq_bool_str (fin_bl I q (by simp))
    | _=>exact absurd (show false = true from hs) Bool.false_ne_true
  | int i=>
    obtain ⟨t,rfl⟩:=rx
    cases y with
    | non=>cases ry; exact PySem.EqNone.eq_int_none (fin_bl I q (by simp))
    | int j=>obtain ⟨t',rfl⟩:=ry; exact eq_int (fin_bl I q dec_int)
    | str j=>obtain ⟨t',rfl⟩:=ry; exact PySem.EqMixed.eq_int_str (fin_bl I q (by simp))
    | _=>exact absurd (show false = true from hs) Bool.false_ne_true
  | str i=>
    obtain ⟨t,rfl⟩:=rx
    cases y with
    | non=>cases ry; exact PySem.EqNone.eq_str_none (fin_bl I q (by simp))
    | bl j=>cases ry; exact PySem.EqMixed.eq_str_bool (fin_bl I q (by simp))
    | int j=>obtain ⟨t',rfl⟩:=ry; exact PySem.EqMixed.eq_str_int (fin_bl I q (by simp))
    | str j=>obtain ⟨t',rfl⟩:=ry; exact eq_str (fin_bl I q dec_str)
    | _=>exact absurd (show false = true from hs) Bool.false_ne_true
  | byt i=>
    obtain ⟨t,rfl⟩:=rx
    cases y with
    | byt j=>obtain ⟨t',rfl⟩:=ry; exact PySem.W.eq_bytes (fin_bl I q dec_byt)
    | _=>exact absurd (show false = true from hs) Bool.false_ne_true
  | _=>cases y <;> exact absurd (show false = true from hs) Bool.false_ne_true
theorem op_lt:OpR X (compareOp .Lt) (rI0 fun i j=>.bl (decide (i < j))):=opB0 fun _ _ _ _ _ _ _ q=>lt_int q
theorem op_le:OpR X (compareOp .LtE) (rI0 fun i j=>.bl (decide (i ≤ j))):=opB0 fun _ _ _ _ _ _ _ q=>le_int q
theorem op_gt:OpR X (compareOp .Gt) (rI0 fun i j=>.bl (decide (j < i))):=opB0 fun _ _ _ _ _ _ _ q=>gt_int q
theorem op_ge:OpR X (compareOp .GtE) (rI0 fun i j=>.bl (decide (j ≤ i))):=opB0 fun _ _ _ _ _ _ _ q=>ge_int q
theorem pe_cmpR {op:CmpOp} {r:R2} (ho:OpR X (compareOp op) r) (ha:PE X a ta) (hb:PE X b tb) (hm:behindInMarks op b = false):PE X (.Compare a [op] [b] pos) (tOp r ta tb):=by
  intro pins s σ H Q I h
  exact wpAny_Compare1 (binT ha hb I h fun v u s2 x y H2 I2 rx ry q=>ho pins s2 σ H2 x y v u Q I2 rx ry q) hm
def tTest (t:TE):TT:=fun σ H Q=>t σ H fun x H'=>∃ k,x = .bl k∧Q k H'
theorem pt_cmpR {op:CmpOp} {r:R2} (ho:OpR X (compareOp op) r) (ha:PE X a ta) (hb:PE X b tb) (hm:behindInMarks op b = false):PT X (.Compare a [op] [b] pos) (tTest (tOp r ta tb)):=by
  intro pins s σ H Q I h
  refine wpAny_isTrue_Compare1 (thn (ha pins s σ H _ I h) fun v s1 ⟨x,H1,I1,r1,q1⟩=>thn (hb pins s1 σ H1 _ I1 q1) fun u s2 ⟨y,H2,I2,r2,q2⟩=>
    thn (ho pins s2 σ H2 x y v u _ I2 r1 r2 q2) fun c s3 ⟨z,H3,I3,r3,k,e,q3⟩=>?_) hm
  subst e
  cases r3
  exact wpAny_truthy_bool ⟨H3,I3,q3⟩
theorem line63:(sizeLine:Nat) < 2 ^ 63:=by rw [sizeLine_eq]; decide
theorem op_add_str:OpR X (binaryOp .Add) (fun x y H Q=>∃ i j,x = .str i∧y = .str j∧i.length + j.length ≤ sizeLine∧Q (.str (i ++ j)) H):=by
  intro pins s σ H x y v u Q I rx ry h
  obtain ⟨i,j,rfl,rfl,hz,q⟩:=h
  obtain ⟨t,rfl⟩:=rx
  obtain ⟨t',rfl⟩:=ry
  exact add_str (fun t' tk=>⟨.str (i ++ j),H,I.tok _,⟨_,rfl⟩,q⟩) hz
theorem vals1 {x:V} {us:List Value} (r:Vals [x] us):∃ u,us = [u]∧RelV x u:=by
  cases r with
  | cons r1 r2=>cases r2; exact ⟨_,rfl,r1⟩
theorem vals2 {x y:V} {us:List Value} (r:Vals [x,y] us):∃ u w',us = [u,w']∧RelV x u∧RelV y w':=by
  cases r with
  | cons r1 r2=>
    cases r2 with
    | cons r3 r4=>cases r4; exact ⟨_,_,rfl,r1,r3⟩
theorem call_min2 (hc:X.calm = true):CallR X (.builtin "min") (fun xs H Q=>∃ i j,xs = [.int i,.int j]∧Q (.int (if j < i then j else i)) H):=by
  intro pins s σ H xs us Q I r h
  obtain ⟨i,j,rfl,q⟩:=h
  obtain ⟨u,w',rfl,⟨t,rfl⟩,⟨t',rfl⟩⟩:=vals2 r
  refine min_two_ints (I.ok.hd hc) fun h' tk k=>⟨_,H,I.kept k,?_,q⟩
  by_cases hj:j < i
  · rw [if_pos hj,if_pos hj]; exact ⟨_,rfl⟩
  · rw [if_neg hj,if_neg hj]; exact ⟨_,rfl⟩
theorem call_str_int:CallR X (.type "str") (fun xs H Q=>∃ i,xs = [.int i]∧i.natAbs.log2 < 1920∧Q (.str (toString i)) H):=by
  intro pins s σ H xs us Q I r h
  obtain ⟨i,rfl,hz,q⟩:=h
  obtain ⟨u,rfl,t,rfl⟩:=vals1 r
  exact PySem.P.str_of_int hz ⟨.str _,H,I.tok _,⟨_,rfl⟩,q⟩
end
structure ObjM (h:Heap) (x dx C:Addr) (mA:Str→Option Value):Prop where
  obj:h.get? x = some (PySem.W.instObj C dx)
  ns:h.Ns1 dx mA
  ne:dx ≠ x
theorem lookIn_ns {h:Heap} {dx:Addr} {mA:Str→Option Value} (n:h.Ns1 dx mA):∃ od,h.get? dx = some od∧∀ name,PySem.W.lookIn name od = some (mA name):=by
  obtain ⟨o,es,ep,ho,hd,hk,_,hm⟩:=n
  refine ⟨o,ho,fun name=>?_⟩
  have e:=hm name
  unfold nsFind findBy at e
  rw [← Array.find?_toList] at e
  unfold PySem.W.lookIn
  rw [hd]
  dsimp only
  split
  · rename_i y q
    rw [q] at e
    exact congrArg some e
  · rename_i q
    rw [q] at e
    have a:es.toList.any (·.refKey) = false:=by
      rw [List.any_eq_false]
      intro y hy
      obtain ⟨z,t,hkey⟩:=hk y (Array.mem_toList_iff.mp hy)
      simp [DictEntry.refKey,hkey]
    have a':¬ es.toList.any (·.refKey) = true:=by rw [a]; exact Bool.false_ne_true
    rw [if_neg a']
    exact congrArg some e
theorem ObjM.look {h:Heap} {x dx C:Addr} {mA:Str→Option Value} (I:ObjM h x dx C mA):∃ od,PySem.W.InstAt h x (PySem.W.instObj C dx) C (some od)∧∀ name,PySem.W.lookIn name od = some (mA name):=
  let ⟨od,ho,hl⟩:=lookIn_ns I.ns
  ⟨od,⟨I.obj,rfl,rfl,ho⟩,hl⟩
section
variable {P:Program} {w:World} {H H':Hp} {h h':Heap} {a C dx:Addr} {fs fs':List (Str × V)}
theorem ins_get (hok:HOk P w H h) (e:H a = some (.ins C dx fs)):∃ mA,ObjM h a dx C mA∧(∀ f,RelO (fs.lookup f) (mA f))∧PySem.Within mA (fs.map (·.1))∧fs.length ≤ 1000∧H dx = some (.own a):=by
  obtain ⟨d,z,ne,ob,mA,n,r,q⟩:=(show ObjOk P w H h a (.ins C dx fs) from hok a _ e)
  exact ⟨mA,⟨ob,n,ne⟩,r,q,z,d⟩
end
structure Cls (K:PySem.W.Frag) (C:Addr):Prop where
  pg:PySem.W.plainGet K C Str.empty = true
  hd:PySem.W.hasDictIn K C = true
  po:PySem.W.plainOver K C = true
  sa:PySem.W.findIn K (.ref C) "__setattr__" = some (some (.builtin "object.__setattr__"))
theorem Cls.get {K:PySem.W.Frag} {C:Addr} (c:Cls K C) (f:Str):PySem.W.plainGet K C f = true:=c.pg
section
variable {X:Cx} {pins:List (Addr × Obj)} {σ:St} {H:Hp} {s:Shared} {A:Around} {E:Value→Shared→Prop} {Q:Value→Shared→Prop} {c:Value} {b:Bool}
inductive TyOf (K:PySem.W.Frag) (H:Hp):V→Value→Prop where
  | non:TyOf K H .non (.type "NoneType")
  | bl (x:Bool):TyOf K H (.bl x) (.type "bool")
  | int (i:Int):TyOf K H (.int i) (.type "int")
  | str (x:Str):TyOf K H (.str x) (.type "str")
  | flt (x:UInt64):TyOf K H (.flt x) (.type "float")
  | lst {a:Addr} {xs:List V} (e:H a = some (.lst xs)):TyOf K H (.ref a) (.type "list")
  | frz {a:Addr} {o:Obj} {xs:List V} (e:H a = some (.frz o (.lst xs))):TyOf K H (.ref a) (.type "list")
  | tup {a:Addr} {xs:List V} (e:H a = some (.tup xs)):TyOf K H (.ref a) (.type "tuple")
  | dK {a:Addr} {kvs:List (Key × V)} (e:H a = some (.dK kvs)):TyOf K H (.ref a) (.type "dict")
  | dT {a:Addr} {kvs:List (List Key × V)} (e:H a = some (.dT kvs)):TyOf K H (.ref a) (.type "dict")
  | ins {a C dx:Addr} {fs:List (Str × V)} (e:H a = some (.ins C dx fs)) (cl:Cls K C) (ha:PySem.W.findIn K (.ref C) "__class__" = some (some (.builtin "object.__class__")))
      (hn : PySem.W.specialIn K (.builtin "object.__class__") "__get__" = some (some (.builtin "getset_descriptor.__get__"))) (htk : PySem.W.takesIn K (.builtin "object.__class__") = some true)
      (hm:PySem.W.mroIn K C (.type "object") = some true):TyOf K H (.ref a) (.ref C)
theorem isinst_ok {x:V} {u t:Value} (I:Inv X pins σ H s) (rx:RelV x u) (ty:TyOf X.K H x t) (e:PySem.W.kitOne X.K t c = some b) (h:∀ tk,Q (.bool b) { s with toks:=tk }) :
    wpAny (model X.prog X.w) A (call (.builtin "isinstance") [u,c]) Q E s:=by
  cases ty with
  | non=>cases (show u = Value.none from rx); exact PySem.W.kia_one PySem.W.kitx_none I.kIn True.intro e (fun z=>nomatch z) h
  | bl y=>cases (show u = Value.bool y from rx); exact PySem.W.kia_one PySem.W.kitx_bool I.kIn True.intro e (fun z=>nomatch z) h
  | int i=>obtain ⟨t,q⟩:=(show ∃ t,u = Value.int i t from rx); cases q; exact PySem.W.kia_one PySem.W.kitx_int I.kIn True.intro e (fun z=>nomatch z) h
  | str y=>obtain ⟨t,q⟩:=(show ∃ t,u = Value.str y t from rx); cases q; exact PySem.W.kia_one PySem.W.kitx_str I.kIn True.intro e (fun z=>nomatch z) h
  | flt y=>obtain ⟨t,q⟩:=(show ∃ t,u = Value.float y t from rx); cases q; exact PySem.W.kia_one PySem.W.kitx_float I.kIn True.intro e (fun z=>nomatch z) h
  | @lst a xs ea=>
    cases (show u = Value.ref a from rx)
    obtain ⟨_,_,n,_,h1⟩:=(show ObjOk X.prog X.w H s.heap a (.lst xs) from I.hok a _ ea)
    exact PySem.W.kia_one PySem.W.kitx_list I.kIn ⟨_,h1,rfl⟩ e (fun z=>nomatch z) h
  | @frz a ob xs ea=>
    cases (show u = Value.ref a from rx)
    obtain ⟨_,_,_,n,_,h1⟩:=(show ObjOk X.prog X.w H s.heap a (.frz ob (.lst xs)) from I.hok a _ ea)
    exact PySem.W.kia_one PySem.W.kitx_list I.kIn ⟨_,h1,rfl⟩ e (fun z=>nomatch z) h
  | @tup a xs ea=>
    cases (show u = Value.ref a from rx)
    obtain ⟨_,_,_,p⟩:=(show ObjOk X.prog X.w H s.heap a (.tup xs) from I.hok a _ ea)
    obtain ⟨o,h1,h2,_⟩:=p
    exact PySem.W.kia_one PySem.W.kitx_tuple I.kIn ⟨o,h1,h2⟩ e (fun z=>nomatch z) h
  | @dK a kvs ea=>
    cases (show u = Value.ref a from rx)
    obtain ⟨_,_,vs,_,p⟩:=(show ObjOk X.prog X.w H s.heap a (.dK kvs) from I.hok a _ ea)
    obtain ⟨o,es,ep,h1,h2,_⟩:=p
    exact PySem.W.kia_one PySem.W.kitx_dict I.kIn ⟨o,h1,h2.1⟩ e (fun z=>nomatch z) h
  | @dT a kvs ea=>
    cases (show u = Value.ref a from rx)
    obtain ⟨_,_,xs,_,o,es,ep,h1,h2,_⟩:=(show ObjOk X.prog X.w H s.heap a (.dT kvs) from I.hok a _ ea)
    exact PySem.W.kia_one PySem.W.kitx_dict I.kIn ⟨o,h1,h2.1⟩ e (fun z=>nomatch z) h
  | @ins a C dx fs ea cl ha hn htk hm=>
    cases (show u = Value.ref a from rx)
    obtain ⟨mA,O,_⟩:=ins_get I.hok ea
    obtain ⟨od,J,_⟩:=O.look
    exact PySem.W.kia_one (PySem.W.kitx_own (cl.get _) cl.hd ha hn htk hm) I.kIn J e (fun z=>nomatch z) h
end
structure Room (k:Nat) (A:Around):Prop where
  hd:A.handled = none
  dp:A.depth + 3 * k + 5 < recursionLimit
  un:A.units + 16 * k + 200 < cLine
theorem Room.mono {j k:Nat} {A:Around} (r:Room k A) (h:j ≤ k):Room j A:=⟨r.hd,by have:=r.dp; omega,by have:=r.un; omega⟩
theorem Room.deeper {k:Nat} {A:Around} (r:Room (k + 1) A) (env:Env):Room k (A.deeper env):=
  ⟨r.hd,by have:=r.dp; show A.depth + 1 + 3 * k + 5 < _; omega,by have:=r.un; show A.units + 3 + 16 * k + 200 < _; omega⟩
theorem Room.depth {k:Nat} {A:Around} (r:Room k A):A.depth < recursionLimit:=by have:=r.dp; omega
theorem Room.units {k:Nat} {A:Around} (r:Room k A):A.units + 64 < cLine:=by have:=r.un; omega
def tNil:TA:=fun _ H Q=>Q [] H
def tCons (ta:TE) (tr:TA):TA:=fun σ H Q=>ta σ H fun x H1=>tr σ H1 fun xs H2=>Q (x :: xs) H2
section
variable {X:Cx} {e:Expr} {es:List Expr} {te:TE} {t:TA} {pos:Pos}
theorem pa_nil:PA X [] tNil:=fun _ _ _ _ H Q I h=>Calls.spliced_nil ⟨[],H,I,.nil,h⟩
theorem pa_cons (ha:PE X e te) (hr:PA X es t) (hs:starEach (e :: es) X.env = (false,eval e X.env) :: starEach es X.env:=by rfl):PA X (e :: es) (tCons te t):=by
  intro pos pins s σ H Q I h
  rw [hs]
  show wpAny _ _ (spliced ((false,eval e X.env) :: backTo pos (starEach es X.env))) _ _ s
  refine Calls.spliced_cons (thn (ha pins s σ H _ I h) fun u s1 ⟨x,H1,I1,r1,q1⟩=>?_)
  exact thn (hr pos pins s1 σ H1 _ I1 q1) fun us s2 ⟨xs,H2,I2,r2,q2⟩=>⟨x :: xs,H2,I2,.cons r1 r2,q2⟩
def tTup (t:TA):TE:=fun σ H Q=>t σ H fun xs H1=>xs.length ≤ sizeLine∧∀ p,H1 p = none→Q (.ref p) (upd H1 p (.tup xs))
def tLst (t:TA):TE:=fun σ H Q=>t σ H fun xs H1=>xs.length ≤ sizeLine∧∀ p,H1 p = none→Q (.ref p) (upd H1 p (.lst xs))
theorem pe_tup {x1} (h:PA X es t):PE X (.Tuple es x1 pos) (tTup t):=by
  intro pins s σ H Q I hq
  refine wpAny_Tuple_spliced (thn (h pos pins s σ H _ I hq) fun us s1 ⟨xs,H1,I1,r,z,q⟩=>⟨by rw [← r.length]; exact z,?_⟩)
  have hf:H1 s1.heap.objs.size = none:=I1.hok.fresh (Nat.le_refl _)
  refine ⟨.ref s1.heap.objs.size,upd H1 s1.heap.objs.size (.tup xs),I1.laid (t':=s1.toks) (fun b u e=>Heap.get?_push_of_some _ e) (Nat.le_refl _) ?_,rfl,q _ hf⟩
  exact ⟨z,us,r,⟨_,Heap.get?_push_size _ rfl,rfl,_,rfl⟩⟩
theorem pe_lst (h:PA X es t):PE X (.List es pos) (tLst t):=by
  intro pins s σ H Q I hq
  refine wpAny_List_spliced (thn (h pos pins s σ H _ I hq) fun us s1 ⟨xs,H1,I1,r,z,q⟩=>⟨by rw [← r.length]; exact z,?_⟩)
  have hf:H1 s1.heap.objs.size = none:=I1.hok.fresh (Nat.le_refl _)
  refine ⟨.ref s1.heap.objs.size,upd H1 s1.heap.objs.size (.lst xs),I1.laid (t':=s1.toks) (fun b u e=>Heap.get?_push_of_some _ e) (Nat.le_refl _) ?_,rfl,q _ hf⟩
  exact ⟨z,us,0,r,Heap.get?_push_size _ rfl⟩
end
abbrev Sp:=List V→Hp→VK→XK→Prop
abbrev CXT:=List Env→Hp→Shared→XK→Value→Shared→Prop
structure Env0 (P:Program) (w:World) (K:PySem.W.Frag) (mg:Str→Option Value) (base:Heap) (A:Around) (outer:List Env) (s:Shared) (H:Hp):Prop where
  frames:A.frames = some outer
  mod:Mod K mg base
  bs:∀ b o,base.get? b = some o→s.heap.get? b = some o∧H b = none
  bsz:base.objs.size ≤ s.heap.objs.size
  funs:s.heap.FunFrames base outer
  frf:∀ b ∈ frs outer,H b = none
  hok:HOk P w H s.heap
  bare:AllBare s.gens
def CE (outer:List Env) (P:Program) (w:World) (H:Hp) (s:Shared) (Q:VK) (u:Value) (s':Shared):Prop:=
  ∃ v H',s'.os = s.os∧AllBare s'.gens∧Un (frs outer) [] H H' s.heap s'.heap∧HOk P w H' s'.heap∧RelV v u∧Q v H'
def CR (CX:CXT) (outer:List Env) (P:Program) (w:World) (H:Hp) (s:Shared) (Q:VK) (E:XK) (r:Result) (s':Shared):Prop:=
  match r with
  | .ok (.ret u)=>CE outer P w H s Q u s'
  | .ok _=>False
  | .error e=>CX outer H s E e s'
structure FnOk (P:Program) (w:World) (K:PySem.W.Frag) (mg:Str→Option Value) (base:Heap) (CX:CXT) (k:Nat) (f:Addr) (fd:FuncData) (ps:List Str) (sp:Sp):Prop where
  len:∀ vs H Q E,sp vs H Q E→vs.length = ps.length
  run:∀ (A:Around) (outer:List Env) (s:Shared) (H:Hp) (args:Args) (us:List Value) (vs:List V) (Q:VK) (E:XK),Room k A→Env0 P w K mg base A outer s H→BindsTo s fd args (ps.zip us)→Vals vs us→sp vs H Q E→
    codeAny (model P w) A (.call (.ref f) args) (CR CX outer P w H s Q E) s
section
variable {X:Cx} {pins:List (Addr × Obj)} {σ:St} {H:Hp} {s s':Shared}
theorem Inv.env0 (I:Inv X pins σ H s):Env0 X.prog X.w X.K X.mg X.base X.A X.stack s H:=
  ⟨I.ok.frames,I.ok.mod,I.bs,Nat.le_trans I.ok.bsz I.sz,I.stack,I.stkFree,I.hok,I.bare⟩
theorem Inv.after {Q:VK} {u:Value} (I:Inv X pins σ H s) (h:CE X.stack X.prog X.w H s Q u s'):EP X pins σ Q u s':=by
  obtain ⟨v,H',os,bare,un,hok,r,q⟩:=h
  obtain ⟨hh,g,d,t,os'⟩:=s'
  obtain rfl:os' = s.os:=os
  exact ⟨v,H',I.call (h':=hh) (g':=g) (d':=d) (t':=t) (ch:=[]) un hok bare (fun b z=>absurd z (by simp)),r,q⟩
end
def tCall (sp:Sp) (dvs:List V) (E:XK) (t:TA):TE:=fun σ H Q=>t σ H fun vs H1=>sp (vs ++ dvs) H1 Q E
def Binds (K:PySem.W.Frag) (fd:FuncData) (ps:List Str) (ds:List Value):Prop:=
  ∀ (s:Shared) (us:List Value),K.In s.heap→(us ++ ds).length = ps.length→BindsTo s fd ⟨us,[]⟩ (ps.zip (us ++ ds))
theorem Binds.all {K:PySem.W.Frag} {fd:FuncData} {ps:List Str} (h:∀ us:List Value,us.length = ps.length→bindArgs fd ⟨us,[]⟩ = pure (ps.zip us)):Binds K fd ps []:=fun s us _ hl=>by
  rw [List.append_nil] at hl ⊢
  exact .of_eq (h us hl)
def Passes (CX:CXT) (X:Cx) (E:XK):Prop:=∀ (pins:List (Addr × Obj)) (σ:St) (H:Hp) (s:Shared) (e:Value) (s':Shared),Inv X pins σ H s→CX X.stack H s E e s'→X.xe e s'
section
variable {X:Cx} {CX:CXT} {k:Nat} {f C:Addr} {fd:FuncData} {ps:List Str} {sp:Sp} {dvs:List V} {ds:List Value} {E:XK} {x m:Str} {p pos apos:Pos} {e o:Expr} {es:List Expr} {ta:TE} {t:TA}
theorem run_fn {pins:List (Addr × Obj)} {σ:St} {H:Hp} {s:Shared} {Q:VK} {us:List Value} {vs:List V} (F:FnOk X.prog X.w X.K X.mg X.base CX k f fd ps sp) (hr:Room k X.A) (hb:Binds X.K fd ps ds) (hd:Vals dvs ds) (hx:Passes CX X E)
    (I:Inv X pins σ H s) (r:Vals vs us) (h:sp (vs ++ dvs) H Q E):wpAny (model X.prog X.w) X.A (call (.ref f) us) (EP X pins σ Q) X.xe s:=by
  have r2:Vals (vs ++ dvs) (us ++ ds):=r.append hd
  have hl:(us ++ ds).length = ps.length:=by rw [← r2.length]; exact F.len _ _ _ _ h
  refine wpAny_call (codeAny_mono (F.run X.A X.stack s H ⟨us,[]⟩ (us ++ ds) (vs ++ dvs) Q E hr I.env0 (hb s us I.kIn hl) r2 h) fun r s' hq=>?_)
  cases r with
  | error e=>exact hx pins σ H s e s' I hq
  | ok fl=>
    cases fl with
    | ret u=>exact I.after hq
    | next=>exact False.elim hq
    | brk=>exact False.elim hq
    | cont=>exact False.elim hq
theorem pe_call (F:FnOk X.prog X.w X.K X.mg X.base CX k f fd ps sp) (hr:Room k X.A) (hg:Gl X x) (hm:X.mg x = some (.ref f)) (hk:PySem.W.keepIn X.K (.ref f) = true) (hb:Binds X.K fd ps ds) (hd:Vals dvs ds) (hx:Passes CX X E)
    (ha:PA X (e :: es) t) (hdb:(x == ("__debug__":Str)) = false:=by decide) (he:starEach (e :: es) X.env = (false,eval e X.env) :: starEach es X.env:=by rfl) (hpl:(backTo pos (starEach es X.env)).any (·.1) = false:=by rfl) :
    PE X (.Call (.Name x p) (e :: es) [] pos) (tCall sp dvs E t):=by
  intro pins s σ H Q I h
  refine wpAny_Call_Name_kw (ld_glob I hg hm ?_ hdb)
  refine PySem.W.callWith_K (h₀:=X.base) I.ok.mod.kin hk (thn (ha pos pins s σ H _ I h) fun us s1 ⟨vs,H1,I1,r,q⟩=>⟨I1.kIn,?_⟩) he hpl
  exact run_fn F hr hb hd hx I1 r q
end
structure FnScope (N P:List Str) (sc:Scope):Prop where
  kind:sc.kind = .function
  co:sc.isCoroutine = false
  gen:sc.isGenerator = false
  nd:N.Nodup
  pre:N.take P.length = P
  par:∀ x ∈ P,sc.names.lookup x = some .local ∨ sc.names.lookup x = some .cell
  nofree:∀ y ∈ sc.names,y.2 ≠ .free
theorem bindL_out {kindOf:Str→Option NameKind} {x:Str}:∀ {binds:List (Str × Value)} {m:Str→Option Value},(∀ v,(x,v) ∉ binds)→bindL kindOf binds m x = m x
  | [],_,_=>rfl
  | (n,v) :: r,m,h=>by
    unfold bindL
    rw [bindL_out fun w hw=>h w (List.mem_cons_of_mem _ hw)]
    split
    · have:x ≠ n:=by rintro rfl; exact h v List.mem_cons_self
      simp [this]
    · rfl
theorem bindC_out {kindOf:Str→Option NameKind} {x:Str}:∀ {binds:List (Str × Value)} {m:Str→Option Value},(∀ v,(x,v) ∉ binds)→bindC kindOf binds m x = m x
  | [],_,_=>rfl
  | (n,v) :: r,m,h=>by
    unfold bindC
    rw [bindC_out fun w hw=>h w (List.mem_cons_of_mem _ hw)]
    split
    · rfl
    · have:x ≠ n:=by rintro rfl; exact h v List.mem_cons_self
      simp [this]
theorem bindL_get {kindOf:Str→Option NameKind} {x:Str} {v:Value}:∀ {P:List Str} {vs:List Value} {i:Nat} {m:Str→Option Value},P.Nodup→P[i]? = some x→vs[i]? = some v→kindOf x = some .local→
    bindL kindOf (P.zip vs) m x = some v
  | [],_,_,_,_,h,_,_=>by simp at h
  | _ :: _,[],_,_,_,_,h,_=>by simp at h
  | p :: P,w :: vs,0,m,nd,h1,h2,hk=>by
    simp at h1 h2; subst h1; subst h2
    show bindL kindOf ((p,w) :: P.zip vs) m p = _
    unfold bindL
    rw [bindL_out fun v hv=>(List.nodup_cons.mp nd).1 (List.of_mem_zip hv).1,if_pos hk]
    simp
  | p :: P,w :: vs,i + 1,m,nd,h1,h2,hk=>by
    show bindL kindOf ((p,w) :: P.zip vs) m x = _
    unfold bindL
    exact bindL_get (i:=i) (List.nodup_cons.mp nd).2 (by simpa using h1) (by simpa using h2) hk
theorem bindC_get {kindOf:Str→Option NameKind} {x:Str} {v:Value}:∀ {P:List Str} {vs:List Value} {i:Nat} {m:Str→Option Value},P.Nodup→P[i]? = some x→vs[i]? = some v→kindOf x ≠ some .local→
    bindC kindOf (P.zip vs) m x = some v
  | [],_,_,_,_,h,_,_=>by simp at h
  | _ :: _,[],_,_,_,_,h,_=>by simp at h
  | p :: P,w :: vs,0,m,nd,h1,h2,hk=>by
    simp at h1 h2; subst h1; subst h2
    show bindC kindOf ((p,w) :: P.zip vs) m p = _
    unfold bindC
    rw [bindC_out fun v hv=>(List.nodup_cons.mp nd).1 (List.of_mem_zip hv).1,if_neg hk]
    simp
  | p :: P,w :: vs,i + 1,m,nd,h1,h2,hk=>by
    show bindC kindOf ((p,w) :: P.zip vs) m x = _
    unfold bindC
    exact bindC_get (i:=i) (List.nodup_cons.mp nd).2 (by simpa using h1) (by simpa using h2) hk
def start (N:List Str) (vs:List V):St:=vs.map some ++ List.replicate (N.length - vs.length) none
def cxOf (CX:CXT) (P:Program) (w:World) (K:PySem.W.Frag) (mg:Str→Option Value) (base:Heap) (N:List Str) (qual:Str) (scope:Scope) (f:Addr) (cd:Value) (A:Around) (outer:List Env) (s:Shared) (H:Hp) (E:XK):Cx where
  prog:=P
  w:=w
  K:=K
  mg:=mg
  base:=base
  A:=A.deeper (envOfC qual scope s.heap.objs.size f cd)
  N:=N
  s₀:=s
  H₀:=H
  env:=envOfC qual scope s.heap.objs.size f cd
  outer:=outer
  stack:=envOfC qual scope s.heap.objs.size f cd :: outer
  ex:=[]
  calm:=true
  fn:=fun _=>true
  pn:=[]
  xe:=fun e s'=>wpAny (model P w) (A.deeper (envOfC qual scope s.heap.objs.size f cd)) (leaving (envOfC qual scope s.heap.objs.size f cd) e) (fun _ s''=>CX outer H s E e s'') (fun e' s''=>CX outer H s E e' s'') s'
theorem cell_has {sc:Scope} {n:Nat} {x:Str} (h:sc.names.lookup x = some .cell):∃ c,(cellsFrom n sc.names []).lookup x = some c:=by
  have q:=PySem.W.cellsFrom_some sc.names n [] (.inl h)
  exact Option.isSome_iff_exists.mp q
theorem inv_start {CX:CXT} {P:Program} {w:World} {K:PySem.W.Frag} {mg:Str→Option Value} {base:Heap} {N ps:List Str} {qual:Str} {scope:Scope} {f:Addr} {cd:Value} {A:Around} {outer:List Env} {s s1:Shared} {H:Hp} {E:XK} {us:List Value} {vs:List V}
    (S:FnScope N ps scope) (hd:A.handled = none) (e0:Env0 P w K mg base A outer s H) (hl:vs.length = ps.length) (r:Vals vs us)
    (x:InCallC s s.heap.objs.size (bindL (envOfC qual scope s.heap.objs.size f cd).kindOf (ps.zip us) fun _=>none) (cellsFrom (s.heap.objs.size + 1) scope.names []) (bindC (envOfC qual scope s.heap.objs.size f cd).kindOf (ps.zip us) fun _=>none) s1) :
    Inv (cxOf CX P w K mg base N qual scope f cd A outer s H E) [] (start N vs) H s1:=by
  have hpl:ps.length ≤ N.length:=by have:=congrArg List.length S.pre; rw [List.length_take] at this; omega
  obtain ⟨h1,tk,rfl,hk⟩:=x.done
  have noA:∀ b:Addr,b ∉ (cxOf CX P w K mg base N qual scope f cd A outer s H E).ex:=fun b z=>absurd (show b ∈ ([]:List Addr) from z) (by simp)
  refine ⟨⟨e0.mod,S.kind,rfl,rfl,Nat.le_refl _,fun y z c h1 h2=>?_,fun y hy=>?_,fun y c _ h=>?_,fun _=>hd,Around.frames_deeper e0.frames,.inr ⟨rfl,rfl⟩,fun b z=>absurd z (noA b),e0.bs,e0.bsz,fun b _ _=>noA b,fun b z=>absurd z (noA b),e0.funs,e0.frf⟩,
    rfl,e0.bare,Un.kept hk,⟨_,x.toInCall.ns,fun i y v h1 h2 h3=>?_⟩,fun y c h=>⟨_,x.cell y c h⟩,e0.hok.fresh (Nat.le_refl _),fun y c h=>?_,fun p hp=>absurd (show p ∈ ([]:List (Addr × Obj)) from hp) (by simp),e0.hok.kept hk,?_⟩
  · exact name_of_addr x.apart (PySem.mem_of_lookup h1) (PySem.mem_of_lookup h2)
  · have hy:scope.names.lookup y = some .cell ∨ scope.names.lookup y = some .free:=hy
    rcases hy with hy | hy
    · exact cell_has hy
    · exact absurd rfl (S.nofree _ (PySem.mem_of_lookup hy))
  · exact Nat.le_of_lt (x.above y c (PySem.mem_of_lookup h))
  · have hi:i < vs.length:=by
      unfold start at h2
      by_cases hi:i < vs.length
      · exact hi
      · rw [List.getElem?_append_right (by simpa using hi)] at h2
        rw [List.getElem?_replicate] at h2
        split at h2 <;> cases h2
    have ha:vs[i]? = some v:=by
      unfold start at h2
      rw [List.getElem?_append_left (by simpa using hi),List.getElem?_map] at h2
      cases e:vs[i]? with
      | none=>rw [e] at h2; cases h2
      | some a=>rw [e] at h2; cases h2; rfl
    obtain ⟨u,hu,rv⟩:=r.get ha
    have hp:ps[i]? = some y:=by
      rw [← S.pre,List.getElem?_take_of_lt (by omega)]; exact h1
    have ndP:ps.Nodup:=by rw [← S.pre]; exact S.nd.sublist (List.take_sublist _ _)
    refine ⟨u,rv,?_⟩
    rcases S.par y (List.mem_of_getElem? hp) with k | k
    · exact .inl ⟨k,bindL_get ndP hp hu k⟩
    · obtain ⟨c,e⟩:=cell_has (n:=s.heap.objs.size + 1) k
      refine .inr ⟨.inl k,c,e,?_⟩
      have q:=x.cell y c e
      rw [bindC_get ndP hp hu (by show scope.names.lookup y ≠ _; rw [k]; decide)] at q
      exact q
  · exact e0.hok.fresh (Nat.le_of_lt (x.above y c (PySem.mem_of_lookup h)))
  · unfold start
    show _ = N.length
    rw [List.length_append,List.length_map,List.length_replicate]
    omega
theorem fn_of {CX:CXT} {P:Program} {w:World} {K:PySem.W.Frag} {mg:Str→Option Value} {base:Heap} {k:Nat} {f:Addr} {name qual:Str} {params:Arguments} {body:List Stmt} {scope:Scope} {dV kV doc pm cdv ct oc:Value} {an od:Option Addr}
    {osl:Array (Option Value)} {N ps:List Str} {sp:Sp} (lk:K.lookup f = some ⟨oc,od,.func (PySem.W.fnOf name qual params body scope dV kV doc pm an cdv ct),osl⟩) (hcd:PySem.W.codeIn K cdv qual = true) (S:FnScope N ps scope)
    (len:∀ vs H Q E,sp vs H Q E→vs.length = ps.length)
    (hbody:∀ (A:Around) (outer:List Env) (s:Shared) (H:Hp) (vs:List V) (Q:VK) (E:XK),Room k (A.deeper (envOfC qual scope s.heap.objs.size f cdv))→sp vs H Q E→
      ∃ t,PSs (cxOf CX P w K mg base N qual scope f cdv A outer s H E) body t∧t { nx:=fun _ H'=>Q .non H',rt:=Q } (start N vs) H) :
    FnOk P w K mg base CX (k + 1) f (PySem.W.fnOf name qual params body scope dV kV doc pm an cdv ct) ps sp:=by
  refine ⟨len,fun A outer s H args us vs Q E hr e0 hb r hsp=>?_⟩
  have hl:=len _ _ _ _ hsp
  have KX:K.In s.heap:=e0.mod.kin.keeps fun b o e=>(e0.bs b o e).1
  have lim:s.heap.NoLimit:=e0.mod.nolimit.keeps fun b o e=>(e0.bs b o e).1
  have hkind:∀ y ∈ ps.zip us,scope.names.lookup y.1 = some .local ∨ (scope.names.lookup y.1 = some .cell∧((cellsFrom (s.heap.objs.size + 1) scope.names []).lookup y.1).isSome = true):=fun ⟨n,v⟩ hy=>by
    rcases S.par n (List.of_mem_zip hy).1 with q | q
    · exact .inl q
    · exact .inr ⟨q,PySem.W.cellsFrom_some _ _ _ (.inl q)⟩
  refine codeAny_call_function hr.depth (KX _ _ lk) rfl S.co S.gen rfl (PySem.W.codeRec_of KX hcd) (hb _ _ _ _ ?_)
  refine wpAny_newFunctionEnv_cells S.kind hkind fun env he s1 x=>?_
  subst he
  refine ⟨lim.keeps x.toInCall.keep,codeAny_func ?_⟩
  obtain ⟨t,ht,hq⟩:=hbody A outer s H vs Q E (hr.deeper _) hsp
  have I:Inv (cxOf CX P w K mg base N qual scope f cdv A outer s H E) [] (start N vs) H s1:=inv_start S hr.hd e0 hl r x
  refine wpAny_mono (ht [] s1 (start N vs) H _ I hq) (fun fl s' hs=>?_) fun e s' hs=>hs
  have fin:∀ {σ':St} {H':Hp} {v:V} {u:Value},Inv (cxOf CX P w K mg base N qual scope f cdv A outer s H E) [] σ' H' s'→RelV v u→Q v H'→CE outer P w H s Q u s':=
    fun {σ' H' v u} J rv q=>⟨v,H',J.os,J.bare,J.base,J.hok,rv,q⟩
  cases fl with
  | ret u=>
    obtain ⟨v,σ',H',J,rv,q⟩:=hs
    exact fin J rv q
  | next=>
    obtain ⟨σ',H',J,q⟩:=hs
    exact fin (v:=V.non) (u:=Value.none) J rfl q
  | brk=>
    obtain ⟨_,_,_,q⟩:=hs
    exact False.elim q
  | cont=>
    obtain ⟨_,_,_,q⟩:=hs
    exact False.elim q
section
variable {X:Cx} {x:Str} {p pos:Pos} {e:Expr} {es:List Expr} {t:TA} {id T:String} {r:List V→Hp→VK→Prop}
def tCB (r:List V→Hp→VK→Prop) (t:TA):TE:=fun σ H Q=>t σ H fun vs H1=>r vs H1 Q
theorem pe_callB (hc : CallR X (.builtin id) r) (hg : Gl X x) (hm : X.mg x = none) (hv : bootBuiltins x = some (.builtin id)) (ha : PA X (e :: es) t) (hn : x ≠ "__name__" := by decide) (hdb : (x == ("__debug__" : Str)) = false := by decide)
    (he:starEach (e :: es) X.env = (false,eval e X.env) :: starEach es X.env:=by rfl) (hpl:(backTo pos (starEach es X.env)).any (·.1) = false:=by rfl):PE X (.Call (.Name x p) (e :: es) [] pos) (tCB r t):=by
  intro pins s σ H Q I h
  refine wpAny_Call_Name_kw (ld_blt I hg hm hv ?_ hn hdb)
  exact PyProof.Rows.callWith_builtin1 (thn (ha pos pins s σ H _ I h) fun us s1 ⟨vs,H1,I1,r1,q1⟩=>hc pins s1 σ H1 vs us Q I1 r1 q1) he hpl
theorem pe_callTy (hc : CallR X (.type T) r) (hg : Gl X x) (hm : X.mg x = none) (hv : bootBuiltins x = some (.type T)) (ha : PA X (e :: es) t) (hn : x ≠ "__name__" := by decide) (hdb : (x == ("__debug__" : Str)) = false := by decide)
    (he:starEach (e :: es) X.env = (false,eval e X.env) :: starEach es X.env:=by rfl) (hpl:(backTo pos (starEach es X.env)).any (·.1) = false:=by rfl):PE X (.Call (.Name x p) (e :: es) [] pos) (tCB r t):=by
  intro pins s σ H Q I h
  refine wpAny_Call_Name_kw (ld_blt I hg hm hv ?_ hn hdb)
  exact PyProof.Rows.callWith_type1 (thn (ha pos pins s σ H _ I h) fun us s1 ⟨vs,H1,I1,r1,q1⟩=>hc pins s1 σ H1 vs us Q I1 r1 q1) he hpl
end
end L2
namespace HT
open PySem PyProof.Rows
section
open PySem.SeqAt
open PySem.AutoSeq1 (wpAny_loadPart')
open PySem.MeetsSeq PySem.MeetsSeq2 PySem.MeetsSeq3
end
section
variable {prog:Program} {w:World} {A:Around} {E:Value→Shared→Prop} {s:Shared}
theorem cat_tup {t b:Addr} {vs ws:List Value} {Q:Value→Shared→Prop} (ht:IsTup s.heap t vs.toArray) (hb:IsTup s.heap b ws.toArray) (hv:vs ≠ [])
    (h1:ws = []→Q (.ref t) s) (h2:ws ≠ []→Q (.ref s.heap.objs.size) { s with heap:=s.heap.push { cls:=.type "tuple",data:=.seq (vs ++ ws).toArray } })
    (hsz:vs.length + ws.length ≤ sizeLine):wpAny (model prog w) A (binaryOp .Add (.ref t) (.ref b)) Q E s:=by
  obtain ⟨⟨cls,dd,data,sl⟩,ho,hc,n,hd⟩:=id ht
  obtain ⟨⟨cls2,dd2,data2,sl2⟩,ho2,hc2,n2,hd2⟩:=id hb
  simp only at hc hd hc2 hd2
  subst hc hd hc2 hd2
  have e:vs.toArray ++ ws.toArray = (vs ++ ws).toArray:=by simp
  by_cases hw:ws = []
  · exact concat_meets ⟨_,ho,rfl⟩ ⟨_,ho2,rfl⟩ noFill_tuple_add seq_tuple_add PySem.F.slot_tuple_add PySem.F.entry_tuple_add (PySem.F.args_tuple_add_2 _ _)
      (tuple_addW1 t b vs.toArray ws.toArray n n2 dd dd2 sl sl2 (by simpa using hv) (by simp [hw])) ⟨ho,ho2,h1 hw⟩
  · refine concat_meets ⟨_,ho,rfl⟩ ⟨_,ho2,rfl⟩ noFill_tuple_add seq_tuple_add PySem.F.slot_tuple_add PySem.F.entry_tuple_add (PySem.F.args_tuple_add_2 _ _)
      (tuple_addW2 t b vs.toArray ws.toArray n n2 dd dd2 sl sl2 (by simpa using hv) (by simpa using hw) (by rw [List.size_toArray,List.size_toArray]; exact hsz)) ⟨ho,ho2,?_⟩
    rw [e]
    exact h2 hw
def sIx (n d:Nat):Option Int→Nat
  | none=>d
  | some v=>if v < 0 then (v + (n:Int)).toNat else min v.toNat n
theorem sIx_none (n d:Nat):sIx n d none = d:=rfl
theorem sIx_nat (n d k:Nat):sIx n d (some (k:Int)) = min k n:=by
  show (if (k:Int) < 0 then ((k:Int) + (n:Int)).toNat else min (k:Int).toNat n) = min k n
  rw [if_neg (by omega),Int.toNat_natCast]
end
end HT
namespace L2
open PySem PySem.Spec PyProof.Rows
abbrev TO:=St→Hp→(Option Int→Hp→Prop)→Prop
def PO (X:Cx) (e:Option Expr) (t:TO):Prop:=
  ∀ (pins:List (Addr × Obj)) (s:Shared) (σ:St) (H:Hp) (Q:Option Int→Hp→Prop),Inv X pins σ H s→t σ H Q→
    wpAny (model X.prog X.w) X.A (evalPart e X.env) (fun u s'=>∃ o H',Inv X pins σ H' s'∧IsPart u o∧Q o H') X.xe s
def tNoPart:TO:=fun _ H Q=>Q none H
def tPart (t:TE):TO:=fun σ H Q=>t σ H fun x H1=>∃ i,x = .int i∧Q (some i) H1
section
variable {X:Cx} {e:Expr} {te:TE} {lo hi:Option Expr} {tl th:TO} {pos p2:Pos}
theorem po_none:PO X none tNoPart:=by
  intro pins s σ H Q I h
  rw [evalPart_none]
  exact wpAny_pure ⟨none,H,I,.none,h⟩
theorem po_some (h:PE X e te):PO X (some e) (tPart te):=by
  intro pins s σ H Q I hw
  rw [evalPart_some]
  refine thn (h pins s σ H _ I hw) fun u s1 ⟨x,H1,I1,r1,q1⟩=>?_
  obtain ⟨i,rfl,q⟩:=q1
  obtain ⟨t,rfl⟩:=r1
  exact ⟨some i,H1,I1,.int i t,q⟩
def SlR (X:Cx) (r:V→Option Int→Option Int→Hp→VK→Prop):Prop:=
  ∀ (pins:List (Addr × Obj)) (s:Shared) (σ:St) (H:Hp) (x:V) (v vl vu:Value) (lo hi:Option Int) (sl:Addr) (Q:VK),Inv X pins σ H s→RelV x v→s.heap.IsSliceOf sl vl vu .none→IsPart vl lo→IsPart vu hi→r x lo hi H Q→
    ∃ T id,typeLookup (.type T) "__getitem__" = pure (some (.builtin id))∧s.TypeIs v T∧wpAny (model X.prog X.w) X.A (getItem v (.ref sl)) (EP X pins σ Q) X.xe s
def tSl (r:V→Option Int→Option Int→Hp→VK→Prop) (te:TE) (tl th:TO):TE:=fun σ H Q=>te σ H fun x H1=>tl σ H1 fun l H2=>th σ H2 fun u H3=>r x l u H3 Q
theorem pe_slice {r:V→Option Int→Option Int→Hp→VK→Prop} (hr:SlR X r) (he:PE X e te) (hl:PO X lo tl) (hu:PO X hi th):PE X (.Subscript e (.Slice lo hi none p2) pos) (tSl r te tl th):=by
  intro pins s σ H Q I h
  refine Subscript_ (thn (he pins s σ H _ I h) fun v s1 ⟨x,H1,I1,r1,q1⟩=>?_)
  refine wpAny_Slice (thn (hl pins s1 σ H1 _ I1 q1) fun vl s2 ⟨l,H2,I2,pl,q2⟩=>thn (hu pins s2 σ H2 _ I2 q2) fun vu s3 ⟨u,H3,I3,pu,q3⟩=>?_)
  rw [evalPart_none]
  refine wpAny_pure ?_
  have I4:Inv X pins σ H3 { s3 with heap:=s3.heap.push { cls:=.type "slice",data:=.fields #[vl,vu,.none] } }:=I3.kept (t':=s3.toks) fun b ob q=>Heap.get?_push_of_some _ q
  obtain ⟨T,id,hT,ht,hg⟩:=hr pins { s3 with heap:=s3.heap.push { cls:=.type "slice",data:=.fields #[vl,vu,.none] } } σ H3 x v vl vu l u s3.heap.objs.size Q I4 r1 (Heap.IsSliceOf.new ..) pl pu q3
  show wpAny (model X.prog X.w) X.A (subscriptTail e (.Slice lo hi none p2) v (.ref s3.heap.objs.size)) (EP X pins σ Q) X.xe { s3 with heap:=s3.heap.push { cls:=.type "slice",data:=.fields #[vl,vu,.none] } }
  exact tail_any (ops:=[.ref s3.heap.objs.size,v]) ht hT hg (by with_unfolding_all rfl)
def cutV (xs:List V) (lo hi:Option Int):List V:=(xs.drop (HT.sIx xs.length 0 lo)).take (HT.sIx xs.length xs.length hi - HT.sIx xs.length 0 lo)
theorem cutV_length (xs:List V) (lo hi:Option Int):(cutV xs lo hi).length ≤ xs.length:=by
  unfold cutV
  rw [List.length_take,List.length_drop]
  omega
def rCatT (K:PySem.W.Frag):R2:=fun x y H Q=>∃ a b xs ys,x = .ref a∧y = .ref b∧SqT K H a xs∧SqT K H b ys∧xs ≠ []∧xs.length + ys.length ≤ sizeLine∧
  (ys = []→Q (.ref a) H)∧(ys ≠ []→∀ p,H p = none→Q (.ref p) (upd H p (.tup (xs ++ ys))))
theorem Vals.nil_iff {xs:List V} {us:List Value} (r:Vals xs us):us = [] ↔ xs = []:=by
  cases r with
  | nil=>simp
  | cons _ _=>simp
theorem op_catT:OpR X (binaryOp .Add) (rCatT X.K):=by
  intro pins s σ H x y v u Q I rx ry h
  obtain ⟨a,b,xs,ys,rfl,rfl,ha,hb,hx,hz,q1,q2⟩:=h
  cases rx
  cases ry
  obtain ⟨its,r1,p1,_⟩:=I.tuple ha
  obtain ⟨its2,r2,p2,_⟩:=I.tuple hb
  refine HT.cat_tup p1 p2 (fun z=>hx (r1.nil_iff.mp z)) (fun z=>⟨.ref a,H,I,rfl,q1 (r2.nil_iff.mp z)⟩) (fun z=>?_) (by rw [← r1.length,← r2.length]; exact hz)
  refine ⟨.ref s.heap.objs.size,_,I.laid (t':=s.toks) (o:=.tup (xs ++ ys)) (fun b ob q=>Heap.get?_push_of_some _ q) (Nat.le_refl _) ?_,rfl,q2 (fun w=>z (r2.nil_iff.mpr w)) _ (I.hok.fresh (Nat.le_refl _))⟩
  exact ⟨by rw [List.length_append]; exact hz,_,r1.append r2,IsTup.new _ _⟩
end
def ixN (n:Nat) (i:Int):Option Nat:=if 0 ≤ i then (if i < n then some i.toNat else none) else if -(n:Int) ≤ i then some (i + n).toNat else none
def atI {α:Type} (xs:List α) (i:Int):Option α:=(ixN xs.length i).bind fun j=>xs[j]?
theorem ixN_seq {n:Nat} {i:Int} {j:Nat} (h:ixN n i = some j):seqIndex? i n = some j∧j < n∧-(n:Int) ≤ i∧i < n:=by
  unfold ixN at h
  by_cases h0:0 ≤ i
  · rw [if_pos h0] at h
    by_cases h1:i < n
    · rw [if_pos h1] at h
      have e:i.toNat = j:=Option.some.inj h
      exact ⟨by rw [seqIndex_of h0 h1,e],by omega,by omega,h1⟩
    · rw [if_neg h1] at h; cases h
  · rw [if_neg h0] at h
    by_cases h1:-(n:Int) ≤ i
    · rw [if_pos h1] at h
      have e:(i + n).toNat = j:=Option.some.inj h
      exact ⟨by rw [seqIndex_neg (by omega) h1,e],by omega,h1,by omega⟩
    · rw [if_neg h1] at h; cases h
theorem atI_get {α:Type} {xs:List α} {i:Int} {v:α} (h:atI xs i = some v):∃ j,seqIndex? i xs.length = some j∧xs[j]? = some v∧j < xs.length∧-(xs.length:Int) ≤ i∧i < xs.length:=by
  unfold atI at h
  cases e:ixN xs.length i with
  | none=>rw [e] at h; cases h
  | some j=>
    rw [e] at h
    obtain ⟨h1,h2,h3,h4⟩:=ixN_seq e
    exact ⟨j,h1,h,h2,h3,h4⟩
theorem atI_nat {α:Type} {xs:List α} {j:Nat} {v:α} (h:xs[j]? = some v):atI xs (j:Int) = some v:=by
  have hj:j < xs.length:=(List.getElem?_eq_some_iff.mp h).1
  have e:ixN xs.length (j:Int) = some j:=by
    unfold ixN
    rw [if_pos (by omega),if_pos (by omega)]; simp
  unfold atI; rw [e]; exact h
def PlainIx (b:Expr):Prop:=∀ o i,subscripted b false o i = operate [o,i] (getItem o i)
def IxR (X:Cx) (r:R2):Prop:=
  ∀ (value slice:Expr) (pins:List (Addr × Obj)) (s:Shared) (σ:St) (H:Hp) (x y:V) (v u:Value) (Q:VK),Inv X pins σ H s→RelV x v→RelV y u→r x y H Q→
    subscripted slice false v u = operate [v,u] (getItem v u)→wpAny (model X.prog X.w) X.A (subscriptTail value slice v u) (EP X pins σ Q) X.xe s
def MtR (X:Cx) (id:String) (r:V→List V→Hp→VK→Prop):Prop:=
  ∀ (pins:List (Addr × Obj)) (s:Shared) (σ:St) (H:Hp) (x:V) (xs:List V) (v:Value) (us:List Value) (Q:VK),Inv X pins σ H s→RelV x v→Vals xs us→r x xs H Q→
    wpAny (model X.prog X.w) X.A (call (.builtin id) (v :: us)) (EP X pins σ Q) X.xe s
section
variable {X:Cx} {a b:Expr} {ta tb:TE} {pos:Pos}
theorem pe_ix {r:R2} (hr:IxR X r) (ha:PE X a ta) (hb:PE X b tb) (hs:PlainIx b):PE X (.Subscript a b pos) (tOp r ta tb):=by
  intro pins s σ H Q I h
  exact Subscript_ (binT ha hb I h fun v u s2 x y H2 I2 rx ry q=>hr a b pins s2 σ H2 x y v u Q I2 rx ry q (hs _ _))
def rIxL (K:PySem.W.Frag):R2:=fun x y H Q=>∃ p xs i v,x = .ref p∧y = .int i∧SqL K H p xs∧atI xs i = some v∧Q v H
def rIxT (K:PySem.W.Frag):R2:=fun x y H Q=>∃ p xs i v,x = .ref p∧y = .int i∧SqT K H p xs∧atI xs i = some v∧Q v H
def rIxS:R2:=fun x y H Q=>∃ z i c,x = .str z∧y = .int i∧z.length ≤ sizeLine∧atI z.cps.toList i = some c∧Q (.str ⟨#[c]⟩) H
theorem ix_list:IxR X (rIxL X.K):=by
  intro value slice pins s σ H x y v u Q I rx ry h hs
  obtain ⟨p,xs,i,z,rfl,rfl,hq,he,q⟩:=h
  cases rx
  obtain ⟨t,rfl⟩:=ry
  obtain ⟨its,r,pl,hz⟩:=I.list hq
  obtain ⟨j,h1,h2,h3,h4,h5⟩:=atI_get he
  obtain ⟨w,ew,rw'⟩:=r.get h2
  have hl:=r.length
  have hn:=line63
  have fin:EP X pins σ Q w s:=⟨z,H,I,rw',q⟩
  by_cases h0:0 ≤ i
  · have hj:i.toNat = j:=by
      rw [seqIndex_of h0 h5] at h1
      exact Option.some.inj h1
    exact item_listR pl.isList h0 (by omega) (by rw [hj]; simpa using ew) fin hs
  · have hj:(i + (its.toArray.size:Int)).toNat = j:=by
      rw [seqIndex_neg (by omega) h4] at h1
      rw [List.size_toArray,← hl]
      exact Option.some.inj h1
    exact subscriptTail_builtinR (x:=w) pl.isList.typeIs slot_list_getitem.lookup
      (wpAny_getItem_list_neg (Q:=fun r s'=>r = w∧EP X pins σ Q r s') pl.isList (by omega) (by rw [List.size_toArray] <;> omega) (by omega) (by rw [hj]; simpa using ew) ⟨rfl,fin⟩) hs
theorem ix_tup:IxR X (rIxT X.K):=by
  intro value slice pins s σ H x y v u Q I rx ry h hs
  obtain ⟨p,xs,i,z,rfl,rfl,hq,he,q⟩:=h
  cases rx
  obtain ⟨t,rfl⟩:=ry
  obtain ⟨its,r,pl,hz⟩:=I.tuple hq
  obtain ⟨j,h1,h2,h3,h4,h5⟩:=atI_get he
  obtain ⟨w,ew,rw'⟩:=r.get h2
  have hl:=r.length
  have hn:=line63
  have fin:EP X pins σ Q w s:=⟨z,H,I,rw',q⟩
  exact subscriptTail_builtinR (x:=w) pl.typeIs slot_tuple_getitem.lookup
    (getItem_tuple (j:=j) (Q:=fun r s'=>r = w∧EP X pins σ Q r s') pl (by omega) (by omega) (by rw [List.size_toArray,← hl]; exact h1) (by simpa using ew) ⟨rfl,fin⟩) hs
theorem ix_str:IxR X rIxS:=by
  intro value slice pins s σ H x y v u Q I rx ry h hs
  obtain ⟨z,i,c,rfl,rfl,hz,he,q⟩:=h
  obtain ⟨t,rfl⟩:=rx
  obtain ⟨t',rfl⟩:=ry
  obtain ⟨j,h1,h2,h3,h4,h5⟩:=atI_get he
  have hl:z.cps.toList.length = z.length:=by simp [Str.length]
  rw [hl] at h1 h4 h5
  have hn:=line63
  exact tail_any (typeIs_str s z t) slot_str_getitem.lookup (getItem_str (c:=c) (by
    have e1:decide (i < -(2 ^ 63:Int)) = false:=decide_eq_false (by omega)
    have e2:decide (i ≥ 2 ^ 63) = false:=decide_eq_false (by omega)
    rw [e1,e2,Bool.or_false]) (by rw [h1]; simpa using h2) ⟨.str ⟨#[c]⟩,H,I.tok _,⟨_,rfl⟩,q⟩) hs
theorem slice_bounds (lo hi:Option Int) (n:Nat):(sliceBounds lo hi none n).1 = ((HT.sIx n 0 lo:Nat):Int)∧(sliceBounds lo hi none n).2.1 = ((HT.sIx n n hi:Nat):Int)∧(sliceBounds lo hi none n).2.2 = 1:=by
  refine ⟨?_,?_,rfl⟩
  · cases lo with
    | none=>simp [sliceBounds,HT.sIx]
    | some i=>
      simp only [sliceBounds,HT.sIx,Option.getD_none,show (1:Int) > 0 by decide,if_true]
      by_cases h:i < 0
      · simp only [h,if_true] <;> omega
      · simp only [h,if_false] <;> omega
  · cases hi with
    | none=>simp [sliceBounds,HT.sIx]
    | some i=>
      simp only [sliceBounds,HT.sIx,Option.getD_none,show (1:Int) > 0 by decide,if_true]
      by_cases h:i < 0
      · simp only [h,if_true] <;> omega
      · simp only [h,if_false] <;> omega
theorem slicePick_cut (its:List Value) (lo hi:Option Int):slicePick its.toArray lo hi none = ((its.drop (HT.sIx its.length 0 lo)).take (HT.sIx its.length its.length hi - HT.sIx its.length 0 lo)).toArray:=by
  obtain ⟨h1,h2,h3⟩:=slice_bounds lo hi its.toArray.size
  unfold slicePick
  rw [h1,h2,h3]
  simp only [sliceRange_one,pick_run,List.size_toArray] <;> rfl
def rSlL (K:PySem.W.Frag):V→Option Int→Option Int→Hp→VK→Prop:=fun x lo hi H Q=>∃ a xs,x = .ref a∧SqL K H a xs∧∀ p,H p = none→Q (.ref p) (upd H p (.lst (cutV xs lo hi)))
theorem sl_list:SlR X (rSlL X.K):=by
  intro pins s σ H x v vl vu lo hi sl Q I rx hs pl pu h
  obtain ⟨a,xs,rfl,hx,q⟩:=h
  cases rx
  obtain ⟨its,r,ht,hz⟩:=I.list hx
  have hlen:=r.length
  refine ⟨"list",_,slot_list_getitem.lookup,ht.isList.typeIs,?_⟩
  refine wpAny_getItem_list_slice ht.isList hs pl pu .none (by simp) ?_ (by rw [List.size_toArray] <;> omega)
  rw [slicePick_cut,← hlen]
  refine ⟨.ref s.heap.objs.size,_,I.laid (t':=s.toks) (o:=.lst (cutV xs lo hi)) (fun b ob q=>Heap.get?_push_of_some _ q) (Nat.le_refl _) ?_,rfl,q _ (I.hok.fresh (Nat.le_refl _))⟩
  exact ⟨Nat.le_trans (cutV_length xs lo hi) hz,_,0,(r.drop (HT.sIx xs.length 0 lo)).take (HT.sIx xs.length xs.length hi - HT.sIx xs.length 0 lo),Heap.get?_push_size _ rfl⟩
def flatV:V→Bool
  | .non=>true
  | .bl _=>true
  | .int _=>true
  | .str _=>true
  | _=>false
def eqV:V→V→Bool
  | .non,.non=>true
  | .bl a,.bl b=>a == b
  | .bl a,.int b=>(if a then 1 else 0) == b
  | .int a,.bl b=>a == (if b then 1 else 0)
  | .int a,.int b=>a == b
  | .str a,.str b=>a == b
  | _,_=>false
theorem eqAt_V {A:Around} {s:Shared} {y x:V} {u v:Value} (ry:RelV y u) (rx:RelV x v) (fy:flatV y = true) (fx:flatV x = true):SeqAt.EqAt A s u v (eqV y x):=by
  cases y with
  | non=>
    cases ry
    cases x with
    | non=>cases rx; exact SeqAt.EqAt.same _
    | bl b=>cases rx; exact SeqAt.EqAt.none_bool b
    | int b=>obtain ⟨t,rfl⟩:=rx; exact SeqAt.EqAt.none_int b t
    | str b=>obtain ⟨t,rfl⟩:=rx; exact SeqAt.EqAt.none_str b t
    | _=>exact absurd (show false = true from fx) Bool.false_ne_true
  | bl a=>
    cases ry
    cases x with
    | non=>cases rx; exact SeqAt.EqAt.bool_none a
    | bl b=>cases rx; exact SeqAt.EqAt.bool_bool a b
    | int b=>obtain ⟨t,rfl⟩:=rx; exact SeqAt.EqAt.bool_int a b t
    | str b=>obtain ⟨t,rfl⟩:=rx; exact SeqAt.EqAt.bool_str a b t
    | _=>exact absurd (show false = true from fx) Bool.false_ne_true
  | int a=>
    obtain ⟨t',rfl⟩:=ry
    cases x with
    | non=>cases rx; exact SeqAt.EqAt.int_none a t'
    | bl b=>cases rx; exact SeqAt.EqAt.int_bool a t' b
    | int b=>obtain ⟨t,rfl⟩:=rx; exact SeqAt.EqAt.int_int a t' b t
    | str b=>obtain ⟨t,rfl⟩:=rx; exact SeqAt.EqAt.int_str a t' b t
    | _=>exact absurd (show false = true from fx) Bool.false_ne_true
  | str a=>
    obtain ⟨t',rfl⟩:=ry
    cases x with
    | non=>cases rx; exact SeqAt.EqAt.str_none a t'
    | bl b=>cases rx; exact SeqAt.EqAt.str_bool a t' b
    | int b=>obtain ⟨t,rfl⟩:=rx; exact SeqAt.EqAt.str_int a t' b t
    | str b=>obtain ⟨t,rfl⟩:=rx; exact SeqAt.EqAt.str_str a t' b t
    | _=>exact absurd (show false = true from fx) Bool.false_ne_true
  | _=>exact absurd (show false = true from fy) Bool.false_ne_true
def eqU (x:V) (u:Value):Bool:=match u with
  | .none=>eqV .non x
  | .bool b=>eqV (.bl b) x
  | .int i _=>eqV (.int i) x
  | .str z _=>eqV (.str z) x
  | _=>false
theorem eqU_of {x y:V} {u:Value} (r:RelV y u) (f:flatV y = true):eqU x u = eqV y x:=by
  cases y with
  | non=>cases r; rfl
  | bl b=>cases r; rfl
  | int i=>obtain ⟨t,rfl⟩:=r; rfl
  | str z=>obtain ⟨t,rfl⟩:=r; rfl
  | _=>exact absurd (show false = true from f) Bool.false_ne_true
theorem any_eqU {x:V}:∀ {xs:List V} {us:List Value},Vals xs us→xs.all flatV = true→us.any (eqU x) = xs.any fun y=>eqV y x
  | _,_,.nil,_=>rfl
  | y :: xs,u :: us,.cons r t,f=>by
    rw [List.all_cons,Bool.and_eq_true] at f
    rw [List.any_cons,List.any_cons,eqU_of r f.1,any_eqU t f.2]
theorem mem_eqAt {A:Around} {s:Shared} {x:V} {v:Value} (rx:RelV x v) (fx:flatV x = true):∀ {xs:List V} {us:List Value},Vals xs us→xs.all flatV = true→∀ u ∈ us,SeqAt.EqAt A s u v (eqU x u)
  | _,_,.nil,_=>fun u hu=>by cases hu
  | y :: xs,u :: us,.cons r t,f=>fun u' hu=>by
    rw [List.all_cons,Bool.and_eq_true] at f
    rcases List.mem_cons.mp hu with rfl | hu
    · rw [eqU_of r f.1]; exact eqAt_V r rx f.1 fx
    · exact mem_eqAt rx fx t f.2 u' hu
def inV (x:V) (xs:List V):Bool:=xs.any fun y=>eqV y x
def rIn (K:PySem.W.Frag) (neg:Bool):R2:=fun x y H Q=>∃ p xs,y = .ref p∧(SqL K H p xs ∨ SqT K H p xs)∧flatV x = true∧xs.all flatV = true∧Q (.bl (if neg then !inV x xs else inV x xs)) H
theorem op_notIn_seq:OpR X (compareOp .NotIn) (rIn X.K true):=by
  intro pins s σ H x y v u Q I rx ry h
  obtain ⟨p,xs,rfl,hq,fx,fs,q⟩:=h
  cases ry
  rcases hq with hq | hq
  · obtain ⟨its,r,pl,hz⟩:=I.list hq
    refine SeqAt.notIn_listAt (eqU x) pl.isList (fun w hw=>mem_eqAt rx fx r fs w (by simpa using hw)) ⟨.bl _,H,I,rfl,?_⟩
    rw [show its.toArray.any (eqU x) = its.any (eqU x) by simp,any_eqU r fs]
    exact q
  · obtain ⟨its,r,pl,hz⟩:=I.tuple hq
    refine SeqAt.notIn_tupleAt (eqU x) pl (fun w hw=>mem_eqAt rx fx r fs w (by simpa using hw)) ⟨.bl _,H,I,rfl,?_⟩
    rw [show its.toArray.any (eqU x) = its.any (eqU x) by simp,any_eqU r fs]
    exact q
theorem call_len_seq:CallR X (.builtin "len") (fun xs H Q=>∃ p ys,xs = [.ref p]∧(SqL X.K H p ys ∨ SqT X.K H p ys)∧Q (.int ys.length) H):=by
  intro pins s σ H xs us Q I r h
  obtain ⟨p,ys,rfl,hq,q⟩:=h
  obtain ⟨u,rfl,rx⟩:=vals1 r
  cases rx
  have hn:=line63
  rcases hq with hq | hq
  · obtain ⟨its,r',pl,hz⟩:=I.list hq
    have hlen:=r'.length
    exact Calls.call_len_list pl.isList (by simp only [List.size_toArray] <;> omega) ⟨.int ys.length,H,I.tok _,⟨s.toks + 1,by rw [List.size_toArray,hlen]⟩,q⟩
  · obtain ⟨its,r',pl,hz⟩:=I.tuple hq
    have hlen:=r'.length
    exact len_tuple pl (by simp only [List.size_toArray] <;> omega) ⟨.int ys.length,H,I.tok _,⟨s.toks + 1,by rw [List.size_toArray,hlen]⟩,q⟩
theorem call_len_str:CallR X (.builtin "len") (fun xs H Q=>∃ z,xs = [.str z]∧z.length ≤ sizeLine∧Q (.int z.length) H):=by
  intro pins s σ H xs us Q I r h
  obtain ⟨z,rfl,hz,q⟩:=h
  obtain ⟨u,rfl,t,rfl⟩:=vals1 r
  have hn:=line63
  exact len_str (by omega) ⟨.int z.length,H,I.tok _,⟨_,rfl⟩,q⟩
theorem call_list_of:CallR X (.type "list") (fun xs H Q=>∃ p ys,xs = [.ref p]∧(SqL X.K H p ys ∨ SqT X.K H p ys)∧∀ l,H l = none→Q (.ref l) (upd H l (.lst ys))):=by
  intro pins s σ H xs us Q I r h
  obtain ⟨p,ys,rfl,hq,q⟩:=h
  obtain ⟨u,rfl,rx⟩:=vals1 r
  cases rx
  have fin:∀ (its:List Value),Vals ys its→ys.length ≤ sizeLine→∀ (h':Heap) (c':Nat),(∀ b o',s.heap.get? b = some o'→h'.get? b = some o')→
      h'.get? s.heap.objs.size = some { cls:=.type "list",dict:=none,data:=.seq its.toArray c',slots:=#[] }→EP X pins σ Q (.ref s.heap.objs.size) { s with heap:=h' }:=fun its r' hz h' c' kp e=>
    ⟨.ref s.heap.objs.size,_,I.laid (t':=s.toks) kp (Nat.le_refl _) (show ObjOk X.prog X.w _ h' _ (.lst ys) from ⟨hz,its,c',r',e⟩),rfl,q _ (I.hok.fresh (Nat.le_refl _))⟩
  rcases hq with hq | hq
  · obtain ⟨its,r',pl,hz⟩:=I.list hq
    have hlen:=r'.length
    obtain ⟨o,ho,hc,n,hd⟩:=pl.isList
    exact call_list_seq p (.inl rfl) ho hc hd (fun h' c' kp e=>fin its r' hz h' c' kp e) (by simp only [List.size_toArray] <;> omega)
  · obtain ⟨its,r',pl,hz⟩:=I.tuple hq
    have hlen:=r'.length
    obtain ⟨o,ho,hc,n,hd⟩:=pl
    exact call_list_seq p (.inr rfl) ho hc hd (fun h' c' kp e=>fin its r' hz h' c' kp e) (by simp only [List.size_toArray] <;> omega)
def tyV (K:PySem.W.Frag) (T:String) (x:V) (H:Hp):Prop:=match x with
  | .str _=>T = "str"
  | .int _=>T = "int"
  | .ref p => (T = "list" ∧ ∃ xs, SqL K H p xs) ∨ (T = "tuple" ∧ ∃ o, K.lookup p = some o ∧ o.cls = .type "tuple" ∧ o.dict = none) ∨
      (T = "dict" ∧ ((∃ kvs, H p = some (.dK kvs)) ∨ ∃ kvs, H p = some (.dT kvs))) ∨ (T = "set" ∧ ∃ S n, H p = some (.set S n))
  | _=>False
theorem tyV_is {pins:List (Addr × Obj)} {σ:St} {H:Hp} {s:Shared} {T:String} {x:V} {v:Value} (I:Inv X pins σ H s) (r:RelV x v) (ty:tyV X.K T x H) :
    s.TypeIs v T∧∀ a,v = .ref a→∃ ob,s.heap.get? a = some ob∧ob.dict = none:=by
  cases x with
  | str z=>
    obtain ⟨t,rfl⟩:=r
    cases (show T = "str" from ty)
    exact ⟨typeIs_str s z t,fun _ e=>nomatch e⟩
  | int i=>
    obtain ⟨t,rfl⟩:=r
    cases (show T = "int" from ty)
    exact ⟨typeIs_int s i t,fun _ e=>nomatch e⟩
  | ref p=>
    cases r
    rcases ty with ⟨rfl,xs,hq⟩ | ⟨rfl,o,hk,hc,hd⟩ | ⟨rfl,hk⟩ | ⟨rfl,S,n,hk⟩
    · obtain ⟨its,_,pl,_⟩:=I.list hq
      refine ⟨pl.isList.typeIs,fun a e=>?_⟩
      cases e
      obtain ⟨o,n,e,c,hd,_⟩:=pl
      exact ⟨o,e,hd⟩
    · refine ⟨⟨o,I.kIn p o hk,hc⟩,fun a e=>?_⟩
      cases e
      exact ⟨o,I.kIn _ o hk,hd⟩
    · have z:∃ o,s.heap.get? p = some o∧o.ExactDict:=by
        rcases hk with ⟨kvs,hk⟩ | ⟨kvs,hk⟩
        · obtain ⟨_,_,_,_,o,_,_,e,ex,_⟩:=I.hok p _ hk
          exact ⟨o,e,ex⟩
        · obtain ⟨_,_,_,_,o,_,_,e,ex,_⟩:=I.hok p _ hk
          exact ⟨o,e,ex⟩
      obtain ⟨o,e,ex⟩:=z
      refine ⟨⟨o,e,ex.1⟩,fun a e2=>?_⟩
      cases e2
      exact ⟨o,e,ex.2.1⟩
    · obtain ⟨o,_,_,_,e,ex,_⟩:=I.hok p _ hk
      refine ⟨⟨o,e,ex.1⟩,fun a e2=>?_⟩
      cases e2
      exact ⟨o,e,ex.2.1⟩
  | _=>exact False.elim ty
def tBM0 (K:PySem.W.Frag) (T:String) (r:V→List V→Hp→VK→Prop) (to:TE):TE:=fun σ H Q=>to σ H fun x H1=>tyV K T x H1∧r x [] H1 Q
def tBM (K:PySem.W.Frag) (T:String) (r:V→List V→Hp→VK→Prop) (to:TE) (t:TA):TE:=fun σ H Q=>to σ H fun x H1=>tyV K T x H1∧t σ H1 fun xs H2=>r x xs H2 Q
variable {o e:Expr} {es:List Expr} {to:TE} {t:TA} {name:Str} {apos cpos:Pos} {T id:String} {r:V→List V→Hp→VK→Prop}
theorem pe_bm0 (pa:PlainAttrs T) (slot:Slot T name id) (hty:typeOf (.builtin id) = pure (.type "method_descriptor")) (hm:MtR X id r) (ho:PE X o to)
    (hbase:attributeBase o name X.env (eval o X.env) = eval o X.env:=by rfl) (hline:(apos.endLine == cpos.line) = true:=by rfl):PE X (.Call (.Attribute o name apos) [] [] cpos) (tBM0 X.K T r to):=by
  intro pins s σ H Q I h
  refine wpAny_Call_method0_late hbase hline (thn (ho pins s σ H _ I h) fun v s1 ⟨x,H1,I1,r1,ty,q1⟩=>?_)
  obtain ⟨h1,h2⟩:=tyV_is I1 r1 ty
  exact ⟨T,id,pa,slot,hty,h1,h2,Calls.callWith_builtin rfl (PySem.evalArgs_none (hm pins s1 σ H1 x [] v [] Q I1 r1 .nil q1))⟩
theorem pe_bm (pa:PlainAttrs T) (slot:Slot T name id) (hty:typeOf (.builtin id) = pure (.type "method_descriptor")) (hm:MtR X id r) (ho:PE X o to) (ha:PA X (e :: es) t)
    (hbase:attributeBase o name X.env (eval o X.env) = eval o X.env:=by rfl)
    (hfew:((backTo cpos (starEach (e :: es) X.env)).all (fun x=>!x.1) && (backToKw cpos (keywordEach [] X.env)).all (fun x=>x.1.isSome)
      && decide ((e :: es).length + ([]:List Keyword).length + (if ([]:List Keyword).isEmpty then 0 else 1) < 30)) = true:=by rfl)
    (hline:(apos.endLine == cpos.line) = true:=by rfl) (hs:starEach (e :: es) X.env = (false,eval e X.env) :: starEach es X.env:=by rfl) (hplain:(backTo cpos (starEach es X.env)).any (·.1) = false:=by rfl) :
    PE X (.Call (.Attribute o name apos) (e :: es) [] cpos) (tBM X.K T r to t):=by
  intro pins s σ H Q I h
  refine wpAny_Call_method_late hbase hfew hline rfl (thn (ho pins s σ H _ I h) fun v s1 ⟨x,H1,I1,r1,ty,q1⟩=>?_)
  obtain ⟨h1,h2⟩:=tyV_is I1 r1 ty
  refine ⟨T,id,pa,slot,hty,h1,h2,?_⟩
  have hA:=ha cpos pins s1 σ H1 _ I1 q1
  rw [hs] at hA ⊢
  refine Calls.callWith_builtin (by show (false || (backTo cpos (starEach es X.env)).any (·.1)) = false; rw [hplain] <;> rfl) (Calls.evalArgs_plain ?_)
  exact thn hA fun us s2 ⟨vs,H2,I2,r2,q2⟩=>hm pins s2 σ H2 x vs v us Q I2 r1 r2 q2
/- xs.append(e),list.index on a module's tuple .. are MtR facts of 06m -/
end
def MtM (X:Cx) (id:String) (r:V→List V→Hp→VK→Prop):Prop:=
  ∀ (pins:List (Addr × Obj)) (s:Shared) (σ:St) (H:Hp) (x:V) (xs:List V) (v:Value) (us:List Value) (Q:VK),Inv X pins σ H s→RelV x v→Vals xs us→r x xs H Q→
    wpAny (model X.prog X.w) X.A (call (.builtin id) (v :: us)) (EP X pins σ Q) X.xe s
theorem Vals.one:∀ {x:V} {us:List Value},Vals [x] us→∃ u,us = [u]∧RelV x u
  | _,_,.cons r .nil=>⟨_,rfl,r⟩
theorem Vals.zero:∀ {us:List Value},Vals [] us→us = []
  | _,.nil=>rfl
theorem Vals.eraseIdx:∀ {xs:List V} {us:List Value} (i:Nat),Vals xs us→Vals (xs.eraseIdx i) (us.eraseIdx i)
  | _,_,_,.nil=>.nil
  | _,_,0,.cons _ t=>t
  | _,_,i + 1,.cons r t=>.cons r (Vals.eraseIdx i t)
theorem Vals.rep {xs:List V} {us:List Value} (h:Vals xs us):∀ k:Nat,Vals (List.replicate k xs).flatten (List.replicate k us).flatten
  | 0=>.nil
  | k + 1=>by
    rw [List.replicate_succ,List.replicate_succ,List.flatten_cons,List.flatten_cons]
    exact Vals.append h (Vals.rep h k)
theorem len_erase {α:Type}:∀ (l:List α) (i:Nat),(l.eraseIdx i).length ≤ l.length
  | [],_=>Nat.le_refl _
  | _ :: _,0=>Nat.le_succ _
  | _ :: r,i + 1=>Nat.succ_le_succ (len_erase r i)
theorem foldl_rep (its:List Value):∀ (k:Nat) (acc:List Value),
    List.foldl (fun x1 x2=>x1 ++ x2) acc.toArray (List.replicate k its.toArray) = (acc ++ (List.replicate k its).flatten).toArray
  | 0,acc=>by simp
  | k + 1,acc=>by
    have e:acc.toArray ++ its.toArray = (acc ++ its).toArray:=by simp
    have e2:(acc ++ its) ++ (List.replicate k its).flatten = acc ++ (List.replicate (k + 1) its).flatten:=by
      rw [List.replicate_succ,List.flatten_cons,List.append_assoc]
    rw [← e2,← foldl_rep its k (acc ++ its),← e,List.replicate_succ,List.foldl_cons]
section
variable {X:Cx} {pins:List (Addr × Obj)} {σ:St} {H:Hp} {s:Shared} {l b:Addr} {xs ys zs:List V}
theorem Inv.lset {its its':List Value} {n:Nat} {f:Array Value→Array Value} {t':Nat} (I:Inv X pins σ H s) (hH:H l = some (.lst xs))
    (e:s.heap.get? l = some { cls:=.type "list",data:=.seq its.toArray n }) (hf:f its.toArray = its'.toArray) (hv:Vals ys its') (hz:ys.length ≤ sizeLine) :
    Inv X pins σ (upd H l (.lst ys)) { s with heap:=s.heap.update l (Obj.mapSeq f),toks:=t' }:=by
  have q:=PySem.IsL.update e f
  rw [hf] at q
  refine I.write (x:=l) (e:=l) (by rw [hH]; exact trivial) (.inl rfl) (fun b' u hb hu=>(Heap.get?_update_other s.heap (Obj.mapSeq f) (Ne.symm hb)).trans hu) ⟨_,q⟩ ?_
  exact ⟨hz,its',_,hv,q⟩
theorem Inv.lnew {its:List Value} {t':Nat} (I:Inv X pins σ H s) (hv:Vals ys its) (hz:ys.length ≤ sizeLine) :
    Inv X pins σ (upd H s.heap.objs.size (.lst ys)) { s with heap:=s.heap.push { cls:=.type "list",data:=.seq its.toArray },toks:=t' }:=
  I.laid (fun _ _ q=>Heap.get?_push_of_some _ q) (Nat.le_refl _) ⟨hz,its,0,hv,Heap.get?_push_size _ rfl⟩
theorem Inv.fresh (I:Inv X pins σ H s):H s.heap.objs.size = none:=I.hok.fresh (Nat.le_refl _)
theorem Inv.lstM (I:Inv X pins σ H s) (hH:H l = some (.lst xs)):xs.length ≤ sizeLine∧∃ (its:List Value) (n:Nat),Vals xs its∧xs.length = its.length∧s.heap.get? l = some { cls:=.type "list",data:=.seq its.toArray n }:=by
  obtain ⟨z,its,n,r,e⟩:=I.hok l _ hH
  exact ⟨z,its,n,r,r.length,e⟩
theorem notLongL {n:Nat} (h:n ≤ sizeLine):Builtin.List.listTooLong n = false:=by
  unfold Builtin.List.listTooLong
  exact decide_eq_false (by omega)
end
section
variable {X:Cx}
def rAppend:V→List V→Hp→VK→Prop:=fun x vs H Q=>∃ l xs y,x = .ref l∧vs = [y]∧H l = some (.lst xs)∧xs.length < sizeLine∧Q .non (upd H l (.lst (xs ++ [y])))
theorem mt_append:MtM X "list.append" rAppend:=by
  intro pins s σ H x vs v us Q I rx rv h
  obtain ⟨l,xs,y,rfl,rfl,hH,hz,q⟩:=h
  cases rx
  obtain ⟨u,rfl,ru⟩:=rv.one
  obtain ⟨z,its,n,r,hl,e⟩:=I.lstM hH
  refine call_meets F.slot_list_append ⟨_,e,rfl⟩ F.entry_list_append (F.args_list_append_2 _ _) (PySem.list_append l its.toArray n u (by rw [List.size_toArray]; omega)) ⟨e,?_⟩
  refine ⟨.non,_,I.lset (its':=its ++ [u]) hH e (by simp) (r.append (.cons ru .nil)) ?_,rfl,q⟩
  rw [List.length_append,List.length_singleton]
  omega
def rExtend:V→List V→Hp→VK→Prop:=fun x vs H Q=>∃ l b xs zs,x = .ref l∧vs = [.ref b]∧H l = some (.lst xs)∧H b = some (.lst zs)∧xs.length + zs.length ≤ sizeLine∧Q .non (upd H l (.lst (xs ++ zs)))
theorem mt_extend:MtM X "list.extend" rExtend:=by
  intro pins s σ H x vs v us Q I rx rv h
  obtain ⟨l,b,xs,zs,rfl,rfl,hH,hB,hz,q⟩:=h
  cases rx
  obtain ⟨u,rfl,ru⟩:=rv.one
  cases ru
  obtain ⟨z,its,n,r,hl,e⟩:=I.lstM hH
  obtain ⟨z2,its2,n2,r2,hl2,e2⟩:=I.lstM hB
  have hsz:its.toArray.size + its2.toArray.size ≤ sizeLine:=by rw [List.size_toArray,List.size_toArray]; omega
  have hlong:¬ (!its.toArray.isEmpty && Builtin.List.listTooLong (its.toArray.size + its2.toArray.size)) = true:=by
    rw [notLongL hsz,Bool.and_false]
    exact Bool.false_ne_true
  refine call_meets F.slot_list_extend ⟨_,e,rfl⟩ F.entry_list_extend (F.args_list_extend_2 _ _)
    (AutoSeq1.list_extend_list_list_0 l its.toArray n b its2.toArray n2 hlong (by rw [List.size_toArray]; omega) (by omega)) ⟨e,e2,?_⟩
  refine ⟨.non,_,I.lset (its':=its ++ its2) hH e (by simp) (r.append r2) ?_,rfl,q⟩
  rw [List.length_append]
  omega
def rPopAt:V→List V→Hp→VK→Prop:=fun x vs H Q=>∃ l xs i k y,x = .ref l∧vs = [.int i]∧H l = some (.lst xs)∧-(2 ^ 63) ≤ i∧i < 2 ^ 63∧seqIndex? i xs.length = some k∧xs[k]? = some y∧Q y (upd H l (.lst (xs.eraseIdx k)))
theorem mt_popAt:MtM X "list.pop" rPopAt:=by
  intro pins s σ H x vs v us Q I rx rv h
  obtain ⟨l,xs,i,k,y,rfl,rfl,hH,h1,h2,hk,hy,q⟩:=h
  cases rx
  obtain ⟨u,rfl,ru⟩:=rv.one
  obtain ⟨t,rfl⟩:=ru
  obtain ⟨z,its,n,r,hl,e⟩:=I.lstM hH
  obtain ⟨w,hw,rw'⟩:=r.get hy
  refine call_meets F.slot_list_pop ⟨_,e,rfl⟩ F.entry_list_pop (F.args_list_pop_2 _ _)
    (MeetsSeq.list_pop_at l its.toArray n i t k w (fitsIndex_both h1 h2) (by rw [List.size_toArray,← hl]; exact hk) (by rw [← Array.getElem?_toList]; exact hw) (by rw [List.size_toArray]; omega)) ⟨e,?_⟩
  refine ⟨y,_,I.lset (its':=its.eraseIdx k) hH e ?_ (r.eraseIdx k) ?_,rw',q⟩
  · show its.toArray.eraseIdxIfInBounds k = (its.eraseIdx k).toArray
    rw [List.eraseIdxIfInBounds_toArray]
  · have:=len_erase xs k
    omega
def rClear:V→List V→Hp→VK→Prop:=fun x vs H Q=>∃ l xs,x = .ref l∧vs = []∧H l = some (.lst xs)∧Q .non (upd H l (.lst []))
theorem mt_clear:MtM X "list.clear" rClear:=by
  intro pins s σ H x vs v us Q I rx rv h
  obtain ⟨l,xs,rfl,rfl,hH,q⟩:=h
  cases rx
  have hus:=rv.zero
  subst hus
  obtain ⟨z,its,n,r,hl,e⟩:=I.lstM hH
  refine call_meets F.slot_list_clear ⟨_,e,rfl⟩ F.entry_list_clear (F.args_list_clear_1 _) (AutoSeq1.list_clear_list_0 l its.toArray n (by rw [List.size_toArray]; omega)) ⟨e,?_⟩
  exact ⟨.non,_,I.lset (its':=[]) (ys:=[]) hH e rfl .nil (Nat.zero_le _),rfl,q⟩
def rCat:R2:=fun x y H Q=>∃ l b xs zs,x = .ref l∧y = .ref b∧H l = some (.lst xs)∧H b = some (.lst zs)∧xs.length + zs.length ≤ sizeLine∧∀ p,H p = none→Q (.ref p) (upd H p (.lst (xs ++ zs)))
theorem op_cat:OpR X (binaryOp .Add) rCat:=by
  intro pins s σ H x y v u Q I rx ry h
  obtain ⟨l,b,xs,zs,rfl,rfl,hH,hB,hz,q⟩:=h
  cases rx
  cases ry
  obtain ⟨z,its,n,r,hl,e⟩:=I.lstM hH
  obtain ⟨z2,its2,n2,r2,hl2,e2⟩:=I.lstM hB
  refine PySem.P.add_list e e2 ?_ (by rw [List.size_toArray,List.size_toArray]; omega)
  have ea:its.toArray ++ its2.toArray = (its ++ its2).toArray:=by simp
  rw [ea]
  exact ⟨.ref _,_,I.lnew (t':=s.toks) (r.append r2) (by rw [List.length_append]; omega),rfl,q _ I.fresh⟩
def rRep:R2:=fun x y H Q=>∃ l k xs,x = .ref l∧y = .int k∧H l = some (.lst xs)∧-(2 ^ 63) ≤ k∧k < 2 ^ 63∧xs.length * k.toNat ≤ sizeLine∧
  ∀ p,H p = none→Q (.ref p) (upd H p (.lst (List.replicate k.toNat xs).flatten))
theorem len_rep {α:Type} (xs:List α) (k:Nat):(List.replicate k xs).flatten.length = k * xs.length:=by
  induction k with
  | zero=>simp
  | succ k ih=>rw [List.replicate_succ,List.flatten_cons,List.length_append,ih,Nat.succ_mul,Nat.add_comm]
theorem op_rep:OpR X (binaryOp .Mult) rRep:=by
  intro pins s σ H x y v u Q I rx ry h
  obtain ⟨l,k,xs,rfl,rfl,hH,h1,h2,hz,q⟩:=h
  cases rx
  obtain ⟨t,rfl⟩:=ry
  obtain ⟨z,its,n,r,hl,e⟩:=I.lstM hH
  have hlen:its.toArray.size * k.toNat ≤ sizeLine:=by rw [List.size_toArray,← hl]; exact hz
  have hcap:¬ its.toArray.size * k.toNat > (2 ^ 63 - 1) / 8:=by
    have:(sizeLine:Nat) ≤ (2 ^ 63 - 1) / 8:=by decide
    omega
  have hfit:¬ (!Builtin.List.listFitsIndex k) = true:=by
    rw [fitsIndex_both h1 h2]
    exact Bool.false_ne_true
  have hlong:¬ Builtin.List.listTooLong (its.toArray.size * k.toNat) = true:=by
    rw [notLongL hlen]
    exact Bool.false_ne_true
  have hnew:List.foldl (fun x1 x2=>x1 ++ x2) #[] (List.replicate (if its.toArray.isEmpty = true then 0 else k.toNat) its.toArray) = (List.replicate k.toNat its).flatten.toArray:=by
    have f0:∀ m:Nat,List.foldl (fun x1 x2=>x1 ++ x2) #[] (List.replicate m its.toArray) = (List.replicate m its).flatten.toArray:=fun m=>by
      have:=foldl_rep its m []
      rw [List.nil_append] at this
      exact this
    rw [f0]
    cases its with
    | nil=>simp
    | cons a r'=>rw [if_neg (by simp)]
  refine wpAny_binaryOp_repeat_ref (T := "list") (U := "int") (by decide) ⟨_, e, rfl⟩ (fun s' => typeIs_int s' k t) noFill_list_mul F.fills_int_mul F.slot_int_rmul repeat_list F.slot_int_index.lookup
    (call_meets F.slot_int_rmul (typeIs_int s k t) F.entry_int_rmul (F.args_int_rmul_2 _ _) (int___rmul___int_list k t l its.toArray n)
      ⟨e,rfl,⟨_,e,rfl⟩,call_meets F.slot_list_mul ⟨_,e,rfl⟩ F.entry_list_mul (F.args_list_mul_2 _ _) (AutoListH.list___mul___list_int_3 l its.toArray n k t hfit hcap hlong) ⟨e,?_⟩⟩)
  rw [hnew]
  exact ⟨.ref _,_,I.lnew (t':=s.toks) (r.rep k.toNat) (by rw [len_rep,Nat.mul_comm]; exact hz),rfl,q _ I.fresh⟩
end
end L2
namespace Att
open PySem PySem.W PySem.Calls PyProof.Rows
theorem ints_of_wellAll {P:Params} {h:Heap}:∀ (ns:List Int) (vs:List Value),WellAll P h vs (ns.map WData.int)→IntsAre vs ns:=by
  intro ns
  induction ns with
  | nil=>
    intro vs w
    rw [List.map_nil] at w
    cases w
    exact .nil
  | cons n ns ih=>
    intro vs w
    rw [List.map_cons] at w
    cases w with
    | cons a b=>
      cases a
      exact .cons _ _ (ih _ b)
theorem script_of {l:OpenLaw} {n:Nat} (hn:l.most = some n) {P:Params} {h:Heap} {args:List WData} {vals:List Value}
    (hpre:l.row.toRowW.claim.pre args = true) (hwl:WellAll P h vals args) :
    ∃ a vs ns,vals = [Value.ref a]∧args = [WData.list (ns.map WData.int)]∧h.get? a = some { cls:=.type "list",data:=.seq vs.toArray }∧IntsAre vs ns∧ns.length ≤ n:=by
  have hsh:WShape.hasAll [] args [.list .int] = true:=(pre_splitW hpre).1
  have hc:l.pre.holds [] { args:=args } = true:=(pre_splitW hpre).2
  obtain ⟨d,r,rfl,h1,h2⟩:=hasAllW_cons hsh
  obtain rfl:=hasAllW_nil h2
  obtain ⟨xs,rfl,h3⟩:=hasW_list h1
  obtain ⟨ns,rfl⟩:=items_int h3
  have hlen:ns.length ≤ n:=by
    unfold OpenLaw.pre at hc
    have h4:(WTm.not (.lt (.lit (.int (n:Int))) (.len (.arg 0)))).holds [] { args:=[.list (ns.map .int)] } = true:=by
      have h4:=(holds_andW hc).1
      rw [hn] at h4
      exact h4
    have h5:=condW_of h4 (w_not (w_lt w_lit (w_len_list (w_arg rfl))))
    rw [List.length_map] at h5
    refine Nat.le_of_not_lt fun q=>?_
    have q':(n:Int) < ((ns.length:Nat):Int):=by omega
    first
      | (rw [decide_eq_true q'] at h5; exact absurd h5 (by decide))
      | (simp at h5; omega)
  cases hwl with
  | cons w1 w2=>
    cases w2
    cases w1 with
    | list ho hall=>exact ⟨_,_,ns,rfl,rfl,ho,ints_of_wellAll ns _ hall,hlen⟩
theorem post_true (l:OpenLaw) (args:List WData):l.row.toRowW.claim.post args (.bool true) args = true:=
  postW_of (r:=l.row.toRowW) (X:=(true == true))
    (show WShape.has [] (.bool true) .bool = true by first | rfl | decide | simp [WShape.has,WShape.arms,WShape.armsAll])
    (show (WTm.eq .res (.lit (.bool true))).value [] { args:=args,res:=some (.bool true),after:=args } = some (.bool (true == true)) from w_eq_bool (w_res rfl) w_lit) rfl
theorem attach_call {l:OpenLaw} {n:Nat} {q:Program} {loose:List Str} {XP:(Str→Option Value)→Heap→Prop} {YP:World→Heap→Prop} {d:DefRec}
    (hn:l.most = some n) (hdf:d.params.defaults = [])
    (call:∀ (w:World) (s₀ s₁:Shared) (mg mb:Str→Option Value) (fa:Addr) (o:Obj) (pm cd doc:Value) (a:Addr) (vs:List Value) (ns:List Int),
      Ground q loose [] XP w s₀ mg mb s₁.heap→YP w s₁.heap→
      s₁.heap.get? fa = some o→o.data = .func (docDef d.name d.params d.body d.scope pm cd doc)→s₁.heap.CodeRec cd d.name→mg d.name = some (.ref fa)→
      s₁.heap.get? a = some { cls:=.type "list",data:=.seq vs.toArray }→IntsAre vs ns→ns.length ≤ n→s₁.gens = #[]→
      codeAny (model l.prog w) callerA (.call (.ref fa) ⟨[.ref a],[]⟩) (fun r s'=>r = .ok (.ret (.bool true))∧OldK s₁.heap s'.heap∧s'.os = s₁.os∧AllBare s'.gens) s₁) :
    WalkO q loose XP YP l.row.toRowW d [] (fun f vs=>PySem.call f vs):=by
  intro w s₀ s₁ mg mb G Y fa o pm cd doc dV kV ho hd hcd hD hmg hg args vals as hpre hlay hrd hwl hlo
  obtain rfl:dV = .none:=Dflts.none hD hdf
  obtain rfl:kV = .none:=Dflts.noKw hD
  obtain ⟨a,vs,ns,rfl,rfl,hobj,hints,hlen⟩:=script_of hn hpre hwl
  refine enter_call (codeAny_mono (call w s₀ s₁ mg mb fa o pm cd doc a vs ns G Y ho (fd_plain hd) hcd hmg hobj hints hlen hg) fun r s' hq=>?_)
  obtain ⟨rfl,h2,h3,h4⟩:=hq
  exact ⟨.inl ⟨.bool true,.bool true,[],rfl,fun _=>rfl,.bool true,post_true l _,fun _=>⟨List.Pairwise.nil,fun _ hm=>(nomatch hm)⟩⟩,h2,h3,h4⟩
end Att
namespace L2
open PySem PySem.Spec PyProof.Rows
theorem vals_ints:∀ {vs:List Value} {ns:List Int},IntsAre vs ns→Vals (ns.map V.int) vs
  | _,_,.nil=>.nil
  | _,_,.cons n t h=>.cons ⟨t,rfl⟩ (vals_ints h)
def Only (H:Hp):Prop:=∀ b,H b = none ∨ ∃ o xs,H b = some (.frz o (.lst xs))
theorem law_call {P:Program} {w:World} {K:PySem.W.Frag} {mg mb:Str→Option Value} {CX:CXT} {k:Nat} {fa a:Addr} {fd:FuncData} {x:Str} {sp:Sp} {s₁:Shared} {vs:List Value} {ns:List Int}
    (KX:K.In s₁.heap) (hns:s₁.heap.Ns mainGlobals mg) (hb:s₁.heap.Ns builtinsNs mb) (hbb:∀ x:Str,x ≠ "__name__"→mb x = bootBuiltins x) (hlim:s₁.heap.NoLimit) (hg:s₁.gens = #[])
    (ha:s₁.heap.get? a = some { cls:=.type "list",data:=.seq vs.toArray }) (hi:IntsAre vs ns) (hl:ns.length ≤ sizeLine) (hr:Room k callerA)
    (F:∀ base:Heap,K.In base→base.Ns mainGlobals mg→FnOk P w K mg base CX k fa fd [x] sp) (hbind:∀ (s:Shared) (u:Value),BindsTo s fd ⟨[u],[]⟩ [(x,u)])
    (hsp:∀ H:Hp,Only H→SqL K H a (ns.map V.int)→sp [.ref a] H (fun v _=>v = .bl true) fun _ _ _=>False)
    (hCX:∀ H e s',CX [] H s₁ (fun _ _ _=>False) e s'→False) :
    codeAny (model P w) callerA (.call (.ref fa) ⟨[.ref a],[]⟩) (fun r s'=>r = .ok (.ret (.bool true))∧OldK s₁.heap s'.heap∧s'.os = s₁.os∧AllBare s'.gens) s₁:=by
  have rv:=vals_ints hi
  have lenV:=hi.length
  -- from an abstract heap in which nothing but the script may be tracked
  have core:∀ H:Hp,Only H→SqL K H a (ns.map V.int)→HOk P w H s₁.heap→(∀ b,H b ≠ none→b = a)→(H a ≠ none→K.lookup a = none)→
      codeAny (model P w) callerA (.call (.ref fa) ⟨[.ref a],[]⟩) (fun r s'=>r = .ok (.ret (.bool true))∧OldK s₁.heap s'.heap∧s'.os = s₁.os∧AllBare s'.gens) s₁:=by
    intro H hO hS hok hA hK
    have base_of:∀ {b:Addr} {o:Obj},s₁.heap.get? b = some o→H b = none→(hidT s₁.heap H).get? b = some o:=fun e n=>hidT_get e n
    have noA:∀ {b:Addr} {o:Obj} {es:Array DictEntry} {ep:Nat},s₁.heap.get? b = some o→o.data = .dict es ep→H b = none:=fun {b o es ep} e d=>by
      cases q:H b with
      | none=>rfl
      | some u=>
        have e':b = a:=hA b (by rw [q]; simp)
        subst e'
        rw [ha] at e; cases e
        have d':Data.seq vs.toArray _ = Data.dict es ep:=d
        cases d'
    have nsK:∀ {b:Addr} {m:Str→Option Value},s₁.heap.Ns b m→(hidT s₁.heap H).Ns b m:=fun {b m} ⟨o,es,ep,e,d,r⟩=>⟨o,es,ep,base_of e (noA e d),d,r⟩
    have hKb:K.In (hidT s₁.heap H):=fun b o e=>base_of (KX b o e) (by
      cases q:H b with
      | none=>rfl
      | some u=>
        have e':b = a:=hA b (by rw [q]; simp)
        subst e'
        rw [hK (by rw [q]; simp)] at e; cases e)
    have hM:Mod K mg (hidT s₁.heap H):=⟨hKb,nsK hns,⟨mb,nsK hb,hbb⟩,let ⟨mc,h1,h2⟩:=hlim; ⟨mc,nsK h1,h2⟩⟩
    have e0:Env0 P w K mg (hidT s₁.heap H) callerA [] s₁ H:=⟨rfl,hM,fun b o e=>of_hidT e,Nat.le_of_eq (hidT_size _ _),trivial,fun b hb=>absurd (show b ∈ ([]:List Addr) from hb) (by simp),hok,.of_eq hg⟩
    refine codeAny_mono ((F _ hKb (nsK hns)).run callerA [] s₁ H ⟨[.ref a],[]⟩ [.ref a] [.ref a] _ _ hr e0 (hbind s₁ (.ref a)) (.cons rfl .nil) (hsp H hO hS)) fun r s' h=>?_
    cases r with
    | error e=>exact (hCX H e s' h).elim
    | ok fl=>
      cases fl with
      | next=>exact False.elim h
      | brk=>exact False.elim h
      | cont=>exact False.elim h
      | ret u=>
        obtain ⟨v,H',os,bare,un,hok',r',q⟩:=h
        have q':v = .bl true:=q
        subst q'
        obtain rfl:u = Value.bool true:=r'
        refine ⟨rfl,OldK.of_keep fun b o e=>?_,os,bare⟩
        cases q:H b with
        | none=>exact un.keep b o e q (by intro z; exact absurd (show b ∈ ([]:List Addr) from z) (by simp)) (by simp)
        | some u=>
          rcases hO b with z | ⟨ob,xs,z⟩
          · rw [q] at z; cases z
          · have z2:=un.frzs b ob _ z
            obtain ⟨e1,_⟩:=hok b _ z
            obtain ⟨e2,_⟩:=hok' b _ z2
            rw [e] at e1; cases e1
            exact e2
  cases hk:K.lookup a with
  | some o=>
    -- the script is one of the module's own objects
    have e:=KX a o hk
    rw [ha] at e
    cases e
    refine core (fun _=>none) (fun _=>.inl rfl) (.inr ⟨_,vs.toArray,_,hk,rfl,rfl,rfl,by rw [List.size_toArray,lenV]; exact hl,by simpa using rv⟩) (fun b u z=>by have z':(none:Option HO) = some u:=z; cases z') (fun b z=>absurd rfl z) fun z=>absurd rfl z
  | none=>
    refine core (fun b => if b = a then some (.frz { cls := .type "list", data := .seq vs.toArray } (.lst (ns.map V.int))) else none) (fun b => ?_) (.inl (.inr ⟨{ cls := .type "list", data := .seq vs.toArray }, if_pos rfl⟩)) (fun b u z => ?_) (fun b z => ?_) fun _ => hk
    · by_cases hb:b = a
      · exact .inr ⟨_,_,if_pos hb⟩
      · exact .inl (if_neg hb)
    · by_cases hb:b = a
      · have z':=(if_pos hb).symm.trans z
        cases z'
        subst hb
        exact ⟨ha,by rw [List.length_map]; exact hl,vs,_,rv,ha⟩
      · have z':=(if_neg hb).symm.trans z
        cases z'
    · by_cases hb:b = a
      · exact hb
      · exact absurd (if_neg hb) z
abbrev KOf {K:PySem.W.Frag} {h:Heap} (_:K.In h):PySem.W.Frag:=K
theorem walk_of {l:PySem.W.OpenLaw} {n k:Nat} {q:Program} {loose:List Str} {XP:(Str→Option Value)→Heap→Prop} {YP:World→Heap→Prop} {d:DefRec} {K:Params→PySem.W.Frag} {CX:World→CXT} {sp:World→Sp} {x:Str}
    (hn:l.most = some n) (hn2:n ≤ sizeLine) (hdf:d.params.defaults = []) (hr:Room k callerA)
    (hY:∀ (w:World) (h:Heap),YP w h→(K w.params).In h)
    (F:∀ (w:World) (mg:Str→Option Value) (fa:Addr) (h:Heap),(K w.params).In h→h.Ns mainGlobals mg→mg d.name = some (.ref fa)→
      ∃ fd:FuncData,(∀ (s:Shared) (u:Value),BindsTo s fd ⟨[u],[]⟩ [(x,u)])∧
        ∀ base:Heap,(K w.params).In base→base.Ns mainGlobals mg→FnOk l.prog w (K w.params) mg base (CX w) k fa fd [x] (sp w))
    (hsp:∀ (w:World) (H:Hp) (a:Addr) (ns:List Int),ns.length ≤ n→Only H→SqL (K w.params) H a (ns.map V.int)→sp w [.ref a] H (fun v _=>v = .bl true) fun _ _ _=>False)
    (hCX:∀ (w:World) (H:Hp) (s:Shared) (e:Value) (s':Shared),CX w [] H s (fun _ _ _=>False) e s'→False) :
    PySem.W.WalkO q loose XP YP l.row.toRowW d [] (fun f vs=>PySem.call f vs):=by
  refine Att.attach_call hn hdf fun w s₀ s₁ mg mb fa o pm cd doc a vs ns G Y ho hd hcd hmg hobj hints hlen hg=>?_
  have KX:=hY w _ Y
  obtain ⟨fd,hb,hF⟩:=F w mg fa _ KX G.T.g hmg
  exact law_call KX G.T.g G.T.b G.T.builtins G.T.nolimit hg hobj hints (Nat.le_trans hlen hn2) hr hF hb (fun H hO hS=>hsp w H a ns hlen hO hS) fun H e s'=>hCX w H s₁ e s'
end L2
/- THE LAST THEOREM (shape; LID,My.* are yours):
   My.Adr: a structure of the addresses that your layer names (classes,functions); My.Txt K t: a structure (Prop) of the equations over K;
   My.txt_mk : {K} {implicit addresses ..} (e1 : nsIn K mainGlobals "law" = some (some (.ref f))) (e2 : K.lookup f = some ⟨oc, od, .func (fnOf "law" "law" params body scope dV kV doc pm an cdv ct), sl⟩) (e3 : codeIn K cdv "law" = true) .. : ∃ t, My.Txt K t
set_option maxRecDepth 100000 in
set_option maxHeartbeats 0 in
theorem PySem.Challenge.cw_LID_holds : PySem.Challenge.rw_LID.Holds := by
  w_on; o_law; k_head; (case hw=>w_witness2)
  k_fill
  refine L2.walk_of (l:=PySem.Challenge.rw_LID) (n:=63) (k:=40) (x:="script") (CX:=fun w=>..) (sp:=fun _=>My.sp_law) rfl (by decide) rfl ⟨rfl,by decide,by decide⟩ (fun w h Y=>PySem.W.kIn_of Y) ?F ?S ?C
  case F=>
    intro w mg fa h KX G hmg
    have T:∃ t,My.Txt (L2.KOf KX) t:=by
      dsimp only [L2.KOf]                          -- K must stand as «<heap const> w.params» for k_is
      refine' My.txt_mk ?e1 ?e2 ?e3 ..
      (case e1=>PySem.W.k_is)                    -- in the order: a name -> its address -> its object -> its parts
      (case e2=>PySem.W.k_is)
      ..
    obtain ⟨t,T⟩:=T
    have e0:=hmg.symm.trans (PySem.W.mg_of KX G T.law)
    cases e0                                       -- fa is the law's own address
    exact ⟨_,fun s u=>.of_eq rfl,fun base kb nb=>My.law_fn T kb nb⟩     -- if «.of_eq rfl» comes too early: refine' ⟨_,?b,fun base kb nb=>My.law_fn T kb nb⟩; exact fun s u=>.of_eq rfl
  case S=>exact fun w H a ns hl hO hS=>..
  case C=>exact ..
(the tactic k_is has no namespace: write k_is) -/
namespace L2
open PySem PySem.Spec PyProof.Rows
def defArgs (s:Stmt):Arguments:=match s with
  | .FunctionDef _ a _ _ _ _ _ _ _ _=>a
  | _=>{ posonlyargs:=[],args:=[],vararg:=none,kwonlyargs:=[],kw_defaults:=[],kwarg:=none,defaults:=[] }
def defBody (s:Stmt):List Stmt:=match s with
  | .FunctionDef _ _ b _ _ _ _ _ _ _=>b
  | _=>[]
def defScope (s:Stmt):Scope:=match s with
  | .FunctionDef _ _ _ _ _ _ sc _ _ _=>sc
  | _=>{ kind:=.function,names:=[],isGenerator:=false,isCoroutine:=false }
abbrev CX0:CXT:=fun _ _ _ _ _ _=>False
abbrev E0:XK:=fun _ _ _=>False
theorem pass0 {X:Cx}:Passes CX0 X E0:=fun _ _ _ _ _ _ _ h=>h.elim
structure Fun (K:PySem.W.Frag) (x qual:Str) (st:Stmt) (f:Addr) (fd:FuncData):Prop where
  ex:∃ (oc:Value) (od:Option Addr) (kV doc pm:Value) (an:Option Addr) (cdv ct:Value) (osl:Array (Option Value)),
    fd = PySem.W.fnOf x qual (defArgs st) (defBody st) (defScope st) .none kV doc pm an cdv ct∧K.lookup f = some ⟨oc,od,.func fd,osl⟩∧PySem.W.codeIn K cdv qual = true
  kp:PySem.W.keepIn K (.ref f) = true
section
variable {P:Program} {w:World} {K:PySem.W.Frag} {mg:Str→Option Value} {base:Heap}
theorem Fun.ok {x qual:Str} {st:Stmt} {f:Addr} {fd:FuncData} {N ps:List Str} {k:Nat} {sp:Sp} (F:Fun K x qual st f fd) (S:FnScope N ps (defScope st)) (len:∀ vs H Q E,sp vs H Q E→vs.length = ps.length)
    (hbody:∀ (cdv:Value) (A:Around) (outer:List Env) (s:Shared) (H:Hp) (vs:List V) (Q:VK) (E:XK),Room k (A.deeper (envOfC qual (defScope st) s.heap.objs.size f cdv))→sp vs H Q E→
      ∃ t,PSs (cxOf CX0 P w K mg base N qual (defScope st) f cdv A outer s H E).nox (defBody st) t∧t { nx:=fun _ H'=>Q .non H',rt:=Q } (start N vs) H):FnOk P w K mg base CX0 (k + 1) f fd ps sp:=by
  obtain ⟨oc,od,kV,doc,pm,an,cdv,ct,osl,rfl,lk,hcd⟩:=F.ex
  refine fn_of lk hcd S len fun A outer s H vs Q E hr hsp=>?_
  obtain ⟨t,h,q⟩:=hbody cdv A outer s H vs Q E hr hsp
  exact ⟨t,h.nox,q⟩
theorem Fun.binds {x qual:Str} {st:Stmt} {f:Addr} {fd:FuncData} {ps:List Str} (F:Fun K x qual st f fd)
    (h:∀ (kV doc pm:Value) (an:Option Addr) (cdv ct:Value) (us:List Value),us.length = ps.length→bindArgs (PySem.W.fnOf x qual (defArgs st) (defBody st) (defScope st) .none kV doc pm an cdv ct) ⟨us,[]⟩ = pure (ps.zip us)):Binds K fd ps []:=by
  obtain ⟨oc,od,kV,doc,pm,an,cdv,ct,osl,rfl,lk,hcd⟩:=F.ex
  exact .all (h kV doc pm an cdv ct)
theorem fun_mk {x qual:Str} {st:Stmt} {f:Addr} {oc:Value} {od an:Option Addr} {osl:Array (Option Value)} {kV doc pm cdv ct:Value} (l:K.lookup f = some ⟨oc,od,.func (PySem.W.fnOf x qual (defArgs st) (defBody st) (defScope st) .none kV doc pm an cdv ct),osl⟩)
    (c:PySem.W.codeIn K cdv qual = true) (k:PySem.W.keepIn K (.ref f) = true):Fun K x qual st f (PySem.W.fnOf x qual (defArgs st) (defBody st) (defScope st) .none kV doc pm an cdv ct):=⟨⟨oc,od,kV,doc,pm,an,cdv,ct,osl,rfl,l,c⟩,k⟩
end
def Same (H H':Hp):Prop:=∀ b o,H b = some o→H' b = some o
theorem Same.refl (H:Hp):Same H H:=fun _ _ h=>h
theorem Same.trans {H H1 H2:Hp} (a:Same H H1) (b:Same H1 H2):Same H H2:=fun c o h=>b c o (a c o h)
theorem Same.seq {K:PySem.W.Frag} {H H':Hp} {a:Addr} {xs:List V} (e:Same H H') (h:SqL K H a xs):SqL K H' a xs:=by
  rcases h with (h | ⟨o,h⟩) | h
  · exact .inl (.inl (e _ _ h))
  · exact .inl (.inr ⟨o,e _ _ h⟩)
  · exact .inr h
theorem compLoop_any {prog:Program} {w:World} {A:Around} {R:Result→Shared→Prop} {s:Shared} {elt target iter:Expr} {ifs:List Expr} {scope:Scope} {pos:Pos} {it acc:Value} {env:Env} (I:Nat→Shared→Prop)
    (turn:∀ n s,I n s→wpAny (model prog w) A (pyNext it) (fun r s₁=>match r with
      | none=>R (.ok .next) s₁
      | some v=>wpAny (model prog w) A (letOwnedTupleGo target it v) (fun _ s₁'=>wpAny (model prog w) A (assign target env v) (fun _ s₂=>
          wpAny (model prog w) A (forIn ifs true fun c r=>if r = true then do let ok ← isTrue c env (eval c env); pure (ForInStep.yield ok) else pure (ForInStep.yield r)) (fun ok s₃=>
            if ok = true then wpAny (model prog w) A (eval elt env) (fun x s₄=>
              wpAny (model prog w) A (call (.builtin "list.append") [acc,x]) (fun _ s₅=>∃ m,m < n∧I m s₅) (fun _ _=>False) s₄) (fun _ _=>False) s₃
            else ∃ m,m < n∧I m s₃) (fun _ _=>False) s₂) (fun _ _=>False) s₁') (fun _ _=>False) s₁) (fun _ _=>False) s)
    (n:Nat) (h:I n s) :
    codeAny (model prog w) A (.compLoop (.ListComp elt [⟨target,iter,ifs,0⟩] scope pos) 0 it acc env) R s:=by
  refine codeAny_loop rfl I (fun n s hI=>?_) n h
  show wpAny _ A ((compTurn (.ListComp elt [⟨target,iter,ifs,0⟩] scope pos) 0 it acc env).onRaise (fun x=>do noteFrame x env; theTreesLotGoes x)) _ _ s
  refine wpAny_noted ?_
  rw [compTurn_list]
  refine wpAny_bind (wpAny_standAt (wpAny_bind (wpAny_mono (turn n s hI) (fun r s₁ h₁=>?_) fun _ _ h'=>h'.elim)))
  cases r with
  | none=>exact wpAny_pure h₁
  | some v=>
    refine wpAny_bind (wpAny_mono h₁ (fun _ s₁' h₁'=>?_) fun _ _ h'=>h'.elim)
    refine wpAny_bind (wpAny_mono h₁' (fun _ s₂ h₂=>wpAny_bind (wpAny_mono h₂ (fun ok s₃ h₃=>?_) fun _ _ h'=>h'.elim)) fun _ _ h'=>h'.elim)
    cases ok with
    | false=>exact wpAny_pure ⟨rfl,h₃⟩
    | true=>
      exact wpAny_bind (wpAny_bind (wpAny_mono h₃ (fun x s₄ h₄=>wpAny_bind (wpAny_mono h₄ (fun _ s₅ h₅=>wpAny_pure (wpAny_pure ⟨rfl,h₅⟩)) fun _ _ h'=>h'.elim)) fun _ _ h'=>h'.elim))
def PTs (X:Cx) (ifs:List Expr) (t:TT):Prop:=
  ∀ (pins:List (Addr × Obj)) (s:Shared) (σ:St) (H:Hp) (Q:Bool→Hp→Prop),Inv X pins σ H s→t σ H Q→
    wpAny (model X.prog X.w) X.A (forIn ifs true fun c r=>if r = true then do let ok ← isTrue c X.env (eval c X.env); pure (ForInStep.yield ok) else pure (ForInStep.yield r)) (TP X pins σ Q) X.xe s
def tYes:TT:=fun _ H Q=>Q true H
theorem pts_nil {X:Cx}:PTs X [] tYes:=fun _ _ _ H _ I h=>wpAny_tests_nil ⟨H,I,h⟩
theorem pts_one {X:Cx} {c:Expr} {t:TT} (h:PT X c t):PTs X [c] t:=fun pins s σ H Q I hw=>wpAny_tests_one (h pins s σ H Q I hw)
theorem closure_ex {env:Env}:∀ (names:List (Str × NameKind)) (acc:List (Str × Addr)),(∀ y ∈ names,y.2 = .free→∃ c,env.cells.lookup y.1 = some c)→(∀ y ∈ acc,env.cells.lookup y.1 = some y.2)→
    ∃ cl:List (Str × Addr),(forIn (m:=Sem) names acc fun (x:Str × NameKind) cs=>if (x.2 == NameKind.free) = true then (do let a ← cellOf env x.1; pure (ForInStep.yield ((x.1,a) :: cs))) else pure (ForInStep.yield cs)) = pure cl∧
      (∀ y ∈ cl,env.cells.lookup y.1 = some y.2)∧(∀ y ∈ acc,y ∈ cl)∧∀ y ∈ names,y.2 = .free→∃ c,(y.1,c) ∈ cl
  | [],acc,_,ha=>⟨acc,rfl,ha,fun _ h=>h,fun _ h=>nomatch h⟩
  | (n,k) :: r,acc,hf,ha=>by
    by_cases hk:k = .free
    · subst hk
      obtain ⟨c,hc⟩:=hf (n,.free) List.mem_cons_self rfl
      obtain ⟨cl,e,h1,h2,h3⟩:=closure_ex r ((n,c) :: acc) (fun y hy=>hf y (List.mem_cons_of_mem _ hy)) (fun y hy=>by
        rcases List.mem_cons.mp hy with rfl | hy
        · exact hc
        · exact ha y hy)
      refine ⟨cl,?_,h1,fun y hy=>h2 y (List.mem_cons_of_mem _ hy),fun y hy hk=>?_⟩
      · rw [List.forIn_cons]
        have e1:cellOf env n = pure c:=by unfold cellOf; rw [hc]
        simp only [beq_self_eq_true,if_true,e1]
        exact e
      · rcases List.mem_cons.mp hy with rfl | hy
        · exact ⟨c,h2 _ List.mem_cons_self⟩
        · exact h3 y hy hk
    · have hb:(k == NameKind.free) = false:=by simpa using hk
      obtain ⟨cl,e,h1,h2,h3⟩:=closure_ex r acc (fun y hy=>hf y (List.mem_cons_of_mem _ hy)) ha
      refine ⟨cl,?_,h1,h2,fun y hy hk'=>?_⟩
      · rw [List.forIn_cons]
        simp only [hb,Bool.false_eq_true,if_false]
        exact e
      · rcases List.mem_cons.mp hy with rfl | hy
        · exact absurd hk' hk
        · exact h3 y hy hk'
theorem closureFor_ex {env:Env} {scope:Scope} (hf:∀ y ∈ scope.names,y.2 = .free→∃ c,env.cells.lookup y.1 = some c) :
    ∃ cl:List (Str × Addr),closureFor scope env = pure cl∧(∀ y ∈ cl,env.cells.lookup y.1 = some y.2)∧∀ y ∈ scope.names,y.2 = .free→∃ c,(y.1,c) ∈ cl:=by
  obtain ⟨cl,e,h1,_,h3⟩:=closure_ex scope.names [] hf (fun _ h=>nomatch h)
  refine ⟨cl,?_,h1,h3⟩
  unfold closureFor
  simp only [bind_pure]
  exact e
abbrev cxComp (X:Cx) (scope:Scope) (cl:List (Str × Addr)) (C:Addr) (N:List Str) (s₀:Shared) (H₀:Hp) (ex:List Addr):Cx where
  prog:=X.prog
  w:=X.w
  K:=X.K
  mg:=X.mg
  base:=X.base
  A:=X.A
  N:=N
  s₀:=s₀
  H₀:=H₀
  env:=compEnvC scope cl C X.env
  outer:=X.stack
  stack:=X.stack
  ex:=ex
  fn:=fun _=>false
  calm:=X.calm
  pn:=[]
  xe:=fun _ _=>False
theorem lookup_mem {α β:Type} [BEq α] [LawfulBEq α] {l:List (α × β)} {x:α} {y:β} (h:l.lookup x = some y):(x,y) ∈ l:=by
  induction l with
  | nil=>cases h
  | cons p r ih=>
    obtain ⟨a,b⟩:=p
    rw [List.lookup_cons] at h
    cases e:(x == a) with
    | true=>rw [e] at h; cases h; rw [eq_of_beq e]; exact List.mem_cons_self
    | false=>rw [e] at h; exact List.mem_cons_of_mem _ (ih h)
theorem mem_lookup {α β:Type} [BEq α] [LawfulBEq α] {l:List (α × β)} {x:α} {y:β} (h:(x,y) ∈ l):∃ z,l.lookup x = some z:=by
  induction l with
  | nil=>cases h
  | cons p r ih=>
    obtain ⟨a,b⟩:=p
    rw [List.lookup_cons]
    cases e:(x == a) with
    | true=>exact ⟨_,rfl⟩
    | false=>
      rcases List.mem_cons.mp h with q | q
      · cases q; simp at e
      · exact ih q
theorem relabel_mem {scope:Scope} {env:Env} {y:Str} {k:NameKind} (h:(y,k) ∈ (relabel scope env).names):(y,k) ∈ scope.names ∨ (k = .cell∧(y,NameKind.free) ∈ scope.names):=by
  unfold relabel at h
  obtain ⟨⟨n,k'⟩,hm,e⟩:=List.mem_map.mp h
  dsimp only at e
  split at e
  · rename_i hc
    cases e
    have:k' = .free:=by
      have:=hc
      simp only [Bool.and_eq_true,beq_iff_eq] at this
      exact this.1.1
    subst this
    exact .inr ⟨rfl,hm⟩
  · cases e; exact .inl hm
theorem lookup_relabel_free {env:Env}:∀ {names:List (Str × NameKind)} {x:Str},names.lookup x = some .free→
    (names.map fun (n,k)=>if (k == NameKind.free && env.scope.kind == .function && env.kindOf n == some .cell) then (n,NameKind.cell) else (n,k)).lookup x = some .cell ∨
    (names.map fun (n,k)=>if (k == NameKind.free && env.scope.kind == .function && env.kindOf n == some .cell) then (n,NameKind.cell) else (n,k)).lookup x = some .free
  | [],_,h=>by simp at h
  | (n,k) :: r,x,h=>by
    have ih:=@lookup_relabel_free env r x
    show List.lookup x ((if (k == NameKind.free && env.scope.kind == .function && env.kindOf n == some .cell) = true then (n,NameKind.cell) else (n,k)) :: _) = _ ∨ List.lookup x ((if (k == NameKind.free && env.scope.kind == .function && env.kindOf n == some .cell) = true then (n,NameKind.cell) else (n,k)) :: _) = _
    cases hx:x == n with
    | true=>
      simp only [List.lookup_cons,hx] at h
      cases h
      by_cases hc:(NameKind.free == NameKind.free && env.scope.kind == .function && env.kindOf n == some .cell) = true
      · rw [if_pos hc]; simp [List.lookup_cons,hx]
      · rw [if_neg hc]; simp [List.lookup_cons,hx]
    | false=>
      simp only [List.lookup_cons,hx] at h
      by_cases hc:(k == NameKind.free && env.scope.kind == .function && env.kindOf n == some .cell) = true
      · rw [if_pos hc]; simp only [List.lookup_cons,hx]; exact ih h
      · rw [if_neg hc]; simp only [List.lookup_cons,hx]; exact ih h
def compSt (fs:List Nat) (σ:St):St:=fs.map fun j=>(σ[j]?).join
def tComp (wi:TI) (fs:List Nat) (tt:TT) (te:TE):TE:=fun σ H Q=>wi σ H fun J H1=>∃ W:Nat→Nat→List V→Hp→Prop,(∃ m,W 0 m [] H1)∧∀ i m ys H,W i m ys H→ys.length ≤ sizeLine∧
  ((J.stop i H∧∀ p,H p = none→Q (.ref p) (upd H p (.lst ys))) ∨
   (J.go i H∧ys.length < sizeLine∧∀ x H',J.yld i H x H'→tt (some x :: compSt fs σ) H' fun b H2=>if b = true then te (some x :: compSt fs σ) H2 fun y H3=>∃ m',m' < m∧W (i + 1) m' (ys ++ [y]) H3 else ∃ m',m' < m∧W (i + 1) m' ys H2))
section
variable {X:Cx}
theorem comp_block {elt iter:Expr} {x:Str} {px pos:Pos} {ifs:List Expr} {scope:Scope} {fs:List (Str × Nat)} {tt:TT} {te:TE}
    {pins:List (Addr × Obj)} {σ:St} {H2:Hp} {s2:Shared} {it:Addr} {fp:List Addr} {tn:Nat→Heap→Prop} {J:It} {cl:List (Str × Addr)} {E:Value→Shared→Prop}
    {P:Value→Addr→Result→Shared→Prop}
    (hc:X.calm = true) (hkind:scope.kind = .function) (hcell:∀ y ∈ scope.names,y.2 ≠ .cell) (hx:scope.names.lookup x = some .local)
    (hnd:(x :: fs.map (·.1)).Nodup) (hfs:∀ f ∈ fs,X.N[f.2]? = some f.1∧(X.env.kindOf f.1 = some .cell ∨ X.env.kindOf f.1 = some .free)∧scope.names.lookup f.1 = some .free)
    (hb:∀ (cl:List (Str × Addr)) (C:Addr) (s₀:Shared) (H₀:Hp) (ex:List Addr),PTs (cxComp X scope cl C (x :: fs.map (·.1)) s₀ H₀ ex) ifs tt∧PE (cxComp X scope cl C (x :: fs.map (·.1)) s₀ H₀ ex) elt te)
    (hcl1:∀ y ∈ cl,X.env.cells.lookup y.1 = some y.2) (hcl2:∀ y ∈ scope.names,y.2 = .free→∃ c,(y.1,c) ∈ cl)
    (I2:Inv X pins σ H2 s2) (T:Turn X.prog X.w X.K (.Name x px) J fp it tn) (st2:tn 0 s2.heap) (f2:∀ b ∈ fp,FpOk X pins H2 b)
    (W:Nat→Nat→List V→Hp→Prop) (Qe:Hp→List V→Prop) (w0:∃ m,W 0 m [] H2)
    (turn:∀ i m ys H,W i m ys H→ys.length ≤ sizeLine∧
      ((J.stop i H∧Qe H ys) ∨
       (J.go i H∧ys.length < sizeLine∧∀ x H',J.yld i H x H'→tt (some x :: compSt (fs.map (·.2)) σ) H' fun b H2=>if b = true then te (some x :: compSt (fs.map (·.2)) σ) H2 fun y H3=>∃ m',m' < m∧W (i + 1) m' (ys ++ [y]) H3 else ∃ m',m' < m∧W (i + 1) m' ys H2)))
    (hP:∀ (D C:Addr) (H':Hp) (s':Shared) (ys:List V) (its:List Value) (m:Str→Option Value),s2.heap.objs.size ≤ C→s2.heap.get? D = none→s2.heap.get? C = none→D ≠ C→H' D = none→H' C = none→s'.heap.Ns C m→s'.heap.PlainList D its.toArray→Vals ys its→ys.length ≤ sizeLine→Qe H' ys→
      Un (frs X.stack) fp H2 H' s2.heap s'.heap→HOk X.prog X.w H' s'.heap→AllBare s'.gens→s'.os = s2.os→P (.ref D) C (.ok .next) s') :
    wpAny (model X.prog X.w) X.A (newList []) (fun acc s₃=>wpAny (model X.prog X.w) X.A (newFunctionEnv scope X.env.globals cl [] X.env.qual none .none (some X.env)) (fun cenv s₄=>
      codeAny (model X.prog X.w) X.A (.compStart (.ListComp elt [⟨.Name x px,iter,ifs,0⟩] scope pos) 0 (.ref it) acc { cenv with scope:=relabel scope X.env }) (P acc cenv.locals) s₄) E s₃) E s2:=by
  refine wpAny_newObj_type (wpAny_newFunctionEnv hcell (by intro y hy; simp at hy) (fun h₁ hns₁ hsb₁=>?_) hkind)
  dsimp only at hns₁ hsb₁ ⊢
  generalize hH2:s2.heap.push { cls:=.type "list",dict:=none,data:=.seq ([]:List Value).toArray } = HH at hns₁ hsb₁ ⊢
  have hC:HH.objs.size = s2.heap.objs.size + 1:=by rw [← hH2,Heap.size_push]
  generalize eD:s2.heap.objs.size = D at *
  generalize eC:HH.objs.size = C at *
  have hDC:D ≠ C:=by rw [hC]; exact Nat.ne_of_lt (Nat.lt_succ_self _)
  have fresh:∀ a,D ≤ a→s2.heap.get? a = none:=fun a ha=>Heap.get?_none_of_le (by rw [eD]; exact ha)
  have hD0:s2.heap.get? D = none:=fresh D (Nat.le_refl _)
  have hC0:s2.heap.get? C = none:=fresh C (by rw [hC]; exact Nat.le_succ _)
  have old:∀ b o,s2.heap.get? b = some o→h₁.get? b = some o:=fun b o e=>hsb₁.extBut b o (fun z=>by rw [z,hC0] at e; cases e) (Heap.get?_push_of_some _ (hH2 ▸ Heap.get?_push_of_some _ e))
  have hacc:h₁.PlainList D #[]:=⟨0,hsb₁.extBut _ _ hDC (Heap.get?_push_of_some _ (hH2 ▸ (eD ▸ Heap.get?_push_size _ rfl)))⟩
  have HD:H2 D = none:=I2.hok.fresh (by rw [eD]; exact Nat.le_refl _)
  have HC:H2 C = none:=I2.hok.fresh (by rw [eD,hC]; exact Nat.le_succ _)
  -- the block's context
  let Y:Cx:=cxComp X scope cl C (x :: fs.map (·.1)) s2 H2 fp
  have lk:∀ y c,cl.lookup y = some c→X.env.cells.lookup y = some c:=fun y c e=>hcl1 (y,c) (lookup_mem e)
  have yok:Y.Ok:=by
    refine ⟨I2.ok.mod,hkind,I2.ok.glob,I2.ok.blt,?_,fun y z c h1 h2=>I2.ok.inj y z c (lk y c h1) (lk z c h2),fun y hy=>?_,fun _ _ h _=>absurd h Bool.false_ne_true,I2.ok.hd,I2.ok.frames,.inl rfl,fun b hb=>?_,I2.bs,?_,fun b o e hb=>?_,fun b hb hz=>?_,I2.stack,I2.stkFree⟩
    · show s2.heap.objs.size ≤ C
      rw [eD,hC]; exact Nat.le_succ _
    · have hy':(relabel scope X.env).names.lookup y = some .cell ∨ (relabel scope X.env).names.lookup y = some .free:=hy
      have hm:(y,NameKind.free) ∈ scope.names:=by
        rcases hy' with e | e
        · rcases relabel_mem (lookup_mem e) with q | ⟨_,q⟩
          · exact absurd rfl (hcell _ q)
          · exact q
        · rcases relabel_mem (lookup_mem e) with q | ⟨q,_⟩
          · exact q
          · cases q
      obtain ⟨c,q⟩:=hcl2 _ hm rfl
      exact mem_lookup q
    · obtain ⟨f0,f1,f3,f4,f5,f6⟩:=f2 b hb
      refine ⟨fun z=>?_,fun y c e=>f5 y c (lk y c e)⟩
      obtain ⟨o,ho,_⟩:=T.obj _ _ st2 b hb
      have z':b = C:=z
      rw [z',hC0] at ho; cases ho
    · exact Nat.le_trans I2.ok.bsz I2.sz
    · obtain ⟨f0,f1,f3,f4,f5,f6⟩:=f2 b hb
      rcases f4 with z | z
      · exact I2.ok.noex b o e z
      · exact absurd (Nat.lt_of_lt_of_le (Heap.lt_size e) (Nat.le_trans I2.ok.bsz z)) (Nat.lt_irrefl _)
    · obtain ⟨f0,f1,f3,f4,f5,f6⟩:=f2 b hb
      rcases List.mem_cons.mp (I2.stkSub b hz) with z | z
      · exact f1 z
      · exact f3 z
  let τ:St:=none :: compSt (fs.map (·.2)) σ
  have hτ:τ.length = (x :: fs.map (·.1)).length:=by simp [τ,compSt]
  obtain ⟨mL,hnL,hlL⟩:=id I2.loc
  have yI:Inv Y [] τ H2 { s2 with heap:=h₁,toks:=s2.toks + ([]:List (Str × Value)).length }:=by
    refine ⟨yok,rfl,I2.bare,Un.kept old,⟨_,hns₁,fun i y v e1 e2 e3=>?_⟩,fun y c e=>?_,HC,fun y c e=>I2.freeC y c (lk y c e),(fun p hp=>nomatch hp),I2.hok.kept old,hτ⟩
    · cases i with
      | zero=>simp [τ] at e2
      | succ i=>
        have e1':(fs.map (·.1))[i]? = some y:=e1
        have e2':(compSt (fs.map (·.2)) σ)[i]? = some (some v):=by simpa [τ] using e2
        rw [List.getElem?_map] at e1'
        cases q:fs[i]? with
        | none=>rw [q] at e1'; cases e1'
        | some f=>
          rw [q] at e1'
          have ey:f.1 = y:=Option.some.inj e1'
          obtain ⟨g1,g2,g3⟩:=hfs f (List.mem_of_getElem? q)
          have e2'':(σ[f.2]?).join = some v:=by
            unfold compSt at e2'
            rw [List.getElem?_map,List.getElem?_map,q] at e2'
            exact Option.some.inj e2'
          have e2c:σ[f.2]? = some (some v):=by
            cases r:σ[f.2]? with
            | none=>rw [r] at e2''; cases e2''
            | some o=>rw [r] at e2''; have e2'':o = some v:=e2''; rw [e2'']
          have vis:Vis X.env.scope f.1:=by
            rcases g2 with g | g
            · exact .inr (.inl g)
            · exact .inr (.inr g)
          obtain ⟨u,ru,lu⟩:=hlL f.2 f.1 v g1 e2c vis
          refine ⟨u,ru,?_⟩
          have lu':∃ c,X.env.cells.lookup f.1 = some c∧s2.heap.IsCell c (some u):=by
            rcases lu with ⟨k,_⟩ | ⟨_,c,e,z⟩
            · rcases g2 with g | g
              · rw [k] at g; cases g
              · rw [k] at g; cases g
            · exact ⟨c,e,z⟩
          obtain ⟨c,hc1,hc2⟩:=lu'
          obtain ⟨c',hm⟩:=hcl2 _ (lookup_mem g3) rfl
          have hm':=hcl1 _ hm
          obtain ⟨c2,hl2⟩:=mem_lookup hm
          have:=lk _ _ hl2
          rw [hc1] at this; cases this
          obtain ⟨oc,ho,hdt⟩:=hc2
          refine .inr ⟨?_,c,by rw [← ey]; exact hl2,oc,old c oc ho,hdt⟩
          rw [← ey]
          exact lookup_relabel_free g3
    · obtain ⟨v,oc,ho,hdt⟩:=I2.cell y c (lk y c e)
      exact ⟨v,oc,old c oc ho,hdt⟩
  have hx':Y.env.scope.names.lookup x = some .local:=lookup_relabel_local hx
  have fpD:∀ b ∈ fp,b ≠ D:=fun b hb z=>by
    obtain ⟨o,ho,_⟩:=T.obj _ _ st2 b hb
    rw [z,hD0] at ho; cases ho
  have stD:D ∉ frs X.stack:=fun hz=>by
    rcases List.mem_cons.mp (I2.stkSub D hz) with z | z
    · have:=I2.lt; rw [eD,← z] at this; exact absurd this (Nat.lt_irrefl _)
    · exact I2.nofs (by rw [eD]; exact Nat.le_refl _) z
  have cellD:∀ y c,cl.lookup y = some c→c ≠ D:=fun y c e z=>by
    obtain ⟨v,oc,ho,_⟩:=I2.cell y c (lk y c e)
    rw [z,hD0] at ho; cases ho
  have stat:∀ {H':Hp} {oD:Obj},(∀ b ∈ fp,H' b = none)→∀ b ∈ fp,FpOk Y [(D,oD)] H' b:=fun hn b hb=>by
    refine ⟨hn b hb,(yok.exf b hb).1,yok.exfs b hb,.inl hb,(yok.exf b hb).2,fun p hp z=>?_⟩
    have hp':p ∈ [(D,_)]:=hp
    rw [List.mem_singleton.mp hp'] at z
    exact fpD b hb z.symm
  obtain ⟨m0,w0⟩:=w0
  have loop:∀ s₃:Shared,s₃ = { s2 with heap:=h₁,toks:=s2.toks + ([]:List (Str × Value)).length }→
      codeAny (model X.prog X.w) X.A (.compLoop (.ListComp elt [⟨.Name x px,iter,ifs,0⟩] scope pos) 0 (.ref it) (.ref D) (compEnvC scope cl C X.env)) (P (.ref D) C) s₃:=by
    rintro s₃ rfl
    refine compLoop_any (fun n s'=>∃ i ys its H',Inv Y [] τ H' s'∧tn i s'.heap∧(∀ b ∈ fp,H' b = none)∧H' D = none∧s'.heap.PlainList D (List.toArray its)∧Vals ys its∧W i n ys H') ?_ m0
      ⟨0,[],[],H2,yI,T.keep _ _ _ st2 (fun b _ o e=>old b o e),fun b hb=>(f2 b hb).1,HD,hacc,.nil,w0⟩
    rintro n s3 ⟨i,ys,its,H3,I3,st3,fr3,hD3,⟨n0,hoD⟩,rv3,w3⟩
    obtain ⟨hz,ht⟩:=turn i n ys H3 w3
    have I3':Inv Y [(D,{ cls:=.type "list",data:=.seq its.toArray n0 })] τ H3 s3:=I3.pins_of fun p hp=>by
      rw [List.mem_singleton.mp hp]
      exact ⟨hoD,hD3,hDC,stD,fun v z=>by cases z⟩
    rcases ht with ⟨stop,q⟩ | ⟨go,hz',step⟩
    · refine thn (T.done Y rfl rfl rfl hc i _ s3 τ H3 _ I3' (stat fr3) st3 stop) fun r s4 ⟨hr,I4⟩=>?_
      subst hr
      obtain ⟨m,hn,_⟩:=I4.loc
      exact hP D C H3 s4 ys its m (by rw [hC]; exact Nat.le_succ _) hD0 hC0 hDC hD3 I4.free hn ⟨n0,(I4.pin (D,_) (List.mem_append_right _ List.mem_cons_self)).1⟩ rv3 hz q I4.base I4.hok I4.bare I4.os
    · refine thn (T.item Y rfl rfl rfl hc i _ s3 τ H3 _ I3' (stat fr3) st3 go) fun r s4 ⟨u,hr,h4⟩=>?_
      subst hr
      refine thn h4 fun _ s5 ⟨x',H5,I5,r5,y5,st5,fr5⟩=>?_
      have I5':=I5.pinned (fp:=fp) (stat fr5) (T.obj _ _ st5)
      refine thn (pg_name (X:=Y) (i:=0) (pos:=px) hnd rfl (.inl hx') (.inr hx') _ s5 τ H5 x' u (fun σ' H'=>σ' = some x' :: compSt (fs.map (·.2)) σ∧H' = H5) I5' r5 ⟨rfl,rfl⟩) fun _ s6 ⟨σ6,H6,I6,e6,e6'⟩=>?_
      subst e6 e6'
      have back:∀ {σ':St} {H':Hp} {s':Shared},Inv Y ([(D,{ cls:=.type "list",data:=.seq its.toArray n0 })] ++ pinsAt fp s5.heap) (some x' :: compSt (fs.map (·.2)) σ) H' s'→
          Inv Y [] τ H' s'∧tn (i + 1) s'.heap∧(∀ b ∈ fp,H' b = none)∧H' D = none∧s'.heap.PlainList D its.toArray:=fun {σ' H' s'} J'=>by
        refine ⟨(J'.pins_of (pins':=[]) (fun p hp=>absurd hp (by simp))).weak rfl fun j v e=>?_,T.keep _ _ _ st5 fun b hb o e=>(J'.pin (b,o) (List.mem_append_right _ (List.mem_append_right _ (mem_pinsAt hb e)))).1,fun b hb=>?_,?_,n0,?_⟩
        · cases j with
          | zero=>cases e
          | succ j=>exact e
        · obtain ⟨o,e,d⟩:=T.obj _ _ st5 b hb
          exact (J'.pin (b,o) (List.mem_append_right _ (List.mem_append_right _ (mem_pinsAt hb e)))).2.1
        · exact (J'.pin (D,_) (List.mem_append_right _ (List.mem_append_left _ List.mem_cons_self))).2.1
        · exact (J'.pin (D,_) (List.mem_append_right _ (List.mem_append_left _ List.mem_cons_self))).1
      refine thn ((hb cl C s2 H2 fp).1 _ s6 _ _ _ I6 (step x' H6 y5)) fun ok s7 ⟨H7,I7,q7⟩=>?_
      cases ok with
      | false=>
        obtain ⟨m',hm,w7⟩:=q7
        obtain ⟨a1,a2,a3,a4,a5⟩:=back (σ':=τ) I7
        exact ⟨m',hm,i + 1,ys,its,H7,a1,a2,a3,a4,a5,rv3,w7⟩
      | true=>
        refine thn ((hb cl C s2 H2 fp).2 _ s7 _ _ _ I7 q7) fun y s8 ⟨yv,H8,I8,ry,m',hm,w8⟩=>?_
        obtain ⟨a1,a2,a3,a4,a5⟩:=back (σ':=τ) I8
        have hlen:=rv3.length
        refine wpAny_list_append_plain (hsz:=by rw [List.size_toArray,← hlen]; exact hz) a5 fun h' hl' hs'=>?_
        refine ⟨m',hm,i + 1,ys ++ [yv],its ++ [y],H8,a1.turned (t':=s8.toks) (it:=D) (fun b o hb e=>hs'.extBut b o hb e) a4 hDC (.inr (by show s2.heap.objs.size ≤ D; rw [eD]; exact Nat.le_refl _)) (fun y c e=>cellD y c e) (fun p hp=>absurd (show p ∈ ([]:List (Addr × Obj)) from hp) (by simp)),T.keep _ _ _ a2 fun b hb o e=>hs'.extBut b o (fpD b hb) e,a3,a4,by simpa using hl',rv3.append (.cons ry .nil),w8⟩
  exact codeAny_compStart_list (loop _ rfl) (T.self X.A 0 _ _ _ (T.keep _ _ _ st2 (fun b _ o e=>old b o e)) (loop _ rfl))
theorem comp_after {pins:List (Addr × Obj)} {σ:St} {H2 H':Hp} {s2 s':Shared} {fp:List Addr} {D C:Addr} {ys:List V} {its:List Value} {h':Heap} {tk:Nat} (I2:Inv X pins σ H2 s2) (f2:∀ b ∈ fp,FpOk X pins H2 b)
    (hD:s2.heap.get? D = none) (hC:s2.heap.get? C = none) (hDC:D ≠ C) (HD:H' D = none) (HC:H' C = none) (pl:s'.heap.PlainList D its.toArray) (rv:Vals ys its) (hz:ys.length ≤ sizeLine)
    (u:Un (frs X.stack) fp H2 H' s2.heap s'.heap) (hok:HOk X.prog X.w H' s'.heap) (hg:AllBare s'.gens) (ho:s'.os = s2.os) (hs:Heap.SameBut C s'.heap h') :
    Inv X pins σ (upd H' D (.lst ys)) { s' with heap:=h',toks:=tk }:=by
  have kC:∀ b o,b ≠ C→s'.heap.get? b = some o→h'.get? b = some o:=fun b o hb e=>hs.extBut b o hb e
  have neC:∀ b o,s2.heap.get? b = some o→b ≠ C:=fun b o e z=>by rw [z,hC] at e; cases e
  have neD:∀ b o,s2.heap.get? b = some o→b ≠ D:=fun b o e z=>by rw [z,hD] at e; cases e
  have trD:∀ b o,H' b = some o→b ≠ D:=fun b o e z=>by rw [z,HD] at e; cases e
  refine I2.call' (ch:=fp) ho ⟨fun b o e n hb hx=>kC b o (neC b o e) (u.keep b o e n hb hx),fun b o e n hb hx=>?_,fun b o e n hx=>?_,fun b o e hx=>?_,fun b xs e=>?_,fun b o w e=>?_,fun b ps e=>?_⟩ (fun b o e=>?_) hg fun b hb=>?_
  · obtain ⟨sl,q⟩:=u.slot b o e n hb hx
    exact ⟨sl,kC b _ (neC b o e) q⟩
  · rw [upd_ne (neD b o e)]; exact u.free b o e n hx
  · obtain ⟨o',q⟩:=u.there b o e hx
    exact ⟨o',kC b _ (neC b o e) q⟩
  · have q:=u.tups b xs e
    rw [upd_ne (trD b _ q)]; exact q
  · have q:=u.frzs b o w e
    rw [upd_ne (trD b _ q)]; exact q
  · obtain ⟨more,q⟩:=u.tbls b ps e
    exact ⟨more,by rw [upd_ne (trD b _ q)]; exact q⟩
  · by_cases hb:b = D
    · subst hb
      rw [upd_same] at e
      cases e
      obtain ⟨n,q⟩:=pl
      exact ⟨hz,its,n,rv,kC b _ hDC q⟩
    · rw [upd_ne hb] at e
      refine (hok b o e).stay (fun c v hc q=>kC c v (fun z=>?_) q) (fun c q=>by rw [upd_ne (trD c _ q)]; exact q) fun c xs q=>by rw [upd_ne (trD c _ q)]; exact q
      rcases hc with hc | hc
      · rw [hc] at z; rw [z,HC] at e; cases e
      · rw [z,HC] at hc; cases hc
  · obtain ⟨f0,f1,f3,f4,f5,f6⟩:=f2 b hb
    exact ⟨f4,f1,f5,f6⟩
theorem pe_comp {elt iter:Expr} {x:Str} {px pos:Pos} {ifs:List Expr} {scope:Scope} (fs:List (Str × Nat)) {wi:TI} {tt:TT} {te:TE}
    (hc:X.calm = true) (hkind:scope.kind = .function) (hcell:∀ y ∈ scope.names,y.2 ≠ .cell) (hnames:∀ y ∈ scope.names,y.2 = .local→scope.names.lookup y.1 = some .local)
    (hfree:∀ y ∈ scope.names,y.2 = .free→X.env.kindOf y.1 = some .cell ∨ X.env.kindOf y.1 = some .free) (hx:scope.names.lookup x = some .local)
    (hnd:(x :: fs.map (·.1)).Nodup) (hfs:∀ f ∈ fs,X.N[f.2]? = some f.1∧(X.env.kindOf f.1 = some .cell ∨ X.env.kindOf f.1 = some .free)∧scope.names.lookup f.1 = some .free)
    (hi:PI X (.Name x px) iter wi)
    (hb:∀ (cl:List (Str × Addr)) (C:Addr) (s₀:Shared) (H₀:Hp) (ex:List Addr),PTs (cxComp X scope cl C (x :: fs.map (·.1)) s₀ H₀ ex) ifs tt∧PE (cxComp X scope cl C (x :: fs.map (·.1)) s₀ H₀ ex) elt te)
    (hs:∀ x,foldedSetIterable iter X.env x = pure x:=by intro _; rfl) :
    PE X (.ListComp elt [⟨.Name x px,iter,ifs,0⟩] scope pos) (tComp wi (fs.map (·.2)) tt te):=by
  intro pins s σ H Q I h
  obtain ⟨cl,hclos,hcl1,hcl2⟩:=closureFor_ex (env:=X.env) (scope:=scope) fun y hy hk=>I.ok.has y.1 (hfree y hy hk)
  rw [eval_ListComp]
  refine wpAny_comprehension_free (use:=none) rfl hs hclos hkind hnames (thn (hi pins s σ H _ I h) fun v s1 h1=>thn h1 fun itv s2 h2=>?_)
  obtain ⟨it,fp,tn,J,H2,e,I2,T,st2,f2,W,w0,turn⟩:=h2
  subst e
  refine comp_block (pins:=pins) hc hkind hcell hx hnd hfs hb hcl1 hcl2 I2 T st2 f2 W (fun H ys=>∀ p,H p = none→Q (.ref p) (upd H p (.lst ys))) w0 turn ?_
  intro D C H' s' ys its m hCs hD hC hDC HD HC hn pl rv hz q u hok hg ho
  exact ⟨m,hn,fun h' hs'=>⟨.ref D,_,comp_after (tk:=s'.toks) I2 f2 hD hC hDC HD HC pl rv hz u hok hg ho hs',rfl,q D HD⟩⟩
def tCompSet (i:Nat) (wi:TI) (fs:List Nat) (tt:TT) (te:TE):TS:=fun D σ H=>tComp wi fs tt te σ H fun v H1=>D.nx (σ.set i (some v)) H1
theorem ps_comp {i:Nat} {y:Str} {py spos:Pos} {elt iter:Expr} {x:Str} {px pos:Pos} {ifs:List Expr} {scope:Scope} (fs:List (Str × Nat)) {wi:TI} {tt:TT} {te:TE}
    (hN:X.N.Nodup) (hy:X.N[i]? = some y) (hyl:X.env.scope.names.lookup y = some .local)
    (hc:X.calm = true) (hkind:scope.kind = .function) (hcell:∀ y ∈ scope.names,y.2 ≠ .cell) (hnames:∀ y ∈ scope.names,y.2 = .local→scope.names.lookup y.1 = some .local)
    (hfree:∀ y ∈ scope.names,y.2 = .free→X.env.kindOf y.1 = some .cell ∨ X.env.kindOf y.1 = some .free) (hx:scope.names.lookup x = some .local)
    (hnd:(x :: fs.map (·.1)).Nodup) (hfs:∀ f ∈ fs,X.N[f.2]? = some f.1∧(X.env.kindOf f.1 = some .cell ∨ X.env.kindOf f.1 = some .free)∧scope.names.lookup f.1 = some .free)
    (hi:PI X (.Name x px) iter wi)
    (hb:∀ (cl:List (Str × Addr)) (C:Addr) (s₀:Shared) (H₀:Hp) (ex:List Addr),PTs (cxComp X scope cl C (x :: fs.map (·.1)) s₀ H₀ ex) ifs tt∧PE (cxComp X scope cl C (x :: fs.map (·.1)) s₀ H₀ ex) elt te)
    (hsw:swapsWith (.ListComp elt [⟨.Name x px,iter,ifs,0⟩] scope pos) (some (.Name y py)) spos.line X.env = pure true)
    (hs:∀ x,foldedSetIterable iter X.env x = pure x:=by intro _; rfl) :
    PS X (.Assign [.Name y py] (.ListComp elt [⟨.Name x px,iter,ifs,0⟩] scope pos) spos) (tCompSet i wi (fs.map (·.2)) tt te):=by
  intro pins s σ H D' I h
  obtain ⟨cl,hclos,hcl1,hcl2⟩:=closureFor_ex (env:=X.env) (scope:=scope) fun y hy hk=>I.ok.has y.1 (hfree y hy hk)
  rw [exec_Assign_Name_used _ _ _ _ hsw]
  refine wpAny_bind (wpAny_standAt (wpAny_bind ?_))
  show wpAny _ X.A (do let _ ← comprehension (.ListComp elt [⟨.Name x px,iter,ifs,0⟩] scope pos) scope X.env _ (newList []) false (eval iter X.env) (some (assign (.Name y py) X.env))) _ _ s
  refine wpAny_bind (wpAny_mono (wpAny_comprehension_free (use:=some (assign (.Name y py) X.env)) (Q:=fun _ s'=>SP X pins D' .next s') rfl hs hclos hkind hnames
    (thn (hi pins s σ H _ I h) fun v s1 h1=>thn h1 fun itv s2 h2=>?_)) (fun _ s' hq=>wpAny_pure (wpAny_pure hq)) fun _ _ e=>e)
  obtain ⟨it,fp,tn,J,H2,e,I2,T,st2,f2,W,w0,turn⟩:=h2
  subst e
  refine comp_block (pins:=pins) hc hkind hcell hx hnd hfs hb hcl1 hcl2 I2 T st2 f2 W (fun H ys=>∀ p,H p = none→D'.nx (σ.set i (some (.ref p))) (upd H p (.lst ys))) w0 turn ?_
  intro D C H' s' ys its m hCs hD hC hDC HD HC hn pl rv hz q u hok hg ho
  show wpAny _ X.A (assign (.Name y py) X.env (.ref D)) _ _ _
  -- store,with the block's frame still there
  have J:=comp_after (tk:=s'.toks) I2 f2 hD hC hDC HD HC pl rv hz u hok hg ho (Heap.SameBut.refl C s'.heap)
  refine wpAny_assign_Name (store_ok2 J hN hy (.inl hyl) (v:=.ref D) (u:=.ref D) rfl (fun s3 J3 ⟨a,sb,ha⟩=>?_) (.inr hyl))
  have exL:∃ o,s2.heap.get? X.env.locals = some o:=let ⟨_,⟨o,_,_,e,_⟩,_⟩:=I2.loc; ⟨o,e⟩
  have cellC:∀ z c,X.env.cells.lookup z = some c→c ≠ C:=fun z c e q=>by
    obtain ⟨v,oc,ho,_⟩:=I2.cell z c e
    rw [q,hC] at ho; cases ho
  have aC:a ≠ C:=by
    rcases ha with z | z
    · obtain ⟨o,e⟩:=exL
      intro q
      rw [← z,q,hC] at e; cases e
    · exact cellC y a z
  have LC:C ≠ X.env.locals:=fun q=>by
    obtain ⟨o,e⟩:=exL
    rw [← q,hC] at e; cases e
  refine ⟨m,hn.sameBut sb (Ne.symm aC),fun h' hs'=>?_⟩
  exact ⟨_,_,J3.turned (t':=s3.toks) (it:=C) (fun b o hb e=>hs'.extBut b o hb e) (by rw [upd_ne (Ne.symm hDC)]; exact HC) LC (.inr (Nat.le_trans I2.sz hCs)) cellC (fun p hp z=>by
    have:=(I2.pin p hp).1
    rw [z,hC] at this; cases this),q D HD⟩
end
end L2
namespace L2
open PySem PySem.Spec PyProof.Rows PySem.Builtin.Str
def txt (l:List Nat):Str:=⟨l.toArray⟩
theorem txt_codes (x:Str):txt x.cps.toList = x:=by cases x; simp [txt]
theorem codes_txt (l:List Nat):(txt l).cps.toList = l:=by simp [txt]
theorem txt_len (l:List Nat):(txt l).length = l.length:=by simp [txt,Str.length]
theorem txt_inj {a b:List Nat}:txt a = txt b ↔ a = b:=⟨fun h=>by simpa [txt] using h,fun h=>by rw [h]⟩
theorem txt_app (a b:List Nat):txt a ++ txt b = txt (a ++ b):=by
  show Str.mk (a.toArray ++ b.toArray) = _
  simp [txt]
def cutL (xs:List Nat) (lo hi:Option Int):List Nat:=(xs.drop (HT.sIx xs.length 0 lo)).take (HT.sIx xs.length xs.length hi - HT.sIx xs.length 0 lo)
theorem clip_str (v:Option Int) (n d:Nat):(match v with | none=>((d:Nat):Int) | some i=>(if (1:Int) > 0 then max 0 (min (if i < 0 then i + (n:Int) else i) (n:Int)) else max (-1) (min (if i < 0 then i + (n:Int) else i) ((n:Int) - 1)))) = ((HT.sIx n d v:Nat):Int):=by
  cases v with
  | none=>rfl
  | some i=>
    show (if (1:Int) > 0 then max 0 (min (if i < 0 then i + (n:Int) else i) (n:Int)) else _) = (((if i < 0 then (i + (n:Int)).toNat else min i.toNat n):Nat):Int)
    rw [if_pos (by decide)]
    by_cases h:i < 0
    · rw [if_pos h,if_pos h]; omega
    · rw [if_neg h,if_neg h]; omega
theorem sIx_le (n d:Nat) (v:Option Int) (h:d ≤ n):HT.sIx n d v ≤ n:=by
  cases v with
  | none=>exact h
  | some i=>
    show (if i < 0 then (i + (n:Int)).toNat else min i.toNat n) ≤ n
    split <;> omega
theorem slice_txt (l:List Nat) (lo hi:Option Int):Txt.slice (txt l) lo hi = txt (cutL l lo hi):=by
  have e:strSliceIndices lo hi 1 (txt l).length = (List.range (HT.sIx l.length l.length hi - HT.sIx l.length 0 lo)).map (HT.sIx l.length 0 lo + ·):=by
    rw [txt_len]
    unfold strSliceIndices
    simp only [if_pos (show (1:Int) > 0 by decide)]
    have e1:=clip_str lo l.length 0
    have e2:=clip_str hi l.length l.length
    simp only [if_pos (show (1:Int) > 0 by decide)] at e1 e2
    have e1':((0:Nat):Int) = 0:=rfl
    rw [e1'] at e1
    have key:∀ a b a' b':Int,a = a'→b = b'→sliceRange a b 1 = sliceRange a' b' 1:=fun a b a' b' h1 h2=>by rw [h1,h2]
    exact Eq.trans (key _ _ _ _ e1 e2) (sliceRange_one _ _)
  unfold Txt.slice
  rw [e]
  have e3:(((List.range (HT.sIx l.length l.length hi - HT.sIx l.length 0 lo)).map (HT.sIx l.length 0 lo + ·)).filterMap ((txt l).cps[·]?)) = cutL l lo hi:=by
    rw [pick_run,codes_txt]; rfl
  rw [e3]
  split
  · rename_i hc
    have hc':HT.sIx l.length l.length hi - HT.sIx l.length 0 lo = l.length:=by
      rw [txt_len] at hc
      simpa using hc
    have h1:=sIx_le l.length l.length hi (Nat.le_refl _)
    have h0:HT.sIx l.length 0 lo = 0 ∨ l.length = 0:=by omega
    unfold cutL
    rw [hc']
    rcases h0 with h0 | h0
    · rw [h0]; simp
    · have:l = []:=List.length_eq_zero_iff.mp h0
      subst this; simp
  · rfl
section
variable {X:Cx}
def rSlS:V→Option Int→Option Int→Hp→VK→Prop:=fun x lo hi H Q=>∃ l,x = .str (txt l)∧l.length ≤ sizeLine∧Q (.str (txt (cutL l lo hi))) H
theorem isSlice_of {h:Heap} {sl:Addr} {vl vu:Value} {lo hi:Option Int} (hs:h.IsSliceOf sl vl vu .none) (pl:IsPart vl lo) (pu:IsPart vu hi) :
    ∃ (l u:Option (Int × Tok)),h.IsSlice sl l u none∧l.map (·.1) = lo∧u.map (·.1) = hi:=by
  obtain ⟨o,ho,hc,hd⟩:=hs
  cases pl with
  | none=>
    cases pu with
    | none=>exact ⟨none,none,⟨o,ho,hc,hd⟩,rfl,rfl⟩
    | int j u=>exact ⟨none,some (j,u),⟨o,ho,hc,hd⟩,rfl,rfl⟩
  | int i t=>
    cases pu with
    | none=>exact ⟨some (i,t),none,⟨o,ho,hc,hd⟩,rfl,rfl⟩
    | int j u=>exact ⟨some (i,t),some (j,u),⟨o,ho,hc,hd⟩,rfl,rfl⟩
theorem sl_str:SlR X rSlS:=by
  intro pins s σ H x v vl vu lo hi sl Q I rx hs pl pu h
  obtain ⟨l,rfl,hz,q⟩:=h
  obtain ⟨t,rfl⟩:=rx
  obtain ⟨l',u',hS,rfl,rfl⟩:=isSlice_of hs pl pu
  refine ⟨"str",_,F.slot_str_getitem.lookup,typeIs_str _ _ _,wpAny_getItem_str_slice hS rfl ?_⟩
  have key:∀ t' k,EP X pins σ Q (.str (Txt.slice (txt l) (l'.map (·.1)) (u'.map (·.1))) t') { s with toks:=k }:=fun t' k=>⟨.str (txt (cutL l _ _)),H,I.tok _,⟨t',by rw [slice_txt]⟩,q⟩
  have e:sliceMade (txt l) t l' u' none = (if ((1:Int) == 1 && (strSliceIndices (l'.map (·.1)) (u'.map (·.1)) 1 (txt l).length).length == (txt l).length) = true then Made.val (.str (txt l) t) else Made.str ⟨((strSliceIndices (l'.map (·.1)) (u'.map (·.1)) 1 (txt l).length).filterMap ((txt l).cps[·]?)).toArray⟩):=rfl
  rw [e]
  exact post_val_or_str ⟨Nat.le_trans (Txt.slice_le _ _ _) (by rw [txt_len]; exact hz),key⟩
def rEnds:V→List V→Hp→VK→Prop:=fun x vs H Q=>∃ l m,x = .str (txt l)∧vs = [.str (txt m)]∧Q (.bl (decide (m.length ≤ l.length) && (l.drop (l.length - m.length) == m))) H
theorem ends_eq (l m:List Nat):Txt.endswith (txt l) (txt m) = (decide (m.length ≤ l.length) && (l.drop (l.length - m.length) == m)):=by
  unfold Txt.endswith
  rw [txt_len,txt_len]
  by_cases h:m.length ≤ l.length
  · rw [decide_eq_true h,decide_eq_true (show 0 + m.length ≤ l.length by omega)]
    simp only [Bool.true_and]
    unfold subAt
    rw [txt_len]
    have e:(txt l).cps.extract (l.length - m.length) (l.length - m.length + m.length) = (l.drop (l.length - m.length)).toArray:=by
      simp only [txt,List.extract_toArray,List.extract_eq_take_drop]
      congr 1
      rw [List.take_of_length_le]
      rw [List.length_drop]; omega
    rw [e]
    show ((l.drop (l.length - m.length)).toArray == m.toArray) = _
    rw [Bool.eq_iff_iff]; simp
  · rw [decide_eq_false h,decide_eq_false (show ¬ 0 + m.length ≤ l.length by omega)]
    simp
theorem mt_endswith:MtR X "str.endswith" rEnds:=by
  intro pins s σ H x vs v us Q I rx rv h
  obtain ⟨l,m,rfl,rfl,q⟩:=h
  obtain ⟨t,rfl⟩:=rx
  obtain ⟨u,rfl,t',rfl⟩:=rv.one
  refine call_gives F.slot_str_endswith (typeIs_str _ _ _) F.entry_str_endswith (F.args_str_endswith_2 _ _) (gives_str_endswith _ _ t t') ?_
  refine ⟨.bl _,H,I,?_,q⟩
  rw [← ends_eq]; rfl
theorem op_in1:OpR X (compareOp .In) (fun x y H Q=>∃ c l,x = .str (txt [c])∧y = .str (txt l)∧Q (.bl (decide (c ∈ l))) H):=by
  intro pins s σ H x y v u Q I rx ry h
  obtain ⟨c,l,rfl,rfl,q⟩:=h
  obtain ⟨t,rfl⟩:=rx
  obtain ⟨t',rfl⟩:=ry
  refine in_str (fin_bl I q ?_)
  have:=StrLaws.found_one (txt l) c
  rw [codes_txt] at this
  exact this.symm
theorem op_ltS:OpR X (compareOp .Lt) (fun x y H Q=>∃ i j,x = .str (txt i)∧y = .str (txt j)∧Q (.bl (decide (i < j))) H):=by
  intro pins s σ H x y v u Q I rx ry h
  obtain ⟨i,j,rfl,rfl,q⟩:=h
  obtain ⟨t,rfl⟩:=rx
  obtain ⟨t',rfl⟩:=ry
  exact lt_str (fin_bl I q (by rw [codes_txt,codes_txt]))
theorem op_addS:OpR X (binaryOp .Add) (fun x y H Q=>∃ i j,x = .str (txt i)∧y = .str (txt j)∧i.length + j.length ≤ sizeLine∧Q (.str (txt (i ++ j))) H):=by
  intro pins s σ H x y v u Q I rx ry h
  obtain ⟨i,j,rfl,rfl,hz,q⟩:=h
  exact op_add_str pins s σ H _ _ v u Q I rx ry ⟨_,_,rfl,rfl,by rw [txt_len,txt_len]; exact hz,by rw [txt_app]; exact q⟩
theorem ix_strL:IxR X (fun x y H Q=>∃ (l:List Nat) (i:Nat) (c:Nat),x = .str (txt l)∧y = .int i∧l.length ≤ sizeLine∧l[i]? = some c∧Q (.str (txt [c])) H):=by
  intro pins s σ H value slice x y v u Q I rx ry h hs
  obtain ⟨l,i,c,rfl,rfl,hz,e,q⟩:=h
  exact ix_str pins s σ H value slice _ _ v u Q I rx ry ⟨_,_,c,rfl,rfl,by rw [txt_len]; exact hz,by rw [codes_txt]; exact atI_nat e,q⟩ hs
theorem call_lenS:CallR X (.builtin "len") (fun xs H Q=>∃ z,xs = [.str (txt z)]∧z.length ≤ sizeLine∧Q (.int z.length) H):=by
  intro pins s σ H xs us Q I r h
  obtain ⟨z,rfl,hz,q⟩:=h
  exact call_len_str pins s σ H _ us Q I r ⟨_,rfl,by rw [txt_len]; exact hz,by rw [txt_len]; exact q⟩
end
end L2
namespace L2
open PySem PySem.Spec PyProof.Rows PySem.Builtin.Str
def joinL (sep:List Nat):List (List Nat)→List Nat
  | []=>[]
  | y :: r=>r.foldl (fun acc p=>acc ++ sep ++ p) y
theorem foldl_cps (sep:List Nat):∀ (r:List (List Nat)) (y:List Nat),((r.map txt).foldl (fun acc p=>acc ++ (txt sep).cps ++ p.cps) y.toArray) = (r.foldl (fun acc p=>acc ++ sep ++ p) y).toArray
  | [],y=>rfl
  | a :: r,y=>by
    rw [List.map_cons,List.foldl_cons,List.foldl_cons,← foldl_cps sep r (y ++ sep ++ a)]
    congr 1
    simp [txt]
theorem join_txt (sep:List Nat) (ys:List (List Nat)):Txt.join (txt sep) (ys.map txt) = txt (joinL sep ys):=by
  cases ys with
  | nil=>rfl
  | cons y r=>
    show (⟨_⟩:Str) = _
    have:=foldl_cps sep r y
    show (⟨(((y :: r).map txt).drop 1).foldl (fun acc p=>acc ++ (txt sep).cps ++ p.cps) (((y :: r).map txt).headD Str.empty).cps⟩:Str) = _
    simp only [List.map_cons,List.drop_one,List.tail_cons,List.headD_cons]
    have e:(txt y).cps = y.toArray:=rfl
    rw [e,this]; rfl
theorem foldl_nilsep:∀ (r:List (List Nat)) (y:List Nat),r.foldl (fun acc p=>acc ++ [] ++ p) y = y ++ r.flatten
  | [],y=>by simp
  | a :: r,y=>by rw [List.foldl_cons,foldl_nilsep r]; simp
theorem joinL_nil (ys:List (List Nat)):joinL [] ys = ys.flatten:=by
  cases ys with
  | nil=>rfl
  | cons y r=>show r.foldl (fun acc p=>acc ++ [] ++ p) y = _; rw [foldl_nilsep]; rfl
theorem strsAre_of:∀ {ys:List Str} {us:List Value},Vals (ys.map V.str) us→StrsAre us ys
  | [],_,.nil=>.nil
  | y :: ys,_,.cons ⟨t,e⟩ r=>by subst e; exact .cons y t (strsAre_of r)
theorem vals_strs:∀ {us:List Value} {ys:List Str},StrsAre us ys→Vals (ys.map V.str) us
  | _,_,.nil=>.nil
  | _,_,.cons y t r=>.cons ⟨t,rfl⟩ (vals_strs r)
def strV (l:List Nat):V:=.str (txt l)
theorem map_strV (ys:List (List Nat)):ys.map strV = (ys.map txt).map V.str:=by rw [List.map_map]; rfl
section
variable {X:Cx}
def rJoin (K:PySem.W.Frag):V→List V→Hp→VK→Prop:=fun x vs H Q=>∃ sep p ys,x = .str (txt sep)∧vs = [.ref p]∧SqL K H p (ys.map strV)∧(ys.map (·.length)).sum + ys.length * sep.length ≤ 16777216∧Q (.str (txt (joinL sep ys))) H
theorem mt_join:MtR X "str.join" (rJoin X.K):=by
  intro pins s σ H x vs v us Q I rx rv h
  obtain ⟨sep,p,ys,rfl,rfl,hx,hz,q⟩:=h
  obtain ⟨t,rfl⟩:=rx
  obtain ⟨u,rfl,ru⟩:=rv.one
  cases ru
  obtain ⟨its,r,pl,hl⟩:=I.list hx
  rw [map_strV] at r
  refine join_list pl.isList (ys:=ys.map txt) (by simpa using strsAre_of r) ?_ fun t' k=>⟨.str (txt (joinL sep ys)),H,I.tok _,⟨t',by rw [join_txt]⟩,q⟩
  rw [List.map_map,List.length_map,txt_len]
  have:((fun x=>x.length) ∘ txt:List Nat→Nat) = fun l=>l.length:=by funext l; exact txt_len l
  rw [this]; exact hz
def Its (l:List Nat):It:=⟨fun i _=>i < l.length,fun i H x H'=>H' = H∧∃ c,l[i]? = some c∧x = .str (txt [c]),fun i _=>l.length ≤ i⟩
theorem strTy (x:Str):strIterType x = "str_ascii_iterator" ∨ strIterType x = "str_iterator":=by
  unfold strIterType
  split
  · exact .inl rfl
  · exact .inr rfl
theorem walks_str {prog:Program} {w:World} {A:Around} (hh:A.handled = none) (I:Addr) (x:Str) (t:Tok):Walks prog w A I [I] [I] x.cps.size (SignAt x) (fun i h=>h.IsStrIter I (strIterType x) x t i):=by
  rcases strTy x with e | e
  · rw [e]; exact Walks.strAscii hh I x t
  · rw [e]; exact Walks.strWide hh I x t
theorem turn_str {P:Program} {w:World} {K:PySem.W.Frag} {tg:Expr} (it:Addr) (l:List Nat) (t:Tok):Turn P w K tg (Its l) [it] it (fun i h=>h.IsStrIter it (strIterType (txt l)) (txt l) t i) where
  mem:=by simp
  obj:=fun i h st b hb=>by
    have e:b = it:=by simpa using hb
    subst e
    obtain ⟨o,e,c,d⟩:=st
    exact ⟨o,e,fun v z=>by rw [d] at z; cases z⟩
  keep:=fun i h h' st k=>let ⟨o,ho,r⟩:=st; ⟨o,k it (by simp) o ho,r⟩
  item:=by
    intro X hP hw hK hc i pins s σ H E I hf st hg
    subst hP hw hK
    obtain ⟨f0,f1,f2,f3,f4,f5⟩:=hf it (by simp)
    have W:=walks_str (prog:=X.prog) (w:=X.w) (I.ok.hd hc) it (txt l) t
    have hg':i < (txt l).cps.size:=by have:i < l.length:=hg; simpa [txt] using this
    refine W.item i s _ _ hg' st fun v h' tk hv st' kk=>?_
    obtain ⟨c,u,hc',rfl⟩:=hv
    have I1:Inv X pins σ H { s with heap:=h',toks:=tk }:=I.turned (fun b o hb e=>kk b o (by simpa using hb) e) f0 f1 f3 f4 f5
    obtain ⟨o,e,cc,d⟩:=id st'
    have hn : ["enumerate", "zip", "dict_itemiterator", "dict_reverseitemiterator", "odict_iterator", "itertools.zip_longest", "itertools.pairwise"].contains (strIterType (txt l)) = false := by
      rcases strTy (txt l) with e | e <;> (rw [e]; decide)
    exact ⟨_,rfl,go_of (s:={ s with heap:=h',toks:=tk }) e cc d hn ⟨.str (txt [c]),H,I1,⟨u,rfl⟩,⟨rfl,c,by simpa [txt] using hc',rfl⟩,st',fun b hb=>(hf b hb).1⟩⟩
  done:=by
    intro X hP hw hK hc i pins s σ H E I hf st hg
    subst hP hw hK
    obtain ⟨f0,f1,f2,f3,f4,f5⟩:=hf it (by simp)
    have hg':l.length ≤ i:=hg
    obtain ⟨o,e,cc,d⟩:=id st
    have fin:∀ h',Heap.ExtBut it s.heap h'→(none:Option Value) = none∧Inv X pins σ H { s with heap:=h' }:=fun h' eb=>⟨rfl,I.turned (t':=s.toks) (fun b o hb e=>eb b o hb e) f0 f1 f3 f4 f5⟩
    have hx:(txt l).cps[i]? = none:=by simpa [txt] using hg'
    rcases strTy (txt l) with e | e
    · rw [e] at st
      exact wpAny_pyNext_ascii_end (I.ok.hd hc) st hx fin
    · rw [e] at st
      exact wpAny_pyNext_wide_end (I.ok.hd hc) st hx fin
  self:=fun _ _ _ _ _ st h=>by
    rcases strTy (txt l) with e | e
    · rw [e] at st; exact wpAny_pyIter_striter_ascii st h
    · rw [e] at st; exact wpAny_pyIter_striter_wide st h
def iStr (tl:TE):TI:=fun σ H R=>tl σ H fun x H1=>∃ l,x = .str (txt l)∧R (Its l) H1
theorem pi_str {tg l:Expr} {tl:TE} (hl:PE X l tl):PI X tg l (iStr tl):=by
  intro pins s σ H R I h
  refine thn (hl pins s σ H _ I h) fun v s1 ⟨x,H1,I1,r1,q1⟩=>?_
  obtain ⟨l',e,q⟩:=q1
  subst e
  obtain ⟨t,rfl⟩:=r1
  refine wpAny_pyIter_strU ?_
  refine ⟨s1.heap.objs.size,[s1.heap.objs.size],_,_,H1,rfl,I1.kept (t':=s1.toks) fun b o e=>Heap.get?_push_of_some _ e,turn_str _ l' t,⟨_,Heap.get?_push_size _ rfl,rfl,rfl⟩,fun b hb=>?_,q⟩
  have e:b = s1.heap.objs.size:=by simpa using hb
  subst e
  exact I1.fpOk (Nat.le_refl _) (I1.hok.fresh (Nat.le_refl _))
theorem ltCps_txt (a b:List Nat):ltCps a b = decide (a < b):=by
  first | exact ltCps_eq a b | (rw [ltCps_eq])
theorem rising_pw:∀ (r:List (List Nat)) (p:List Nat),risingS (txt p) (r.map txt) = true→(p :: r).Pairwise (· ≤ ·)
  | [],p,_=>List.pairwise_singleton _ _
  | x :: r,p,h=>by
    rw [List.map_cons] at h
    unfold risingS at h
    rw [Bool.and_eq_true,codes_txt,codes_txt,ltCps_txt] at h
    have h1:p ≤ x:=by
      have:=h.1
      simp only [Bool.not_eq_true',decide_eq_false_iff_not] at this
      exact List.not_lt.mp this
    have ih:=rising_pw r x h.2
    refine List.pairwise_cons.mpr ⟨fun y hy=>?_,ih⟩
    rcases List.mem_cons.mp hy with e | hy
    · rw [e]; exact h1
    · exact List.le_trans h1 ((List.pairwise_cons.mp ih).1 y hy)
theorem sortedS_pw (l:List (List Nat)) (h:sortedS (l.map txt) = true):l.Pairwise (· ≤ ·):=by
  cases l with
  | nil=>exact .nil
  | cons x r=>exact rising_pw r x h
theorem call_sortedS:CallR X (.builtin "sorted") (fun xs H Q=>∃ p,∃ ys:List (List Nat),xs = [.ref p]∧SqL X.K H p (ys.map strV)∧ys.length < 64∧∀ l,∀ zs:List (List Nat),H l = none→zs.Perm ys→zs.Pairwise (· ≤ ·)→Q (.ref l) (upd H l (.lst (zs.map strV)))):=by
  intro pins s σ H xs us Q I r h
  obtain ⟨p,ys,rfl,hx,hz,q⟩:=h
  obtain ⟨u,rfl,ru⟩:=vals1 r
  cases ru
  obtain ⟨its,rv,pl,hl⟩:=I.list hx
  have hlen:=rv.length
  rw [map_strV] at rv
  refine sorted_strs pl.isList (strsAre_of rv) (by rw [← hlen,List.length_map]; exact hz) fun out ss' a1 a2 a3=>?_
  obtain ⟨e,he⟩:=sortedAll_at s.heap its out
  have ez:ss' = (ss'.map fun x=>x.cps.toList).map txt:=by
    rw [List.map_map]
    have:(txt ∘ fun (x:Str)=>x.cps.toList) = id:=by funext x; exact txt_codes x
    rw [this,List.map_id]
  have hp:(ss'.map fun x=>x.cps.toList).Perm ys:=by
    have:=a2.map (fun x:Str=>x.cps.toList)
    rw [List.map_map] at this
    have e2:((fun x:Str=>x.cps.toList) ∘ txt) = id:=by funext l; exact codes_txt l
    rw [e2,List.map_id] at this
    exact this
  rw [ez] at a3
  have hv:Vals ((ss'.map fun x=>x.cps.toList).map strV) out.toList:=by rw [map_strV,← ez]; exact vals_strs a1
  refine ⟨.ref (s.heap.objs.size + 1),_,I.laid (t':=s.toks) (a:=s.heap.objs.size + 1) (o:=.lst ((ss'.map fun x=>x.cps.toList).map strV)) (fun b o q=>sortedAll_old q) (Nat.le_succ _) ⟨?_,out.toList,e,hv,by simpa [seqObj] using he⟩,rfl,q _ _ (I.hok.fresh (Nat.le_succ _)) hp (sortedS_pw _ a3)⟩
  have h64:=hp.length_eq
  rw [List.length_map,h64,sizeLine_eq]
  omega
theorem reads_strs {h:Heap}:∀ {us:List Value} {ys:List Str},StrsAre us ys→ReadsAll h us (ys.map PyData.str) []
  | _,_,.nil=>.nil
  | _,_,.cons y t r=>.cons (as:=[]) (bs:=[]) (.str y t) (reads_strs r)
theorem canLay_strs:∀ ys:List Str,(∀ y ∈ ys,PyData.strOk y = true)→PyData.canLayAll0 (ys.map PyData.str) = true
  | [],_=>rfl
  | y :: r,h=>by simp [PyData.canLayAll0,PyData.canLay0,h y List.mem_cons_self,canLay_strs r fun z hz=>h z (List.mem_cons_of_mem _ hz)]
theorem depth_strs:∀ ys:List Str,PyData.depthAll (ys.map PyData.str) = 0
  | []=>rfl
  | _ :: r=>by simp [PyData.depthAll,PyData.depth,depth_strs r]
theorem shaped_strs (ys:List Str) (h:∀ y ∈ ys,PyData.strOk y = true):SeqAt.shaped (.list (ys.map PyData.str)) = true:=by
  simp [SeqAt.shaped,PyData.canLay0,PyData.depth,canLay_strs ys h,depth_strs]
theorem eqv_strs:∀ xs ys:List Str,PyData.eqvAll (xs.map PyData.str) (ys.map PyData.str) = decide (xs = ys)
  | [],[]=>by simp [PyData.eqvAll]
  | [],_ :: _=>by simp [PyData.eqvAll]
  | _ :: _,[]=>by simp [PyData.eqvAll]
  | a :: r,b :: t=>by
    simp only [List.map_cons,PyData.eqvAll,PyData.eqv,eqv_strs r t]
    by_cases h:a = b <;> by_cases h':r = t <;> simp [h,h']
theorem txts_inj {a b:List (List Nat)}:a.map txt = b.map txt ↔ a = b:=⟨fun h=>by
    have:=congrArg (List.map fun x:Str=>x.cps.toList) h
    rw [List.map_map,List.map_map] at this
    have e2:((fun x:Str=>x.cps.toList) ∘ txt) = id:=by funext l; exact codes_txt l
    rwa [e2,List.map_id,List.map_id] at this,fun h=>by rw [h]⟩
theorem op_neLS (hu:X.A.units + 64 < cLine):OpR X (compareOp .NotEq) (fun x y H Q=>∃ a b,∃ xs ys:List (List Nat),x = .ref a∧y = .ref b∧SqL X.K H a (xs.map strV)∧SqL X.K H b (ys.map strV)∧(∀ y ∈ xs,PyData.strOk (txt y) = true)∧(∀ y ∈ ys,PyData.strOk (txt y) = true)∧Q (.bl (!decide (xs = ys))) H):=by
  intro pins s σ H x y v u Q I rx ry h
  obtain ⟨a,b,xs,ys,rfl,rfl,ha,hb,ox,oy,q⟩:=h
  cases rx
  cases ry
  obtain ⟨ia,ra,pa,_⟩:=I.list ha
  obtain ⟨ib,rb,pb,_⟩:=I.list hb
  obtain ⟨oa,na,ea,ca,_,da⟩:=pa
  obtain ⟨ob,nb,eb,cb,_,db⟩:=pb
  rw [map_strV] at ra rb
  refine ne_dataH (Reads.list ea ca da (reads_strs (by simpa using strsAre_of ra))) (Reads.list eb cb db (reads_strs (by simpa using strsAre_of rb))) (shaped_strs (xs.map txt) (by simpa using ox)) (shaped_strs (ys.map txt) (by simpa using oy)) hu (fin_bl I q ?_)
  simp only [PyData.eqv,eqv_strs]
  congr 1
  exact decide_eq_decide.mpr txts_inj.symm
theorem op_eqLS (hu:X.A.units + 64 < cLine):OpR X (compareOp .Eq) (fun x y H Q=>∃ a b,∃ xs ys:List (List Nat),x = .ref a∧y = .ref b∧SqL X.K H a (xs.map strV)∧SqL X.K H b (ys.map strV)∧(∀ y ∈ xs,PyData.strOk (txt y) = true)∧(∀ y ∈ ys,PyData.strOk (txt y) = true)∧Q (.bl (decide (xs = ys))) H):=by
  intro pins s σ H x y v u Q I rx ry h
  obtain ⟨a,b,xs,ys,rfl,rfl,ha,hb,ox,oy,q⟩:=h
  cases rx
  cases ry
  obtain ⟨ia,ra,pa,_⟩:=I.list ha
  obtain ⟨ib,rb,pb,_⟩:=I.list hb
  obtain ⟨oa,na,ea,ca,_,da⟩:=pa
  obtain ⟨ob,nb,eb,cb,_,db⟩:=pb
  rw [map_strV] at ra rb
  refine eq_dataH (Reads.list ea ca da (reads_strs (by simpa using strsAre_of ra))) (Reads.list eb cb db (reads_strs (by simpa using strsAre_of rb))) (shaped_strs (xs.map txt) (by simpa using ox)) (shaped_strs (ys.map txt) (by simpa using oy)) hu (fin_bl I q ?_)
  simp only [PyData.eqv,eqv_strs]
  exact decide_eq_decide.mpr txts_inj.symm
end
end L2
namespace L2
open PySem PySem.Spec PyProof.Rows PySem.Builtin.Str
section
variable {X:Cx}
structure CompOk (X:Cx) (scope:Scope) (x:Str) (fs:List (Str × Nat)):Prop where
  kind:scope.kind = .function
  cell:∀ y ∈ scope.names,y.2 ≠ .cell
  names:∀ y ∈ scope.names,y.2 = .local→scope.names.lookup y.1 = some .local
  free:∀ y ∈ scope.names,y.2 = .free→X.env.kindOf y.1 = some .cell ∨ X.env.kindOf y.1 = some .free
  hx:scope.names.lookup x = some .local
  nd:(x :: fs.map (·.1)).Nodup
  fs:∀ f ∈ fs,X.N[f.2]? = some f.1∧(X.env.kindOf f.1 = some .cell ∨ X.env.kindOf f.1 = some .free)∧scope.names.lookup f.1 = some .free
def compLook (names:List (Str × NameKind)) (outer:List (Str × NameKind)) (N:List Str) (x:Str) (fs:List (Str × Nat)):Bool:=
  (names.all fun y=>y.2 != .cell) && (names.all fun y=>y.2 != .local || names.lookup y.1 == some .local) &&
  (names.all fun y=>y.2 != .free || outer.lookup y.1 == some .cell || outer.lookup y.1 == some .free) && (names.lookup x == some .local) &&
  decide ((x :: fs.map (·.1)).Nodup) && (fs.all fun f=>decide (N[f.2]? = some f.1) && (outer.lookup f.1 == some .cell || outer.lookup f.1 == some .free) && names.lookup f.1 == some .free)
theorem compOk_of {scope:Scope} {x:Str} {fs:List (Str × Nat)} (hk:scope.kind = .function) (h:compLook scope.names X.env.scope.names X.N x fs = true):CompOk X scope x fs:=by
  unfold compLook at h
  simp only [Bool.and_eq_true,List.all_eq_true,decide_eq_true_eq,Bool.or_eq_true,bne_iff_ne,beq_iff_eq] at h
  obtain ⟨⟨⟨⟨⟨h1,h2⟩,h3⟩,h4⟩,h5⟩,h6⟩:=h
  refine ⟨hk,fun y hy=>h1 y hy,fun y hy e=>?_,fun y hy e=>?_,h4,h5,fun f hf=>?_⟩
  · rcases h2 y hy with z | z
    · exact absurd e z
    · exact z
  · rcases h3 y hy with (z | z) | z
    · exact absurd e z
    · exact .inl z
    · exact .inr z
  · obtain ⟨⟨a,b⟩,c⟩:=h6 f hf
    exact ⟨a,b,c⟩
theorem pe_compB {elt iter:Expr} {x:Str} {px pos:Pos} {ifs:List Expr} {scope:Scope} (fs:List (Str × Nat)) {wi:TI} {tt:TT} {te:TE} (hc:X.calm = true)
    (hi:PI X (.Name x px) iter wi)
    (hb:∀ (cl:List (Str × Addr)) (C:Addr) (s₀:Shared) (H₀:Hp) (ex:List Addr),PTs (cxComp X scope cl C (x :: fs.map (·.1)) s₀ H₀ ex) ifs tt∧PE (cxComp X scope cl C (x :: fs.map (·.1)) s₀ H₀ ex) elt te)
    (hk:scope.kind = .function:=by rfl) (hl:compLook scope.names X.env.scope.names X.N x fs = true:=by kernel_rfl)
    (hs:∀ x,foldedSetIterable iter X.env x = pure x:=by intro _; rfl) :
    PE X (.ListComp elt [⟨.Name x px,iter,ifs,0⟩] scope pos) (tComp wi (fs.map (·.2)) tt te):=
  let O:=compOk_of (X:=X) hk hl
  pe_comp fs hc O.kind O.cell O.names O.free O.hx O.nd O.fs hi hb hs
theorem ps_compB {i:Nat} {y:Str} {py spos:Pos} {elt iter:Expr} {x:Str} {px pos:Pos} {ifs:List Expr} {scope:Scope} (fs:List (Str × Nat)) {wi:TI} {tt:TT} {te:TE}
    (hN:X.N.Nodup) (hy:X.N[i]? = some y) (hyl:X.env.scope.names.lookup y = some .local) (hc:X.calm = true)
    (hi:PI X (.Name x px) iter wi)
    (hb:∀ (cl:List (Str × Addr)) (C:Addr) (s₀:Shared) (H₀:Hp) (ex:List Addr),PTs (cxComp X scope cl C (x :: fs.map (·.1)) s₀ H₀ ex) ifs tt∧PE (cxComp X scope cl C (x :: fs.map (·.1)) s₀ H₀ ex) elt te)
    (hk:scope.kind = .function:=by rfl) (hl:compLook scope.names X.env.scope.names X.N x fs = true:=by kernel_rfl)
    (hsw:swapsWith (.ListComp elt [⟨.Name x px,iter,ifs,0⟩] scope pos) (some (.Name y py)) spos.line X.env = pure true:=by rfl)
    (hs:∀ x,foldedSetIterable iter X.env x = pure x:=by intro _; rfl) :
    PS X (.Assign [.Name y py] (.ListComp elt [⟨.Name x px,iter,ifs,0⟩] scope pos) spos) (tCompSet i wi (fs.map (·.2)) tt te):=
  let O:=compOk_of (X:=X) hk hl
  ps_comp fs hN hy hyl hc O.kind O.cell O.names O.free O.hx O.nd O.fs hi hb hsw hs
theorem comp_range {lo:Int} {n:Nat} {σ:St} {fs:List Nat} {tt:TT} {te:TE} {H:Hp} {Q:VK} (Pv:Nat→List V→Hp→Prop) (h0:Pv 0 [] H) (hl:∀ i ys H,i ≤ n→Pv i ys H→ys.length ≤ i) (hn:n ≤ sizeLine)
    (hs:∀ i ys H,i < n→Pv i ys H→∀ R:List V→Hp→Prop,(∀ ys' H',Pv (i + 1) ys' H'→R ys' H')→tt (some (.int (lo + i)) :: compSt fs σ) H fun b H2=>if b = true then te (some (.int (lo + i)) :: compSt fs σ) H2 fun y H3=>R (ys ++ [y]) H3 else R ys H2)
    (hd:∀ ys H,Pv n ys H→∀ p,H p = none→Q (.ref p) (upd H p (.lst ys))) :
    ∃ W:Nat→Nat→List V→Hp→Prop,(∃ m,W 0 m [] H)∧∀ i m ys H,W i m ys H→ys.length ≤ sizeLine∧
      (((Itr lo n).stop i H∧∀ p,H p = none→Q (.ref p) (upd H p (.lst ys))) ∨
       ((Itr lo n).go i H∧ys.length < sizeLine∧∀ x H',(Itr lo n).yld i H x H'→tt (some x :: compSt fs σ) H' fun b H2=>if b = true then te (some x :: compSt fs σ) H2 fun y H3=>∃ m',m' < m∧W (i + 1) m' (ys ++ [y]) H3 else ∃ m',m' < m∧W (i + 1) m' ys H2)):=by
  refine ⟨fun i m ys H=>m = n - i∧i ≤ n∧Pv i ys H,⟨n,by simp,Nat.zero_le _,h0⟩,?_⟩
  rintro i m ys H ⟨rfl,hi,p⟩
  have hle:=hl i ys H hi p
  refine ⟨by omega,?_⟩
  by_cases hlt:i < n
  · refine .inr ⟨hlt,by omega,fun x H' y=>?_⟩
    obtain ⟨e,y⟩:=y
    subst e y
    exact hs i ys _ hlt p (fun ys' H'=>∃ m',m' < n - i∧m' = n - (i + 1)∧i + 1 ≤ n∧Pv (i + 1) ys' H') fun ys' H' q=>⟨n - (i + 1),by omega,rfl,hlt,q⟩
  · have e:i = n:=by omega
    subst e
    exact .inl ⟨Nat.le_refl _,hd ys H p⟩
theorem comp_str {l:List Nat} {σ:St} {fs:List Nat} {tt:TT} {te:TE} {H:Hp} {Q:VK} (Pv:Nat→List V→Hp→Prop) (h0:Pv 0 [] H) (hl:∀ i ys H,i ≤ l.length→Pv i ys H→ys.length ≤ i) (hn:l.length ≤ sizeLine)
    (hs:∀ i c ys H,l[i]? = some c→Pv i ys H→∀ R:List V→Hp→Prop,(∀ ys' H',Pv (i + 1) ys' H'→R ys' H')→tt (some (.str (txt [c])) :: compSt fs σ) H fun b H2=>if b = true then te (some (.str (txt [c])) :: compSt fs σ) H2 fun y H3=>R (ys ++ [y]) H3 else R ys H2)
    (hd:∀ ys H,Pv l.length ys H→∀ p,H p = none→Q (.ref p) (upd H p (.lst ys))) :
    ∃ W:Nat→Nat→List V→Hp→Prop,(∃ m,W 0 m [] H)∧∀ i m ys H,W i m ys H→ys.length ≤ sizeLine∧
      (((Its l).stop i H∧∀ p,H p = none→Q (.ref p) (upd H p (.lst ys))) ∨
       ((Its l).go i H∧ys.length < sizeLine∧∀ x H',(Its l).yld i H x H'→tt (some x :: compSt fs σ) H' fun b H2=>if b = true then te (some x :: compSt fs σ) H2 fun y H3=>∃ m',m' < m∧W (i + 1) m' (ys ++ [y]) H3 else ∃ m',m' < m∧W (i + 1) m' ys H2)):=by
  refine ⟨fun i m ys H=>m = l.length - i∧i ≤ l.length∧Pv i ys H,⟨l.length,by simp,Nat.zero_le _,h0⟩,?_⟩
  rintro i m ys H ⟨rfl,hi,p⟩
  have hle:=hl i ys H hi p
  refine ⟨by omega,?_⟩
  by_cases hlt:i < l.length
  · refine .inr ⟨hlt,by omega,fun x H' y=>?_⟩
    obtain ⟨e,c,hc,y⟩:=y
    subst e y
    exact hs i c ys _ hc p (fun ys' H'=>∃ m',m' < l.length - i∧m' = l.length - (i + 1)∧i + 1 ≤ l.length∧Pv (i + 1) ys' H') fun ys' H' q=>⟨l.length - (i + 1),by omega,rfl,hlt,q⟩
  · have e:i = l.length:=by omega
    subst e
    exact .inl ⟨Nat.le_refl _,hd ys H p⟩
theorem pe_txt {x:Str} {l:List Nat} {j pos} (h:x = txt l):PE X (.Constant (.str x) j pos) (tC (.str (txt l))):=by subst h; exact pe_str
end
def ABC:List Nat:=(List.range 26).map (97 + ·)
theorem small_eq:("abcdefghijklmnopqrstuvwxyz":Str) = txt ABC:=by decide +kernel
theorem abc_len:ABC.length = 26:=by decide
theorem abc_at {i:Nat} (h:i < 26):ABC[i]? = some (97 + i):=by
  unfold ABC
  rw [List.getElem?_map,List.getElem?_range h]; rfl
abbrev rAddI:R2:=rI0 fun i j=>.int (i + j)
abbrev rSubI:R2:=rI0 fun i j=>.int (i - j)
abbrev rDivI:R2:=rI CDiv fun i j=>.int (i / j)
abbrev rModI:R2:=rI (fun _ j=>0 < j) fun i j=>.int (i % j)
abbrev rShrI:R2:=rI (fun _ j=>0 ≤ j) fun i j=>.int (i / 2 ^ j.toNat)
abbrev rLtI:R2:=rI0 fun i j=>.bl (decide (i < j))
abbrev rLeI:R2:=rI0 fun i j=>.bl (decide (i ≤ j))
abbrev rGtI:R2:=rI0 fun i j=>.bl (decide (j < i))
abbrev rGeI:R2:=rI0 fun i j=>.bl (decide (j ≤ i))
def CMulB (i j:Int):Prop:=CMul i j ∨ (Builtin.Int.intBits i ≤ 2 ^ 20∧Builtin.Int.intBits j ≤ 2 ^ 20)
theorem CMulB.l {i j:Int} (h1:-(2 ^ 64) < i) (h2:i < 2 ^ 64):CMulB i j:=.inl (.inl ⟨h1,h2⟩)
theorem CMulB.r {i j:Int} (h1:-(2 ^ 64) < j) (h2:j < 2 ^ 64):CMulB i j:=.inl (.inr ⟨h1,h2⟩)
abbrev rMulI:R2:=rI CMulB fun i j=>.int (i * j)
abbrev rAddS:R2:=fun x y H Q=>∃ i j,x = .str (txt i)∧y = .str (txt j)∧i.length + j.length ≤ sizeLine∧Q (.str (txt (i ++ j))) H
abbrev rIxStr:R2:=fun x y H Q=>∃ (l:List Nat) (i:Nat) (c:Nat),x = .str (txt l)∧y = .int i∧l.length ≤ sizeLine∧l[i]? = some c∧Q (.str (txt [c])) H
abbrev rIn1:R2:=fun x y H Q=>∃ c l,x = .str (txt [c])∧y = .str (txt l)∧Q (.bl (decide (c ∈ l))) H
abbrev rLtS:R2:=fun x y H Q=>∃ i j,x = .str (txt i)∧y = .str (txt j)∧Q (.bl (decide (i < j))) H
abbrev rLenS:List V→Hp→VK→Prop:=fun xs H Q=>∃ z,xs = [.str (txt z)]∧z.length ≤ sizeLine∧Q (.int z.length) H
abbrev rLenL (K:PySem.W.Frag):List V→Hp→VK→Prop:=fun xs H Q=>∃ p ys,xs = [.ref p]∧(SqL K H p ys ∨ SqT K H p ys)∧Q (.int ys.length) H
abbrev rMin2:List V→Hp→VK→Prop:=fun xs H Q=>∃ i j,xs = [.int i,.int j]∧Q (.int (if j < i then j else i)) H
abbrev rStrI:List V→Hp→VK→Prop:=fun xs H Q=>∃ i,xs = [.int i]∧i.natAbs.log2 < 1920∧Q (.str (toString i)) H
abbrev rListOf (K:PySem.W.Frag):List V→Hp→VK→Prop:=fun xs H Q=>∃ p ys,xs = [.ref p]∧(SqL K H p ys ∨ SqT K H p ys)∧∀ l,H l = none→Q (.ref l) (upd H l (.lst ys))
abbrev rSortedS (K:PySem.W.Frag):List V→Hp→VK→Prop:=fun xs H Q=>∃ p,∃ ys:List (List Nat),xs = [.ref p]∧SqL K H p (ys.map strV)∧ys.length < 64∧∀ l,∀ zs:List (List Nat),H l = none→zs.Perm ys→zs.Pairwise (· ≤ ·)→Q (.ref l) (upd H l (.lst (zs.map strV)))
abbrev rNeLS (K:PySem.W.Frag):R2:=fun x y H Q=>∃ a b,∃ xs ys:List (List Nat),x = .ref a∧y = .ref b∧SqL K H a (xs.map strV)∧SqL K H b (ys.map strV)∧(∀ y ∈ xs,PyData.strOk (txt y) = true)∧(∀ y ∈ ys,PyData.strOk (txt y) = true)∧Q (.bl (!decide (xs = ys))) H
abbrev rEqLS (K:PySem.W.Frag):R2:=fun x y H Q=>∃ a b,∃ xs ys:List (List Nat),x = .ref a∧y = .ref b∧SqL K H a (xs.map strV)∧SqL K H b (ys.map strV)∧(∀ y ∈ xs,PyData.strOk (txt y) = true)∧(∀ y ∈ ys,PyData.strOk (txt y) = true)∧Q (.bl (decide (xs = ys))) H
section
variable {X:Cx}
theorem op_mulB:OpR X (binaryOp .Mult) rMulI:=opI fun _ _ _ _ _ _ _ hc q=>mul_int q (by
  rcases hc with h | h
  · exact h.ok
  · exact IntMulOk.of_bits h.1 h.2)
theorem pe_gstr {x y:Str} {l:List Nat} {pos:Pos} (hg:Gl X x) (hm:∃ t,X.mg x = some (.str y t)) (e:y = txt l) (hd:(x == ("__debug__":Str)) = false:=by decide):PE X (.Name x pos) (tC (.str (txt l))):=by
  obtain ⟨t,hm⟩:=hm
  subst e
  exact pe_glob hg hm ⟨t,rfl⟩ hd
end
theorem SqL.here {K:PySem.W.Frag} {H:Hp} {p:Addr} {xs:List V}:SqL K (upd H p (.lst xs)) p xs:=.inl (.inl upd_same)
theorem Same.new {H H':Hp} {p:Addr} {o:HO} (s:Same H H') (hp:H' p = none):Same H (upd H' p o):=fun b q e=>by
  have:=s b q e
  rw [upd_ne (ne_of_none this hp)]; exact this
theorem Same.up (H:Hp) {p:Addr} {o:HO} (hp:H p = none):Same H (upd H p o):=(Same.refl H).new hp
theorem atI_int {α:Type} {xs:List α} {i:Int} {v:α} (h0:0 ≤ i) (h:xs[i.toNat]? = some v):atI xs i = some v:=by
  obtain ⟨n,rfl⟩:=Int.eq_ofNat_of_zero_le h0
  exact atI_nat (by simpa using h)
theorem for_r1 {ta:TA} {g:TG} {tb:TS} {D:Ends} {σ:St} {H:Hp} {j:Int} (ha:∀ Q:List V→Hp→Prop,Q [.int j] H→ta σ H Q) (hlo:-(2 ^ 62) ≤ j) (hhi:j < 2 ^ 62)
    (Pv:Nat→St→Hp→Prop) (h0:Pv 0 σ H) (hs:∀ (i:Nat) σ H,(i:Int) < j→Pv i σ H→g (.int i) σ H fun σ2 H2=>tb { D with nx:=Pv (i + 1),ct:=Pv (i + 1),bk:=D.nx } σ2 H2)
    (hd:∀ σ H,Pv j.toNat σ H→D.nx σ H):tFor (iRng1 ta) g tb D σ H:=by
  refine ha _ ⟨j,rfl,hlo,hhi,?_⟩
  refine for_range (lo:=0) (n:=j.toNat) Pv h0 (fun i σ H hi p=>?_) hd
  rw [Int.zero_add]
  exact hs i σ H (by omega) p
theorem for_r2 {ta:TA} {g:TG} {tb:TS} {D:Ends} {σ:St} {H:Hp} {l j:Int} (ha:∀ Q:List V→Hp→Prop,Q [.int l,.int j] H→ta σ H Q) (hl0:-(2 ^ 62) ≤ l) (hl1:l < 2 ^ 62) (hlo:-(2 ^ 62) ≤ j) (hhi:j < 2 ^ 62)
    (Pv:Nat→St→Hp→Prop) (h0:Pv 0 σ H) (hs:∀ (i:Nat) σ H,l + (i:Int) < j→Pv i σ H→g (.int (l + i)) σ H fun σ2 H2=>tb { D with nx:=Pv (i + 1),ct:=Pv (i + 1),bk:=D.nx } σ2 H2)
    (hd:∀ σ H,Pv (j - l).toNat σ H→D.nx σ H):tFor (iRng2 ta) g tb D σ H:=by
  refine ha _ ⟨l,j,rfl,⟨hl0,hl1,hlo,hhi⟩,?_⟩
  exact for_range (lo:=l) (n:=(j - l).toNat) Pv h0 (fun i σ H hi p=>hs i σ H (by omega) p) hd
theorem for_l {K:PySem.W.Frag} {tl:TE} {g:TG} {tb:TS} {D:Ends} {σ:St} {H:Hp} {a:Addr} {xs:List V} (ha:∀ Q:VK,Q (.ref a) H→tl σ H Q) (hx:SqL K H a xs)
    (Pv:Nat→St→Hp→Prop) (h0:Pv 0 σ H) (hl:∀ i σ H,i ≤ xs.length→Pv i σ H→SqL K H a xs)
    (hs:∀ i x σ H,xs[i]? = some x→Pv i σ H→g x σ H fun σ2 H2=>tb { D with nx:=Pv (i + 1),ct:=Pv (i + 1),bk:=D.nx } σ2 H2) (hd:∀ σ H,Pv xs.length σ H→D.nx σ H) :
    tFor (iList K tl) g tb D σ H:=ha _ ⟨a,rfl,⟨xs,hx⟩,for_list (K:=K) Pv h0 hl hs hd⟩
theorem comp_r1 {ta:TA} {fs:List Nat} {tt:TT} {te:TE} {σ:St} {H:Hp} {Q:VK} {j:Int} (ha:∀ Q:List V→Hp→Prop,Q [.int j] H→ta σ H Q) (hlo:-(2 ^ 62) ≤ j) (hhi:j < 2 ^ 62) (hn:j.toNat ≤ sizeLine)
    (Pv:Nat→List V→Hp→Prop) (h0:Pv 0 [] H) (hl:∀ i ys H,i ≤ j.toNat→Pv i ys H→ys.length ≤ i)
    (hs:∀ (i:Nat) ys H,(i:Int) < j→Pv i ys H→∀ R:List V→Hp→Prop,(∀ ys' H',Pv (i + 1) ys' H'→R ys' H')→tt (some (.int i) :: compSt fs σ) H fun b H2=>if b = true then te (some (.int i) :: compSt fs σ) H2 fun y H3=>R (ys ++ [y]) H3 else R ys H2)
    (hd:∀ ys H,Pv j.toNat ys H→∀ p,H p = none→Q (.ref p) (upd H p (.lst ys))):tComp (iRng1 ta) fs tt te σ H Q:=by
  refine ha _ ⟨j,rfl,hlo,hhi,?_⟩
  refine comp_range (lo:=0) (n:=j.toNat) Pv h0 hl hn (fun i ys H hi p=>?_) hd
  rw [Int.zero_add]
  exact hs i ys H (by omega) p
theorem comp_s {tl:TE} {fs:List Nat} {tt:TT} {te:TE} {σ:St} {H:Hp} {Q:VK} {l:List Nat} (ha:∀ Q:VK,Q (.str (txt l)) H→tl σ H Q) (hn:l.length ≤ sizeLine)
    (Pv:Nat→List V→Hp→Prop) (h0:Pv 0 [] H) (hl:∀ i ys H,i ≤ l.length→Pv i ys H→ys.length ≤ i)
    (hs:∀ i c ys H,l[i]? = some c→Pv i ys H→∀ R:List V→Hp→Prop,(∀ ys' H',Pv (i + 1) ys' H'→R ys' H')→tt (some (.str (txt [c])) :: compSt fs σ) H fun b H2=>if b = true then te (some (.str (txt [c])) :: compSt fs σ) H2 fun y H3=>R (ys ++ [y]) H3 else R ys H2)
    (hd:∀ ys H,Pv l.length ys H→∀ p,H p = none→Q (.ref p) (upd H p (.lst ys))):tComp (iStr tl) fs tt te σ H Q:=ha _ ⟨l,rfl,comp_str Pv h0 hl hn hs hd⟩
theorem lenL_go {K:PySem.W.Frag} {H:Hp} {a:Addr} {xs:List V} {Q:VK} (hS:SqL K H a xs) (q:Q (.int xs.length) H):rLenL K [.ref a] H Q:=⟨a,xs,rfl,.inl hS,q⟩
theorem lenI_go {K:PySem.W.Frag} {H:Hp} {a:Addr} {ns:List Int} {Q:VK} (hS:SqL K H a (ns.map V.int)) (q:Q (.int ns.length) H):rLenL K [.ref a] H Q:=⟨a,_,rfl,.inl hS,by rw [List.length_map]; exact q⟩
theorem lenS_go {H:Hp} {l:List Nat} {Q:VK} (hz:l.length ≤ 100000) (q:Q (.int l.length) H):rLenS [.str (txt l)] H Q:=⟨l,rfl,Nat.le_trans hz (by decide),q⟩
theorem ixI_go {K:PySem.W.Frag} {H:Hp} {a:Addr} {ns:List Int} {i:Int} {Q:VK} (hS:SqL K H a (ns.map V.int)) (h0:0 ≤ i) (h1:i < ns.length) (q:∀ z,z ∈ ns→ns[i.toNat]? = some z→Q (.int z) H):rIxL K (.ref a) (.int i) H Q:=by
  obtain ⟨n,rfl⟩:=Int.eq_ofNat_of_zero_le h0
  have hn:n < ns.length:=by omega
  have e:ns[n]? = some ns[n]:=List.getElem?_eq_getElem hn
  exact ⟨a,_,(n:Int),.int ns[n],rfl,rfl,hS,atI_nat (by rw [List.getElem?_map,e]; rfl),q _ (List.getElem_mem hn) (by simpa using e)⟩
theorem ixL_go {K:PySem.W.Frag} {H:Hp} {a:Addr} {xs:List V} {i:Int} {v:V} {Q:VK} (hS:SqL K H a xs) (h0:0 ≤ i) (h:xs[i.toNat]? = some v) (q:Q v H):rIxL K (.ref a) (.int i) H Q:=
  ⟨a,xs,i,v,rfl,rfl,hS,atI_int h0 h,q⟩
theorem ixT_go {K:PySem.W.Frag} {H:Hp} {a:Addr} {xs:List V} {i:Int} {v:V} {Q:VK} (hS:SqT K H a xs) (h0:0 ≤ i) (h:xs[i.toNat]? = some v) (q:Q v H):rIxT K (.ref a) (.int i) H Q:=
  ⟨a,xs,i,v,rfl,rfl,hS,atI_int h0 h,q⟩
theorem ixS_go {H:Hp} {l:List Nat} {i:Int} {c:Nat} {Q:VK} (hz:l.length ≤ 100000) (h0:0 ≤ i) (h:l[i.toNat]? = some c) (q:Q (.str (txt [c])) H):rIxStr (.str (txt l)) (.int i) H Q:=by
  obtain ⟨n,rfl⟩:=Int.eq_ofNat_of_zero_le h0
  exact ⟨l,n,c,rfl,rfl,Nat.le_trans hz (by decide),by simpa using h,q⟩
theorem addS_go {H:Hp} {l m:List Nat} {Q:VK} (hz:l.length + m.length ≤ 100000) (q:Q (.str (txt (l ++ m))) H):rAddS (.str (txt l)) (.str (txt m)) H Q:=⟨l,m,rfl,rfl,Nat.le_trans hz (by decide),q⟩
theorem mulB_l {i j:Int} (h1:-18446744073709551616 < i) (h2:i < 18446744073709551616):CMulB i j:=.l (by omega) (by omega)
theorem mulB_r {i j:Int} (h1:-18446744073709551616 < j) (h2:j < 18446744073709551616):CMulB i j:=.r (by omega) (by omega)
theorem cdiv {i j:Int} (h1:0 < j) (h2:j < 1073741824):CDiv i j:=⟨h1,h2⟩
theorem cat_go {H:Hp} {a b:Addr} {xs ys:List V} {Q:VK} (h1:H a = some (.lst xs)) (h2:H b = some (.lst ys)) (hz:xs.length + ys.length ≤ 100000) (q:∀ p,H p = none→Q (.ref p) (upd H p (.lst (xs ++ ys)))):rCat (.ref a) (.ref b) H Q:=
  ⟨a,b,xs,ys,rfl,rfl,h1,h2,Nat.le_trans hz (by decide),q⟩
theorem append_go {H:Hp} {l:Addr} {xs:List V} {y:V} {Q:VK} (h:H l = some (.lst xs)) (hz:xs.length < 100000) (q:Q .non (upd H l (.lst (xs ++ [y])))):rAppend (.ref l) [y] H Q:=
  ⟨l,xs,y,rfl,rfl,h,Nat.lt_of_lt_of_le hz (by decide),q⟩
theorem slS_go {H:Hp} {l:List Nat} {lo hi:Option Int} {Q:VK} (hz:l.length ≤ 100000) (q:Q (.str (txt (cutL l lo hi))) H):rSlS (.str (txt l)) lo hi H Q:=⟨l,rfl,Nat.le_trans hz (by decide),q⟩
theorem cutL_to {l:List Nat} {k:Int} (h0:0 ≤ k) (h1:k ≤ l.length):cutL l none (some k) = l.take k.toNat:=by
  obtain ⟨n,rfl⟩:=Int.eq_ofNat_of_zero_le h0
  unfold cutL
  rw [HT.sIx_none,HT.sIx_nat,List.drop_zero,Nat.sub_zero]
  congr 1; simp; omega
structure QE (X:Cx) (e:Expr) (t:TE):Prop where p:PE X e t
structure QT (X:Cx) (e:Expr) (t:TT):Prop where p:PT X e t
structure QW (X:Cx) (e:Expr) (t:TT):Prop where p:PW X e t
structure QA (X:Cx) (es:List Expr) (t:TA):Prop where p:PA X es t
structure QS (X:Cx) (st:Stmt) (t:TS):Prop where p:PS X st t
structure QSs (X:Cx) (st:List Stmt) (t:TS):Prop where p:PSs X st t
structure QG (X:Cx) (tg:Expr) (t:TG):Prop where p:PG X tg t
structure QGs (X:Cx) (ts:List Expr) (t:TGs):Prop where p:PGs X ts t
structure QI (X:Cx) (tg iter:Expr) (t:TI):Prop where p:PI X tg iter t
structure QO (X:Cx) (e:Option Expr) (t:TO):Prop where p:PO X e t
structure QTs (X:Cx) (ifs:List Expr) (t:TT):Prop where p:PTs X ifs t
section
variable {X:Cx} {e o a b iter tg:Expr} {es:List Expr} {te to ta tb:TE} {t u:TA} {x:Str} {p pos pos':Pos}
theorem kv (i:Nat) (hN:X.N[i]? = some x:=by kernel_rfl) (hv:X.env.scope.names.lookup x = some .local:=by kernel_rfl) (hd:(x == ("__debug__":Str)) = false:=by kernel_rfl)
    (hcd:(x == ("__classdict__":Str)) = false:=by kernel_rfl):QE X (.Name x pos) (tVar i):=⟨pe_var hN (.inl hv) hd hcd⟩
theorem kvc (i:Nat) (hN:X.N[i]? = some x:=by kernel_rfl) (hv:X.env.scope.names.lookup x = some .cell:=by kernel_rfl) (hd:(x == ("__debug__":Str)) = false:=by kernel_rfl)
    (hcd:(x == ("__classdict__":Str)) = false:=by kernel_rfl):QE X (.Name x pos) (tVar i):=⟨pe_var hN (.inr (.inl hv)) hd hcd⟩
theorem ke_int {i:Int} {j:Nat}:QE X (.Constant (.int i) j pos) (tC (.int i)):=⟨pe_int⟩
theorem ke_bl {c:Bool} {j:Nat}:QE X (.Constant (.bool c) j pos) (tC (.bl c)):=⟨pe_bl⟩
theorem ke_non {j:Nat}:QE X (.Constant .none j pos) (tC .non):=⟨pe_non⟩
theorem ke_txt {y:Str} {l:List Nat} {j:Nat} (h:y = txt l:=by kernel_rfl):QE X (.Constant (.str y) j pos) (tC (.str (txt l))):=⟨pe_txt h⟩
theorem ka_nil:QA X [] tNil:=⟨pa_nil⟩
theorem ka_cons (ha:QE X e te) (hr:QA X es t) (hs:starEach (e :: es) X.env = (false,eval e X.env) :: starEach es X.env:=by kernel_rfl):QA X (e :: es) (tCons te t):=⟨pa_cons ha.p hr.p hs⟩
theorem ke_gstr {y:Str} {l:List Nat} (hm:∃ t,X.mg x = some (.str y t)) (e:y = txt l) (hg:X.env.kindOf x = some .globalImplicit:=by kernel_rfl) (hd:(x == ("__debug__":Str)) = false:=by kernel_rfl):QE X (.Name x pos) (tC (.str (txt l))):=⟨pe_gstr hg hm e hd⟩
theorem ke_call {CX:CXT} {k:Nat} {f:Addr} {fd:FuncData} {ps:List Str} {sp:Sp} {E:XK} (F:FnOk X.prog X.w X.K X.mg X.base CX k f fd ps sp) (hr:Room k X.A) (hm:X.mg x = some (.ref f)) (hk:PySem.W.keepIn X.K (.ref f) = true) (hb:Binds X.K fd ps []) (hx:Passes CX X E)
    (ha:QA X (e :: es) t) (hg:X.env.kindOf x = some .globalImplicit:=by kernel_rfl) (hdb:(x == ("__debug__":Str)) = false:=by kernel_rfl) (he:starEach (e :: es) X.env = (false,eval e X.env) :: starEach es X.env:=by kernel_rfl) (hpl:(backTo pos (starEach es X.env)).any (·.1) = false:=by kernel_rfl) :
    QE X (.Call (.Name x p) (e :: es) [] pos) (tCall sp [] E t):=⟨pe_call F hr hg hm hk hb .nil hx ha.p hdb he hpl⟩
theorem ke_callB {id:String} {r:List V→Hp→VK→Prop} (hc:CallR X (.builtin id) r) (hm:X.mg x = none) (hv:bootBuiltins x = some (.builtin id)) (ha:QA X (e :: es) t)
    (hg : X.env.kindOf x = some .globalImplicit := by kernel_rfl) (hn : decide (x = "__name__") = false := by kernel_rfl) (hdb : (x == ("__debug__" : Str)) = false := by kernel_rfl)
    (he:starEach (e :: es) X.env = (false,eval e X.env) :: starEach es X.env:=by kernel_rfl) (hpl:(backTo pos (starEach es X.env)).any (·.1) = false:=by kernel_rfl) :
    QE X (.Call (.Name x p) (e :: es) [] pos) (tCB r t):=⟨pe_callB hc hg hm hv ha.p (of_decide_eq_false hn) hdb he hpl⟩
theorem ke_callTy {T:String} {r:List V→Hp→VK→Prop} (hc:CallR X (.type T) r) (hm:X.mg x = none) (hv:bootBuiltins x = some (.type T)) (ha:QA X (e :: es) t)
    (hg : X.env.kindOf x = some .globalImplicit := by kernel_rfl) (hn : decide (x = "__name__") = false := by kernel_rfl) (hdb : (x == ("__debug__" : Str)) = false := by kernel_rfl)
    (he:starEach (e :: es) X.env = (false,eval e X.env) :: starEach es X.env:=by kernel_rfl) (hpl:(backTo pos (starEach es X.env)).any (·.1) = false:=by kernel_rfl) :
    QE X (.Call (.Name x p) (e :: es) [] pos) (tCB r t):=⟨pe_callTy hc hg hm hv ha.p (of_decide_eq_false hn) hdb he hpl⟩
theorem ke_op {op:Operator} {r:R2} (ho:OpR X (binaryOp op) r) (ha:QE X a ta) (hb:QE X b tb):QE X (.BinOp a op b pos) (tOp r ta tb):=⟨pe_op ho ha.p hb.p⟩
theorem ke_one {op} {t:TE} (h:QE X a t):QE X (.BoolOp op [a] pos) t:=⟨pe_one h.p⟩
theorem ke_and {rest:List Expr} (ha:QE X a ta) (hb:QE X (.BoolOp .And (b :: rest) pos) tb):QE X (.BoolOp .And (a :: b :: rest) pos) (tAndV ta tb):=⟨pe_and ha.p hb.p⟩
theorem ke_or {rest:List Expr} (ha:QE X a ta) (hb:QE X (.BoolOp .Or (b :: rest) pos) tb):QE X (.BoolOp .Or (a :: b :: rest) pos) (tOrV ta tb):=⟨pe_or ha.p hb.p⟩
theorem ke_ifExp {c:Expr} {tc:TT} (hc:QT X c tc) (ha:QE X a ta) (hb:QE X b tb):QE X (.IfExp c a b pos) (tIf tc ta tb):=⟨pe_ifExp hc.p ha.p hb.p⟩
theorem ke_lst (h:QA X es t):QE X (.List es pos) (tLst t):=⟨pe_lst h.p⟩
theorem ke_tup {x1} (h:QA X es t):QE X (.Tuple es x1 pos) (tTup t):=⟨pe_tup h.p⟩
theorem ko_none:QO X none tNoPart:=⟨po_none⟩
theorem ko_some (h:QE X e te):QO X (some e) (tPart te):=⟨po_some h.p⟩
theorem ke_slice {p2:Pos} {lo hi:Option Expr} {tl th:TO} {r:V→Option Int→Option Int→Hp→VK→Prop} (hr:SlR X r) (he:QE X e te) (hl:QO X lo tl) (hu:QO X hi th):QE X (.Subscript e (.Slice lo hi none p2) pos) (tSl r te tl th):=⟨pe_slice hr he.p hl.p hu.p⟩
theorem ke_ix {r:R2} (hr:IxR X r) (ha:QE X a ta) (hb:QE X b tb) (hs:∀ o i,subscripted b false o i = operate [o,i] (getItem o i):=by intro _ _; kernel_rfl):QE X (.Subscript a b pos) (tOp r ta tb):=⟨pe_ix hr ha.p hb.p hs⟩
variable {name:Str} {apos cpos:Pos} {T id:String} {r:V→List V→Hp→VK→Prop}
theorem ke_bm0 (pa:PlainAttrs T) (slot:Slot T name id) (hty:typeOf (.builtin id) = pure (.type "method_descriptor")) (hm:MtR X id r) (ho:QE X o to)
    (hbase:attributeBase o name X.env (eval o X.env) = eval o X.env:=by kernel_rfl) (hline:(apos.endLine == cpos.line) = true:=by kernel_rfl):QE X (.Call (.Attribute o name apos) [] [] cpos) (tBM0 X.K T r to):=⟨pe_bm0 pa slot hty hm ho.p hbase hline⟩
theorem ke_bm (pa:PlainAttrs T) (slot:Slot T name id) (hty:typeOf (.builtin id) = pure (.type "method_descriptor")) (hm:MtR X id r) (ho:QE X o to) (ha:QA X (e :: es) t)
    (hbase:attributeBase o name X.env (eval o X.env) = eval o X.env:=by kernel_rfl)
    (hfew:((backTo cpos (starEach (e :: es) X.env)).all (fun x=>!x.1) && (backToKw cpos (keywordEach [] X.env)).all (fun x=>x.1.isSome)
      && decide ((e :: es).length + ([]:List Keyword).length + (if ([]:List Keyword).isEmpty then 0 else 1) < 30)) = true:=by kernel_rfl)
    (hline:(apos.endLine == cpos.line) = true:=by kernel_rfl) (hs:starEach (e :: es) X.env = (false,eval e X.env) :: starEach es X.env:=by kernel_rfl) (hplain:(backTo cpos (starEach es X.env)).any (·.1) = false:=by kernel_rfl) :
    QE X (.Call (.Attribute o name apos) (e :: es) [] cpos) (tBM X.K T r to t):=⟨pe_bm pa slot hty hm ho.p ha.p hbase hfew hline hs hplain⟩
theorem kt_val (h:QE X e te) (he:∀ whole,isTrue e X.env whole = (do let v ← whole; standAt e.pos; holding [v] (truthy v)):=by intro _; kernel_rfl):QT X e (tB te):=⟨pt_val h.p he⟩
theorem kt_cmp {op:CmpOp} {r:R2} (ho:OpR X (compareOp op) r) (ha:QE X a ta) (hb:QE X b tb) (hm:behindInMarks op b = false:=by kernel_rfl):QT X (.Compare a [op] [b] pos) (tTest (tOp r ta tb)):=⟨pt_cmpR ho ha.p hb.p hm⟩
theorem ke_cmp {op:CmpOp} {r:R2} (ho:OpR X (compareOp op) r) (ha:QE X a ta) (hb:QE X b tb) (hm:behindInMarks op b = false:=by kernel_rfl):QE X (.Compare a [op] [b] pos) (tOp r ta tb):=⟨pe_cmpR ho ha.p hb.p hm⟩
theorem kt_isN {j:Nat} {pos'':Pos} (ha:QE X e te):QT X (.Compare e [.Is] [.Constant .none j pos''] pos) (tB (tIsN te)):=⟨pt_cmp (pc_isN ha.p) (nobehind _ (by decide) (by decide))⟩
variable {tA tB':TT} {rest:List Expr}
theorem kt_not (ha:QT X a tA):QT X (.UnaryOp .Not a pos) (tNot tA):=⟨pt_not ha.p⟩
theorem kw_and1 (ha:QT X a tA):QW X (.BoolOp .And [a] pos) tA:=⟨pw_and1 ha.p⟩
theorem kw_or1 (ha:QT X a tA):QW X (.BoolOp .Or [a] pos) tA:=⟨pw_or1 ha.p⟩
theorem kw_and (ha:QT X a tA) (hb:QW X (.BoolOp .And (b :: rest) pos) tB'):QW X (.BoolOp .And (a :: b :: rest) pos) (tAnd tA tB'):=⟨pw_and ha.p hb.p⟩
theorem kw_or (ha:QT X a tA) (hb:QW X (.BoolOp .Or (b :: rest) pos) tB'):QW X (.BoolOp .Or (a :: b :: rest) pos) (tOr tA tB'):=⟨pw_or ha.p hb.p⟩
theorem kt_w (h:QW X e tA):QT X e tA:=⟨h.p.pt⟩
theorem kts_nil:QTs X [] tYes:=⟨pts_nil⟩
theorem kts_one {c:Expr} {t:TT} (h:QT X c t):QTs X [c] t:=⟨pts_one h.p⟩
theorem ki_range1 {ta : TA} (hm : X.mg "range" = none) (ha : QA X [a] ta) (hg : X.env.kindOf "range" = some .globalImplicit := by kernel_rfl) (hs : starEach [a] X.env = [(false, eval a X.env)] := by kernel_rfl) : QI X tg (.Call (.Name "range" p) [a] [] pos) (iRng1 ta) := ⟨pi_range1 hg hm ha.p hs⟩
theorem ki_range2 {ta : TA} (hm : X.mg "range" = none) (ha : QA X [a, b] ta) (hg : X.env.kindOf "range" = some .globalImplicit := by kernel_rfl) (hs : starEach [a, b] X.env = [(false, eval a X.env), (false, eval b X.env)] := by kernel_rfl) (hs2 : starEach [b] X.env = [(false, eval b X.env)] := by kernel_rfl) : QI X tg (.Call (.Name "range" p) [a, b] [] pos) (iRng2 ta) := ⟨pi_range2 hg hm ha.p hs hs2⟩
theorem ki_list {tl:TE} (hl:QE X a tl):QI X tg a (iList X.K tl):=⟨pi_list hl.p⟩
theorem ki_str {tl:TE} (hl:QE X a tl):QI X tg a (iStr tl):=⟨pi_str hl.p⟩
theorem ke_comp {elt:Expr} {px:Pos} {ifs:List Expr} {scope:Scope} (fs:List (Str × Nat)) {wi:TI} {tt:TT} {te:TE}
    (hi:QI X (.Name x px) iter wi)
    (hb:∀ (cl:List (Str × Addr)) (C:Addr) (s₀:Shared) (H₀:Hp) (ex:List Addr),QTs (cxComp X scope cl C (x :: fs.map (·.1)) s₀ H₀ ex) ifs tt∧QE (cxComp X scope cl C (x :: fs.map (·.1)) s₀ H₀ ex) elt te)
    (hc:X.calm = true:=by kernel_rfl) (hk:scope.kind = .function:=by kernel_rfl) (hl:compLook scope.names X.env.scope.names X.N x fs = true:=by kernel_rfl)
    (hs:∀ x,foldedSetIterable iter X.env x = pure x:=by intro _; kernel_rfl) :
    QE X (.ListComp elt [⟨.Name x px,iter,ifs,0⟩] scope pos) (tComp wi (fs.map (·.2)) tt te):=⟨pe_compB fs hc hi.p (fun cl C s₀ H₀ ex=>⟨(hb cl C s₀ H₀ ex).1.p,(hb cl C s₀ H₀ ex).2.p⟩) hk hl hs⟩
theorem ks_comp {i:Nat} {y:Str} {py spos:Pos} {elt:Expr} {px:Pos} {ifs:List Expr} {scope:Scope} (fs:List (Str × Nat)) {wi:TI} {tt:TT} {te:TE}
    (hN:X.N.Nodup) (hi:QI X (.Name x px) iter wi)
    (hb:∀ (cl:List (Str × Addr)) (C:Addr) (s₀:Shared) (H₀:Hp) (ex:List Addr),QTs (cxComp X scope cl C (x :: fs.map (·.1)) s₀ H₀ ex) ifs tt∧QE (cxComp X scope cl C (x :: fs.map (·.1)) s₀ H₀ ex) elt te)
    (hy:X.N[i]? = some y:=by kernel_rfl) (hyl:X.env.scope.names.lookup y = some .local:=by kernel_rfl) (hc:X.calm = true:=by kernel_rfl)
    (hk:scope.kind = .function:=by kernel_rfl) (hl:compLook scope.names X.env.scope.names X.N x fs = true:=by kernel_rfl)
    (hsw:swapsWith (.ListComp elt [⟨.Name x px,iter,ifs,0⟩] scope pos) (some (.Name y py)) spos.line X.env = pure true:=by kernel_rfl)
    (hs:∀ x,foldedSetIterable iter X.env x = pure x:=by intro _; kernel_rfl) :
    QS X (.Assign [.Name y py] (.ListComp elt [⟨.Name x px,iter,ifs,0⟩] scope pos) spos) (tCompSet i wi (fs.map (·.2)) tt te):=⟨ps_compB fs hN hy hyl hc hi.p (fun cl C s₀ H₀ ex=>⟨(hb cl C s₀ H₀ ex).1.p,(hb cl C s₀ H₀ ex).2.p⟩) hk hl hsw hs⟩
variable {st:Stmt} {sts:List Stmt} {t1 t2:TS}
theorem kss_nil:QSs X [] tNext:=⟨pss_nil⟩
theorem kss_cons (h1:QS X st t1) (h2:QSs X sts t2):QSs X (st :: sts) (tSeq t1 t2):=⟨pss_cons h1.p h2.p⟩
theorem kss_one (h1:QS X st t1):QSs X [st] t1:=⟨pss_one h1.p⟩
theorem ks_set {i:Nat} (hN:X.N.Nodup) (he:QE X e te) (hi:X.N[i]? = some x:=by kernel_rfl) (hx:X.env.scope.names.lookup x = some .local:=by kernel_rfl) (hs:swapsWith e (some (.Name x pos')) pos.line X.env = pure false:=by kernel_rfl) :
    QS X (.Assign [.Name x pos'] e pos) (tAsg te (gName i)):=⟨ps_set hN hi (.inl hx) he.p hs (.inr hx)⟩
theorem ks_setc {i:Nat} (hN:X.N.Nodup) (he:QE X e te) (hi:X.N[i]? = some x:=by kernel_rfl) (hx:X.env.scope.names.lookup x = some .cell:=by kernel_rfl) (hs:swapsWith e (some (.Name x pos')) pos.line X.env = pure false:=by kernel_rfl) (hf:X.fn x = true:=by kernel_rfl) :
    QS X (.Assign [.Name x pos'] e pos) (tAsg te (gName i)):=⟨ps_set hN hi (.inr hx) he.p hs (.inl hf)⟩
theorem ks_expr (he:QE X e te) (hs:swapsWith e none pos.line X.env = pure false:=by kernel_rfl):QS X (.Expr e pos) (tDrop te):=⟨ps_expr he.p hs⟩
theorem ks_ret (he:QE X e te):QS X (.Return (some e) pos) (tRet te):=⟨ps_ret he.p⟩
theorem ks_if {c:Expr} {l1 l2:List Stmt} {tc:TT} (hc:QT X c tc) (ha:QSs X l1 t1) (hb:QSs X l2 t2):QS X (.If c l1 l2 pos) (tIfS tc t1 t2):=⟨ps_if hc.p ha.p hb.p⟩
theorem ks_never:QS X st tNever:=⟨ps_never⟩
theorem kg_name {i:Nat} (hN:X.N.Nodup) (hi:X.N[i]? = some x:=by kernel_rfl) (hx:X.env.scope.names.lookup x = some .local:=by kernel_rfl):QG X (.Name x pos) (gName i):=⟨pg_name hN hi (.inl hx) (.inr hx)⟩
theorem kg_namec {i:Nat} (hN:X.N.Nodup) (hi:X.N[i]? = some x:=by kernel_rfl) (hx:X.env.scope.names.lookup x = some .cell:=by kernel_rfl) (hf:X.fn x = true:=by kernel_rfl):QG X (.Name x pos) (gName i):=⟨pg_name hN hi (.inr hx) (.inl hf)⟩
theorem ks_for {body:List Stmt} {wi:TI} {g:TG} {tb:TS} (hi:QI X tg iter wi) (hg:QG X tg g) (hb:QSs X body tb) (hp:PassesOwn (model X.prog X.w) X.A X.env X.xe:=by exact PassesOwn.never) (hc:X.calm = true:=by kernel_rfl) (hs:∀ x,foldedSetIterable iter X.env x = pure x:=by intro _; kernel_rfl):QS X (.For tg iter body [] pos) (tFor wi g tb):=⟨ps_for hp hc hi.p hg.p hb.p hs⟩
theorem kgs_nil:QGs X [] gNil:=⟨pgs_nil⟩
theorem kgs_cons {t:TG} {u:TGs} (h1:QG X e t) (h2:QGs X es u) (hs:(assignEach (e :: es) X.env).map (·.2) = assign e X.env :: (assignEach es X.env).map (·.2):=by kernel_rfl):QGs X (e :: es) (gCons t u):=⟨pgs_cons h1.p h2.p hs⟩
theorem kg_tup {k:Nat} {t:TGs} {n:Nat} (h:QGs X es t) (hc:X.calm = true:=by kernel_rfl) (hn:(assignEach es X.env).length = n:=by kernel_rfl) (hst:(assignEach es X.env).findIdx? (·.1) = none:=by kernel_rfl):QG X (.Tuple es k pos) (gTup X.K n t):=⟨pg_tup hc h.p hn hst⟩
end
theorem Fun.okQ {P:Program} {w:World} {K:PySem.W.Frag} {mg:Str→Option Value} {base:Heap} {x qual:Str} {st:Stmt} {f:Addr} {fd:FuncData} {N ps:List Str} {k:Nat} {sp:Sp} (F:Fun K x qual st f fd) (S:FnScope N ps (defScope st)) {rd:TS} (len:∀ vs H Q E,sp vs H Q E→vs.length = ps.length)
    (hb:∀ (cdv:Value) (A:Around) (outer:List Env) (s:Shared) (H:Hp) (E:XK),Room k (A.deeper (envOfC qual (defScope st) s.heap.objs.size f cdv))→QSs (cxOf CX0 P w K mg base N qual (defScope st) f cdv A outer s H E).nox (defBody st) rd)
    (hq:∀ (vs:List V) (H:Hp) (Q:VK) (E:XK),sp vs H Q E→rd { nx:=fun _ H'=>Q .non H',rt:=Q } (start N vs) H):FnOk P w K mg base CX0 (k + 1) f fd ps sp:=
  F.ok S len fun cdv A outer s H vs Q E hr h=>⟨rd,(hb cdv A outer s H E hr).p,hq vs H Q E h⟩
section
variable {X:Cx}
abbrev rAllB (K:PySem.W.Frag):List V→Hp→VK→Prop:=fun xs H Q=>∃ p,∃ bs:List Bool,xs = [.ref p]∧SqL K H p (bs.map V.bl)∧Q (.bl (bs.all id)) H
theorem all_range {bs:List Bool}:(List.range bs.length).all (fun i=>bs.getD i true) = bs.all id:=by
  rw [Bool.eq_iff_iff,List.all_eq_true,List.all_eq_true]
  constructor
  · intro h b hb
    obtain ⟨i,hi,rfl⟩:=List.getElem_of_mem hb
    have:=h i (List.mem_range.mpr hi)
    simpa [List.getD_eq_getElem?_getD,hi] using this
  · intro h i hi
    have hi':=List.mem_range.mp hi
    have:=h bs[i] (List.getElem_mem hi')
    simpa [List.getD_eq_getElem?_getD,hi'] using this
theorem call_allB (hc:X.calm = true):CallR X (.builtin "all") (rAllB X.K):=by
  intro pins s σ H xs us Q I r h
  obtain ⟨p,bs,rfl,hS,q⟩:=h
  obtain ⟨u,rfl,ru⟩:=vals1 r
  obtain rfl:u = Value.ref p:=ru
  obtain ⟨its,rv,pl,hz⟩:=I.list hS
  have hlen:its.length = bs.length:=by rw [← rv.length,List.length_map]
  refine call_all_walk (wpAny_pyIter_list pl.isList ?_)
  have hne:p ≠ s.heap.objs.size:=Nat.ne_of_lt (by obtain ⟨o,e,_⟩:=pl.isList; exact Heap.lt_size e)
  refine ⟨s.heap.objs.size,_,_,_,_,_,fun i=>bs.getD i true,rfl,Walks.list (A:=X.A.in1) (show X.A.in1.handled = none from I.ok.hd hc) s.heap.objs.size p hne its.toArray,⟨⟨_,Heap.get?_push_size _ rfl,rfl,rfl⟩,pl.isList.at fun o e=>Heap.get?_push_of_some _ e⟩,?_,fun h' tk hk=>?_⟩
  · intro i v s' Q' E' hv hq
    have hv':its[i]? = some v:=by simpa using hv
    have hi:i < bs.length:=by rw [← hlen]; exact (List.getElem?_eq_some_iff.mp hv').1
    obtain ⟨u',hu',ru'⟩:=rv.get (i:=i) (x:=.bl bs[i]) (by rw [List.getElem?_map,List.getElem?_eq_getElem hi]; rfl)
    rw [hv'] at hu'
    cases hu'
    obtain rfl:v = Value.bool bs[i]:=ru'
    refine wpAny_truthy_bool ?_
    have e:bs.getD i true = bs[i]:=by simp [List.getD_eq_getElem?_getD,hi]
    rw [← e]; exact hq
  · have e:(List.range its.toArray.size).all (fun i=>bs.getD i true) = bs.all id:=by
      rw [List.size_toArray,hlen]; exact all_range
    refine ⟨.bl _,H,I.kept (t':=tk) fun b o eb=>hk b o ?_ (Heap.get?_push_of_some _ eb),rfl,by rw [e]; exact q⟩
    intro hb
    have:b = s.heap.objs.size:=by simpa using hb
    subst this
    exact absurd (Heap.lt_size eb) (Nat.lt_irrefl _)
def isTy (t T:String):Option Bool:=if (Value.type t == Value.type T) = true then some true else if PySem.W.kitMeta T = true then (fastBuiltinMro t).map (·.contains (.type T)) else none
theorem isTy_kit {K:PySem.W.Frag} {t T:String} {b:Bool} (h:isTy t T = some b):PySem.W.kitOne K (.type t) (.type T) = some b:=h
theorem isTy_list_list:isTy "list" "list" = some true:=by kernel_rfl
theorem isTy_tuple_tuple:isTy "tuple" "tuple" = some true:=by kernel_rfl
def rIsi (K:PySem.W.Frag) (T:String):V→Hp→VK→Prop:=fun x H Q=>∃ t b,TyOf K H x (.type t)∧isTy t T = some b∧Q (.bl b) H
def tIsi (K:PySem.W.Frag) (T:String) (ta:TE):TE:=fun σ H Q=>ta σ H fun x H1=>rIsi K T x H1 Q
theorem ke_isi {e:Expr} {te:TE} {y z:Str} {T:String} {p p2 pos:Pos} (hm:X.mg y = none) (hv:bootBuiltins y = some (.builtin "isinstance")) (hm2:X.mg z = none) (hv2:bootBuiltins z = some (.type T)) (he:QE X e te)
    (hg : X.env.kindOf y = some .globalImplicit := by kernel_rfl) (hn : decide (y = "__name__") = false := by kernel_rfl) (hdb : (y == ("__debug__" : Str)) = false := by kernel_rfl)
    (hg2 : X.env.kindOf z = some .globalImplicit := by kernel_rfl) (hn2 : decide (z = "__name__") = false := by kernel_rfl) (hdb2 : (z == ("__debug__" : Str)) = false := by kernel_rfl)
    (hs1:starEach [e,.Name z p2] X.env = (false,eval e X.env) :: starEach [.Name z p2] X.env:=by kernel_rfl) (hs2:starEach [.Name z p2] X.env = (false,eval (.Name z p2) X.env) :: starEach [] X.env:=by kernel_rfl)
    (hpl:(backTo pos (starEach [.Name z p2] X.env)).any (·.1) = false:=by kernel_rfl) :
    QE X (.Call (.Name y p) [e,.Name z p2] [] pos) (tIsi X.K T te):=by
  have hR:CallR X (.builtin "isinstance") (fun xs H Q=>∃ x,xs = [x,.ty T]∧rIsi X.K T x H Q):=by
    intro pins s σ H xs us Q I r h
    obtain ⟨x,rfl,t,b,ty,hk,q⟩:=h
    obtain ⟨u,w',rfl,ru,rw'⟩:=vals2 r
    obtain rfl:w' = Value.type T:=rw'
    exact isinst_ok I ru ty (isTy_kit hk) fun tk=>⟨.bl b,H,I.tok tk,rfl,q⟩
  have hP:=pe_callB (x:=y) (p:=p) (pos:=pos) hR hg hm hv (pa_cons he.p (pa_cons (pe_bltn (v:=.ty T) hg2 hm2 hv2 rfl (of_decide_eq_false hn2) hdb2) pa_nil hs2) hs1) (of_decide_eq_false hn) hdb hs1 hpl
  refine ⟨fun pins s σ H Q I h=>hP pins s σ H Q I ?_⟩
  show te σ H fun x H1=>_
  exact (show (te σ H fun x H1=>rIsi X.K T x H1 Q)→te σ H (fun x H1=>∃ x',[x,V.ty T] = [x',.ty T]∧rIsi X.K T x' H1 Q) from fun q=>by
    have e:(fun x H1=>∃ x',[x,V.ty T] = [x',.ty T]∧rIsi X.K T x' H1 Q) = fun x H1=>rIsi X.K T x H1 Q:=by
      funext x H1
      refine propext ⟨fun ⟨x',e,q⟩=>?_,fun q=>⟨x,rfl,q⟩⟩
      cases e; exact q
    rw [e]; exact q) h
theorem isiL_go {K:PySem.W.Frag} {H:Hp} {a:Addr} {xs:List V} {Q:VK} (h:H a = some (.lst xs)) (q:Q (.bl true) H):rIsi K "list" (.ref a) H Q:=⟨_,_,.lst h,isTy_list_list,q⟩
end
structure UnB (fs:List Addr) (H H':Hp) (h B h':Heap):Prop where
  keep:∀ b o,h.get? b = some o→H b = none→b ∉ fs→B.get? b = some o
  slot:∀ b o,h.get? b = some o→H b = none→b ∈ fs→∃ sl,h'.get? b = some { o with slots:=sl }
  free:∀ b o,h.get? b = some o→H b = none→H' b = none
  there:∀ b o,h.get? b = some o→b ∉ fs→∃ o',B.get? b = some o'
  tups:∀ b xs,H b = some (.tup xs)→H' b = some (.tup xs)
  frzs:∀ b o u,H b = some (.frz o u)→H' b = some (.frz o u)
  tbls:∀ b ps,H b = some (.tbl ps)→∃ more,H' b = some (.tbl (ps ++ more))
def CX1 (P:Program) (w:World):CXT:=fun outer H s E e s'=>∃ (ea:Addr) (cls:Value) (t:Addr) (H':Hp) (B:Heap),e = .ref ea∧s'.os = s.os∧AllBare s'.gens∧
  Heap.FlyingW B outer ea cls (.ref t) s'.heap∧HOk P w H' B∧UnB (frs outer) H H' s.heap B s'.heap∧E cls none H'
theorem frs_none {base h:Heap} {l:List Env} (f:h.FunFrames base l) {b:Addr} (hb:b ∈ frs l):base.get? b = none∧∃ o,h.get? b = some o∧∀ vs,o.data ≠ .fields vs:=f.mem hb
section
variable {P:Program} {w:World} {K:PySem.W.Frag} {mg:Str→Option Value} {base:Heap} {N:List Str} {qual:Str} {scope:Scope} {f:Addr} {cd:Value} {A:Around} {outer:List Env} {s:Shared} {H:Hp} {E:XK}
theorem made_def {pins:List (Addr × Obj)} {σ:St} {H2:Hp} {s2:Shared} {h':Heap} {e:Addr} {cls:Value} {vs:List Value} (I:Inv (cxOf (CX1 P w) P w K mg base N qual scope f cd A outer s H E) pins σ H2 s2)
    (hx:Heap.MadeExcOf s2.heap h' e cls vs) (q:E cls none H2):(cxOf (CX1 P w) P w K mg base N qual scope f cd A outer s H E).xe (.ref e) { s2 with heap:=h' }:=by
  generalize eF:frs (cxOf (CX1 P w) P w K mg base N qual scope f cd A outer s H E).stack = F
  have hin:∀ env ∈ (cxOf (CX1 P w) P w K mg base N qual scope f cd A outer s H E).stack,∀ b,env.frame = some b→b ∈ F:=fun env he b hb=>by rw [← eF]; exact List.mem_filterMap.mpr ⟨env,he,hb⟩
  have neL:∀ b o,s.heap.get? b = some o→b ≠ s.heap.objs.size:=fun b o e=>Nat.ne_of_lt (Heap.lt_size e)
  have nF:∀ b o,s.heap.get? b = some o→b ∉ frs outer→b ∉ F:=fun b o e hb z=>by
    rw [← eF] at z
    rcases List.mem_cons.mp (I.stkSub b z) with y | y
    · exact neL b o e y
    · exact hb y
  have gB:∀ b o,s2.heap.get? b = some o→b ∉ F→(PySem.W.hideAll s2.heap F).get? b = some o:=fun b o e hb=>PySem.W.hideAll_get _ e hb
  show wpAny _ _ (leaving _ (.ref e)) _ _ _
  refine wpAny_leaves_madeW (base:=PySem.W.hideAll s2.heap F) (h:=s2.heap) I.ok.frames rfl (fun b o q=>PySem.W.of_hideAll _ q) (PySem.W.funFrames_hide I.stack hin) hx fun h2 t hfl htup hn hsm=>?_
  refine ⟨e,cls,t,H2,PySem.W.hideAll s2.heap F,rfl,I.os,I.bare,hfl,fun a o ea=>(I.hok a o ea).stay (fun b u hb eu=>gB b u eu fun z=>?_) (fun c q=>q) (fun c xs q=>q),⟨fun b o eb n hb=>?_,fun b o eb n hb=>?_,fun b o eb n=>?_,fun b o eb hb=>?_,I.base.tups,I.base.frzs,I.base.tbls⟩,q⟩
  · have hf:=I.stkFree b (by rw [eF]; exact z)
    rcases hb with rfl | hb
    · rw [hf] at ea; cases ea
    · rw [hf] at hb; cases hb
  · exact gB b o (I.base.keep b o eb n hb (List.not_mem_nil)) (nF b o eb hb)
  · obtain ⟨sl,e1⟩:=I.base.slot b o eb n hb (List.not_mem_nil)
    obtain ⟨_,o2,e2,d2⟩:=frs_none I.stack (List.mem_cons_of_mem _ hb:b ∈ s.heap.objs.size :: frs outer)
    rw [e1] at e2
    cases e2
    obtain ⟨sl',e3⟩:=hsm b _ (hx.keeps _ _ e1) d2
    exact ⟨sl',e3⟩
  · exact I.base.free b o eb n (List.not_mem_nil)
  · obtain ⟨o',e1⟩:=I.base.there b o eb (List.not_mem_nil)
    exact ⟨o',gB b o' e1 (nF b o eb hb)⟩
end
theorem exc_obj {K:PySem.W.Frag} {h:Heap} {C:Addr} {bmB:List Value} {newId:String} (X:K.In h) (q:PySem.W.excIn K C bmB newId = true) :
    ∃ bm N nm qn bs hdct sn sub ab col dd k0 k1 k2 k3 k5 mN,h.get? C = some (excClassObj nm qn C N bs bm hdct sn sub ab col dd k0 k1 k2 k3 k5 newId)∧h.Ns N mN∧mN "__init__" = none∧OwnTail h bmB bm:=by
  unfold PySem.W.excIn at q
  split at q
  next dd cd sl look=>
    split at q
    next C1 tl a0 a1 a2 a3 nid a5 e1 e2=>
      simp only [Bool.and_eq_true,beq_iff_eq,Bool.not_eq_true'] at q
      obtain ⟨⟨⟨⟨⟨q1,q2⟩,q3⟩,q4⟩,q5⟩,q6⟩:=q
      subst q1 q2
      cases cd
      dsimp only at e1 q3 q5 q6
      subst e1 q3
      have e3:sl = #[a0,a1,a2,a3,some (.builtin nid),a5]:=by
        cases sl
        dsimp only at e2
        rw [e2]
      subst e3
      exact ⟨tl,_,_,_,_,_,_,_,_,_,_,_,_,_,_,_,_,X _ _ look,.of_isNs (PySem.W.isNs_of_in X q5),PySem.W.nsMap_none_of_in X q5 q6,PySem.W.tail_of_in X q4⟩
    next=>cases q
  next=>cases q
def tRaise (cls:Value) (E:XK) (ta:TA):TS:=fun _ σ H=>ta σ H fun vs H1=>vs.length ≤ 8∧E cls none H1
section
variable {X:Cx}
theorem ps_raise {x:Str} {e:Expr} {es:List Expr} {ta:TA} {C:Addr} {B newId initId:String} {bmB:List Value} {E:XK} {np cpos pos:Pos} (FB:ExcBaseFacts B newId initId bmB) (hC:PySem.W.excIn X.K C bmB newId = true)
    (hg:Gl X x) (hm:X.mg x = some (.ref C)) (hc:X.calm = true) (ha:PA X (e :: es) ta)
    (hx:∀ (pins:List (Addr × Obj)) (σ:St) (H2:Hp) (s2:Shared) (h':Heap) (ea:Addr) (vs:List Value),Inv X pins σ H2 s2→Heap.MadeExcOf s2.heap h' ea (.ref C) vs→E (.ref C) none H2→X.xe (.ref ea) { s2 with heap:=h' })
    (hdb:(x == ("__debug__":Str)) = false) (he:starEach (e :: es) X.env = (false,eval e X.env) :: starEach es X.env) (hpl:(backTo cpos (starEach es X.env)).any (·.1) = false) :
    PS X (.Raise (some (.Call (.Name x np) (e :: es) [] cpos)) none pos) (tRaise (.ref C) E ta):=by
  intro pins s σ H D I h
  obtain ⟨bm,N,nm,qn,bs,hdct,sn,sub,ab,col,dd,k0,k1,k2,k3,k5,mN,hO,hN,hni,TL⟩:=exc_obj I.mod.kin hC
  refine wpAny_Raise_call_subT (C:=C) (nm:=nm) (q:=qn) (N:=N) (bs:=bs) (bm:=bm) (hdct:=hdct) (sn:=sn) (sub:=sub) (ab:=ab) (col:=col) (dd:=dd) (k0:=k0) (k1:=k1) (k2:=k2) (k3:=k3) (k5:=k5)
    FB (mN:=mN) (TL.hasType FB.hasBase) (I.ok.hd hc) (by rw [he]; show (false || (backTo cpos (starEach es X.env)).any (·.1)) = false; rw [hpl]; rfl) hni (ld_glob I hg hm ⟨rfl,?_⟩ hdb)
  have hA:=ha cpos pins s σ H _ I h
  rw [he] at hA ⊢
  refine Calls.evalArgs_plain (thn hA fun us s2 ⟨vs,H2,I2,r2,hz,q2⟩=>⟨rfl,?_,I2.bk _ _ hO,hN.keeps I2.bk,TL.keeps I2.bk,fun h' ea hmade=>hx pins σ H2 s2 h' ea us I2 hmade q2⟩)
  show us.length ≤ sizeLine
  rw [← r2.length]
  exact Nat.le_trans hz (by decide)
end
theorem exc_mro {K:PySem.W.Frag} {h:Heap} {C:Addr} {bmB:List Value} {newId:String} (X:K.In h) (q:PySem.W.excIn K C bmB newId = true) :
    ∃ bm N nm qn bs hdct sn sub ab col dd k0 k1 k2 k3 k5,h.get? C = some (excClassObj nm qn C N bs bm hdct sn sub ab col dd k0 k1 k2 k3 k5 newId)∧OwnTail h bmB bm∧∀ v r,PySem.W.mroIn K C v = some r→(Value.ref C :: bm).contains v = r:=by
  obtain ⟨bm,N,nm,qn,bs,hdct,sn,sub,ab,col,dd,k0,k1,k2,k3,k5,mN,hO,hN,hni,TL⟩:=exc_obj X q
  refine ⟨bm,N,nm,qn,bs,hdct,sn,sub,ab,col,dd,k0,k1,k2,k3,k5,hO,TL,fun v r e=>?_⟩
  unfold PySem.W.mroIn PySem.W.clsIn at e
  split at e
  next c d cd sl look=>
    have e2:=X _ _ look
    rw [hO] at e2
    cases e2
    simpa using e
  next=>cases e
theorem matches_own {M:Model} {A:Around} {E:Value→Shared→Prop} {h:Heap} {g:Array GenState} {d:Drawn} {t:Nat} {os:OsState} {e C D:Addr} {oe:Obj} {Q:Bool→Shared→Prop}
    {nm q nm' q':Str} {N N':Addr} {bs bm bs' bm':List Value} {hdct hdct':Bool} {sn sn':List Str} {sub sub':List Value} {ab ab':Bool} {col col':Option Bool} {dd dd':Option Addr} {k0 k1 k2 k3 k5 l0 l1 l2 l3 l5:Option Value} {newId newId':String}
    (hC:h.get? C = some (excClassObj nm q C N bs bm hdct sn sub ab col dd k0 k1 k2 k3 k5 newId)) (hD:h.get? D = some (excClassObj nm' q' D N' bs' bm' hdct' sn' sub' ab' col' dd' l0 l1 l2 l3 l5 newId')) (he:h.get? e = some oe) (hcls:oe.cls = .ref C)
    (hbase:bm'.contains (.type "BaseException") = true) (hs:(Value.ref C :: bm).contains (.ref D) = true) (hq:Q true ⟨h,g,d,t,os⟩):wpAny M A (excMatches (.ref e) (.ref D)) Q E ⟨h,g,d,t,os⟩:=by
  have hcB:(Value.ref D :: bm').contains (.type "BaseException") = true:=by rw [List.contains_cons,hbase,Bool.or_true]
  have nt:=tc_notTuple
  unfold excMatches
  repeat (first | (with_reducible refine wpAny_loadPart_at he ?_; rw [hcls]) | with_reducible refine wpAny_loadPart_at hD ?_ | (with_reducible refine wpAny_isSubtype_exc hD ?_; rw [hcB]) | (with_reducible refine wpAny_isSubtype_exc hC ?_; rw [hs]) | wp_step)
  exact hq
structure ExcSub (K:PySem.W.Frag) (C D:Addr):Prop where
  c:∃ bmB newId,PySem.W.excIn K C bmB newId = true
  d:∃ bmB newId,PySem.W.excIn K D bmB newId = true∧bmB.contains (.type "BaseException") = true
  s:PySem.W.mroIn K C (.ref D) = some true
def PassesX (X:Cx) (Φ:St→XK→Prop):Prop:=∀ (pins:List (Addr × Obj)) (σ:St) (H:Hp) (s:Shared) (E:XK) (e:Value) (s':Shared),Inv X pins σ H s→Φ σ E→CX1 X.prog X.w X.stack H s E e s'→X.xe e s'
def tCallX (sp:Sp) (Φ:St→XK→Prop) (t:TA):TE:=fun σ H Q=>t σ H fun vs H1=>∃ E,Φ σ E∧sp vs H1 Q E
section
variable {X:Cx} {e:Expr} {es:List Expr} {t:TA} {x:Str} {p pos:Pos}
theorem pe_callX {Φ:St→XK→Prop} {k:Nat} {f:Addr} {fd:FuncData} {ps:List Str} {sp:Sp} (F:FnOk X.prog X.w X.K X.mg X.base (CX1 X.prog X.w) k f fd ps sp) (hr:Room k X.A) (hg:Gl X x) (hm:X.mg x = some (.ref f)) (hk:PySem.W.keepIn X.K (.ref f) = true) (hb:Binds X.K fd ps []) (hx:PassesX X Φ)
    (ha:PA X (e :: es) t) (hdb:(x == ("__debug__":Str)) = false) (he:starEach (e :: es) X.env = (false,eval e X.env) :: starEach es X.env) (hpl:(backTo pos (starEach es X.env)).any (·.1) = false) :
    PE X (.Call (.Name x p) (e :: es) [] pos) (tCallX sp Φ t):=by
  intro pins s σ H Q I h
  refine wpAny_Call_Name_kw (ld_glob I hg hm ?_ hdb)
  refine PySem.W.callWith_K (h₀:=X.base) I.ok.mod.kin hk (thn (ha pos pins s σ H _ I h) fun us s1 ⟨vs,H1,I1,r,q⟩=>⟨I1.kIn,?_⟩) he hpl
  obtain ⟨E,hΦ,q⟩:=q
  have hl:us.length = ps.length:=by rw [← r.length]; exact F.len _ _ _ _ q
  have hb2:=hb s1 us I1.kIn (by rw [List.append_nil]; exact hl)
  rw [List.append_nil] at hb2
  refine wpAny_call (codeAny_mono (F.run X.A X.stack s1 H1 ⟨us,[]⟩ us vs Q E hr I1.env0 hb2 r q) fun r s' hq=>?_)
  cases r with
  | error e=>exact hx pins σ H1 s1 E e s' I1 hΦ hq
  | ok fl=>
    cases fl with
    | ret u=>exact I1.after hq
    | next=>exact False.elim hq
    | brk=>exact False.elim hq
    | cont=>exact False.elim hq
end
theorem HOk.untracked {P:Program} {w:World} {H:Hp} {B:Heap} {a:Addr} (hok:HOk P w H B) (hno:B.get? a = none):H a = none:=by
  cases e2:H a with
  | none=>rfl
  | some o=>
    have hlt:=hok a o e2
    exfalso
    cases o with
    | lst xs=>obtain ⟨_,_,_,_,z⟩:=hlt; rw [hno] at z; cases z
    | tup xs=>obtain ⟨_,_,_,z⟩:=hlt; obtain ⟨_,z,_⟩:=z; rw [hno] at z; cases z
    | dK kvs=>obtain ⟨_,_,_,_,_,_,_,z,_⟩:=hlt; rw [hno] at z; cases z
    | dT kvs=>obtain ⟨_,_,_,_,_,_,_,z,_⟩:=hlt; rw [hno] at z; cases z
    | set S n=>obtain ⟨_,_,_,_,z,_⟩:=hlt; rw [hno] at z; cases z
    | ins C dx fs=>obtain ⟨_,_,_,z,_⟩:=hlt; rw [hno] at z; cases z
    | own y=>obtain ⟨_,z⟩:=hlt; rw [hno] at z; cases z
    | xd fs=>obtain ⟨_,⟨_,_,_,z,_⟩,_⟩:=hlt; rw [hno] at z; cases z
    | rng lo hi=>obtain ⟨_,_,_,z⟩:=hlt; rw [hno] at z; cases z
    | frz ob u=>obtain ⟨z,_⟩:=hlt; rw [hno] at z; cases z
    | tbl ps=>have z:B.get? a = some _:=hlt; rw [hno] at z; cases z
    | met f y=>have z:B.get? a = some _:=hlt; rw [hno] at z; cases z
    | ext φ=>obtain ⟨_,⟨_,z⟩,_⟩:=hlt; rw [hno] at z; cases z
abbrev Cx.hand (X:Cx) (ea:Addr):Cx:={ X with A:=X.A.mark (some (.ref ea)),calm:=false,xe:=fun _ _=>False }
abbrev Cx.tried (X:Cx) (xe:Value→Shared→Prop) (pn:List (Addr × Obj)):Cx:={ X with xe:=xe,pn:=pn }
section
variable {X:Cx} {pins:List (Addr × Obj)} {σ:St} {H:Hp} {s:Shared}
theorem Inv.hand (I:Inv X pins σ H s) (ea:Addr):Inv (X.hand ea) pins σ H s:=
  ⟨⟨I.ok.mod,I.ok.kind,I.ok.glob,I.ok.blt,I.ok.above,I.ok.inj,I.ok.has,I.ok.cab,fun h=>(nomatch (show false = true from h)),I.ok.frames,I.ok.stk,I.ok.exf,I.ok.bs,I.ok.bsz,I.ok.noex,I.ok.exfs,I.ok.funs,I.ok.frf⟩,I.os,I.bare,I.base,I.loc,I.cell,I.free,I.freeC,I.pin,I.hok,I.len⟩
theorem Inv.unhand {ea:Addr} (ok:X.Ok) (I:Inv (X.hand ea) pins σ H s):Inv X pins σ H s:=⟨ok,I.os,I.bare,I.base,I.loc,I.cell,I.free,I.freeC,I.pin,I.hok,I.len⟩
theorem Inv.tried (I:Inv X pins σ H s) (xe:Value→Shared→Prop):Inv (X.tried xe (X.pn ++ pins)) [] σ H s:=
  ⟨⟨I.ok.mod,I.ok.kind,I.ok.glob,I.ok.blt,I.ok.above,I.ok.inj,I.ok.has,I.ok.cab,I.ok.hd,I.ok.frames,I.ok.stk,I.ok.exf,I.ok.bs,I.ok.bsz,I.ok.noex,I.ok.exfs,I.ok.funs,I.ok.frf⟩,I.os,I.bare,I.base,I.loc,I.cell,I.free,I.freeC,fun p hp=>I.pin p (by simpa using hp),I.hok,I.len⟩
theorem Inv.untried {xe:Value→Shared→Prop} {pins':List (Addr × Obj)} (ok:X.Ok) (I:Inv (X.tried xe (X.pn ++ pins)) pins' σ H s):Inv X pins σ H s:=
  ⟨ok,I.os,I.bare,I.base,I.loc,I.cell,I.free,I.freeC,fun p hp=>I.pin p (List.mem_append_left _ hp),I.hok,I.len⟩
theorem landed_inv {e:Addr} {cls a0:Value} {H':Hp} {B h6:Heap} {s':Shared} (I:Inv X pins σ H s) (hos:s'.os = s.os) (hg:AllBare s'.gens) (hok:HOk X.prog X.w H' B) (ub:UnB (frs X.stack) H H' s.heap B s'.heap)
    (hfl0:Heap.FlyingW B X.stack e cls a0 s'.heap) (hfl:Heap.FlyingW B X.stack e cls a0 h6) (hsm:s'.heap.UpToSlots h6):Inv X pins σ H' { s' with heap:=h6 }:=by
  refine I.call' (s':={ s' with heap:=h6 }) (ch:=[]) hos ⟨fun b o eb n hb _=>hfl.1 _ _ (ub.keep b o eb n hb),fun b o eb n hb _=>?_,fun b o eb n _=>ub.free b o eb n,fun b o eb _=>?_,ub.tups,ub.frzs,ub.tbls⟩ (hok.kept fun b u e=>hfl.1 b u e) hg (fun b hb=>absurd hb List.not_mem_nil)
  · obtain ⟨sl,e1⟩:=ub.slot b o eb n hb
    obtain ⟨_,o2,e3,d3⟩:=frs_none hfl0.2.2.1 hb
    rw [e1] at e3
    cases e3
    obtain ⟨sl2,e4⟩:=hsm b _ e1 d3
    exact ⟨sl2,e4⟩
  · by_cases hb:b ∈ frs X.stack
    · obtain ⟨_,o2,e3,_⟩:=frs_none hfl.2.2.1 hb
      exact ⟨o2,e3⟩
    · obtain ⟨o',e1⟩:=ub.there b o eb hb
      exact ⟨o',hfl.1 _ _ e1⟩
def Taken (K:PySem.W.Frag) (D:Addr) (th:Addr→Addr→Hp→Prop):XK:=fun cls _ H'=>∃ C,cls = .ref C∧ExcSub K C D∧∀ ea,H' ea = none→th ea C H'
def tTry (K:PySem.W.Frag) (D:Addr) (tb:(St→XK→Prop)→TS) (th:TS):TS:=fun Dn σ H=>tb (fun σ' E=>σ' = σ∧E = Taken K D fun _ _ H'=>th Dn σ H') Dn σ H
theorem caught_by {x:Str} {D e:Addr} {a0:Value} {b₀:Stmt} {suite:List Stmt} {name:Option Str} {np hpos:Pos} {H':Hp} {B:Heap} {s':Shared} {C:Addr} {Q:Flow→Shared→Prop} {E:Value→Shared→Prop}
    (hg:Gl X x) (hm:X.mg x = some (.ref D)) (hdb:(x == ("__debug__":Str)) = false) (hst:X.stack = X.env :: X.outer) (hfr:X.env.frame = some X.env.locals)
    (I:Inv X pins σ H s) (hos:s'.os = s.os) (hgen:AllBare s'.gens) (hok:HOk X.prog X.w H' B) (ub:UnB (frs X.stack) H H' s.heap B s'.heap) (hfl:Heap.FlyingW B X.stack e (.ref C) a0 s'.heap) (hs:ExcSub X.K C D)
    (k:∀ h6,Heap.FlyingW B X.stack e (.ref C) a0 h6→s'.heap.UpToSlots h6→
      codeAny (model X.prog X.w) (X.A.mark (some (.ref e))) (.handlers (.ref e) [.ExceptHandler none name (b₀ :: suite) hpos] X.env) (fun r s₂=>match r with
          | .ok f=>(match name with
            | none=>Q f s₂
            | some n=>wpAny (model X.prog X.w) X.A (do bindName X.env n .none; unbindBehindTheSuite X.env n hpos) (fun _ s₃=>Q f s₃) E s₂)
          | .error x=>cameBackBy (model X.prog X.w) X.A X.env E x s₂) { s' with heap:=h6 }) :
    wpAny (model X.prog X.w) X.A (noteFrame (.ref e) X.env) (fun _ s₂=>wpAny (model X.prog X.w) X.A (setFlight (.ref e) none) (fun _ s₃=>
      wpAny (model X.prog X.w) X.A (handleBy (.ref e) X.env [.ExceptHandler (some (.Name x np)) name (b₀ :: suite) hpos]) Q E s₃) E s₂) E s':=by
  have hfl':=hfl
  rw [hst] at hfl'
  refine wpAny_looks_onW (L:=X.env.locals) (by rw [I.ok.frames,hst]) hfr hfl' fun h4 hh4 sm4=>?_
  refine wpAny_landsW hh4 fun h5 hf5 sm5=>?_
  have hf5':=hf5
  rw [← hst] at hf5'
  have I5:=landed_inv I hos hgen hok ub hfl hf5' (sm4.trans sm5)
  refine wpAny_handleBy_cons (codeAny_handlers_test ?_) (by intro z; cases z)
  have I5h:=I5.hand e
  refine ld_glob I5h hg hm ?_ hdb
  obtain ⟨⟨bmB,nid,c1⟩,⟨bmD,nid',c2,c3⟩,c4⟩:=hs
  obtain ⟨bm,N,nm,qn,bs,hdct,sn,sub,ab,col,dd,k0,k1,k2,k3,k5,oC,TC,mC⟩:=exc_mro I5.kIn c1
  obtain ⟨bm',N',nm',qn',bs',hdct',sn',sub',ab',col',dd',l0,l1,l2,l3,l5,oD,TD,mD⟩:=exc_mro I5.kIn c2
  obtain ⟨ob,hob,hobc⟩:=hf5.there
  obtain ⟨hp,gn,dr,tk,os⟩:=s'
  refine matches_own oC oD hob hobc (TD.hasType c3) (mC _ _ c4) ?_
  exact k h5 hf5' (sm4.trans sm5)
end
section
variable {X:Cx}
theorem ps_try0 {body:List Stmt} {tb:(St→XK→Prop)→TS} {x:Str} {D:Addr} {b₀:Stmt} {suite:List Stmt} {th:TS} {np hpos pos:Pos}
    (hg:Gl X x) (hm:X.mg x = some (.ref D)) (hdb:(x == ("__debug__":Str)) = false) (hst:X.stack = X.env :: X.outer) (hfr:X.env.frame = some X.env.locals)
    (hb:∀ (xe:Value→Shared→Prop) (pn:List (Addr × Obj)) (Φ:St→XK→Prop),PassesX (X.tried xe pn) Φ→PSs (X.tried xe pn) body (tb Φ))
    (hh:∀ ea,PSs (X.hand ea) (b₀ :: suite) th) :
    PS X (.Try body [.ExceptHandler (some (.Name x np)) none (b₀ :: suite) hpos] [] [] pos) (tTry X.K D tb th):=by
  intro pins s σ H Dn I h
  refine wpAny_Try_except ?_
  let E0:XK:=Taken X.K D fun _ _ H'=>th Dn σ H'
  let xe:Value→Shared→Prop:=fun e s'=>∃ H1 s1,Inv X pins σ H1 s1∧CX1 X.prog X.w X.stack H1 s1 E0 e s'
  have hP:PassesX (X.tried xe (X.pn ++ pins)) (fun σ' E=>σ' = σ∧E = E0):=by
    rintro pins' σ' H1 s1 E e s' I1 ⟨rfl,rfl⟩ hc
    exact ⟨H1,s1,I1.untried I.ok,hc⟩
  have hbody:=hb xe (X.pn ++ pins) _ hP [] s σ H Dn (I.tried xe) h
  refine wpAny_mono hbody (fun fl s' q=>?_) fun e s' q=>?_
  · cases fl with
    | next=>obtain ⟨σ',H',J,q⟩:=q; exact wpAny_execs_nil ⟨σ',H',J.untried I.ok,q⟩
    | brk=>obtain ⟨σ',H',J,q⟩:=q; exact ⟨σ',H',J.untried I.ok,q⟩
    | cont=>obtain ⟨σ',H',J,q⟩:=q; exact ⟨σ',H',J.untried I.ok,q⟩
    | ret u=>obtain ⟨v,σ',H',J,r,q⟩:=q; exact ⟨v,σ',H',J.untried I.ok,r,q⟩
  · obtain ⟨H1,s1,I1,ea,cls,t,H2,B,rfl,hos,hgen,hfl,hok,ub,C,rfl,hsub,q⟩:=q
    have hn:=hok.untracked hfl.2.1
    refine caught_by hg hm hdb hst hfr I1 hos hgen hok ub hfl hsub fun h6 hf6 sm6=>?_
    refine codeAny_handlers_suite (lands_againW (s:={ s' with heap:=h6 }) hf6 fun h7 hf7 sm7=>?_)
    have I7:Inv X pins σ H2 { s' with heap:=h7 }:=landed_inv I1 hos hgen hok ub hfl hf7 (sm6.trans sm7)
    refine wpAny_mono (hh ea pins _ σ H2 Dn (I7.hand ea) (q ea hn)) (fun fl s8 q8=>?_) (fun _ _ z=>z.elim)
    cases fl with
    | next=>obtain ⟨σ',H',J,q⟩:=q8; exact ⟨σ',H',J.unhand I.ok,q⟩
    | brk=>obtain ⟨σ',H',J,q⟩:=q8; exact ⟨σ',H',J.unhand I.ok,q⟩
    | cont=>obtain ⟨σ',H',J,q⟩:=q8; exact ⟨σ',H',J.unhand I.ok,q⟩
    | ret u=>obtain ⟨v,σ',H',J,r,q⟩:=q8; exact ⟨v,σ',H',J.unhand I.ok,r,q⟩
end
mutual
inductive Dat (K:PySem.W.Frag) (H:Hp):V→PyData→Prop where
  | non:Dat K H .non .none
  | bl (b:Bool):Dat K H (.bl b) (.bool b)
  | int (i:Int):Dat K H (.int i) (.int i)
  | str (x:Str):Dat K H (.str x) (.str x)
  | lst {a:Addr} {xs:List V} {ds:List PyData} (h:SqL K H a xs) (t:DatAll K H xs ds):Dat K H (.ref a) (.list ds)
  | tup {a:Addr} {xs:List V} {ds:List PyData} (h:SqT K H a xs) (t:DatAll K H xs ds):Dat K H (.ref a) (.tuple ds)
inductive DatAll (K:PySem.W.Frag) (H:Hp):List V→List PyData→Prop where
  | nil:DatAll K H [] []
  | cons {x:V} {xs:List V} {d:PyData} {ds:List PyData} (h:Dat K H x d) (t:DatAll K H xs ds):DatAll K H (x :: xs) (d :: ds)
end
section
variable {X:Cx} {pins:List (Addr × Obj)} {σ:St} {H:Hp} {s:Shared}
mutual
theorem Inv.dat (I:Inv X pins σ H s):∀ {x:V} {d:PyData} {u:Value},Dat X.K H x d→RelV x u→∃ as,Reads s.heap u d as
  | _,_,_,.non,r=>by cases (show _ = Value.none from r); exact ⟨_,.none⟩
  | _,_,_,.bl b,r=>by cases (show _ = Value.bool b from r); exact ⟨_,.bool b⟩
  | _,_,_,.int i,r=>by obtain ⟨t,rfl⟩:=(show ∃ t,_ = Value.int i t from r); exact ⟨_,.int i t⟩
  | _,_,_,.str x,r=>by obtain ⟨t,rfl⟩:=(show ∃ t,_ = Value.str x t from r); exact ⟨_,.str x t⟩
  | _,_,_,.lst (a:=a) h t,r=>by
    cases (show _ = Value.ref a from r)
    obtain ⟨its,rv,⟨o,n,e,c,_,d⟩,_⟩:=I.list h
    obtain ⟨as,z⟩:=Inv.datAll I t rv
    exact ⟨_,.list e c d (by simpa using z)⟩
  | _,_,_,.tup (a:=a) h t,r=>by
    cases (show _ = Value.ref a from r)
    obtain ⟨its,rv,⟨o,e,c,n,d⟩,_⟩:=I.tuple h
    obtain ⟨as,z⟩:=Inv.datAll I t rv
    exact ⟨_,.tuple e c d (by simpa using z)⟩
theorem Inv.datAll (I:Inv X pins σ H s):∀ {xs:List V} {ds:List PyData} {us:List Value},DatAll X.K H xs ds→Vals xs us→∃ as,ReadsAll s.heap us ds as
  | _,_,_,.nil,.nil=>⟨_,.nil⟩
  | _,_,_,.cons h t,.cons r rr=>by
    obtain ⟨as,z⟩:=Inv.dat I h r
    obtain ⟨bs,z'⟩:=Inv.datAll I t rr
    exact ⟨_,.cons z z'⟩
end
end
abbrev rEqD (K:PySem.W.Frag):R2:=fun x y H Q=>∃ da db,Dat K H x da∧Dat K H y db∧SeqAt.shaped da = true∧SeqAt.shaped db = true∧Q (.bl (PyData.eqv da db)) H
abbrev rNeD (K:PySem.W.Frag):R2:=fun x y H Q=>∃ da db,Dat K H x da∧Dat K H y db∧SeqAt.shaped da = true∧SeqAt.shaped db = true∧Q (.bl (!PyData.eqv da db)) H
section
variable {X:Cx}
theorem op_eqD (hu:X.A.units + 64 < cLine):OpR X (compareOp .Eq) (rEqD X.K):=by
  intro pins s σ H x y v u Q I rx ry h
  obtain ⟨da,db,h1,h2,s1,s2,q⟩:=h
  obtain ⟨as,z1⟩:=I.dat h1 rx
  obtain ⟨bs,z2⟩:=I.dat h2 ry
  exact eq_dataH z1 z2 s1 s2 hu ⟨.bl _,H,I,rfl,q⟩
theorem op_neD (hu:X.A.units + 64 < cLine):OpR X (compareOp .NotEq) (rNeD X.K):=by
  intro pins s σ H x y v u Q I rx ry h
  obtain ⟨da,db,h1,h2,s1,s2,q⟩:=h
  obtain ⟨as,z1⟩:=I.dat h1 rx
  obtain ⟨bs,z2⟩:=I.dat h2 ry
  exact ne_dataH z1 z2 s1 s2 hu ⟨.bl _,H,I,rfl,q⟩
end
section
variable {X:Cx} {e:Expr} {es:List Expr} {t:TA} {x:Str} {p pos np cpos hpos:Pos}
theorem ke_callX {Φ:St→XK→Prop} {k:Nat} {f:Addr} {fd:FuncData} {ps:List Str} {sp:Sp} (F:FnOk X.prog X.w X.K X.mg X.base (CX1 X.prog X.w) k f fd ps sp) (hr:Room k X.A) (hm:X.mg x = some (.ref f)) (hk:PySem.W.keepIn X.K (.ref f) = true) (hb:Binds X.K fd ps []) (hx:PassesX X Φ)
    (ha:QA X (e :: es) t) (hg:X.env.kindOf x = some .globalImplicit:=by kernel_rfl) (hdb:(x == ("__debug__":Str)) = false:=by kernel_rfl) (he:starEach (e :: es) X.env = (false,eval e X.env) :: starEach es X.env:=by kernel_rfl) (hpl:(backTo pos (starEach es X.env)).any (·.1) = false:=by kernel_rfl) :
    QE X (.Call (.Name x p) (e :: es) [] pos) (tCallX sp Φ t):=⟨pe_callX F hr hg hm hk hb hx ha.p hdb he hpl⟩
theorem ks_raise {C:Addr} {B newId initId:String} {bmB:List Value} {E:XK} (FB:ExcBaseFacts B newId initId bmB) (hC:PySem.W.excIn X.K C bmB newId = true) (hm:X.mg x = some (.ref C)) (ha:QA X (e :: es) t)
    (hx:∀ (pins:List (Addr × Obj)) (σ:St) (H2:Hp) (s2:Shared) (h':Heap) (ea:Addr) (vs:List Value),Inv X pins σ H2 s2→Heap.MadeExcOf s2.heap h' ea (.ref C) vs→E (.ref C) none H2→X.xe (.ref ea) { s2 with heap:=h' })
    (hg:X.env.kindOf x = some .globalImplicit:=by kernel_rfl) (hc:X.calm = true:=by kernel_rfl)
    (hdb:(x == ("__debug__":Str)) = false:=by kernel_rfl) (he:starEach (e :: es) X.env = (false,eval e X.env) :: starEach es X.env:=by kernel_rfl) (hpl:(backTo cpos (starEach es X.env)).any (·.1) = false:=by kernel_rfl) :
    QS X (.Raise (some (.Call (.Name x np) (e :: es) [] cpos)) none pos) (tRaise (.ref C) E t):=⟨ps_raise FB hC hg hm hc ha.p hx hdb he hpl⟩
theorem ks_try0 {body:List Stmt} {tb:(St→XK→Prop)→TS} {D:Addr} {b₀:Stmt} {suite:List Stmt} {th:TS} (hm:X.mg x = some (.ref D))
    (hb:∀ (xe:Value→Shared→Prop) (pn:List (Addr × Obj)) (Φ:St→XK→Prop),PassesX (X.tried xe pn) Φ→QSs (X.tried xe pn) body (tb Φ)) (hh:∀ ea,QSs (X.hand ea) (b₀ :: suite) th)
    (hg:X.env.kindOf x = some .globalImplicit:=by kernel_rfl) (hdb:(x == ("__debug__":Str)) = false:=by kernel_rfl) (hst:X.stack = X.env :: X.outer:=by kernel_rfl) (hfr:X.env.frame = some X.env.locals:=by kernel_rfl) :
    QS X (.Try body [.ExceptHandler (some (.Name x np)) none (b₀ :: suite) hpos] [] [] pos) (tTry X.K D tb th):=⟨ps_try0 hg hm hdb hst hfr (fun xe pn Φ hx=>(hb xe pn Φ hx).p) fun ea=>(hh ea).p⟩
end
theorem Fun.okX {P:Program} {w:World} {K:PySem.W.Frag} {mg:Str→Option Value} {base:Heap} {x qual:Str} {st:Stmt} {f:Addr} {fd:FuncData} {N ps:List Str} {k:Nat} {sp:Sp} (F:Fun K x qual st f fd) (S:FnScope N ps (defScope st)) {rd:XK→TS} (len:∀ vs H Q E,sp vs H Q E→vs.length = ps.length)
    (hb:∀ (cdv:Value) (A:Around) (outer:List Env) (s:Shared) (H:Hp) (E:XK),Room k (A.deeper (envOfC qual (defScope st) s.heap.objs.size f cdv))→QSs (cxOf (CX1 P w) P w K mg base N qual (defScope st) f cdv A outer s H E) (defBody st) (rd E))
    (hq:∀ (vs:List V) (H:Hp) (Q:VK) (E:XK),sp vs H Q E→rd E { nx:=fun _ H'=>Q .non H',rt:=Q } (start N vs) H):FnOk P w K mg base (CX1 P w) (k + 1) f fd ps sp:=by
  obtain ⟨oc,od,kV,doc,pm,an,cdv,ct,osl,rfl,lk,hcd⟩:=F.ex
  exact fn_of lk hcd S len fun A outer s H vs Q E hr hsp=>⟨rd E,(hb cdv A outer s H E hr).p,hq vs H Q E hsp⟩
end L2
namespace L2
open PySem PySem.Spec PyProof.Rows PySem.Builtin.Str
variable {X:Cx}
theorem seq_any {A C:TS} {D:Ends} {σ:St} {H:Hp} (h:∀ c:St→Hp→Prop,(∀ σ' H',C D σ' H'→c σ' H')→A { D with nx:=c } σ H):tSeq A C D σ H:=h _ fun _ _ z=>z
theorem seq_set {te:TE} {i:Nat} {C:TS} {D:Ends} {σ:St} {H:Hp} (h:∀ c:V→Hp→Prop,(∀ x H1,C D (σ.set i (some x)) H1→c x H1)→te σ H c):tSeq (tAsg te (gName i)) C D σ H:=h _ fun _ _ z=>z
theorem slTo_go {H:Hp} {l:List Nat} {i:Int} {Q:VK} (hz:l.length ≤ 100000) (h0:0 ≤ i) (h1:i ≤ l.length) (q:Q (.str (txt (l.take i.toNat))) H):rSlS (.str (txt l)) none (some i) H Q:=
  slS_go hz (by rw [cutL_to h0 (by omega)]; exact q)
theorem comp_lst {K:PySem.W.Frag} {a:Addr} {xs:List V} {σ:St} {fs:List Nat} {tt:TT} {te:TE} {H:Hp} {Q:VK} (Pv:Nat→List V→Hp→Prop) (h0:Pv 0 [] H) (hl:∀ i ys H,i ≤ xs.length→Pv i ys H→SqL K H a xs∧ys.length ≤ i) (hn:xs.length ≤ sizeLine)
    (hs:∀ i x ys H,xs[i]? = some x→Pv i ys H→∀ R:List V→Hp→Prop,(∀ ys' H',Pv (i + 1) ys' H'→R ys' H')→tt (some x :: compSt fs σ) H fun b H2=>if b = true then te (some x :: compSt fs σ) H2 fun y H3=>R (ys ++ [y]) H3 else R ys H2)
    (hd:∀ ys H,Pv xs.length ys H→∀ p,H p = none→Q (.ref p) (upd H p (.lst ys))) :
    ∃ W:Nat→Nat→List V→Hp→Prop,(∃ m,W 0 m [] H)∧∀ i m ys H,W i m ys H→ys.length ≤ sizeLine∧
      (((Itl K a).stop i H∧∀ p,H p = none→Q (.ref p) (upd H p (.lst ys))) ∨
       ((Itl K a).go i H∧ys.length < sizeLine∧∀ x H',(Itl K a).yld i H x H'→tt (some x :: compSt fs σ) H' fun b H2=>if b = true then te (some x :: compSt fs σ) H2 fun y H3=>∃ m',m' < m∧W (i + 1) m' (ys ++ [y]) H3 else ∃ m',m' < m∧W (i + 1) m' ys H2)):=by
  refine ⟨fun i m ys H=>m = xs.length - i∧i ≤ xs.length∧Pv i ys H,⟨xs.length,by simp,Nat.zero_le _,h0⟩,?_⟩
  rintro i m ys H ⟨rfl,hi,p⟩
  obtain ⟨hq,hle⟩:=hl i ys H hi p
  refine ⟨by omega,?_⟩
  by_cases hlt:i < xs.length
  · refine .inr ⟨⟨xs,xs[i],hq,by simp [hlt]⟩,by omega,fun x H' y=>?_⟩
    obtain ⟨e,y⟩:=y
    subst e
    exact hs i x ys _ (y xs hq) p (fun ys' H'=>∃ m',m' < xs.length - i∧m' = xs.length - (i + 1)∧i + 1 ≤ xs.length∧Pv (i + 1) ys' H') fun ys' H' q=>⟨xs.length - (i + 1),by omega,rfl,hlt,q⟩
  · have e:i = xs.length:=by omega
    subst e
    exact .inl ⟨⟨xs,hq,Nat.le_refl _⟩,hd ys H p⟩
theorem comp_l {K:PySem.W.Frag} {tl:TE} {a:Addr} {xs:List V} {σ:St} {fs:List Nat} {tt:TT} {te:TE} {H:Hp} {Q:VK} (ha:∀ Q:VK,Q (.ref a) H→tl σ H Q) (hq:SqL K H a xs) (Pv:Nat→List V→Hp→Prop) (h0:Pv 0 [] H) (hl:∀ i ys H,i ≤ xs.length→Pv i ys H→SqL K H a xs∧ys.length ≤ i) (hn:xs.length ≤ sizeLine)
    (hs:∀ i x ys H,xs[i]? = some x→Pv i ys H→∀ R:List V→Hp→Prop,(∀ ys' H',Pv (i + 1) ys' H'→R ys' H')→tt (some x :: compSt fs σ) H fun b H2=>if b = true then te (some x :: compSt fs σ) H2 fun y H3=>R (ys ++ [y]) H3 else R ys H2)
    (hd:∀ ys H,Pv xs.length ys H→∀ p,H p = none→Q (.ref p) (upd H p (.lst ys))):tComp (iList K tl) fs tt te σ H Q:=ha _ ⟨a,rfl,⟨xs,hq⟩,comp_lst Pv h0 hl hn hs hd⟩
end L2
namespace Asc
open PySem PyProof.Rows
end Asc
namespace L2
open PySem PySem.Spec PyProof.Rows
def tComp2 (K:PySem.W.Frag) (wi:TI) (fs:List Nat) (tt:TT) (te:TE):TE:=fun σ H Q=>wi σ H fun J H1=>∃ W:Nat→Nat→List V→Hp→Prop,(∃ m,W 0 m [] H1)∧∀ i m ys H,W i m ys H→ys.length ≤ sizeLine∧
  ((J.stop i H∧∀ p,H p = none→Q (.ref p) (upd H p (.lst ys))) ∨
   (J.go i H∧ys.length < sizeLine∧∀ x H',J.yld i H x H'→∃ p v0 v1,x = .ref p∧SqT K H' p [v0,v1]∧tt (some v0 :: some v1 :: compSt fs σ) H' fun b H2=>if b = true then te (some v0 :: some v1 :: compSt fs σ) H2 fun y H3=>∃ m',m' < m∧W (i + 1) m' (ys ++ [y]) H3 else ∃ m',m' < m∧W (i + 1) m' ys H2))
section
variable {X:Cx}
theorem comp_block2 {elt iter:Expr} {x x2:Str} {px px2 ptg pos:Pos} {kt:Nat} {ifs:List Expr} {scope:Scope} {fs:List (Str × Nat)} {tt:TT} {te:TE}
    {pins:List (Addr × Obj)} {σ:St} {H2:Hp} {s2:Shared} {it:Addr} {fp:List Addr} {tn:Nat→Heap→Prop} {J:It} {cl:List (Str × Addr)} {E:Value→Shared→Prop}
    {P:Value→Addr→Result→Shared→Prop}
    (hc:X.calm = true) (hkind:scope.kind = .function) (hcell:∀ y ∈ scope.names,y.2 ≠ .cell) (hx:scope.names.lookup x = some .local) (hx2:scope.names.lookup x2 = some .local)
    (hnd:(x :: x2 :: fs.map (·.1)).Nodup) (hfs:∀ f ∈ fs,X.N[f.2]? = some f.1∧(X.env.kindOf f.1 = some .cell ∨ X.env.kindOf f.1 = some .free)∧scope.names.lookup f.1 = some .free)
    (hb:∀ (cl:List (Str × Addr)) (C:Addr) (s₀:Shared) (H₀:Hp) (ex:List Addr),PTs (cxComp X scope cl C (x :: x2 :: fs.map (·.1)) s₀ H₀ ex) ifs tt∧PE (cxComp X scope cl C (x :: x2 :: fs.map (·.1)) s₀ H₀ ex) elt te)
    (hcl1:∀ y ∈ cl,X.env.cells.lookup y.1 = some y.2) (hcl2:∀ y ∈ scope.names,y.2 = .free→∃ c,(y.1,c) ∈ cl)
    (I2:Inv X pins σ H2 s2) (T:Turn X.prog X.w X.K (.Tuple [.Name x px,.Name x2 px2] kt ptg) J fp it tn) (st2:tn 0 s2.heap) (f2:∀ b ∈ fp,FpOk X pins H2 b)
    (W:Nat→Nat→List V→Hp→Prop) (Qe:Hp→List V→Prop) (w0:∃ m,W 0 m [] H2)
    (turn:∀ i m ys H,W i m ys H→ys.length ≤ sizeLine∧
      ((J.stop i H∧Qe H ys) ∨
       (J.go i H∧ys.length < sizeLine∧∀ x H',J.yld i H x H'→∃ p v0 v1,x = .ref p∧SqT X.K H' p [v0,v1]∧tt (some v0 :: some v1 :: compSt (fs.map (·.2)) σ) H' fun b H2=>if b = true then te (some v0 :: some v1 :: compSt (fs.map (·.2)) σ) H2 fun y H3=>∃ m',m' < m∧W (i + 1) m' (ys ++ [y]) H3 else ∃ m',m' < m∧W (i + 1) m' ys H2)))
    (hP:∀ (D C:Addr) (H':Hp) (s':Shared) (ys:List V) (its:List Value) (m:Str→Option Value),s2.heap.objs.size ≤ C→s2.heap.get? D = none→s2.heap.get? C = none→D ≠ C→H' D = none→H' C = none→s'.heap.Ns C m→s'.heap.PlainList D its.toArray→Vals ys its→ys.length ≤ sizeLine→Qe H' ys→
      Un (frs X.stack) fp H2 H' s2.heap s'.heap→HOk X.prog X.w H' s'.heap→AllBare s'.gens→s'.os = s2.os→P (.ref D) C (.ok .next) s') :
    wpAny (model X.prog X.w) X.A (newList []) (fun acc s₃=>wpAny (model X.prog X.w) X.A (newFunctionEnv scope X.env.globals cl [] X.env.qual none .none (some X.env)) (fun cenv s₄=>
      codeAny (model X.prog X.w) X.A (.compStart (.ListComp elt [⟨.Tuple [.Name x px,.Name x2 px2] kt ptg,iter,ifs,0⟩] scope pos) 0 (.ref it) acc { cenv with scope:=relabel scope X.env }) (P acc cenv.locals) s₄) E s₃) E s2:=by
  refine wpAny_newObj_type (wpAny_newFunctionEnv hcell (by intro y hy; simp at hy) (fun h₁ hns₁ hsb₁=>?_) hkind)
  dsimp only at hns₁ hsb₁ ⊢
  generalize hH2:s2.heap.push { cls:=.type "list",dict:=none,data:=.seq ([]:List Value).toArray } = HH at hns₁ hsb₁ ⊢
  have hC:HH.objs.size = s2.heap.objs.size + 1:=by rw [← hH2,Heap.size_push]
  generalize eD:s2.heap.objs.size = D at *
  generalize eC:HH.objs.size = C at *
  have hDC:D ≠ C:=by rw [hC]; exact Nat.ne_of_lt (Nat.lt_succ_self _)
  have fresh:∀ a,D ≤ a→s2.heap.get? a = none:=fun a ha=>Heap.get?_none_of_le (by rw [eD]; exact ha)
  have hD0:s2.heap.get? D = none:=fresh D (Nat.le_refl _)
  have hC0:s2.heap.get? C = none:=fresh C (by rw [hC]; exact Nat.le_succ _)
  have old:∀ b o,s2.heap.get? b = some o→h₁.get? b = some o:=fun b o e=>hsb₁.extBut b o (fun z=>by rw [z,hC0] at e; cases e) (Heap.get?_push_of_some _ (hH2 ▸ Heap.get?_push_of_some _ e))
  have hacc:h₁.PlainList D #[]:=⟨0,hsb₁.extBut _ _ hDC (Heap.get?_push_of_some _ (hH2 ▸ (eD ▸ Heap.get?_push_size _ rfl)))⟩
  have HD:H2 D = none:=I2.hok.fresh (by rw [eD]; exact Nat.le_refl _)
  have HC:H2 C = none:=I2.hok.fresh (by rw [eD,hC]; exact Nat.le_succ _)
  -- the block's context
  let Y:Cx:=cxComp X scope cl C (x :: x2 :: fs.map (·.1)) s2 H2 fp
  have lk:∀ y c,cl.lookup y = some c→X.env.cells.lookup y = some c:=fun y c e=>hcl1 (y,c) (lookup_mem e)
  have yok:Y.Ok:=by
    refine ⟨I2.ok.mod,hkind,I2.ok.glob,I2.ok.blt,?_,fun y z c h1 h2=>I2.ok.inj y z c (lk y c h1) (lk z c h2),fun y hy=>?_,fun _ _ h _=>absurd h Bool.false_ne_true,I2.ok.hd,I2.ok.frames,.inl rfl,fun b hb=>?_,I2.bs,?_,fun b o e hb=>?_,fun b hb hz=>?_,I2.stack,I2.stkFree⟩
    · show s2.heap.objs.size ≤ C
      rw [eD,hC]; exact Nat.le_succ _
    · have hy':(relabel scope X.env).names.lookup y = some .cell ∨ (relabel scope X.env).names.lookup y = some .free:=hy
      have hm:(y,NameKind.free) ∈ scope.names:=by
        rcases hy' with e | e
        · rcases relabel_mem (lookup_mem e) with q | ⟨_,q⟩
          · exact absurd rfl (hcell _ q)
          · exact q
        · rcases relabel_mem (lookup_mem e) with q | ⟨q,_⟩
          · exact q
          · cases q
      obtain ⟨c,q⟩:=hcl2 _ hm rfl
      exact mem_lookup q
    · obtain ⟨f0,f1,f3,f4,f5,f6⟩:=f2 b hb
      refine ⟨fun z=>?_,fun y c e=>f5 y c (lk y c e)⟩
      obtain ⟨o,ho,_⟩:=T.obj _ _ st2 b hb
      have z':b = C:=z
      rw [z',hC0] at ho; cases ho
    · exact Nat.le_trans I2.ok.bsz I2.sz
    · obtain ⟨f0,f1,f3,f4,f5,f6⟩:=f2 b hb
      rcases f4 with z | z
      · exact I2.ok.noex b o e z
      · exact absurd (Nat.lt_of_lt_of_le (Heap.lt_size e) (Nat.le_trans I2.ok.bsz z)) (Nat.lt_irrefl _)
    · obtain ⟨f0,f1,f3,f4,f5,f6⟩:=f2 b hb
      rcases List.mem_cons.mp (I2.stkSub b hz) with z | z
      · exact f1 z
      · exact f3 z
  let τ:St:=none :: none :: compSt (fs.map (·.2)) σ
  have hτ:τ.length = (x :: x2 :: fs.map (·.1)).length:=by simp [τ,compSt]
  obtain ⟨mL,hnL,hlL⟩:=id I2.loc
  have yI:Inv Y [] τ H2 { s2 with heap:=h₁,toks:=s2.toks + ([]:List (Str × Value)).length }:=by
    refine ⟨yok,rfl,I2.bare,Un.kept old,⟨_,hns₁,fun i y v e1 e2 e3=>?_⟩,fun y c e=>?_,HC,fun y c e=>I2.freeC y c (lk y c e),(fun p hp=>nomatch hp),I2.hok.kept old,hτ⟩
    · cases i with
      | zero=>simp [τ] at e2
      | succ i0=>
       cases i0 with
       | zero=>simp [τ] at e2
       | succ i=>
        have e1':(fs.map (·.1))[i]? = some y:=e1
        have e2':(compSt (fs.map (·.2)) σ)[i]? = some (some v):=by simpa [τ] using e2
        rw [List.getElem?_map] at e1'
        cases q:fs[i]? with
        | none=>rw [q] at e1'; cases e1'
        | some f=>
          rw [q] at e1'
          have ey:f.1 = y:=Option.some.inj e1'
          obtain ⟨g1,g2,g3⟩:=hfs f (List.mem_of_getElem? q)
          have e2'':(σ[f.2]?).join = some v:=by
            unfold compSt at e2'
            rw [List.getElem?_map,List.getElem?_map,q] at e2'
            exact Option.some.inj e2'
          have e2c:σ[f.2]? = some (some v):=by
            cases r:σ[f.2]? with
            | none=>rw [r] at e2''; cases e2''
            | some o=>rw [r] at e2''; have e2'':o = some v:=e2''; rw [e2'']
          have vis:Vis X.env.scope f.1:=by
            rcases g2 with g | g
            · exact .inr (.inl g)
            · exact .inr (.inr g)
          obtain ⟨u,ru,lu⟩:=hlL f.2 f.1 v g1 e2c vis
          refine ⟨u,ru,?_⟩
          have lu':∃ c,X.env.cells.lookup f.1 = some c∧s2.heap.IsCell c (some u):=by
            rcases lu with ⟨k,_⟩ | ⟨_,c,e,z⟩
            · rcases g2 with g | g
              · rw [k] at g; cases g
              · rw [k] at g; cases g
            · exact ⟨c,e,z⟩
          obtain ⟨c,hc1,hc2⟩:=lu'
          obtain ⟨c',hm⟩:=hcl2 _ (lookup_mem g3) rfl
          have hm':=hcl1 _ hm
          obtain ⟨c2,hl2⟩:=mem_lookup hm
          have:=lk _ _ hl2
          rw [hc1] at this; cases this
          obtain ⟨oc,ho,hdt⟩:=hc2
          refine .inr ⟨?_,c,by rw [← ey]; exact hl2,oc,old c oc ho,hdt⟩
          rw [← ey]
          exact lookup_relabel_free g3
    · obtain ⟨v,oc,ho,hdt⟩:=I2.cell y c (lk y c e)
      exact ⟨v,oc,old c oc ho,hdt⟩
  have hx':Y.env.scope.names.lookup x = some .local:=lookup_relabel_local hx
  have hx2':Y.env.scope.names.lookup x2 = some .local:=lookup_relabel_local hx2
  have fpD:∀ b ∈ fp,b ≠ D:=fun b hb z=>by
    obtain ⟨o,ho,_⟩:=T.obj _ _ st2 b hb
    rw [z,hD0] at ho; cases ho
  have stD:D ∉ frs X.stack:=fun hz=>by
    rcases List.mem_cons.mp (I2.stkSub D hz) with z | z
    · have:=I2.lt; rw [eD,← z] at this; exact absurd this (Nat.lt_irrefl _)
    · exact I2.nofs (by rw [eD]; exact Nat.le_refl _) z
  have cellD:∀ y c,cl.lookup y = some c→c ≠ D:=fun y c e z=>by
    obtain ⟨v,oc,ho,_⟩:=I2.cell y c (lk y c e)
    rw [z,hD0] at ho; cases ho
  have stat:∀ {H':Hp} {oD:Obj},(∀ b ∈ fp,H' b = none)→∀ b ∈ fp,FpOk Y [(D,oD)] H' b:=fun hn b hb=>by
    refine ⟨hn b hb,(yok.exf b hb).1,yok.exfs b hb,.inl hb,(yok.exf b hb).2,fun p hp z=>?_⟩
    have hp':p ∈ [(D,_)]:=hp
    rw [List.mem_singleton.mp hp'] at z
    exact fpD b hb z.symm
  obtain ⟨m0,w0⟩:=w0
  have loop:∀ s₃:Shared,s₃ = { s2 with heap:=h₁,toks:=s2.toks + ([]:List (Str × Value)).length }→
      codeAny (model X.prog X.w) X.A (.compLoop (.ListComp elt [⟨.Tuple [.Name x px,.Name x2 px2] kt ptg,iter,ifs,0⟩] scope pos) 0 (.ref it) (.ref D) (compEnvC scope cl C X.env)) (P (.ref D) C) s₃:=by
    rintro s₃ rfl
    refine compLoop_any (fun n s'=>∃ i ys its H',Inv Y [] τ H' s'∧tn i s'.heap∧(∀ b ∈ fp,H' b = none)∧H' D = none∧s'.heap.PlainList D (List.toArray its)∧Vals ys its∧W i n ys H') ?_ m0
      ⟨0,[],[],H2,yI,T.keep _ _ _ st2 (fun b _ o e=>old b o e),fun b hb=>(f2 b hb).1,HD,hacc,.nil,w0⟩
    rintro n s3 ⟨i,ys,its,H3,I3,st3,fr3,hD3,⟨n0,hoD⟩,rv3,w3⟩
    obtain ⟨hz,ht⟩:=turn i n ys H3 w3
    have I3':Inv Y [(D,{ cls:=.type "list",data:=.seq its.toArray n0 })] τ H3 s3:=I3.pins_of fun p hp=>by
      rw [List.mem_singleton.mp hp]
      exact ⟨hoD,hD3,hDC,stD,fun v z=>by cases z⟩
    rcases ht with ⟨stop,q⟩ | ⟨go,hz',step⟩
    · refine thn (T.done Y rfl rfl rfl hc i _ s3 τ H3 _ I3' (stat fr3) st3 stop) fun r s4 ⟨hr,I4⟩=>?_
      subst hr
      obtain ⟨m,hn,_⟩:=I4.loc
      exact hP D C H3 s4 ys its m (by rw [hC]; exact Nat.le_succ _) hD0 hC0 hDC hD3 I4.free hn ⟨n0,(I4.pin (D,_) (List.mem_append_right _ List.mem_cons_self)).1⟩ rv3 hz q I4.base I4.hok I4.bare I4.os
    · refine thn (T.item Y rfl rfl rfl hc i _ s3 τ H3 _ I3' (stat fr3) st3 go) fun r s4 ⟨u,hr,h4⟩=>?_
      subst hr
      refine thn h4 fun _ s5 ⟨x',H5,I5,r5,y5,st5,fr5⟩=>?_
      have I5':=I5.pinned (fp:=fp) (stat fr5) (T.obj _ _ st5)
      obtain ⟨pt,v0,v1,ex',hqt,step'⟩:=step x' H5 y5
      refine thn (pg_tup (X:=Y) (pos:=ptg) (k:=kt) (n:=2) hc (pgs_cons (pg_name (X:=Y) (i:=0) (pos:=px) hnd rfl (.inl hx') (.inr hx')) (pgs_cons (pg_name (X:=Y) (i:=1) (pos:=px2) hnd rfl (.inl hx2') (.inr hx2')) pgs_nil)) rfl rfl _ s5 τ H5 x' u (fun σ' H'=>σ' = some v0 :: some v1 :: compSt (fs.map (·.2)) σ∧H' = H5) I5' r5 ⟨pt,[v0,v1],ex',hqt,rfl,v0,[v1],rfl,v1,[],rfl,rfl,rfl,rfl⟩) fun _ s6 ⟨σ6,H6,I6,e6,e6'⟩=>?_
      subst e6 e6'
      have back:∀ {σ':St} {H':Hp} {s':Shared},Inv Y ([(D,{ cls:=.type "list",data:=.seq its.toArray n0 })] ++ pinsAt fp s5.heap) (some v0 :: some v1 :: compSt (fs.map (·.2)) σ) H' s'→
          Inv Y [] τ H' s'∧tn (i + 1) s'.heap∧(∀ b ∈ fp,H' b = none)∧H' D = none∧s'.heap.PlainList D its.toArray:=fun {σ' H' s'} J'=>by
        refine ⟨(J'.pins_of (pins':=[]) (fun p hp=>absurd hp (by simp))).weak rfl fun j v e=>?_,T.keep _ _ _ st5 fun b hb o e=>(J'.pin (b,o) (List.mem_append_right _ (List.mem_append_right _ (mem_pinsAt hb e)))).1,fun b hb=>?_,?_,n0,?_⟩
        · cases j with
          | zero=>cases e
          | succ j0=>
            cases j0 with
            | zero=>cases e
            | succ j=>exact e
        · obtain ⟨o,e,d⟩:=T.obj _ _ st5 b hb
          exact (J'.pin (b,o) (List.mem_append_right _ (List.mem_append_right _ (mem_pinsAt hb e)))).2.1
        · exact (J'.pin (D,_) (List.mem_append_right _ (List.mem_append_left _ List.mem_cons_self))).2.1
        · exact (J'.pin (D,_) (List.mem_append_right _ (List.mem_append_left _ List.mem_cons_self))).1
      refine thn ((hb cl C s2 H2 fp).1 _ s6 _ _ _ I6 step') fun ok s7 ⟨H7,I7,q7⟩=>?_
      cases ok with
      | false=>
        obtain ⟨m',hm,w7⟩:=q7
        obtain ⟨a1,a2,a3,a4,a5⟩:=back (σ':=τ) I7
        exact ⟨m',hm,i + 1,ys,its,H7,a1,a2,a3,a4,a5,rv3,w7⟩
      | true=>
        refine thn ((hb cl C s2 H2 fp).2 _ s7 _ _ _ I7 q7) fun y s8 ⟨yv,H8,I8,ry,m',hm,w8⟩=>?_
        obtain ⟨a1,a2,a3,a4,a5⟩:=back (σ':=τ) I8
        have hlen:=rv3.length
        refine wpAny_list_append_plain (hsz:=by rw [List.size_toArray,← hlen]; exact hz) a5 fun h' hl' hs'=>?_
        refine ⟨m',hm,i + 1,ys ++ [yv],its ++ [y],H8,a1.turned (t':=s8.toks) (it:=D) (fun b o hb e=>hs'.extBut b o hb e) a4 hDC (.inr (by show s2.heap.objs.size ≤ D; rw [eD]; exact Nat.le_refl _)) (fun y c e=>cellD y c e) (fun p hp=>absurd (show p ∈ ([]:List (Addr × Obj)) from hp) (by simp)),T.keep _ _ _ a2 fun b hb o e=>hs'.extBut b o (fpD b hb) e,a3,a4,by simpa using hl',rv3.append (.cons ry .nil),w8⟩
  exact codeAny_compStart_list (loop _ rfl) (T.self X.A 0 _ _ _ (T.keep _ _ _ st2 (fun b _ o e=>old b o e)) (loop _ rfl))
theorem pe_comp2 {elt iter:Expr} {x x2:Str} {px px2 ptg pos:Pos} {kt:Nat} {ifs:List Expr} {scope:Scope} (fs:List (Str × Nat)) {wi:TI} {tt:TT} {te:TE}
    (hc:X.calm = true) (hkind:scope.kind = .function) (hcell:∀ y ∈ scope.names,y.2 ≠ .cell) (hnames:∀ y ∈ scope.names,y.2 = .local→scope.names.lookup y.1 = some .local)
    (hfree:∀ y ∈ scope.names,y.2 = .free→X.env.kindOf y.1 = some .cell ∨ X.env.kindOf y.1 = some .free) (hx:scope.names.lookup x = some .local) (hx2:scope.names.lookup x2 = some .local)
    (hnd:(x :: x2 :: fs.map (·.1)).Nodup) (hfs:∀ f ∈ fs,X.N[f.2]? = some f.1∧(X.env.kindOf f.1 = some .cell ∨ X.env.kindOf f.1 = some .free)∧scope.names.lookup f.1 = some .free)
    (hi:PI X (.Tuple [.Name x px,.Name x2 px2] kt ptg) iter wi)
    (hb:∀ (cl:List (Str × Addr)) (C:Addr) (s₀:Shared) (H₀:Hp) (ex:List Addr),PTs (cxComp X scope cl C (x :: x2 :: fs.map (·.1)) s₀ H₀ ex) ifs tt∧PE (cxComp X scope cl C (x :: x2 :: fs.map (·.1)) s₀ H₀ ex) elt te)
    (hs:∀ x,foldedSetIterable iter X.env x = pure x:=by intro _; rfl) :
    PE X (.ListComp elt [⟨.Tuple [.Name x px,.Name x2 px2] kt ptg,iter,ifs,0⟩] scope pos) (tComp2 X.K wi (fs.map (·.2)) tt te):=by
  intro pins s σ H Q I h
  obtain ⟨cl,hclos,hcl1,hcl2⟩:=closureFor_ex (env:=X.env) (scope:=scope) fun y hy hk=>I.ok.has y.1 (hfree y hy hk)
  rw [eval_ListComp]
  refine wpAny_comprehension_free (use:=none) rfl hs hclos hkind hnames (thn (hi pins s σ H _ I h) fun v s1 h1=>thn h1 fun itv s2 h2=>?_)
  obtain ⟨it,fp,tn,J,H2,e,I2,T,st2,f2,W,w0,turn⟩:=h2
  subst e
  refine comp_block2 (pins:=pins) hc hkind hcell hx hx2 hnd hfs hb hcl1 hcl2 I2 T st2 f2 W (fun H ys=>∀ p,H p = none→Q (.ref p) (upd H p (.lst ys))) w0 turn ?_
  intro D C H' s' ys its m hCs hD hC hDC HD HC hn pl rv hz q u hok hg ho
  exact ⟨m,hn,fun h' hs'=>⟨.ref D,_,comp_after (tk:=s'.toks) I2 f2 hD hC hDC HD HC pl rv hz u hok hg ho hs',rfl,q D HD⟩⟩
end
section
variable {X:Cx} {iter:Expr} {x x2:Str} {px px2 ptg pos:Pos} {kt:Nat}
def compLook2 (names:List (Str × NameKind)) (outer:List (Str × NameKind)) (N:List Str) (x x2:Str) (fs:List (Str × Nat)):Bool:=
  compLook names outer N x fs && (names.lookup x2 == some .local) && decide ((x :: x2 :: fs.map (·.1)).Nodup)
theorem ke_comp2 {elt:Expr} {ifs:List Expr} {scope:Scope} (fs:List (Str × Nat)) {wi:TI} {tt:TT} {te:TE}
    (hi:QI X (.Tuple [.Name x px,.Name x2 px2] kt ptg) iter wi)
    (hb:∀ (cl:List (Str × Addr)) (C:Addr) (s₀:Shared) (H₀:Hp) (ex:List Addr),QTs (cxComp X scope cl C (x :: x2 :: fs.map (·.1)) s₀ H₀ ex) ifs tt∧QE (cxComp X scope cl C (x :: x2 :: fs.map (·.1)) s₀ H₀ ex) elt te)
    (hc:X.calm = true:=by kernel_rfl) (hk:scope.kind = .function:=by kernel_rfl) (hl:compLook2 scope.names X.env.scope.names X.N x x2 fs = true:=by kernel_rfl)
    (hs:∀ x,foldedSetIterable iter X.env x = pure x:=by intro _; kernel_rfl) :
    QE X (.ListComp elt [⟨.Tuple [.Name x px,.Name x2 px2] kt ptg,iter,ifs,0⟩] scope pos) (tComp2 X.K wi (fs.map (·.2)) tt te):=by
  unfold compLook2 at hl
  simp only [Bool.and_eq_true,beq_iff_eq,decide_eq_true_eq] at hl
  have O:=compOk_of (X:=X) hk hl.1.1
  exact ⟨pe_comp2 fs hc O.kind O.cell O.names O.free O.hx hl.1.2 hl.2 O.fs hi.p (fun cl C s₀ H₀ ex=>⟨(hb cl C s₀ H₀ ex).1.p,(hb cl C s₀ H₀ ex).2.p⟩) hs⟩
end
theorem comp2_l {K:PySem.W.Frag} {tl:TE} {a:Addr} {xs:List V} {σ:St} {fs:List Nat} {tt:TT} {te:TE} {H:Hp} {Q:VK} (ha:∀ Q:VK,Q (.ref a) H→tl σ H Q) (hq:SqL K H a xs) (Pv:Nat→List V→Hp→Prop) (h0:Pv 0 [] H) (hl:∀ i ys H,i ≤ xs.length→Pv i ys H→SqL K H a xs∧ys.length ≤ i) (hn:xs.length ≤ sizeLine)
    (hs:∀ i x ys H,xs[i]? = some x→Pv i ys H→∃ p v0 v1,x = .ref p∧SqT K H p [v0,v1]∧∀ R:List V→Hp→Prop,(∀ ys' H',Pv (i + 1) ys' H'→R ys' H')→tt (some v0 :: some v1 :: compSt fs σ) H fun b H2=>if b = true then te (some v0 :: some v1 :: compSt fs σ) H2 fun y H3=>R (ys ++ [y]) H3 else R ys H2)
    (hd:∀ ys H,Pv xs.length ys H→∀ p,H p = none→Q (.ref p) (upd H p (.lst ys))):tComp2 K (iList K tl) fs tt te σ H Q:=by
  refine ha _ ⟨a,rfl,⟨xs,hq⟩,?_⟩
  refine ⟨fun i m ys H=>m = xs.length - i∧i ≤ xs.length∧Pv i ys H,⟨xs.length,by simp,Nat.zero_le _,h0⟩,?_⟩
  rintro i m ys H ⟨rfl,hi,p⟩
  obtain ⟨hq,hle⟩:=hl i ys H hi p
  refine ⟨by omega,?_⟩
  by_cases hlt:i < xs.length
  · refine .inr ⟨⟨xs,xs[i],hq,by simp [hlt]⟩,by omega,fun x H' y=>?_⟩
    obtain ⟨e,y⟩:=y
    subst e
    obtain ⟨pt,v0,v1,e,hqt,h⟩:=hs i x ys _ (y xs hq) p
    exact ⟨pt,v0,v1,e,hqt,h (fun ys' H'=>∃ m',m' < xs.length - i∧m' = xs.length - (i + 1)∧i + 1 ≤ xs.length∧Pv (i + 1) ys' H') fun ys' H' q=>⟨xs.length - (i + 1),by omega,rfl,hlt,q⟩⟩
  · have e:i = xs.length:=by omega
    subst e
    exact .inl ⟨⟨xs,hq,Nat.le_refl _⟩,hd ys H p⟩
end L2
namespace MaxD
open PySem PyProof.Rows
end MaxD
namespace L2
open PySem PySem.Spec PyProof.Rows
section
variable {X:Cx} {e o value d:Expr} {es:List Expr} {f x m:Str} {pos pos' p apos kp:Pos} {ta tv td:TE} {t:TA}
theorem ke_gint {n:Int} (hm:∃ t,X.mg x = some (.int n t)) (hg:X.env.kindOf x = some .globalImplicit:=by kernel_rfl) (hd:(x == ("__debug__":Str)) = false:=by kernel_rfl):QE X (.Name x pos) (tC (.int n)):=by
  obtain ⟨t,hm⟩:=hm
  exact ⟨pe_glob (v:=.int n) hg hm ⟨t,rfl⟩ hd⟩
variable {CX:CXT} {k:Nat} {g C:Addr} {fd:FuncData} {ps:List Str} {sp:Sp} {E:XK}
end
theorem ex1 {α:Type} {us:List α} (hl:us.length = 1):∃ a0,us = [a0]:=by
  match us,hl with
  | [_],_=>exact ⟨_,rfl⟩
theorem ex2 {α:Type} {us:List α} (hl:us.length = 2):∃ a0 a1,us = [a0,a1]:=by
  match us,hl with
  | [_,_],_=>exact ⟨_,_,rfl⟩
theorem ex3 {α:Type} {us:List α} (hl:us.length = 3):∃ a0 a1 a2,us = [a0,a1,a2]:=by
  match us,hl with
  | [_,_,_],_=>exact ⟨_,_,_,rfl⟩
theorem ex4 {α:Type} {us:List α} (hl:us.length = 4):∃ a0 a1 a2 a3,us = [a0,a1,a2,a3]:=by
  match us,hl with
  | [_,_,_,_],_=>exact ⟨_,_,_,_,rfl⟩
end L2
namespace MM
def Ls (K:Nat) (m:List Nat):Prop:=∀ c ∈ m,97 ≤ c∧c < 97 + K
def Na (m:List Nat):Prop:=∀ c,m.getLast? = some c→c ≠ 97
structure Mark (K:Nat) (m:List Nat):Prop where
  ls:Ls K m
  na:Na m
  ne:m ≠ []
theorem Ls.nil (K:Nat):Ls K []:=fun _ h=>nomatch h
theorem Ls.app {K:Nat} {a b:List Nat} (h:Ls K a) (h':Ls K b):Ls K (a ++ b):=fun c hc=>(List.mem_append.mp hc).elim (h c) (h' c)
theorem Na.app {a b:List Nat} (h:Na b) (hb:b ≠ []):Na (a ++ b):=fun c hc=>by
  rw [List.getLast?_append] at hc
  cases e:b.getLast? with
  | none=>exact absurd (List.getLast?_eq_none_iff.mp e) hb
  | some d=>rw [e] at hc; exact h c (by rw [e]; exact hc)
theorem Na.one {c:Nat} (h:c ≠ 97):Na [c]:=fun d hd=>by simp at hd; omega
end MM
namespace MM
end MM
namespace MM
end MM
namespace MM
end MM
namespace MM
end MM
set_option maxHeartbeats 1000000
namespace L2
open PySem PySem.Spec PyProof.Rows
end L2
set_option maxHeartbeats 1000000
namespace L2
section
open PySem PySem.Spec PyProof.Rows Builtin Builtin.ObjectAttr Builtin.Getset_descriptor
end
open PySem PySem.Spec PyProof.Rows
def rCount (K:PySem.W.Frag):V→List V→Hp→VK→Prop:=fun o vs H Q=>∃ p xs x,o = .ref p∧vs = [x]∧SqL K H p xs∧flatV x = true∧xs.all flatV = true∧Q (.int ((xs.countP fun y=>eqV y x:Nat):Int)) H
theorem count_eqU {x:V}:∀ {xs:List V} {us:List Value},Vals xs us→xs.all flatV = true→us.countP (eqU x) = xs.countP fun y=>eqV y x
  | [],us,h,_=>by cases h; rfl
  | y :: xs,us,h,f=>by
    cases h with
    | cons h1 h2=>
      rw [List.all_cons,Bool.and_eq_true] at f
      have a:=any_eqU (x:=x) (xs:=[y]) (.cons h1 .nil) (by rw [List.all_cons,f.1]; rfl)
      rw [List.any_cons,List.any_cons,List.any_nil,List.any_nil,Bool.or_false,Bool.or_false] at a
      rw [List.countP_cons,List.countP_cons,count_eqU h2 f.2,a]
section
variable {X:Cx}
theorem mt_count:MtR X "list.count" (rCount X.K):=by
  intro pins s σ H o vs v us Q I rx rv h
  obtain ⟨p,xs,x,rfl,rfl,hq,fx,fs,q⟩:=h
  cases rx
  obtain ⟨u,rfl,ru⟩:=vals1 rv
  obtain ⟨its,r,pl,hz⟩:=I.list hq
  obtain ⟨ob,n,e,e1,e2,e3⟩:=pl
  obtain ⟨oc,od,oda,osl⟩:=ob
  dsimp only at e1 e2 e3
  subst e1 e3
  refine call_meets F.slot_list_count ⟨_,e,rfl⟩ F.entry_list_count (F.args_list_count_2 _ _) (SeqAt.list_countAt p its.toArray n od osl u (eqU x)) ⟨e,fun y hy=>mem_eqAt ru fx r fs y (by simpa using hy),?_⟩
  refine ⟨.int _,H,I.tok _,⟨_,rfl⟩,?_⟩
  rw [show its.toArray.toList = its from rfl,count_eqU r fs]
  exact q
end
end L2
set_option maxHeartbeats 1000000
namespace L2
open PySem PySem.Spec PyProof.Rows
section
variable {κ:Type} [DecidableEq κ]
def valV (kvs:List (κ × V)) (k:κ):Option V:=(kvs.find? fun kv=>decide (kv.1 = k)).map (·.2)
def putK (kvs:List (κ × V)) (k:κ) (v:V):List (κ × V):=
  if (kvs.any fun kv=>decide (kv.1 = k)) = true then kvs.map (fun kv=>if kv.1 = k then (kv.1,v) else kv) else kvs ++ [(k,v)]
theorem valV_nil {k:κ}:valV ([]:List (κ × V)) k = none:=rfl
theorem valV_pos {p:κ × V} {r:List (κ × V)} {k:κ} (e:p.1 = k):valV (p :: r) k = some p.2:=by simp [valV,List.find?_cons,e]
theorem valV_neg {p:κ × V} {r:List (κ × V)} {k:κ} (e:¬ p.1 = k):valV (p :: r) k = valV r k:=by simp [valV,List.find?_cons,e]
theorem valV_any (k:κ):∀ kvs:List (κ × V),(kvs.any fun kv=>decide (kv.1 = k)) = (valV kvs k).isSome
  | []=>rfl
  | p :: r=>by
    rw [List.any_cons]
    by_cases e:p.1 = k
    · simp only [valV_pos e,decide_eq_true e,Bool.true_or,Option.isSome_some]
    · rw [valV_neg e,decide_eq_false e,Bool.false_or]; exact valV_any k r
theorem length_putK (kvs:List (κ × V)) (k:κ) (v:V):(putK kvs k v).length ≤ kvs.length + 1:=by
  unfold putK
  split
  · rw [List.length_map]; omega
  · rw [List.length_append,List.length_cons,List.length_nil]; omega
theorem putK_new {kvs:List (κ × V)} {k:κ} (v:V) (h:valV kvs k = none):putK kvs k v = kvs ++ [(k,v)]:=by
  unfold putK
  rw [valV_any,h]
  exact if_neg (by decide)
theorem RelO.isSome_eq {o:Option V} {u:Option Value} (r:RelO o u):o.isSome = u.isSome:=by
  cases o with
  | none=>cases u with
    | none=>rfl
    | some _=>exact (show False from r).elim
  | some _=>cases u with
    | none=>exact (show False from r).elim
    | some _=>rfl
theorem KV.val {kvs:List (κ × V)} {vs:List (κ × Value)} (r:KV kvs vs) (k:κ):RelO (valV kvs k) (valueAt vs k):=by
  unfold KV at r
  induction r with
  | nil=>exact True.intro
  | @cons p q ps qs h t ih=>
    obtain ⟨h1,h2⟩:=h
    by_cases e:p.1 = k
    · have e':q.1 = k:=h1.symm.trans e
      have b:valueAt (q :: qs) k = some q.2:=by simp [valueAt,List.find?_cons,e']
      rw [valV_pos e,b]; exact h2
    · have e':¬ q.1 = k:=fun z=>e (h1.trans z)
      have b:valueAt (q :: qs) k = valueAt qs k:=by simp [valueAt,List.find?_cons,e']
      rw [valV_neg e,b]; exact ih
theorem KV.any {kvs:List (κ × V)} {vs:List (κ × Value)} (r:KV kvs vs) (k:κ):(kvs.any fun kv=>decide (kv.1 = k)) = vs.any fun kv=>decide (kv.1 = k):=by
  unfold KV at r
  induction r with
  | nil=>rfl
  | cons h t ih=>rw [List.any_cons,List.any_cons,ih,h.1]
theorem KV.repl {kvs:List (κ × V)} {vs:List (κ × Value)} (r:KV kvs vs) (k:κ) {y:V} {u:Value} (ry:RelV y u) :
    KV (kvs.map fun kv=>if kv.1 = k then (kv.1,y) else kv) (vs.map fun kv=>if kv.1 = k then (kv.1,u) else kv):=by
  unfold KV at r ⊢
  induction r with
  | nil=>exact .nil
  | @cons p q ps qs h t ih=>
    rw [List.map_cons,List.map_cons]
    refine .cons ?_ ih
    obtain ⟨h1,h2⟩:=h
    by_cases e:p.1 = k
    · rw [if_pos e,if_pos (h1.symm.trans e)]; exact ⟨h1,ry⟩
    · rw [if_neg e,if_neg (fun z=>e (h1.trans z))]; exact ⟨h1,h2⟩
theorem KV.put {kvs:List (κ × V)} {vs:List (κ × Value)} (r:KV kvs vs) (k:κ) {y:V} {u:Value} (ry:RelV y u):KV (putK kvs k y) (stored vs k u):=by
  unfold putK stored
  rw [r.any k]
  by_cases e:(vs.any fun kv=>decide (kv.1 = k)) = true
  · rw [if_pos e,if_pos e]; exact r.repl k ry
  · rw [if_neg e,if_neg e]; exact Paired.snoc r ⟨rfl,ry⟩
theorem KV.length {kvs:List (κ × V)} {vs:List (κ × Value)} (r:KV kvs vs):kvs.length = vs.length:=Paired.length r
end
theorem kV_is {P:Program} {w:World} {k:Key} {u:Value} (r:RelV (kV k) u):(mixKind P w).is k u = true:=by
  cases k with
  | inl i=>obtain ⟨t,e⟩:=(show ∃ t,u = Value.int i t from r); subst e; exact mixKind_int P w i t
  | inr x=>obtain ⟨t,e⟩:=(show ∃ t,u = Value.str x t from r); subst e; exact mixKind_str P w x t
  | non=>obtain rfl:u = Value.none:=r; rfl
theorem items_are {P:Program} {w:World}:∀ {ks:List Key} {us:List Value},Vals (ks.map kV) us→ItemsAre (mixKind P w) ks us
  | [],_,r=>by rw [List.map_nil] at r; cases r; exact .nil
  | k :: ks,_,r=>by
    rw [List.map_cons] at r
    cases r with
    | cons h t=>exact .cons (kV_is h) (items_are t)
abbrev KT (H:Hp):List (List Key × V)→List (List Key × Addr × Value)→Prop:=Paired fun p q=>p.1 = q.1∧H q.2.1 = some (.tup (p.1.map kV))∧RelV p.2 q.2.2
theorem KT.val {H:Hp} {kvs:List (List Key × V)} {xs:List (List Key × Addr × Value)} (r:KT H kvs xs) (k:List Key):RelO (valV kvs k) ((atKey xs k).map (·.2)):=by
  induction r with
  | nil=>exact True.intro
  | @cons p q ps qs h t ih=>
    obtain ⟨h1,_,h2⟩:=h
    by_cases e:p.1 = k
    · have e':q.1 = k:=h1.symm.trans e
      have b:atKey (q :: qs) k = some q.2:=by simp [atKey,List.find?_cons,e']
      rw [valV_pos e,b]; exact h2
    · have e':¬ q.1 = k:=fun z=>e (h1.trans z)
      have b:atKey (q :: qs) k = atKey qs k:=by simp [atKey,List.find?_cons,e']
      rw [valV_neg e,b]; exact ih
section
variable {P:Program} {w:World} {H:Hp} {h:Heap} {a:Addr}
theorem rd_of {u:HO} (ok:HOk P w H h) (e:Rd H a u):ObjOk P w H h a u:=e.ok ok
theorem dk_rd {kvs:List (Key × V)} (ok:HOk P w H h) (e:Rd H a (.dK kvs)):kvs.length ≤ sizeLine∧(a == sysModules) = false∧∃ vs,KV kvs vs∧h.DictOf (mixKind P w) a vs:=
  show ObjOk P w H h a (.dK kvs) from rd_of ok e
theorem key_of {ks:List Key} (ok:HOk P w H h) (e:H a = some (.tup (ks.map kV))):(tupleKind (mixKind P w)).is h ks a:=by
  obtain ⟨_,its,r,o,h1,h2,n,h3⟩:=(show ObjOk P w H h a (.tup (ks.map kV)) from ok a _ e)
  exact ⟨o,its.toArray,n,h1,h2,h3,by simpa using items_are r⟩
theorem dt_rd {kvs:List (List Key × V)} (ok:HOk P w H h) (e:Rd H a (.dT kvs)):kvs.length ≤ sizeLine∧(a == sysModules) = false∧
    ∃ xs,KT H kvs xs∧h.DictOfH (tupleKind (mixKind P w)) a xs:=by
  obtain ⟨z,y,xs,r,o,es,ep,h1,h2,h3,h4,h5⟩:=(show ObjOk P w H h a (.dT kvs) from rd_of ok e)
  refine ⟨z,y,xs,r,o,es,ep,h1,h2,h3,h4,fun x hx=>?_,h5⟩
  have all:∀ {l:List (List Key × V)} {m:List (List Key × Addr × Value)},KT H l m→∀ x ∈ m,(tupleKind (mixKind P w)).is h x.1 x.2.1:=by
    intro l m q
    induction q with
    | nil=>intro x hx; exact nomatch hx
    | @cons p q ps qs hq t ih=>
      intro x hx
      rcases List.mem_cons.mp hx with e | hx
      · subst e
        exact key_of ok (by rw [← hq.1]; exact hq.2.1)
      · exact ih x hx
  exact all r x hx
end
def DGet (H:Hp) (a:Addr) (y:V) (r:Option V):Prop:=
  (∃ kvs k,Rd H a (.dK kvs)∧y = kV k∧r = valV kvs k) ∨ ∃ kvs k b,Rd H a (.dT kvs)∧y = .ref b∧H b = some (.tup (k.map kV))∧r = valV kvs k
theorem DGet.k {H:Hp} {a:Addr} {kvs:List (Key × V)} {k:Key} (e:H a = some (.dK kvs)):DGet H a (kV k) (valV kvs k):=.inl ⟨kvs,k,.inl e,rfl,rfl⟩
section
variable {X:Cx} {pins:List (Addr × Obj)} {σ:St} {H:Hp} {s:Shared} {a:Addr} {y v:V} {u r:Value} {o:Option V} {A:Around} {E:Value→Shared→Prop}
theorem Inv.big (I:Inv X pins σ H s):sysModules < s.heap.objs.size:=by
  have h:mainGlobals < s.heap.objs.size:=(I.mod.glob.keeps I.bk).lt
  exact Nat.lt_trans (by decide) h
theorem d_in {Q:Value→Shared→Prop} (hu:A.units + 1 < cLine) (I:Inv X pins σ H s) (g:DGet H a y o) (ry:RelV y u) (h:∀ s',Inv X pins σ H s'→Q (.bool o.isSome) s') :
    wpAny (model X.prog X.w) A (compareOp .In u (.ref a)) Q E s:=by
  rcases g with ⟨kvs,k,e,ey,l⟩ | ⟨kvs,k,b,e,ey,eb,l⟩
  · subst ey
    obtain ⟨z,hd,vs,rel,dd⟩:=dk_rd I.hok e
    refine wpAny_in_of (kV_is ry) hd dd.mapOf ?_
    rw [← (rel.val k).isSome_eq,← l]
    exact h _ (I.tok _)
  · subst ey
    cases (show u = Value.ref b from ry)
    obtain ⟨z,hd,xs,rel,dd⟩:=dt_rd I.hok e
    refine wpAny_in_heap (tupleKind_room_in1 hu) (key_of I.hok eb) hd dd ?_
    have q:=(rel.val k).isSome_eq
    rw [Option.isSome_map] at q
    rw [← q,← l]
    exact h _ (I.tok _)
end
def mergeK (kvs more:List (Key × V)):List (Key × V):=more.foldl (fun acc kv=>putK acc kv.1 kv.2) kvs
theorem KV.merge:∀ {more:List (Key × V)} {rs:List (Key × Value)} {kvs:List (Key × V)} {vs:List (Key × Value)},KV more rs→KV kvs vs→KV (mergeK kvs more) (merged vs rs):=by
  intro more rs kvs vs r
  unfold KV at r
  induction r generalizing kvs vs with
  | nil=>intro q; exact q
  | @cons p q ps qs h t ih=>
    intro r0
    have e:KV (putK kvs p.1 p.2) (stored vs q.1 q.2):=by
      have:=r0.put p.1 h.2
      rw [← h.1]; exact this
    exact ih e
theorem length_mergeK:∀ (more kvs:List (Key × V)),(mergeK kvs more).length ≤ kvs.length + more.length
  | [],kvs=>by show kvs.length ≤ kvs.length + 0; omega
  | p :: r,kvs=>by
    have h1:=length_mergeK r (putK kvs p.1 p.2)
    have h2:=length_putK kvs p.1 p.2
    show (mergeK (putK kvs p.1 p.2) r).length ≤ _
    rw [List.length_cons]; omega
end L2
namespace Rev
open PySem PyProof.Rows PySem.Calls
end Rev
namespace L2
open PySem PySem.Spec PyProof.Rows
section
variable {X:Cx}
abbrev rInD (n:Bool):R2:=fun y x H Q=>∃ a o,x = .ref a∧DGet H a y o∧Q (.bl (o.isSome != n)) H
theorem op_inD (hu:X.A.units + 64 < cLine):OpR X (compareOp .In) (rInD false):=by
  intro pins s σ H y x u v Q I ry rx h
  obtain ⟨a,o,rfl,g,q⟩:=h
  obtain rfl:v = Value.ref a:=rx
  exact d_in (by omega) I g ry fun s' I'=>⟨.bl o.isSome,H,I',rfl,by cases o <;> exact q⟩
end
end L2
namespace MinD
open PySem PyProof.Rows
end MinD
namespace L2
open PySem PySem.Spec PyProof.Rows
end L2
namespace DOf
open PySem PyProof.Rows PySem.Calls
theorem miss:typeLookup (.type "list") "keys" = pure none:=by rw [typeLookup_type,builtinLookup_eq_fast]; kernel_rfl
section
variable {prog:Program} {w:World} {A:Around} {E:Value→Shared→Prop}
theorem keys_none {s:Shared} {a:Addr} {o:Obj} {xs:Array Value} {k:Nat} {Q:Option Value→Shared→Prop}
    (hx:s.heap.get? a = some o) (hc:o.cls = .type "list") (hdat:o.data = .seq xs k) (hd:o.dict = none) (hA:A.handled = none)
    (h:∀ h' tk e,Heap.NewExcOf s.heap h' e "AttributeError"→Q none { s with heap:=h',toks:=tk }) :
    wpAny (model prog w) A (getAttr? (.ref a) "keys") Q E s:=by
  obtain ⟨c,dct,dat,sl⟩:=o
  simp only at hc hdat hd
  subst hc hdat hd
  obtain ⟨hp,g,d,tk,os⟩:=s
  have hT:∀ tk',(⟨hp,g,d,tk',os⟩:Shared).TypeIs (.ref a) "list":=fun _=>⟨_,hx,rfl⟩
  have f1:=sub_AttributeError
  have f3:=F.slot_list_getattribute.lookup
  have f4:=F.slot_list_getattribute.bind (.ref a)
  have f5:=am_list_getattr_none
  unfold getAttr? getAttrBy? getAttrBy
  repeat (any_goals (first | assumption | exact hT _ | ((with_reducible show wpAny _ _ (call (Value.builtin "list.__getattribute__") _ _) _ _ _); refine call_meets F.slot_list_getattribute (hT _) am_entry_list_getattribute (F.args_list_getattribute_2 _ _) (meets_getattribute_miss_list a xs k sl "keys" _ miss (by decide +kernel) (by size_fits)) ⟨hx,hA,fun h' tk' e hx'=>?_⟩) | wp_step))
  obtain ⟨t',u',he⟩:=hx'.there
  show wpAny _ _ (getattributeRaised _ _ _ _ _ _ _) _ _ _
  unfold getattributeRaised
  repeat (any_goals (first | assumption | wp_step))
  exact h _ _ _ hx'.of
theorem entry_loop:entryFor table "dict.update.loop" = some Builtin.«dict.update.loop»:=by first | exact entryFor_of_fast (by kernel_rfl) | exact entryFor_of_tree (by kernel_rfl)
theorem plain_loop:plainId "dict.update.loop" = true:=by decide +kernel
variable {K:Type} [DecidableEq K] {knd:PySem.KeyKind prog w K}
def Pairs2 (knd:PySem.KeyKind prog w K) (h:Heap) (items:List Value) (ps:List (K × Value)):Prop:=items.length = ps.length∧∀ (j:Nat) (k:K) (v:Value),ps[j]? = some (k,v)→∃ a u,items[j]? = some (.ref a)∧h.IsTuple a #[u,v]∧knd.is k u = true
theorem loop (hh:A.handled = none) {d it l:Addr} (hil:it ≠ l) (hid:it ≠ d) (hdl:d ≠ l) {items:List Value} {ps:List (K × Value)} {R:Result→Shared→Prop} :
    ∀ (n i:Nat) (s:Shared) (kvs:List (K × Value)),ps.length = i + n→s.heap.IsListIter it l i→s.heap.IsList l items.toArray→s.heap.DictOf knd d kvs→Pairs2 knd s.heap items ps→kvs.length + n ≤ sizeLine→
    (∀ h' tk,h'.DictOf knd d (merged kvs (ps.drop i))→(∀ b o,b ≠ d→b ≠ it→s.heap.get? b = some o→h'.get? b = some o)→R (.ok (.ret .none)) { s with heap:=h',toks:=tk })→
    codeAny (model prog w) A (.builtin "dict.update.loop" ⟨[.ref d,.ref it,rawInt (i:Int),.none],[]⟩) R s:=by
  intro n
  induction n with
  | zero=>
    intro i s kvs hn st hl hd hp hz q
    have hps:ps.drop i = []:=List.drop_of_length_le (by omega)
    rw [hps] at q
    refine codeAny_builtin entry_loop ?_
    rw [Around.under_plainId plain_loop _]
    show wpAny _ A.in1 (pyNext (.ref it) >>= _) _ _ s
    refine wpAny_bind (wpAny_pyNext_list_end (A:=A.in1) hh st hl (by rw [List.getElem?_toArray]; exact List.getElem?_eq_none (by rw [hp.1]; omega)) fun h' eb=>?_)
    show wpAny _ A.in1 (Builtin.Dict.addKeywords d [] >>= _) _ _ _
    refine wpAny_bind (wpAny_pure (wpAny_pure ?_))
    have hd':h'.DictOf knd d kvs:=hd.extBut eb hid.symm
    exact q h' _ hd' fun b o _ hb e=>eb b o hb e
  | succ n ih=>
    intro i s kvs hn st hl hd hp hz q
    obtain ⟨⟨k,v⟩,hkv⟩:∃ p,ps[i]? = some p:=⟨_,List.getElem?_eq_getElem (show i < ps.length by omega)⟩
    obtain ⟨a,u,hit,ht,hk⟩:=hp.2 i k v hkv
    refine codeAny_builtin entry_loop ?_
    rw [Around.under_plainId plain_loop _]
    show wpAny _ A.in1 (pyNext (.ref it) >>= _) _ _ s
    refine wpAny_bind (wpAny_pyNext_list_item st hl (x:=.ref a) (by simpa using hit) fun h' st' sb=>?_)
    show wpAny _ A.in1 (holding [.ref a] _ >>= _) _ _ _
    refine wpAny_bind (wpAny_holding (wpAny_bind (wpAny_tryCatch ?_)))
    unfold Builtin.Dict.pairItems
    have ne:∀ b xs,s.heap.IsTuple b xs→b ≠ it∧b ≠ d:=fun b xs ⟨o,ho,hc,_⟩=>by
      refine ⟨fun z=>?_,fun z=>?_⟩
      · obtain ⟨o',ho',hc',_⟩:=st
        rw [z,ho'] at ho
        cases ho
        rw [hc'] at hc
        injection hc with hc
        exact absurd hc (by decide)
      · obtain ⟨o',ho',hc'⟩:=hd.typeIs (s:=s)
        rw [z,ho'] at ho
        cases ho
        rw [hc'] at hc
        injection hc with hc
        exact absurd hc (by decide)
    have ht':h'.IsTuple a #[u,v]:=let ⟨o,ho,r⟩:=ht; ⟨o,(sb.2 a (ne a _ ht).1).trans ho,r⟩
    obtain ⟨o,ho,hc,n0,hdat⟩:=id ht'
    refine wpAny_bind (wpAny_typeOf (T:="tuple") ⟨o,ho,hc⟩ ?_)
    rw [if_pos (by decide)]
    refine wpAny_bind (wpAny_seqItems ho hdat (wpAny_pure ?_))
    show wpAny _ _ (holding [u,v] (dictSet d u v)) _ _ _
    have hd':h'.DictOf knd d kvs:=hd.extBut sb.extBut hid.symm
    refine wpAny_holding (wpAny_dictSet_pairs hk hd' (fun h2 hd2 sb2=>?_) (by omega))
    have e1:merged kvs (ps.drop i) = merged (stored kvs k v) (ps.drop (i + 1)):=by
      rw [List.drop_eq_getElem_cons (show i < ps.length by omega)]
      have:ps[i] = (k,v):=Option.some.inj ((List.getElem?_eq_getElem _).symm.trans hkv)
      rw [this]
      rfl
    rw [e1] at q
    have kp:∀ b o,b ≠ d→b ≠ it→s.heap.get? b = some o→h2.get? b = some o:=fun b o h1 h2' e=>(sb2.2 b h1).trans ((sb.2 b h2').trans e)
    refine wpAny_pure ⟨plainId_quiet plain_loop _,?_⟩
    have:=ih (i + 1) { s with heap:=h2,toks:=s.toks + 1 } (stored kvs k v) (by omega) (st'.at fun o e=>(sb2.2 it hid).trans e) (hl.at fun o e=>kp l o hdl.symm hil.symm e) hd2
      ⟨hp.1,fun j k' v' e=>by
        obtain ⟨a',u',x1,x2,x3⟩:=hp.2 j k' v' e
        obtain ⟨o',y1,y2⟩:=id x2
        exact ⟨a',u',x1,⟨o',kp a' o' (ne a' _ x2).2 (ne a' _ x2).1 y1,y2⟩,x3⟩⟩
      (by have:=stored_length_le kvs k v; omega) fun h3 tk hd3 k3=>q h3 tk hd3 fun b o h1 h2' e=>k3 b o h1 h2' (kp b o h1 h2' e)
    rwa [show ((i + 1:Nat):Int) = (i:Int) + 1 by omega] at this
theorem call_dict {s:Shared} {l:Addr} {items:List Value} {c:Nat} {ps:List (K × Value)} {Q:Value→Shared→Prop} (hh:A.handled = none) (hlst:s.heap.get? l = some { cls:=.type "list",dict:=none,data:=.seq items.toArray c,slots:=#[] }) (hp:Pairs2 knd s.heap items ps) (hz:ps.length ≤ sizeLine)
    (h:∀ h' tk,h'.DictOf knd s.heap.objs.size (merged [] ps)→(∀ b o,s.heap.get? b = some o→h'.get? b = some o)→Q (.ref s.heap.objs.size) { s with heap:=h',toks:=tk }) :
    wpAny (model prog w) A (call (.type "dict") [.ref l]) Q E s:=by
  refine callType_codes (Q₁:=fun obj s₁=>obj = .ref s.heap.objs.size∧s₁ = { s with heap:=s.heap.push { cls:=.type "dict",data:=.dict #[] } }) PySem.F.kt_called_dict (PySem.F.kt_typeCall_dict_1 _) PySem.F.entry_dict_init (kt_code_dict_new _ ⟨rfl,rfl⟩) ?_
  rintro obj s₁ ⟨rfl,rfl⟩
  have hnew:(s.heap.push { cls:=.type "dict",data:=.dict #[] }).DictOf knd s.heap.objs.size []:=Heap.DictOf.new s.heap
  refine ⟨hnew.typeIs,PySem.F.args_dict_init_2 _ _,?_⟩
  have hlt:l < s.heap.objs.size:=Heap.lt_size hlst
  have hl1:=Heap.get?_push_of_some { cls:=.type "dict",data:=.dict #[] } hlst
  unfold Builtin.«dict.__init__»
  refine wpAny_bind ?_
  unfold Builtin.Dict.selfAndRest
  refine wpAny_bind (wpAny_notOrdered_dict hnew.typeIs ?_)
  show wpAny _ _ (pure (s.heap.objs.size,[Value.ref l])) _ _ _
  refine wpAny_pure ?_
  show wpAny _ _ (Builtin.Dict.updateFrom "dict.__init__" s.heap.objs.size (.ref l) [] .none) _ _ _
  unfold Builtin.Dict.updateFrom
  refine wpAny_bind (wpAny_typeOf (T:="list") ⟨_,hl1,rfl⟩ ?_)
  rw [if_pos (by decide)]
  refine wpAny_bind (keys_none hl1 rfl rfl rfl (by exact hh) fun h2 tk2 e2 ne2=>?_)
  have k2:∀ b o,(s.heap.push { cls:=.type "dict",data:=.dict #[] }).get? b = some o→h2.get? b = some o:=fun b o e=>ne2.keeps b o e
  simp only [Option.isNone_none,if_true]
  refine wpAny_bind (wpAny_rule ?_)
  have hl2:h2.IsList l items.toArray:=⟨_,k2 _ _ hl1,rfl,_,rfl⟩
  refine wpAny_bind (wpAny_pyIter_list hl2 ?_)
  refine wpAny_pure ⟨plainId_quiet plain_loop _,?_⟩
  have hd2:(h2.push { cls:=.type "list_iterator",data:=.fields #[.ref l,.int 0 0] }).DictOf knd s.heap.objs.size []:=hnew.keep (fun b o e=>Heap.get?_push_of_some _ (k2 b o e))
  have sz:s.heap.objs.size < h2.objs.size:=by obtain ⟨_,_,_,e,_⟩:=hnew; exact Heap.lt_size (k2 _ _ e)
  have lt2:l < h2.objs.size:=Heap.lt_size (k2 _ _ hl1)
  refine loop (knd:=knd) (A:=A.in1) hh (Nat.ne_of_gt lt2) (Nat.ne_of_gt sz) (Nat.ne_of_gt hlt) ps.length 0 _ [] (by omega) ⟨_,Heap.get?_push_size _ rfl,rfl,rfl⟩ (hl2.push _) hd2
    ⟨hp.1,fun j k v e=>by
      obtain ⟨a,u,x1,⟨o,y1,y2⟩,x3⟩:=hp.2 j k v e
      exact ⟨a,u,x1,⟨o,Heap.get?_push_of_some _ (k2 _ _ (Heap.get?_push_of_some _ y1)),y2⟩,x3⟩⟩ (by simpa using hz) fun h3 tk hd3 k3=>?_
  rw [List.drop_zero] at hd3
  refine ⟨rfl,h h3 tk hd3 fun b o e=>?_⟩
  have hb:=Heap.lt_size e
  exact k3 b o (Nat.ne_of_lt hb) (Nat.ne_of_lt (Nat.lt_trans hb sz)) (Heap.get?_push_of_some _ (k2 _ _ (Heap.get?_push_of_some _ e)))
end
end DOf
namespace L2
open PySem PySem.Spec PyProof.Rows
def PrK (H:Hp) (ys:List V) (ps:List (Key × V)):Prop:=ys.length = ps.length∧∀ (i:Nat) (k:Key) (v:V),ps[i]? = some (k,v)→∃ t,ys[i]? = some (.ref t)∧H t = some (.tup [kV k,v])
abbrev rDictOf:List V→Hp→VK→Prop:=fun xs H Q=>∃ p ys ps,xs = [.ref p]∧H p = some (.lst ys)∧PrK H ys ps∧∀ d,H d = none→Q (.ref d) (upd H d (.dK (mergeK [] ps)))
theorem carried_all {P:Program} {w:World} {h:Heap}:∀ {ps:List (Key × V)} {items:List Value},items.length = ps.length→
    (∀ (i:Nat) (k:Key) (v:V),ps[i]? = some (k,v)→∃ a u x,items[i]? = some (.ref a)∧h.IsTuple a #[u,x]∧(mixKind P w).is k u = true∧RelV v x)→∃ rs,KV ps rs∧DOf.Pairs2 (mixKind P w) h items rs
  | [],[],_,_=>⟨[],.nil,rfl,fun j k v e=>by simp at e⟩
  | [],_ :: _,e,_=>by simp at e
  | _ :: _,[],e,_=>by simp at e
  | (k,v) :: ps,it :: items,e,h1=>by
    obtain ⟨rs,r1,r2,r3⟩:=carried_all (ps:=ps) (items:=items) (by simpa using e) fun i k' v' e'=>by simpa using h1 (i + 1) k' v' (by simpa using e')
    obtain ⟨a,u,x,x1,x2,x3,x4⟩:=h1 0 k v rfl
    refine ⟨(k,x) :: rs,.cons ⟨rfl,x4⟩ r1,by simp [r2],fun j k' v' e'=>?_⟩
    cases j with
    | zero=>
      simp at e'
      obtain ⟨rfl,rfl⟩:=e'
      exact ⟨a,u,x1,x2,x3⟩
    | succ j=>simpa using r3 j k' v' (by simpa using e')
theorem call_dictOf {X:Cx} (hc:X.calm = true):CallR X (.type "dict") rDictOf:=by
  intro pins s σ H xs us Q I r h
  obtain ⟨p,ys,ps,rfl,hH,⟨hl,hp⟩,q⟩:=h
  obtain ⟨u,rfl,ru⟩:=vals1 r
  cases ru
  obtain ⟨z,its,n,rv,hn,e⟩:=I.lstM hH
  have hlen:=rv.length
  obtain ⟨rs,k1,k2⟩:=carried_all (P:=X.prog) (w:=X.w) (h:=s.heap) (ps:=ps) (items:=its) (by omega) fun i k v e'=>by
    obtain ⟨t,e1,e2⟩:=hp i k v e'
    obtain ⟨u,hu,ru⟩:=rv.get e1
    cases ru
    obtain ⟨it2,rv2,p2,_⟩:=I.tuple (SqT.of e2)
    cases rv2 with
    | cons r1 rr=>
      cases rr with
      | cons r2 rr=>
        cases rr
        exact ⟨t,_,_,hu,p2,kV_is r1,r2⟩
  have hps:rs.length = ps.length:=k1.length.symm
  refine DOf.call_dict (knd:=mixKind X.prog X.w) (I.ok.hd hc) e k2 (by omega) fun h' tk hd kp=>?_
  have big:=I.big
  refine ⟨.ref s.heap.objs.size,_,I.laid (t':=tk) (o:=.dK (mergeK [] ps)) kp (Nat.le_refl _) ⟨?_,?_,merged [] rs,KV.merge k1 .nil,hd⟩,rfl,q _ (I.hok.fresh (Nat.le_refl _))⟩
  · have:=length_mergeK ps []
    simp at this
    omega
  · exact beq_eq_false_iff_ne.mpr (Nat.ne_of_gt big)
end L2
namespace KSrt
open PySem PySem.W PyProof.Rows
variable {K:Nat→List Nat} {n:Nat}
end KSrt
namespace KSrt
open PySem PySem.W PyProof.Rows
end KSrt
namespace L2
open PySem PySem.Spec PyProof.Rows
inductive FP where
  | raw (t:TE)
  | fmt (t:TE)
def FmtV (v:V) (l:List Nat):Prop:=v = .str (txt l) ∨ ∃ i:Int,v = .int i∧i.natAbs.log2 < 1920∧txt l = (toString i:Str)
def tFp:List FP→List Nat→TE
  | [],out,_,H,Q=>out.length ≤ 100000∧Q (.str (txt out)) H
  | .raw t :: r,out,σ,H,Q=>t σ H fun v H1=>∃ l,v = .str (txt l)∧out.length + l.length ≤ 100000∧tFp r (out ++ l) σ H1 Q
  | .fmt t :: r,out,σ,H,Q=>t σ H fun v H1=>∃ l,FmtV v l∧out.length + l.length ≤ 100000∧tFp r (out ++ l) σ H1 Q
structure QF (X:Cx) (es:List Expr) (ps:List FP):Prop where
  p:∀ (pins:List (Addr × Obj)) (s:Shared) (σ:St) (H:Hp) (Q:VK) (out:List Nat),Inv X pins σ H s→tFp ps out σ H Q→wpAny (model X.prog X.w) X.A (joinParts (txt out) (evalEach es X.env)) (EP X pins σ Q) X.xe s
section
variable {X:Cx} {e:Expr} {es:List Expr} {t:TE} {ps:List FP} {pos:Pos}
theorem len_txt (l:List Nat):(txt l).length = l.length:=by simp [txt,Str.length]
theorem kf_nil:QF X [] []:=⟨fun pins s σ H Q out I ⟨hz,q⟩=>joinParts_nil ⟨.str (txt out),H,I.tok _,⟨_,rfl⟩,q⟩ (by rw [len_txt]; exact Nat.le_trans hz (by decide))⟩
theorem kf_raw (h:QE X e t) (r:QF X es ps):QF X (e :: es) (.raw t :: ps):=⟨by
  intro pins s σ H Q out I q
  refine joinParts_cons (thn (h.p pins s σ H _ I q) fun v s1 ⟨x,H1,I1,rx,l,ex,hz,q1⟩=>?_)
  subst ex
  obtain ⟨u,rfl⟩:=rx
  refine ⟨by rw [txt_app,len_txt,List.length_append]; exact Nat.le_trans hz (by decide),?_⟩
  rw [txt_app]
  exact r.p pins s1 σ H1 Q _ I1 q1⟩
theorem kf_fmt {fpos:Pos} (h:QE X e t) (r:QF X es ps):QF X (.FormattedValue e (-1) none fpos :: es) (.fmt t :: ps):=⟨by
  intro pins s σ H Q out I q
  refine joinParts_cons (FormattedValue_plain (thn (h.p pins s σ H _ I q) fun v s1 ⟨x,H1,I1,rx,l,fx,hz,q1⟩=>?_))
  have sz:(txt out ++ txt l).length ≤ sizeLine:=by rw [txt_app,len_txt,List.length_append]; exact Nat.le_trans hz (by decide)
  rcases fx with ex | ⟨i,ex,hi,el⟩
  · subst ex
    obtain ⟨u,rfl⟩:=rx
    refine formatField_str (fun t' tk=>⟨sz,?_⟩) (by rw [len_txt]; exact Nat.le_trans (show l.length ≤ 100000 by omega) (by decide))
    rw [txt_app]
    exact r.p pins _ σ H1 Q _ (I1.tok _) q1
  · subst ex
    obtain ⟨u,rfl⟩:=rx
    refine formatField_int_small hi ?_
    rw [← el]
    refine ⟨sz,?_⟩
    rw [txt_app]
    exact r.p pins _ σ H1 Q _ (I1.tok _) q1⟩
def tFstr (ps:List FP):TE:=tFp ps []
theorem ke_fstr {e1 e2:Expr} (h:QF X (e1 :: e2 :: es) ps):QE X (.JoinedStr (e1 :: e2 :: es) pos) (tFstr ps):=⟨fun pins s σ H Q I q=>JoinedStr_many (h.p pins s σ H Q [] I q)⟩
end
def splitL (c:Nat):List Nat→List (List Nat)
  | []=>[[]]
  | x :: l=>if x = c then [] :: splitL c l else match splitL c l with
    | []=>[[x]]
    | w :: ws=>(x :: w) :: ws
theorem splitL_free {c:Nat}:∀ w:List Nat,c ∉ w→splitL c w = [w]
  | [],_=>rfl
  | x :: w,h=>by
    have hx:¬ x = c:=fun z=>h (by rw [z]; exact List.mem_cons_self)
    rw [splitL,if_neg hx,splitL_free w fun z=>h (List.mem_cons_of_mem _ z)]
theorem splitL_app {c:Nat} (l:List Nat):∀ w:List Nat,c ∉ w→splitL c (w ++ c :: l) = w :: splitL c l
  | [],_=>by rw [List.nil_append,splitL,if_pos rfl]
  | x :: w,h=>by
    have hx:¬ x = c:=fun z=>h (by rw [z]; exact List.mem_cons_self)
    rw [List.cons_append,splitL,if_neg hx,splitL_app l w fun z=>h (List.mem_cons_of_mem _ z)]
theorem joinL_cons (sep y z:List Nat) (r:List (List Nat)):joinL sep (y :: z :: r) = y ++ sep ++ joinL sep (z :: r):=by
  show r.foldl _ (y ++ sep ++ z) = y ++ sep ++ r.foldl _ z
  induction r generalizing z with
  | nil=>rfl
  | cons a r ih=>rw [List.foldl_cons,List.foldl_cons,← ih]; simp only [List.append_assoc]
theorem splitL_join {c:Nat}:∀ ws:List (List Nat),ws ≠ []→(∀ w ∈ ws,c ∉ w)→splitL c (joinL [c] ws) = ws
  | [],h,_=>absurd rfl h
  | [w],_,h=>splitL_free w (h w List.mem_cons_self)
  | w :: z :: r,_,h=>by
    rw [joinL_cons,List.append_assoc,List.singleton_append,splitL_app _ w (h w List.mem_cons_self),splitL_join (z :: r) (by simp) fun y hy=>h y (List.mem_cons_of_mem _ hy)]
theorem split_txt (l:List Nat) (c:Nat):Txt.split (txt l) (txt [c]) = (splitL c l).map txt:=by
  have e0:(Txt.split (txt l) (txt [c])) = ((Txt.split (txt l) (txt [c])).map fun p=>p.cps.toList).map txt:=by
    rw [List.map_map]
    exact (List.map_id _).symm.trans (List.map_congr_left fun p _=>(txt_codes p).symm)
  have fr:=StrLaws.split_free (txt l) c
  have j1:=StrLaws.join_split (txt l) (txt [c])
  have pos:=split_pos (txt l) (txt [c])
  generalize hws:(Txt.split (txt l) (txt [c])).map (fun p=>p.cps.toList) = ws at e0
  have hf:∀ w ∈ ws,c ∉ w:=fun w hw=>by
    rw [← hws] at hw
    obtain ⟨p,hp,rfl⟩:=List.mem_map.mp hw
    exact fr p hp
  have hne:ws ≠ []:=fun z=>by
    rw [z] at hws
    have:=congrArg List.length hws
    rw [List.length_map] at this
    simp at this
    rw [this] at pos
    simp at pos
  rw [e0] at j1
  have j2:txt (joinL [c] ws) = txt l:=by
    rw [← j1,← StrLaws.glued_eq_join]
    exact (join_txt [c] ws).symm
  rw [e0,← txt_inj.mp j2,splitL_join ws hne hf]
abbrev rSplit:V→List V→Hp→VK→Prop:=fun x xs H Q=>∃ l c,x = .str (txt l)∧xs = [.str (txt [c])]∧l.length ≤ 100000∧∀ p,H p = none→Q (.ref p) (upd H p (.lst ((splitL c l).map strV)))
section
variable {prog:Program} {w:World} {A:Around} {E:Value→Shared→Prop} {s:Shared} {x y:Str} {t u:Tok} {Q:Value→Shared→Prop}
theorem split_call (hy:(y.length == 0) = false) (h:∀ l k,l.map (·.1) = Txt.split x y→Q (.ref s.heap.objs.size) { s with heap:=s.heap.push { cls:=.type "list",data:=.seq (strValues l).toArray },toks:=k }) (hsz:x.length + 2 ≤ sizeLine) :
    wpAny (model prog w) A (call (.builtin "str.split") [.str x t,.str y u]) Q E s:=by
  have hn:(Builtin.Str.partsBetween x (Builtin.Str.occurrences x y 0 x.length (x.length + 1)) y.length).length ≤ sizeLine:=by
    have e1:=StrLaws.occ_length_le x y 0 x.length (x.length + 1)
    rw [length_partsBetween]; omega
  cases h1:(decide (x.length < y.length) || decide (Builtin.Str.strKind x < Builtin.Str.strKind y))
  · cases hf:(Builtin.Str.occurrences x y 0 x.length (x.length + 1)).isEmpty
    · refine call_meets F.slot_str_split (typeIs_str _ _ _) F.entry_str_split (F.args_str_split_2 _ _) (meets_str_split_sep x y t u h1 hy hf (by omega) hn) ?_
      show wants Q E _ { s with toks:=_,heap:=s.heap.push { cls:=.type "list",data:=.seq (strsFrom s.toks (Builtin.Str.partsBetween x (Builtin.Str.occurrences x y 0 x.length (x.length + 1)) y.length)).toArray } }
      rw [strsFrom_eq]
      exact h (numbered s.toks _) _ ((numbered_texts _ _).trans ((if_neg (ne_true_of_eq_false h1)).trans (if_neg (ne_true_of_eq_false hf))).symm)
    · exact call_meets F.slot_str_split (typeIs_str _ _ _) F.entry_str_split (F.args_str_split_2 _ _) (meets_str_split_not_found x y t u h1 hy hf)
        (h [(x,t)] s.toks ((if_neg (ne_true_of_eq_false h1)).trans (if_pos hf)).symm)
  · exact call_meets F.slot_str_split (typeIs_str _ _ _) F.entry_str_split (F.args_str_split_2 _ _) (meets_str_split_cannot_occur x y t u h1)
      (h [(x,t)] s.toks (if_pos h1).symm)
end
theorem vals_ofS:∀ {l:List (Str × Tok)} {ws:List (List Nat)},l.map (·.1) = ws.map txt→Vals (ws.map strV) (strValues l)
  | [],[],_=>.nil
  | [],_ :: _,h=>by cases h
  | _ :: _,[],h=>by cases h
  | (y,u) :: l,w :: ws,h=>by
    rw [List.map_cons,List.map_cons] at h
    obtain ⟨h1,h2⟩:=List.cons.inj h
    have h1:y = txt w:=h1
    subst h1
    exact .cons ⟨u,rfl⟩ (vals_ofS h2)
section
variable {X:Cx}
theorem mt_split:MtR X "str.split" rSplit:=by
  intro pins s σ H x vs v us Q I rx rv h
  obtain ⟨l,c,rfl,rfl,hz,q⟩:=h
  obtain ⟨t,rfl⟩:=rx
  obtain ⟨u,rfl,t',rfl⟩:=rv.one
  refine split_call (by rw [len_txt]; rfl) (fun ls k e=>?_) (by rw [len_txt]; exact Nat.le_trans (Nat.add_le_add_right hz 2) (by decide))
  have e2:=e
  rw [split_txt] at e
  have hl:=congrArg List.length e
  rw [List.length_map,List.length_map] at hl
  have hle:=split_le (txt l) (txt [c])
  rw [← e2,List.length_map,len_txt] at hle
  refine ⟨.ref s.heap.objs.size,_,I.laid (t':=k) (o:=.lst ((splitL c l).map strV)) (fun b o e=>Heap.get?_push_of_some _ e) (Nat.le_refl _) ⟨?_,strValues ls,_,vals_ofS e,Heap.get?_push_size _ rfl⟩,rfl,q _ (I.hok.fresh (Nat.le_refl _))⟩
  rw [List.length_map,← hl]
  exact Nat.le_trans hle (Nat.le_trans (Nat.add_le_add_right hz 2) (by decide))
abbrev rStarts:V→List V→Hp→VK→Prop:=fun x xs H Q=>∃ l c,x = .str (txt l)∧xs = [.str (txt [c])]∧Q (.bl (decide (l.head? = some c))) H
theorem starts_eq (l:List Nat) (c:Nat):Txt.startswith (txt l) (txt [c]) = decide (l.head? = some c):=by
  unfold Txt.startswith
  rw [txt_len,txt_len]
  cases l with
  | nil=>rfl
  | cons x l=>
    rw [decide_eq_true (show 0 + [c].length ≤ (x :: l).length by simp),Bool.true_and]
    unfold Builtin.Str.subAt
    rw [txt_len]
    have e:(txt (x :: l)).cps.extract 0 (0 + [c].length) = [x].toArray:=by
      simp only [txt,List.extract_toArray,List.extract_eq_take_drop]
      rfl
    rw [e]
    show ([x].toArray == [c].toArray) = _
    rw [Bool.eq_iff_iff]
    simp
theorem mt_startswith:MtR X "str.startswith" rStarts:=by
  intro pins s σ H x vs v us Q I rx rv h
  obtain ⟨l,c,rfl,rfl,q⟩:=h
  obtain ⟨t,rfl⟩:=rx
  obtain ⟨u,rfl,t',rfl⟩:=rv.one
  refine call_gives F.slot_str_startswith (typeIs_str _ _ _) F.entry_str_startswith (F.args_str_startswith_2 _ _) (gives_str_startswith _ _ t t') ?_
  refine ⟨.bl _,H,I,?_,q⟩
  rw [← starts_eq]; rfl
abbrev rIntS:List V→Hp→VK→Prop:=fun xs H Q=>∃ l n,xs = [.str (txt l)]∧l.length ≤ 640∧PySem.intText? (txt l) = some n∧Q (.int n) H
theorem call_intS:CallR X (.type "int") rIntS:=by
  intro pins s σ H xs us Q I r h
  obtain ⟨l,n,rfl,hl,hn,q⟩:=h
  obtain ⟨u,rfl,t,rfl⟩:=vals1 r
  exact PySem.W.KIN.call_text hn (by rw [len_txt]; exact hl) ⟨.int n,H,I.tok _,⟨_,rfl⟩,q⟩
theorem int_back {n:Int} {l:List Nat} (h0:0 ≤ n) (h1:n < 10 ^ 10) (e:txt l = (toString n:Str)):PySem.intText? (txt l) = some n:=by
  rw [e]; exact PySem.W.KIN.num_reads h0 h1
end
end L2
local macro_rules | `(tactic| and_intros)=>`(tactic| simp only [L2.tCompSet,L2.tRaise,L2.tIsi,L2.tSeq,L2.tAsg,L2.gName,L2.tOp,L2.tVar,L2.tC,L2.tTest,L2.tB,L2.tIf,L2.tIfS,L2.tAnd,L2.tOr,L2.tNot,L2.tAndV,L2.tOrV,L2.tRet,L2.tNext,L2.tDrop,L2.tCB,L2.tCons,L2.tNil,L2.tBM,L2.tBM0,L2.tCall,L2.tLst,L2.tTup,L2.tSl,L2.tPart,L2.tNoPart,L2.tIsN,L2.tYes,L2.rI0,L2.rI,L2.rEq,L2.start,L2.compSt,List.map_cons,List.map_nil,List.length_cons,List.length_nil,List.replicate_succ,List.replicate_zero,List.cons_append,List.nil_append,List.append_nil,List.getElem?_cons_zero,List.getElem?_cons_succ,List.set_cons_zero,List.set_cons_succ,Option.some.injEq,Option.join_some,L2.V.int.injEq,L2.V.str.injEq,L2.V.bl.injEq,L2.V.ref.injEq,L2.txt_inj,exists_eq_left',exists_eq_left,exists_and_left,and_true,true_and,decide_eq_true_eq,reduceCtorEq,decide_false,decide_true,Bool.not_false,Bool.not_true,if_true,if_false,Bool.false_eq_true,Nat.reduceAdd,Nat.reduceSub,Bool.not_eq_true',decide_eq_false_iff_not,not_true_eq_false,not_false_eq_true])
local macro_rules | `(tactic| simp? [$t,*])=>`(tactic| simp only [$t,*,L2.tCompSet,L2.tRaise,L2.tIsi,L2.tSeq,L2.tAsg,L2.gName,L2.tOp,L2.tVar,L2.tC,L2.tTest,L2.tB,L2.tIf,L2.tIfS,L2.tAnd,L2.tOr,L2.tNot,L2.tAndV,L2.tOrV,L2.tRet,L2.tNext,L2.tDrop,L2.tCB,L2.tCons,L2.tNil,L2.tBM,L2.tBM0,L2.tCall,L2.tLst,L2.tTup,L2.tSl,L2.tPart,L2.tNoPart,L2.tIsN,L2.tYes,L2.rI0,L2.rI,L2.rEq,L2.start,L2.compSt,List.map_cons,List.map_nil,List.length_cons,List.length_nil,List.replicate_succ,List.replicate_zero,List.cons_append,List.nil_append,List.append_nil,List.getElem?_cons_zero,List.getElem?_cons_succ,List.set_cons_zero,List.set_cons_succ,Option.some.injEq,Option.join_some,L2.V.int.injEq,L2.V.str.injEq,L2.V.bl.injEq,L2.V.ref.injEq,L2.txt_inj,exists_eq_left',exists_eq_left,exists_and_left,and_true,true_and,decide_eq_true_eq,reduceCtorEq,decide_false,decide_true,Bool.not_false,Bool.not_true,if_true,if_false,Bool.false_eq_true,Nat.reduceAdd,Nat.reduceSub,Bool.not_eq_true',decide_eq_false_iff_not,not_true_eq_false,not_false_eq_true])
namespace L2
open PySem PySem.Spec PyProof.Rows MM
def spDraw (K:PySem.W.Frag):Sp:=fun vs H Q _=>∃ (a:Addr) (ns:List Int) (k m:Int),vs = [.ref a,.int k,.int m]∧SqL K H a (ns.map V.int)∧ns.length ≤ 63∧0 ≤ k∧k < 1048576∧0 < m∧∀ r:Int,0 ≤ r→r < m→Q (.int r) H
def rdDraw (K:PySem.W.Frag):TS:=
    tSeq (tAsg (tIf (tTest (tOp rGtI (tCB (rLenL K) (tCons (tVar 0) tNil)) (tC (.int 0)))) (tOp (rIxL K) (tVar 0) (tOp rModI (tVar 1) (tCB (rLenL K) (tCons (tVar 0) tNil)))) (tC (.int 0))) (gName 3))
      (tSeq (tIfS (tAnd (tTest (tOp rGtI (tCB (rLenL K) (tCons (tVar 0) tNil)) (tC (.int 0)))) (tTest (tOp rEq (tOp rModI (tOp (rIxL K) (tVar 0) (tC (.int 0))) (tC (.int 2))) (tC (.int 1))))) (tRet (tOp rModI (tOp rModI (tOp rShrI (tVar 3) (tOp rAddI (tOp rMulI (tC (.int 20)) (tOp rDivI (tVar 1) (tCB (rLenL K) (tCons (tVar 0) tNil)))) (tC (.int 1)))) (tC (.int 1048576))) (tVar 2))) (tNext))
      (tSeq (tAsg (tOp rAddI (tOp rAddI (tOp rModI (tVar 3) (tC (.int 1000003))) (tOp rMulI (tOp rMulI (tC (.int 31)) (tVar 1)) (tVar 1))) (tC (.int 1))) (gName 4))
      (tRet (tOp rModI (tOp rModI (tOp rMulI (tOp rModI (tOp rMulI (tVar 4) (tC (.int 48271))) (tC (.int 999983))) (tC (.int 7919))) (tC (.int 524287))) (tVar 2)))))
theorem draw_end {i k m:Int} {Q:Int→Prop} (h0:0 ≤ k) (h1:k < 1048576) (h2:0 < m) (q:∀ r:Int,0 ≤ r→r < m→Q r) :
    (0:Int) < 1000003∧CMulB 31 k∧CMulB (31 * k) k∧CMulB (i % 1000003 + 31 * k * k + 1) 48271∧(0:Int) < 999983∧CMulB ((i % 1000003 + 31 * k * k + 1) * 48271 % 999983) 7919∧(0:Int) < 524287∧0 < m∧
      Q ((i % 1000003 + 31 * k * k + 1) * 48271 % 999983 * 7919 % 524287 % m):=
  ⟨by decide,mulB_l (by decide) (by decide),mulB_r (by omega) (by omega),mulB_r (by decide) (by decide),by decide,mulB_r (by decide) (by decide),by decide,h2,q _ (Int.emod_nonneg _ (by omega)) (Int.emod_lt_of_pos _ h2)⟩
theorem draw_shr {i k m:Int} {x:Int} {Q:Int→Prop} (h0:0 ≤ k) (hx:0 < x) (hx2:x ≤ 63) (h2:0 < m) (q:∀ r:Int,0 ≤ r→r < m→Q r) :
    CDiv k x∧CMulB 20 (k / x)∧0 ≤ 20 * (k / x) + 1∧(0:Int) < 1048576∧0 < m∧Q (i / 2 ^ (20 * (k / x) + 1).toNat % 1048576 % m):=by
  have e:0 ≤ k / x:=Int.ediv_nonneg h0 (by omega)
  exact ⟨cdiv hx (by omega),mulB_l (by decide) (by decide),by omega,by decide,h2,q _ (Int.emod_nonneg _ (by omega)) (Int.emod_lt_of_pos _ h2)⟩
theorem read_draw {K:PySem.W.Frag} {N:List Str} {vs:List V} {H:Hp} {Q:VK} {E:XK} (hN:N.length = 5) (h:spDraw K vs H Q E):rdDraw K { nx:=fun _ H'=>Q .non H',rt:=Q } (L2.start N vs) H:=by
  obtain ⟨a,ns,k,m,rfl,hS,hl,h0,h1,h2,q⟩:=h
  unfold rdDraw L2.start
  rw [hN]
  and_intros
  refine lenI_go hS ⟨_,rfl,?_⟩
  by_cases hn:(0:Int) < (ns.length:Int)
  · rw [if_pos hn]
    refine lenI_go hS ⟨_,rfl,hn,ixI_go hS (Int.emod_nonneg _ (by omega)) (Int.emod_lt_of_pos _ hn) fun z _ _=>?_⟩
    refine lenI_go hS ⟨_,rfl,?_⟩
    rw [if_pos hn]
    refine ixI_go hS (by decide) hn fun z0 _ _=>⟨_,rfl,by decide,rfl,?_⟩
    split
    · refine lenI_go hS ⟨_,rfl,?_⟩
      have:=draw_shr (i:=z) (Q:=fun r=>Q (.int r) H) h0 hn (by omega) h2 q
      exact ⟨this.1,this.2.1,_,rfl,this.2.2⟩
    · exact ⟨_,rfl,draw_end (Q:=fun r=>Q (.int r) H) h0 h1 h2 q⟩
  · rw [if_neg hn]
    refine lenI_go hS ⟨_,rfl,?_⟩
    rw [if_neg hn]
    exact draw_end (Q:=fun r=>Q (.int r) H) h0 h1 h2 q
theorem flat_ones (l:List Nat):(l.map fun c=>[c]).flatten = l:=by
  induction l with
  | nil=>rfl
  | cons c l ih=>rw [List.map_cons,List.flatten_cons,ih]; rfl
theorem sum_ones (l:List Nat):((l.map fun c=>[c]).map (·.length)).sum = l.length:=by
  induction l with
  | nil=>rfl
  | cons c l ih=>simp only [List.map_cons,List.sum_cons,ih,List.length_cons,List.length_nil]; omega
def oV:Option (List Nat)→V
  | none=>.non
  | some l=>.str (txt l)
def markB (L:Nat) (l:List Nat):Bool:=!decide (l = []) && !decide (l.getLast? = some 97) && l.all fun c=>decide (97 ≤ c∧c < 97 + L)
theorem markB_iff {L:Nat} {l:List Nat}:markB L l = true ↔ Mark L l:=by
  unfold markB
  simp only [Bool.and_eq_true,Bool.not_eq_true',decide_eq_false_iff_not,List.all_eq_true,decide_eq_true_eq]
  constructor
  · rintro ⟨⟨h1,h2⟩,h3⟩
    exact ⟨h3,fun c hc e=>h2 (by rw [hc,e]),h1⟩
  · rintro ⟨h1,h2,h3⟩
    exact ⟨⟨h3,fun e=>h2 97 e rfl⟩,h1⟩
theorem ends_a (l:List Nat):(decide ([97].length ≤ l.length) && (l.drop (l.length - [97].length) == [97])) = decide (l.getLast? = some 97):=by
  rw [Bool.eq_iff_iff]
  simp only [Bool.and_eq_true,decide_eq_true_eq,beq_iff_eq,List.length_cons,List.length_nil]
  constructor
  · rintro ⟨h1,h2⟩
    have:l = l.take (l.length - 1) ++ [97]:=by
      have e:=List.take_append_drop (l.length - 1) l
      rw [show l.length - (0 + 1) = l.length - 1 by omega] at h2
      rw [h2] at e; exact e.symm
    rw [this]; simp
  · intro h
    obtain ⟨r,rfl⟩:=List.getLast?_eq_some_iff.mp h
    simp
theorem mem_abc {c L:Nat} (hL:L ≤ 26):c ∈ ABC.take L ↔ 97 ≤ c∧c < 97 + L:=by
  have e:ABC.take L = (List.range L).map (97 + ·):=by
    unfold ABC
    rw [← List.map_take,List.take_range,Nat.min_eq_left hL]
  rw [e,List.mem_map]
  constructor
  · rintro ⟨i,hi,rfl⟩; have:=List.mem_range.mp hi; omega
  · rintro ⟨h1,h2⟩; exact ⟨c - 97,List.mem_range.mpr (by omega),by omega⟩
def spIsMark:Sp:=fun vs H Q _=>∃ (L:Nat) (l:List Nat),vs = [.int L,.str (txt l)]∧L ≤ 26∧l.length ≤ 100000∧∀ H',Same H H'→Q (.bl (markB L l)) H'
def rdIsMark (K:PySem.W.Frag):TS:=
    tSeq (tIfS (tOr (tTest (tOp rEq (tVar 1) (tC (.str (txt []))))) (tB (tBM K "str" rEnds (tVar 1) (tCons (tC (.str (txt [97]))) tNil)))) (tRet (tC (.bl false))) (tNext))
      (tRet (tCB (rAllB K) (tCons (tComp (iStr (tVar 1)) [0] tYes (tOp rIn1 (tVar 0) (tSl rSlS (tC (.str (txt ABC))) tNoPart (tPart (tVar 1))))) tNil)))
theorem read_isMark {K:PySem.W.Frag} {N:List Str} {vs:List V} {H:Hp} {Q:VK} {E:XK} (hN:N.length = 2) (h:spIsMark vs H Q E):rdIsMark K { nx:=fun _ H'=>Q .non H',rt:=Q } (L2.start N vs) H:=by
  obtain ⟨L,l,rfl,hL,hz,q⟩:=h
  unfold rdIsMark L2.start
  rw [hN]
  and_intros
  refine ⟨rfl,?_⟩
  split
  · rename_i e
    subst e
    exact q H (Same.refl _)
  · rename_i hne
    refine ⟨rfl,l,[97],rfl,rfl,?_⟩
    rw [ends_a]
    refine ⟨_,rfl,?_⟩
    by_cases he:l.getLast? = some 97
    · rw [decide_eq_true he,if_pos rfl]
      have:markB L l = false:=by unfold markB; rw [decide_eq_true he]; simp
      rw [this] at q
      exact q H (Same.refl _)
    · rw [decide_eq_false he,if_neg (by decide)]
      refine comp_s (l:=l) (fun Q h=>⟨_,rfl,h⟩) (Nat.le_trans hz (by decide)) (fun i ys H'=>H' = H∧ys = ((l.take i).map fun c=>decide (97 ≤ c∧c < 97 + L)).map V.bl) ⟨rfl,rfl⟩
        (fun i ys H' _ p=>by rw [p.2,List.length_map,List.length_map,List.length_take]; omega) ?_ ?_
      · rintro i c ys H' hc ⟨rfl,rfl⟩ R hR
        and_intros
        refine slS_go (by rw [abc_len]; decide) ?_
        rw [cutL_to (by omega) (by rw [abc_len]; omega),Int.toNat_natCast]
        refine ⟨c,_,rfl,rfl,hR _ _ ⟨rfl,?_⟩⟩
        rw [List.take_succ,hc,List.map_append,List.map_append]
        simp only [mem_abc hL]
        rfl
      · rintro ys H' ⟨rfl,rfl⟩ p hp
        refine ⟨p,(l.map fun c=>decide (97 ≤ c∧c < 97 + L)),rfl,?_,?_⟩
        · rw [List.take_length]; exact SqL.here
        · have e:(l.map fun c=>decide (97 ≤ c∧c < 97 + L)).all id = markB L l:=by
            unfold markB
            rw [decide_eq_false hne,decide_eq_false he,List.all_map]; rfl
          rw [e]
          exact q _ (Same.up _ hp)
theorem Same.set {H H':Hp} {p:Addr} {o:HO} (s:Same H H') (hp:H p = none):Same H (upd H' p o):=fun b q e=>by
  have:=s b q e
  rw [upd_ne (ne_of_none e hp)]; exact this
theorem some_at {α:Type} {l:List α} {i:Nat} (h:i < l.length):∃ c,l[i]? = some c:=⟨l[i],List.getElem?_eq_getElem h⟩
def Prs (H:Hp):List V→List (V × V)→Prop
  | [],[]=>True
  | x :: xs,p :: ps=>(∃ t,x = .ref t∧H t = some (.tup [p.1,p.2]))∧Prs H xs ps
  | _,_=>False
theorem Prs.keep {H H':Hp} (k:∀ t ys,H t = some (.tup ys)→H' t = some (.tup ys)):∀ {xs:List V} {ps:List (V × V)},Prs H xs ps→Prs H' xs ps
  | [],[],_=>trivial
  | [],_ :: _,h=>h.elim
  | _ :: _,[],h=>h.elim
  | _ :: _,_ :: _,⟨⟨t,e,h⟩,r⟩=>⟨⟨t,e,k t _ h⟩,Prs.keep k r⟩
theorem Prs.same {H H':Hp} {xs:List V} {ps:List (V × V)} (h:Prs H xs ps) (s:Same H H'):Prs H' xs ps:=h.keep fun t ys e=>s t _ e
theorem Prs.app {H:Hp}:∀ {xs:List V} {ps:List (V × V)} {ys:List V} {qs:List (V × V)},Prs H xs ps→Prs H ys qs→Prs H (xs ++ ys) (ps ++ qs)
  | [],[],_,_,_,h=>h
  | [],_ :: _,_,_,h,_=>h.elim
  | _ :: _,[],_,_,h,_=>h.elim
  | _ :: _,_ :: _,_,_,⟨a,r⟩,h=>⟨a,Prs.app r h⟩
theorem Prs.len {H:Hp}:∀ {xs:List V} {ps:List (V × V)},Prs H xs ps→xs.length = ps.length
  | [],[],_=>rfl
  | [],_ :: _,h=>h.elim
  | _ :: _,[],h=>h.elim
  | _ :: _,_ :: _,⟨_,r⟩=>by rw [List.length_cons,List.length_cons,Prs.len r]
theorem Prs.get {H:Hp}:∀ {xs:List V} {ps:List (V × V)} {i:Nat} {x:V},Prs H xs ps→xs[i]? = some x→∃ p t,ps[i]? = some p∧x = .ref t∧H t = some (.tup [p.1,p.2])
  | [],_,_,_,_,e=>by simp at e
  | _ :: _,[],_,_,h,_=>h.elim
  | _ :: _,p :: _,0,_,⟨⟨t,e1,h⟩,_⟩,e=>by
    have:_ = _:=Option.some.inj e
    subst this
    exact ⟨p,t,rfl,e1,h⟩
  | _ :: _,_ :: _,i + 1,_,⟨_,r⟩,e=>by
    obtain ⟨p,t,a,b,c⟩:=Prs.get r (i:=i) (by simpa using e)
    exact ⟨p,t,by simpa using a,b,c⟩
def flatD:V→PyData
  | .bl b=>.bool b
  | .int i=>.int i
  | .str x=>.str x
  | _=>.none
inductive OkV:V→Prop where
  | non:OkV .non
  | bl (b:Bool):OkV (.bl b)
  | str {l:List Nat} (h:PyData.strOk (txt l) = true):OkV (.str (txt l))
theorem OkV.dat {K:PySem.W.Frag} {H:Hp} {v:V} (h:OkV v):Dat K H v (flatD v):=by
  cases h with
  | non=>exact .non
  | bl b=>exact .bl b
  | str h=>exact .str _
def pairD (ps:List (V × V)):List PyData:=ps.map fun p=>.tuple [flatD p.1,flatD p.2]
theorem Prs.dat {K:PySem.W.Frag} {H:Hp}:∀ {xs:List V} {ps:List (V × V)},Prs H xs ps→(∀ p ∈ ps,OkV p.1∧OkV p.2)→DatAll K H xs (pairD ps)
  | [],[],_,_=>.nil
  | [],_ :: _,h,_=>h.elim
  | _ :: _,[],h,_=>h.elim
  | _ :: _,p :: _,⟨⟨t,e,h⟩,r⟩,ok=>by
    subst e
    have o:=ok p List.mem_cons_self
    exact .cons (.tup (SqT.of h) (.cons o.1.dat (.cons o.2.dat .nil))) (Prs.dat r fun q hq=>ok q (List.mem_cons_of_mem _ hq))
theorem lay_flat {v:V} (h:OkV v):PyData.canLay0 (flatD v) = true∧PyData.depth (flatD v) = 0:=by
  cases h with
  | non=>exact ⟨by simp [flatD,PyData.canLay0],by simp [flatD,PyData.depth]⟩
  | bl b=>exact ⟨by simp [flatD,PyData.canLay0],by simp [flatD,PyData.depth]⟩
  | str h=>exact ⟨by simp [flatD,PyData.canLay0,h],by simp [flatD,PyData.depth]⟩
theorem lay_pairs:∀ {ps:List (V × V)},(∀ p ∈ ps,OkV p.1∧OkV p.2)→PyData.canLayAll0 (pairD ps) = true∧PyData.depthAll (pairD ps) ≤ 1
  | [],_=>⟨by simp [pairD,PyData.canLayAll0],by simp [pairD,PyData.depthAll]⟩
  | p :: ps,ok=>by
    obtain ⟨a,b⟩:=lay_pairs fun q hq=>ok q (List.mem_cons_of_mem _ hq)
    obtain ⟨o1,o2⟩:=ok p List.mem_cons_self
    obtain ⟨c1,d1⟩:=lay_flat o1
    obtain ⟨c2,d2⟩:=lay_flat o2
    have e:pairD (p :: ps) = .tuple [flatD p.1,flatD p.2] :: pairD ps:=rfl
    rw [e]
    refine ⟨by simp [PyData.canLayAll0,PyData.canLay0,c1,c2,a],?_⟩
    simp only [PyData.depthAll,PyData.depth,d1,d2]
    omega
def stand (ks:List (List Nat × Bool)):Nat:=(ks.filter fun k=>k.2).length
theorem keep_list {H:Hp} {t r:Addr} {o:HO} {ys zs:List V} (ht:H t = none) (hr:H r = some (.lst ys)):∀ u xs,H u = some (.tup xs)→(upd (upd H t o) r (.lst zs)) u = some (.tup xs):=fun u xs e=>by
  rw [upd_ne (fun z=>by subst z; rw [hr] at e; cases e),upd_ne (fun z=>by subst z; rw [ht] at e; cases e)]
  exact e
theorem drop_get {α:Type} {l:List α} {i:Nat} {x:α} (h:l[i]? = some x):l.drop i = x :: l.drop (i + 1):=by
  obtain ⟨h1,h2⟩:=List.getElem?_eq_some_iff.mp h
  rw [List.drop_eq_getElem_cons h1,h2]
theorem inV_strs (x:List Nat) (xs:List (List Nat)):inV (.str (txt x)) (xs.map strV) = decide (x ∈ xs):=by
  unfold inV
  rw [List.any_map,Bool.eq_iff_iff,List.any_eq_true,decide_eq_true_eq]
  constructor
  · rintro ⟨y,hy,e⟩
    have:y = x:=by simpa [eqV,strV,txt_inj] using e
    rw [← this]; exact hy
  · intro h
    exact ⟨x,h,by simp [eqV,strV]⟩
theorem flat_strs (xs:List (List Nat)):(xs.map strV).all flatV = true:=by
  rw [List.all_map,List.all_eq_true]
  intro x _
  rfl
theorem lt_of_sorted {zs:List (List Nat)} (h:zs.Pairwise (· ≤ ·)) (n:zs.Nodup):zs.Pairwise (· < ·):=by
  have:=List.Pairwise.and h n
  refine this.imp fun {a b} hab=>?_
  by_cases z:a < b
  · exact z
  · exact absurd (List.le_antisymm hab.1 (List.not_lt.mp z)) hab.2
def Keeps (F:List Addr) (H H':Hp):Prop:=∀ b o,H b = some o→b ∉ F→H' b = some o
theorem Same.keeps {H H':Hp} (s:Same H H') (F:List Addr):Keeps F H H':=fun b o e _=>s b o e
theorem Keeps.trans {F:List Addr} {H H1 H2:Hp} (a:Keeps F H H1) (b:Keeps F H1 H2):Keeps F H H2:=fun x o e n=>b x o (a x o e n) n
theorem Keeps.upd {F:List Addr} {H H':Hp} {p:Addr} {o:HO} (a:Keeps F H H') (h:p ∈ F ∨ H' p = none):Keeps F H (upd H' p o):=fun x q e n=>by
  have:=a x q e n
  rw [upd_ne (fun z => by subst z; rcases h with h | h
                          · exact n h
                          · rw [this] at h; cases h)]
  exact this
def spAskL (c:Addr):Sp:=fun vs H Q E=>∃ (L h:Int),vs = [.int L,.int h]∧((2 ≤ L∧L ≤ 26∧1 ≤ h∧h < L)→Q .non H)∧(¬ (2 ≤ L∧L ≤ 26∧1 ≤ h∧h < L)→E (.ref c) none H)
def rdAskL (c:Addr) (E:XK) (m1 m2:List Nat):TS:=
    tSeq (tIfS (tOr (tTest (tOp rLtI (tVar 0) (tC (.int 2)))) (tTest (tOp rGtI (tVar 0) (tCB rLenS (tCons (tC (.str (txt ABC))) tNil))))) (tRaise (.ref c) E (tCons (tC (.str (txt m1))) tNil)) (tNext))
      (tIfS (tOr (tTest (tOp rLtI (tVar 1) (tC (.int 1)))) (tTest (tOp rGeI (tVar 1) (tVar 0)))) (tRaise (.ref c) E (tCons (tC (.str (txt m2))) tNil)) (tNext))
theorem read_askL {c:Addr} {m1 m2:List Nat} {N:List Str} {vs:List V} {H:Hp} {Q:VK} {E:XK} (hN:N.length = 2) (h:spAskL c vs H Q E):rdAskL c E m1 m2 { nx:=fun _ H'=>Q .non H',rt:=Q } (L2.start N vs) H:=by
  obtain ⟨L,h,rfl,q1,q2⟩:=h
  unfold rdAskL L2.start
  rw [hN]
  and_intros
  by_cases h1:L < 2
  · rw [if_pos h1]
    exact ⟨by decide,q2 (by omega)⟩
  · rw [if_neg h1]
    refine lenS_go (by rw [abc_len]; decide) ⟨_,rfl,?_⟩
    rw [abc_len]
    by_cases h2:((26:Nat):Int) < L
    · rw [if_pos h2]
      exact ⟨by decide,q2 (by omega)⟩
    · rw [if_neg h2]
      by_cases h3:h < 1
      · rw [if_pos h3]
        exact ⟨by decide,q2 (by omega)⟩
      · rw [if_neg h3]
        by_cases h4:L ≤ h
        · rw [if_pos h4]
          exact ⟨by decide,q2 (by omega)⟩
        · rw [if_neg h4]
          exact q1 (by omega)
def SIGNS:List Nat:=[97,98,99,100,101,102,103,104,105,106,107,108,109,110,111,112,113,114,115,116,117,118,119,120,121,122,48,49,50,51,52,53,54,55,56,57]
def Thing (t:List Nat):Prop:=t ≠ []∧t.length ≤ 12∧∀ c ∈ t,c ∈ SIGNS
def spIsThing:Sp:=fun vs H Q _=>∃ t:List Nat,vs = [.str (txt t)]∧t.length ≤ 100000∧∀ H' b,Same H H'→(b = true ↔ Thing t)→Q (.bl b) H'
def rdIsThing (K:PySem.W.Frag):TS:=
    tSeq (tIfS (tOr (tTest (tOp rEq (tVar 0) (tC (.str (txt []))))) (tTest (tOp rGtI (tCB rLenS (tCons (tVar 0) tNil)) (tC (.int 12))))) (tRet (tC (.bl false))) (tNext))
      (tRet (tCB (rAllB K) (tCons (tComp (iStr (tVar 0)) [] tYes (tOp rIn1 (tVar 0) (tC (.str (txt SIGNS))))) tNil)))
theorem read_isThing {K:PySem.W.Frag} {N:List Str} {vs:List V} {H:Hp} {Q:VK} {E:XK} (hN:N.length = 1) (h:spIsThing vs H Q E):rdIsThing K { nx:=fun _ H'=>Q .non H',rt:=Q } (L2.start N vs) H:=by
  obtain ⟨t,rfl,hz,q⟩:=h
  unfold rdIsThing L2.start
  rw [hN]
  and_intros
  refine ⟨rfl,?_⟩
  by_cases h1:t = []
  · rw [if_pos h1]
    exact q _ _ (Same.refl _) ⟨(fun z=>nomatch z),fun z=>absurd h1 z.1⟩
  · rw [if_neg h1]
    refine lenS_go hz ⟨_,rfl,?_⟩
    by_cases h2:(12:Int) < (t.length:Int)
    · rw [if_pos h2]
      exact q _ _ (Same.refl _) ⟨(fun z=>nomatch z),fun z=>by have:=z.2.1; omega⟩
    · rw [if_neg h2]
      refine comp_s (l:=t) (fun Q h=>⟨_,rfl,h⟩) (Nat.le_trans (show t.length ≤ 100000 by omega) (by decide)) (fun i ys H'=>H' = H∧ys = ((t.take i).map fun c=>decide (c ∈ SIGNS)).map V.bl) ⟨rfl,rfl⟩
        (fun i ys H' _ p=>by rw [p.2,List.length_map,List.length_map,List.length_take]; omega) ?_ ?_
      · rintro i c ys H' hc ⟨rfl,rfl⟩ R hR
        and_intros
        refine ⟨c,_,rfl,rfl,hR _ _ ⟨rfl,?_⟩⟩
        rw [List.take_succ,hc,List.map_append,List.map_append]
        rfl
      · rintro ys H' ⟨rfl,rfl⟩ p hp
        rw [List.take_length]
        refine ⟨p,_,rfl,SqL.here,q _ _ (Same.up _ hp) ?_⟩
        rw [List.all_map,List.all_eq_true]
        constructor
        · intro z
          exact ⟨h1,by omega,fun c hc=>by simpa using z c hc⟩
        · rintro ⟨_,_,z⟩ c hc
          simpa using z c hc
theorem seqIx {i:Int} {n:Nat} (h0:0 ≤ i) (h1:i < n):seqIndex? i n = some i.toNat:=by
  unfold seqIndex?
  simp only [if_neg (show ¬ i < 0 by omega)]
  rw [if_pos (by simp; omega)]
theorem strOk_small {l:List Nat} (h:∀ c ∈ l,c < 200):PyData.strOk (txt l) = true:=by
  unfold PyData.strOk txt
  simp only [Array.all_eq_true_iff_forall_mem,List.mem_toArray,decide_eq_true_eq]
  intro c hc; have:=h c hc; omega
theorem strOk_mark {L:Nat} (hL:L ≤ 26) {m:List Nat} (h:Ls L m):PyData.strOk (txt m) = true:=strOk_small fun c hc=>by have:=h c hc; omega
theorem signs_small:∀ c ∈ SIGNS,c < 200:=by decide
theorem strOk_thing {t:List Nat} (h:Thing t):PyData.strOk (txt t) = true:=strOk_small fun c hc=>signs_small c (h.2.2 c hc)
theorem same_keep {H0 H H':Hp} {F:List Addr} (s:Same H0 H) (k:Keeps F H H') (h:∀ a ∈ F,H0 a = none):Same H0 H':=fun b o e=>k b o (s b o e) (fun z=>by rw [h b z] at e; cases e)
abbrev RwN:=List Nat × Option (List Nat)
def rowP (r:RwN):V × V:=(strV r.1,oV r.2)
variable {L:Nat} {R:List RwN}
theorem slL_go {K:PySem.W.Frag} {H:Hp} {a:Addr} {xs:List V} {lo hi:Option Int} {Q:VK} (h:SqL K H a xs) (q:∀ p,H p = none→Q (.ref p) (upd H p (.lst (cutV xs lo hi)))):rSlL K (.ref a) lo hi H Q:=⟨a,xs,rfl,h,q⟩
def tkD (ks:List (List Nat)):List (Key × V):=ks.map fun m=>(Key.inr (txt m),.bl true)
theorem val_tk (m:List Nat):∀ ks:List (List Nat),(valV (tkD ks) (Key.inr (txt m))).isSome = decide (m ∈ ks)
  | []=>by simp [tkD,valV_nil]
  | k :: ks=>by
    have ih:=val_tk m ks
    show (valV ((Key.inr (txt k),V.bl true) :: tkD ks) _).isSome = _
    by_cases e:k = m
    · subst e; rw [valV_pos rfl]; simp
    · rw [valV_neg (fun z=>e (txt_inj.mp (by injection z))),ih]
      simp [Ne.symm e]
def RowsC (H:Hp):List Addr→List (List RwN)→Prop
  | [],[]=>True
  | a :: as,r :: R=>(∃ xs,H a = some (.lst xs)∧Prs H xs (r.map rowP))∧RowsC H as R
  | _,_=>False
theorem RowsC.same {H H':Hp} (s:Same H H'):∀ {as:List Addr} {R:List (List RwN)},RowsC H as R→RowsC H' as R
  | [],[],_=>trivial
  | [],_ :: _,h=>h.elim
  | _ :: _,[],h=>h.elim
  | _ :: _,_ :: _,⟨⟨xs,e,p⟩,r⟩=>⟨⟨xs,s _ _ e,p.same s⟩,RowsC.same s r⟩
theorem RowsC.len {H:Hp}:∀ {as:List Addr} {R:List (List RwN)},RowsC H as R→as.length = R.length
  | [],[],_=>rfl
  | [],_ :: _,h=>h.elim
  | _ :: _,[],h=>h.elim
  | _ :: _,_ :: _,⟨_,r⟩=>by rw [List.length_cons,List.length_cons,RowsC.len r]
theorem RowsC.app {H:Hp}:∀ {as:List Addr} {R:List (List RwN)} {bs:List Addr} {S:List (List RwN)},RowsC H as R→RowsC H bs S→RowsC H (as ++ bs) (R ++ S)
  | [],[],_,_,_,h=>h
  | [],_ :: _,_,_,h,_=>h.elim
  | _ :: _,[],_,_,h,_=>h.elim
  | _ :: _,_ :: _,_,_,⟨a,r⟩,h=>⟨a,RowsC.app r h⟩
theorem RowsC.get {H:Hp}:∀ {as:List Addr} {R:List (List RwN)} {i:Nat} {a:Addr},RowsC H as R→as[i]? = some a→∃ r xs,R[i]? = some r∧H a = some (.lst xs)∧Prs H xs (r.map rowP)
  | [],_,_,_,_,e=>by simp at e
  | _ :: _,[],_,_,h,_=>h.elim
  | _ :: _,r :: _,0,_,⟨⟨xs,h,p⟩,_⟩,e=>by
    have:_ = _:=Option.some.inj e
    subst this
    exact ⟨r,xs,rfl,h,p⟩
  | _ :: _,_ :: _,i + 1,_,⟨_,r⟩,e=>by
    obtain ⟨p,t,a,b,c⟩:=RowsC.get r (i:=i) (by simpa using e)
    exact ⟨p,t,by simpa using a,b,c⟩
def stP (z:List Nat × List Nat):V × V:=(strV z.1,strV z.2)
structure StA (H:Hp) (p p1 p2 p3:Addr) (bs:List Addr) (ts:List V) (L h:Nat) (R:List (List RwN)) (zs:List (List Nat × List Nat)) (ws:List (List Nat)):Prop where
  top:H p = some (.tup [.int L,.int h,.ref p1,.ref p2,.ref p3])
  ren:H p1 = some (.lst (bs.map V.ref))
  row:RowsC H bs R
  thi:H p2 = some (.lst ts)
  prs:Prs H ts (zs.map stP)
  tak:H p3 = some (.lst (ws.map strV))
theorem StA.same {H H':Hp} {p p1 p2 p3:Addr} {bs:List Addr} {ts:List V} {L h:Nat} {R:List (List RwN)} {zs:List (List Nat × List Nat)} {ws:List (List Nat)} (A:StA H p p1 p2 p3 bs ts L h R zs ws) (s:Same H H'):StA H' p p1 p2 p3 bs ts L h R zs ws:=
  ⟨s _ _ A.top,s _ _ A.ren,A.row.same s,s _ _ A.thi,A.prs.same s,s _ _ A.tak⟩
theorem Same.free1 {H H':Hp} (s:Same H H') {p:Addr} (h:H' p = none):H p = none:=by
  cases w:H p with
  | none=>rfl
  | some o=>rw [s p o w] at h; cases h
def rowsD (R:List (List RwN)):List PyData:=R.map fun r=>.list (pairD (r.map rowP))
def stD (L h:Nat) (R:List (List RwN)) (zs:List (List Nat × List Nat)) (ws:List (List Nat)):PyData:=.tuple [.int L,.int h,.list (rowsD R),.list (pairD (zs.map stP)),.list ((ws.map txt).map PyData.str)]
structure StOk (R:List (List RwN)) (zs:List (List Nat × List Nat)) (ws:List (List Nat)):Prop where
  rows:∀ r ∈ R,∀ y ∈ r,PyData.strOk (txt y.1) = true∧∀ z,y.2 = some z→PyData.strOk (txt z) = true
  things:∀ z ∈ zs,PyData.strOk (txt z.1) = true∧PyData.strOk (txt z.2) = true
  taken:∀ w ∈ ws,PyData.strOk (txt w) = true
theorem row_ok {r:List RwN} (h:∀ y ∈ r,PyData.strOk (txt y.1) = true∧∀ z,y.2 = some z→PyData.strOk (txt z) = true):∀ p ∈ r.map rowP,OkV p.1∧OkV p.2:=fun p hp=>by
  obtain ⟨y,hy,rfl⟩:=List.mem_map.mp hp
  obtain ⟨a,b⟩:=h y hy
  refine ⟨.str a,?_⟩
  show OkV (oV y.2)
  cases e:y.2 with
  | none=>exact .non
  | some z=>exact .str (b z e)
theorem thing_ok {zs:List (List Nat × List Nat)} (h:∀ z ∈ zs,PyData.strOk (txt z.1) = true∧PyData.strOk (txt z.2) = true):∀ p ∈ zs.map stP,OkV p.1∧OkV p.2:=fun p hp=>by
  obtain ⟨z,hz,rfl⟩:=List.mem_map.mp hp
  exact ⟨.str (h z hz).1,.str (h z hz).2⟩
theorem RowsC.dat {K:PySem.W.Frag} {H:Hp}:∀ {as:List Addr} {R:List (List RwN)},RowsC H as R→(∀ r ∈ R,∀ y ∈ r,PyData.strOk (txt y.1) = true∧∀ z,y.2 = some z→PyData.strOk (txt z) = true)→DatAll K H (as.map V.ref) (rowsD R)
  | [],[],_,_=>.nil
  | [],_ :: _,h,_=>h.elim
  | _ :: _,[],h,_=>h.elim
  | _ :: _,r :: _,⟨⟨xs,e,p⟩,t⟩,ok=>.cons (.lst (SqL.of e) (p.dat (row_ok (ok r List.mem_cons_self)))) (RowsC.dat t fun q hq=>ok q (List.mem_cons_of_mem _ hq))
theorem dat_strsH {K:PySem.W.Frag} {H:Hp}:∀ ms:List (List Nat),DatAll K H (ms.map strV) ((ms.map txt).map PyData.str)
  | []=>.nil
  | m :: ms=>.cons (.str _) (dat_strsH ms)
theorem StA.dat {K:PySem.W.Frag} {H:Hp} {p p1 p2 p3:Addr} {bs:List Addr} {ts:List V} {L h:Nat} {R:List (List RwN)} {zs:List (List Nat × List Nat)} {ws:List (List Nat)} (A:StA H p p1 p2 p3 bs ts L h R zs ws) (ok:StOk R zs ws):Dat K H (.ref p) (stD L h R zs ws):=
  .tup (SqT.of A.top) (.cons (.int _) (.cons (.int _) (.cons (.lst (SqL.of A.ren) (A.row.dat ok.rows)) (.cons (.lst (SqL.of A.thi) (A.prs.dat (thing_ok ok.things))) (.cons (.lst (SqL.of A.tak) (dat_strsH ws)) .nil)))))
theorem lay_rows:∀ {R:List (List RwN)},(∀ r ∈ R,∀ y ∈ r,PyData.strOk (txt y.1) = true∧∀ z,y.2 = some z→PyData.strOk (txt z) = true)→PyData.canLayAll0 (rowsD R) = true∧PyData.depthAll (rowsD R) ≤ 2
  | [],_=>⟨by simp [rowsD,PyData.canLayAll0],by simp [rowsD,PyData.depthAll]⟩
  | r :: R,ok=>by
    obtain ⟨a,b⟩:=lay_rows (R:=R) fun q hq=>ok q (List.mem_cons_of_mem _ hq)
    obtain ⟨c,d⟩:=lay_pairs (row_ok (ok r List.mem_cons_self))
    have e:rowsD (r :: R) = .list (pairD (r.map rowP)) :: rowsD R:=rfl
    rw [e]
    refine ⟨by simp [PyData.canLayAll0,PyData.canLay0,a,c],?_⟩
    simp only [PyData.depthAll,PyData.depth]
    omega
theorem shaped_st {L h:Nat} {R:List (List RwN)} {zs:List (List Nat × List Nat)} {ws:List (List Nat)} (ok:StOk R zs ws):SeqAt.shaped (stD L h R zs ws) = true:=by
  obtain ⟨a,b⟩:=lay_rows ok.rows
  obtain ⟨c,d⟩:=lay_pairs (thing_ok ok.things)
  have o2:∀ y ∈ ws.map txt,PyData.strOk y = true:=fun y hy=>by obtain ⟨z,hz,rfl⟩:=List.mem_map.mp hy; exact ok.taken z hz
  unfold SeqAt.shaped stD
  rw [Bool.and_eq_true]
  have cl:=canLay_strs _ o2
  have dl:=depth_strs (ws.map txt)
  generalize (ws.map txt).map PyData.str = D2 at cl dl ⊢
  refine ⟨by simp [PyData.canLay0,PyData.canLayAll0,a,c,cl],?_⟩
  rw [decide_eq_true_eq]
  simp only [PyData.depth,PyData.depthAll,dl]
  omega
theorem eq_states {K:PySem.W.Frag} {H:Hp} {p p1 p2 p3 q q1 q2 q3:Addr} {bs cs:List Addr} {ts us:List V} {L h:Nat} {R:List (List RwN)} {zs:List (List Nat × List Nat)} {ws:List (List Nat)} {Q:VK} (A:StA H p p1 p2 p3 bs ts L h R zs ws) (B:StA H q q1 q2 q3 cs us L h R zs ws) (ok:StOk R zs ws) (r:Q (.bl true) H):rEqD K (.ref p) (.ref q) H Q:=by
  refine ⟨_,_,A.dat ok,B.dat ok,shaped_st ok,shaped_st ok,?_⟩
  rw [SeqAt.eqv_refl _ (SeqAt.canLay_of_shaped (shaped_st ok))]
  exact r
theorem ne_states {K:PySem.W.Frag} {H:Hp} {p p1 p2 p3 q q1 q2 q3:Addr} {bs cs:List Addr} {ts us:List V} {L h:Nat} {R:List (List RwN)} {zs:List (List Nat × List Nat)} {ws:List (List Nat)} {Q:VK} (A:StA H p p1 p2 p3 bs ts L h R zs ws) (B:StA H q q1 q2 q3 cs us L h R zs ws) (ok:StOk R zs ws) (r:Q (.bl false) H):rNeD K (.ref p) (.ref q) H Q:=by
  refine ⟨_,_,A.dat ok,B.dat ok,shaped_st ok,shaped_st ok,?_⟩
  rw [SeqAt.eqv_refl _ (SeqAt.canLay_of_shaped (shaped_st ok))]
  exact r
theorem nodup_up {l:List (List Nat)} (h:l.Pairwise (· < ·)):l.Nodup:=h.imp fun g z=>by subst z; exact List.lt_irrefl _ g
theorem seq_cset {wi:TI} {fs:List Nat} {tt:TT} {te:TE} {i:Nat} {C:TS} {D:Ends} {σ:St} {H:Hp} (h:∀ c:V→Hp→Prop,(∀ x H1,C D (σ.set i (some x)) H1→c x H1)→tComp wi fs tt te σ H c):tSeq (tCompSet i wi fs tt te) C D σ H:=h _ fun _ _ z=>z
theorem RowsC.keep {H H':Hp} {F:List Addr} (k:Keeps F H H') (ht:∀ t ∈ F,∀ ys,H t ≠ some (.tup ys)):∀ {as:List Addr} {R:List (List RwN)},(∀ a ∈ as,a ∉ F)→RowsC H as R→RowsC H' as R
  | [],[],_,_=>trivial
  | [],_ :: _,_,h=>h.elim
  | _ :: _,[],_,h=>h.elim
  | a :: _,_ :: _,n,⟨⟨xs,e,p⟩,r⟩=>⟨⟨xs,k _ _ e (n a List.mem_cons_self),p.keep fun t ys e=>k t _ e fun z=>ht t z ys e⟩,RowsC.keep k ht (fun b hb=>n b (List.mem_cons_of_mem _ hb)) r⟩
theorem mergeK_new:∀ (ps qs:List (Key × V)),((qs ++ ps).map (·.1)).Nodup→mergeK qs ps = qs ++ ps
  | [],qs,_=>by rw [List.append_nil]; rfl
  | (k,v) :: ps,qs,h=>by
    have h1:valV qs k = none:=by
      cases w:valV qs k with
      | none=>rfl
      | some u=>
        exfalso
        have hk:k ∈ qs.map (·.1):=by
          refine Classical.byContradiction fun nk=>?_
          have:valV qs k = none:=by
            clear h w
            induction qs with
            | nil=>exact valV_nil
            | cons q qs ih=>
              rw [valV_neg (fun z=>nk (by rw [← z]; exact List.mem_cons_self))]
              exact ih fun z=>nk (List.mem_cons_of_mem _ z)
          rw [this] at w; cases w
        rw [List.map_append,List.nodup_append] at h
        exact h.2.2 k hk k (by simp) rfl
    show mergeK (putK qs k v) ps = _
    rw [putK_new _ h1,mergeK_new ps (qs ++ [(k,v)]) (by rw [List.append_assoc]; exact h),List.append_assoc]
    rfl
def someT:List (List Nat):=[[97],[116,97,107,101,110],[114,101,110,101,119,97,108],[48],[122,57],[97,98,99,100,101,102,103,104,105,106,107,108],[98],[55]]
theorem someT_ok:∀ t ∈ someT,Thing t∧t.length ≤ 12:=by
  intro t ht
  simp only [someT,List.mem_cons,List.not_mem_nil,or_false] at ht
  rcases ht with rfl | rfl | rfl | rfl | rfl | rfl | rfl | rfl <;> exact ⟨⟨by decide,by decide,by decide⟩,by decide⟩
def spHThing (K:PySem.W.Frag):Sp:=fun vs H Q _=>∃ (a:Addr) (ns:List Int) (k:Int),vs = [.ref a,.int k]∧SqL K H a (ns.map V.int)∧ns.length ≤ 63∧0 ≤ k∧k ≤ 10000∧∀ H' t,Same H H'→Thing t→t.length ≤ 12→Q (.str (txt t)) H'
def rdHThing (K:PySem.W.Frag):TS:=
    tSeq (tAsg (tLst (tCons (tC (.str (txt [97]))) (tCons (tC (.str (txt [116,97,107,101,110]))) (tCons (tC (.str (txt [114,101,110,101,119,97,108]))) (tCons (tC (.str (txt [48]))) (tCons (tC (.str (txt [122,57]))) (tCons (tC (.str (txt [97,98,99,100,101,102,103,104,105,106,107,108]))) (tCons (tC (.str (txt [98]))) (tCons (tC (.str (txt [55]))) tNil))))))))) (gName 2))
      (tRet (tOp (rIxL K) (tVar 2) (tCall (spDraw K) [] E0 (tCons (tVar 0) (tCons (tVar 1) (tCons (tC (.int 8)) tNil))))))
theorem read_hthing {K:PySem.W.Frag} {N:List Str} {vs:List V} {H:Hp} {Q:VK} {E:XK} (hN:N.length = 3) (h:spHThing K vs H Q E):rdHThing K { nx:=fun _ H'=>Q .non H',rt:=Q } (L2.start N vs) H:=by
  obtain ⟨sc,ns,k,rfl,hS,hl,hk0,hk1,q⟩:=h
  unfold rdHThing L2.start
  rw [hN]
  refine seq_set fun c hc=>?_
  and_intros
  refine ⟨by decide,fun p hp=>hc _ _ ?_⟩
  clear hc c
  have s1:=Same.up (o:=HO.lst (someT.map strV)) H hp
  have l1:(upd H p (.lst (someT.map strV))) p = some (.lst (someT.map strV)):=upd_same
  show tRet _ _ _ (upd H p (.lst (someT.map strV)))
  generalize upd H p _ = H1 at s1 l1 ⊢
  and_intros
  refine ⟨sc,ns,_,_,rfl,s1.seq hS,hl,hk0,by omega,by decide,fun r h0 h1=>?_⟩
  obtain ⟨t,ht⟩:=some_at (l:=someT) (i:=r.toNat) (by simp only [someT,List.length_cons,List.length_nil]; omega)
  obtain ⟨b1,b2⟩:=someT_ok t (List.mem_of_getElem? ht)
  exact ixL_go (v:=strV t) (SqL.of l1) h0 (by rw [List.getElem?_map,ht]; rfl) (q _ t s1 b1 b2)
def num (n:Nat):List Nat:=(toString (n:Int):Str).cps.toList
theorem txt_num (n:Nat):txt (num n) = (toString (n:Int):Str):=txt_codes _
def FIGS:List Nat:=[48,49,50,51,52,53,54,55,56,57]
def isNum (l:List Nat):Bool:=!decide (l = []) && decide (l.length ≤ 4) && (if l.head? = some 48 then decide (l = [48]) else l.all fun c=>decide (c ∈ FIGS))
theorem num_ok:∀ n,n < 64→(num n).contains 32 = false∧isNum (num n) = true∧(num n).length ≤ 4:=by decide +kernel
theorem num_free {n:Nat} (h:n < 64):32 ∉ num n:=fun z=>by
  have:=(num_ok n h).1
  rw [List.contains_iff_mem.mpr z] at this
  cases this
theorem fmt_num {n:Nat} (h:n < 64):FmtV (.int n) (num n):=.inr ⟨n,rfl,by
  have:(n:Int).natAbs = n:=Int.natAbs_natCast n
  rw [this]
  exact Nat.lt_of_le_of_lt (Nat.log2_le_self n) (by omega),txt_num n⟩
theorem num_int {n:Nat} (h:n < 64):PySem.intText? (txt (num n)) = some (n:Int):=int_back (by omega) (by omega) (txt_num n)
def kRnw:List Nat:=[114,101,110,101,119,97,108]
def rowT (r:RwN):List Nat:=match r.2 with
  | none=>r.1 ++ [32,45]
  | some n=>r.1 ++ [32] ++ n
def renT (r:List RwN):List (List Nat):=(kRnw ++ [32] ++ num r.length) :: r.map rowT
def thT (ws:List (List Nat)) (z:List Nat × List Nat):List Nat:=if z.1 ∈ ws then z.1 ++ [32] ++ z.2 ++ [32,116,97,107,101,110] else z.1 ++ [32] ++ z.2
def headT (L h g:Nat):List Nat:=num L ++ [32] ++ num h ++ [32] ++ num g
def stT (L h:Nat) (R:List (List RwN)) (zs:List (List Nat × List Nat)) (ws:List (List Nat)):List (List Nat):=headT L h R.length :: (R.flatMap renT ++ zs.map (thT ws))
structure RowsT (L:Nat) (r:List RwN):Prop where
  few:r.length ≤ 60
  old:∀ y ∈ r,Mark L y.1∧y.1.length ≤ 1000
  new:∀ y ∈ r,∀ z,y.2 = some z→Mark L z∧z.length ≤ 1000
  oup:(r.map (·.1)).Pairwise (· < ·)
  nup:(r.filterMap (·.2)).Pairwise (· < ·)
structure ThingsT (L:Nat) (zs:List (List Nat × List Nat)) (ws:List (List Nat)):Prop where
  few:zs.length ≤ 60
  mar:∀ z ∈ zs,Mark L z.1∧z.1.length ≤ 1000∧Thing z.2
  up:(zs.map (·.1)).Pairwise (· < ·)
  tak:ws = (zs.map (·.1)).filter fun m=>decide (m ∈ ws)
structure StateT (L h:Nat) (R:List (List RwN)) (zs:List (List Nat × List Nat)) (ws:List (List Nat)):Prop where
  l2:2 ≤ L
  l26:L ≤ 26
  h1:1 ≤ h
  hL:h < L
  few:R.length ≤ 60
  rows:∀ r ∈ R,RowsT L r
  things:ThingsT L zs ws
def spRowTexts (K:PySem.W.Frag):Sp:=fun vs H Q _=>∃ (L:Nat) (p:Addr) (xs:List V) (r:List RwN),vs = [.ref p]∧H p = some (.lst xs)∧Prs H xs (r.map rowP)∧RowsT L r∧∀ o,H o = none→Q (.ref o) (upd H o (.lst ((r.map rowT).map strV)))
def rdRowTexts (K:PySem.W.Frag):TS:=
    tRet (tComp2 K (iList K (tVar 0)) [] tYes (tIf (tB (tIsN (tVar 1))) (tFstr [.fmt (tVar 0),.raw (tC (.str (txt [32,45])))]) (tFstr [.fmt (tVar 0),.raw (tC (.str (txt [32]))),.fmt (tVar 1)])))
theorem read_rowTexts {K:PySem.W.Frag} {N:List Str} {vs:List V} {H:Hp} {Q:VK} {E:XK} (hN:N.length = 1) (h:spRowTexts K vs H Q E):rdRowTexts K { nx:=fun _ H'=>Q .non H',rt:=Q } (L2.start N vs) H:=by
  obtain ⟨L,p,xs,r,rfl,hp,hr,R,q⟩:=h
  have few:=R.few
  have xl:=hr.len
  rw [List.length_map] at xl
  unfold rdRowTexts L2.start
  rw [hN]
  and_intros
  refine comp2_l (a:=p) (xs:=xs) (fun Q h=>⟨_,rfl,h⟩) (SqL.of hp) (fun i ys H'=>H' = H∧ys = ((r.take i).map rowT).map strV) ⟨rfl,rfl⟩ (fun i ys H' _ h=>by
    rw [h.1,h.2,List.length_map,List.length_map,List.length_take]
    exact ⟨SqL.of hp,Nat.min_le_left _ _⟩) (by rw [xl,sizeLine_eq]; omega) ?_ ?_
  · rintro i x ys H' hx ⟨rfl,rfl⟩
    obtain ⟨pp,t,e1,rfl,ht⟩:=hr.get hx
    rw [List.getElem?_map] at e1
    obtain ⟨y,ey,rfl⟩:=Option.map_eq_some_iff.mp e1
    refine ⟨t,strV y.1,oV y.2,rfl,SqT.of ht,fun W hW=>?_⟩
    have hy:=List.mem_of_getElem? ey
    have o:=(R.old y hy).2
    have etk:r.take (i + 1) = r.take i ++ [y]:=by rw [List.take_add_one,ey]; rfl
    have fin:W (((r.take i).map rowT).map strV ++ [strV (rowT y)]) H':=hW _ _ ⟨rfl,by rw [etk,List.map_append,List.map_append]; rfl⟩
    cases e2:y.2 with
    | none=>
      have er:rowT y = [] ++ y.1 ++ [32,45]:=by unfold rowT; rw [e2]; rfl
      rw [er] at fin
      simp? [oV]
      exact ⟨_,rfl,y.1,.inl rfl,by simp only [List.length_nil]; omega,[32,45],rfl,by simp only [List.length_append,List.length_cons,List.length_nil]; omega,by simp only [List.length_append,List.length_cons,List.length_nil]; omega,fin⟩
    | some n=>
      have o2:=(R.new y hy n e2).2
      have er:rowT y = [] ++ y.1 ++ [32] ++ n:=by unfold rowT; rw [e2]; rfl
      rw [er] at fin
      simp? [oV]
      exact ⟨_,rfl,y.1,.inl rfl,by simp only [List.length_nil]; omega,[32],rfl,by simp only [List.length_append,List.length_cons,List.length_nil]; omega,_,rfl,n,.inl rfl,by simp only [List.length_append,List.length_cons,List.length_nil]; omega,by simp only [List.length_append,List.length_cons,List.length_nil]; omega,fin⟩
  · rintro ys H' ⟨rfl,rfl⟩ o ho
    rw [xl,List.take_length]
    exact q o ho
def spRenTexts (K:PySem.W.Frag):Sp:=fun vs H Q _=>∃ (L:Nat) (p:Addr) (xs:List V) (r:List RwN),vs = [.ref p]∧H p = some (.lst xs)∧Prs H xs (r.map rowP)∧RowsT L r∧∀ H' o,Same H H'→H o = none→H' o = some (.lst ((renT r).map strV))→Q (.ref o) H'
def rdRenTexts (K:PySem.W.Frag):TS:=
    tSeq (tAsg (tCB (rLenL K) (tCons (tVar 0) tNil)) (gName 1))
      (tRet (tOp rCat (tLst (tCons (tFstr [.raw (tC (.str (txt [114,101,110,101,119,97,108,32]))),.fmt (tVar 1)]) tNil)) (tCall (spRowTexts K) [] E0 (tCons (tVar 0) tNil))))
theorem read_renTexts {K:PySem.W.Frag} {N:List Str} {vs:List V} {H:Hp} {Q:VK} {E:XK} (hN:N.length = 2) (h:spRenTexts K vs H Q E):rdRenTexts K { nx:=fun _ H'=>Q .non H',rt:=Q } (L2.start N vs) H:=by
  obtain ⟨L,p,xs,r,rfl,hp,hr,R,q⟩:=h
  have few:=R.few
  have xl:=hr.len
  rw [List.length_map] at xl
  unfold rdRenTexts L2.start
  rw [hN]
  refine seq_set fun c hc=>?_
  and_intros
  refine lenL_go (SqL.of hp) (hc _ _ ?_)
  clear hc c
  rw [xl]
  have nl:=(num_ok r.length (by omega)).2.2
  and_intros
  refine ⟨[114,101,110,101,119,97,108,32],rfl,by decide,_,rfl,num r.length,fmt_num (by omega),by simp only [List.length_append,List.length_cons,List.length_nil]; omega,by simp only [List.length_append,List.length_cons,List.length_nil]; omega,by decide,fun p1 hp1=>?_⟩
  have s1:=Same.up H hp1 (o:=.lst [.str (txt ([] ++ [114,101,110,101,119,97,108,32] ++ num r.length))])
  have e1:(upd H p1 (.lst [.str (txt ([] ++ [114,101,110,101,119,97,108,32] ++ num r.length))])) p1 = some (.lst [strV (kRnw ++ [32] ++ num r.length)]):=upd_same
  generalize upd H p1 _ = H1 at s1 e1 ⊢
  refine ⟨L,p,xs,r,rfl,s1 _ _ hp,hr.same s1,R,fun o ho=>?_⟩
  have n1:p1 ≠ o:=fun z=>by subst z; rw [e1] at ho; cases ho
  refine cat_go (a:=p1) (b:=o) (by rw [upd_ne n1]; exact e1) upd_same (by simp only [List.length_cons,List.length_nil,List.length_map]; omega) fun l hl=>?_
  exact q _ l ((s1.new ho).new hl) ((s1.new ho).free1 hl) (by rw [upd_same]; rfl)
def spThTexts (K:PySem.W.Frag):Sp:=fun vs H Q _=>∃ (L:Nat) (p p2:Addr) (xs:List V) (zs:List (List Nat × List Nat)) (ws:List (List Nat)),vs = [.ref p,.ref p2]∧H p = some (.lst xs)∧Prs H xs (zs.map stP)∧H p2 = some (.lst (ws.map strV))∧ThingsT L zs ws∧∀ H' o,Same H H'→H o = none→H' o = some (.lst ((zs.map (thT ws)).map strV))→Q (.ref o) H'
def rdThTexts (K:PySem.W.Frag):TS:=
    tSeq (tAsg (tCB rDictOf (tCons (tComp (iList K (tVar 1)) [] tYes (tTup (tCons (tVar 0) (tCons (tC (.bl true)) tNil)))) tNil)) (gName 2))
      (tRet (tComp2 K (iList K (tVar 0)) [2] tYes (tIf (tTest (tOp (rInD false) (tVar 0) (tVar 2))) (tFstr [.fmt (tVar 0),.raw (tC (.str (txt [32]))),.fmt (tVar 1),.raw (tC (.str (txt [32,116,97,107,101,110])))]) (tFstr [.fmt (tVar 0),.raw (tC (.str (txt [32]))),.fmt (tVar 1)]))))
def TkInv (H:Hp) (ws:List (List Nat)):Nat→List V→Hp→Prop:=fun i ys H'=>Same H H'∧PrK H' ys (tkD (ws.take i))∧ys.length = i
theorem merge_tk {ws:List (List Nat)} (nd:ws.Nodup):mergeK [] (tkD ws) = tkD ws:=by
  rw [mergeK_new _ _ (by
    rw [List.nil_append,tkD,List.map_map]
    have:=List.pairwise_map.mpr (List.Pairwise.imp (S:=fun a b=>(Key.inr (txt a):Key) ≠ Key.inr (txt b)) (fun n e=>n (txt_inj.mp (by injection e))) nd)
    exact this)]
  rfl
theorem ThingsT.taken {L:Nat} {zs:List (List Nat × List Nat)} {ws:List (List Nat)} (T:ThingsT L zs ws):ws.length ≤ 60∧ws.Nodup:=by
  have e:=T.tak
  have few:=T.few
  constructor
  · rw [e]
    refine Nat.le_trans (List.length_filter_le _ _) ?_
    rw [List.length_map]; exact few
  · rw [e]; exact (nodup_up T.up).filter _
theorem read_thTexts {K:PySem.W.Frag} {N:List Str} {vs:List V} {H:Hp} {Q:VK} {E:XK} (hN:N.length = 3) (h:spThTexts K vs H Q E):rdThTexts K { nx:=fun _ H'=>Q .non H',rt:=Q } (L2.start N vs) H:=by
  obtain ⟨L,p,p2,xs,zs,ws,rfl,hp,hz,hp2,T,q⟩:=h
  obtain ⟨wl,wnd⟩:=T.taken
  have few:=T.few
  have xl:=hz.len
  rw [List.length_map] at xl
  unfold rdThTexts L2.start
  rw [hN]
  refine seq_set fun c hc=>?_
  and_intros
  refine comp_l (a:=p2) (xs:=ws.map strV) (fun Q h=>⟨_,rfl,h⟩) (SqL.of hp2) (TkInv H ws) ⟨Same.refl _,⟨rfl,fun i k v e=>by simp [tkD] at e⟩,rfl⟩ (fun i ys H' _ h=>⟨SqL.of (h.1 _ _ hp2),by rw [h.2.2]; exact Nat.le_refl _⟩) (by rw [List.length_map,sizeLine_eq]; omega) ?_ ?_
  · rintro i v ys H' hv ⟨s',⟨pl,pa⟩,rfl⟩ W hW
    rw [List.getElem?_map] at hv
    obtain ⟨m,hm,rfl⟩:=Option.map_eq_some_iff.mp hv
    simp? [strV]
    refine ⟨by decide,fun t ht=>?_⟩
    have s2:=Same.up H' ht (o:=.tup [.str (txt m),.bl true])
    have etk:ws.take (ys.length + 1) = ws.take ys.length ++ [m]:=by rw [List.take_add_one,hm]; rfl
    refine hW _ _ ⟨s'.trans s2,⟨?_,fun i k v e=>?_⟩,by rw [List.length_append]; rfl⟩
    · have e1:(tkD (ws.take (ys.length + 1))).length = (tkD (ws.take ys.length)).length + 1:=by rw [etk,tkD,List.map_append,List.length_append]; rfl
      rw [List.length_append,e1,← pl]; rfl
    · rw [etk,tkD,List.map_append] at e
      by_cases hi:i < ys.length
      · rw [List.getElem?_append_left (by rw [List.length_map,List.length_take]; rw [tkD,List.length_map,List.length_take] at pl; omega)] at e
        obtain ⟨t',h1,h2⟩:=pa i k v e
        exact ⟨t',by rw [List.getElem?_append_left hi]; exact h1,s2 _ _ h2⟩
      · have hlt:(ws.take ys.length).length = ys.length:=by rw [tkD,List.length_map] at pl; exact pl.symm
        rw [List.getElem?_append_right (by rw [List.length_map,hlt]; omega),List.length_map,hlt] at e
        have hi2:i - ys.length = 0:=by
          rcases Nat.eq_zero_or_pos (i - ys.length) with z | z
          · exact z
          · rw [List.getElem?_eq_none (by simp; omega)] at e; cases e
        rw [hi2] at e
        cases e
        exact ⟨t,by rw [List.getElem?_append_right (by omega),hi2]; rfl,upd_same⟩
  rintro ys H1 ⟨s1,pk,hyl⟩ l hl
  rw [List.length_map,List.take_length] at pk
  have s2:=s1.new hl (o:=.lst ys)
  have u2:=Same.up H1 hl (o:=.lst ys)
  have e2:(upd H1 l (.lst ys)) l = some (.lst ys):=upd_same
  have pk2:PrK (upd H1 l (.lst ys)) ys (tkD ws):=⟨pk.1,fun i k v e=>by obtain ⟨t,a,b⟩:=pk.2 i k v e; exact ⟨t,a,u2 _ _ b⟩⟩
  generalize upd H1 l _ = H2 at s2 u2 e2 pk2 ⊢
  refine ⟨l,ys,tkD ws,rfl,e2,pk2,fun d hd=>hc _ _ ?_⟩
  clear hc c
  rw [merge_tk wnd]
  have s3:=s2.new hd (o:=.dK (tkD ws))
  have e3:(upd H2 d (.dK (tkD ws))) d = some (.dK (tkD ws)):=upd_same
  generalize upd H2 d _ = H3 at s3 e3 ⊢
  have hz3:=hz.same s3
  and_intros
  refine comp2_l (a:=p) (xs:=xs) (fun Q h=>⟨_,rfl,h⟩) (SqL.of (s3 _ _ hp)) (fun i ys H'=>H' = H3∧ys = ((zs.take i).map (thT ws)).map strV) ⟨rfl,rfl⟩ (fun i ys H' _ h=>by
    rw [h.1,h.2,List.length_map,List.length_map,List.length_take]
    exact ⟨SqL.of (s3 _ _ hp),Nat.min_le_left _ _⟩) (by rw [xl,sizeLine_eq]; omega) ?_ ?_
  · rintro i x ys H' hx ⟨rfl,rfl⟩
    obtain ⟨pp,t,e1,rfl,ht⟩:=hz3.get hx
    rw [List.getElem?_map] at e1
    obtain ⟨z,ez,rfl⟩:=Option.map_eq_some_iff.mp e1
    refine ⟨t,strV z.1,strV z.2,rfl,SqT.of ht,fun W hW=>?_⟩
    have hzm:=List.mem_of_getElem? ez
    have o:=(T.mar z hzm).2.1
    have o2:=(T.mar z hzm).2.2.2.1
    have etk:zs.take (i + 1) = zs.take i ++ [z]:=by rw [List.take_add_one,ez]; rfl
    have fin:W (((zs.take i).map (thT ws)).map strV ++ [strV (thT ws z)]) H':=hW _ _ ⟨rfl,by rw [etk,List.map_append,List.map_append]; rfl⟩
    simp? [strV]
    refine ⟨d,_,rfl,DGet.k (k:=Key.inr (txt z.1)) e3,_,rfl,?_⟩
    rw [val_tk]
    by_cases y:z.1 ∈ ws
    · rw [if_pos (by simp [y])]
      have er:thT ws z = [] ++ z.1 ++ [32] ++ z.2 ++ [32,116,97,107,101,110]:=by unfold thT; rw [if_pos y]; rfl
      rw [er] at fin
      exact ⟨_,rfl,z.1,.inl rfl,by simp only [List.length_nil]; omega,[32],rfl,by simp only [List.length_append,List.length_cons,List.length_nil]; omega,_,rfl,z.2,.inl rfl,by simp only [List.length_append,List.length_cons,List.length_nil]; omega,[32,116,97,107,101,110],rfl,by simp only [List.length_append,List.length_cons,List.length_nil]; omega,by simp only [List.length_append,List.length_cons,List.length_nil]; omega,fin⟩
    · rw [if_neg (by simp [y])]
      have er:thT ws z = [] ++ z.1 ++ [32] ++ z.2:=by unfold thT; rw [if_neg y]; rfl
      rw [er] at fin
      exact ⟨_,rfl,z.1,.inl rfl,by simp only [List.length_nil]; omega,[32],rfl,by simp only [List.length_append,List.length_cons,List.length_nil]; omega,_,rfl,z.2,.inl rfl,by simp only [List.length_append,List.length_cons,List.length_nil]; omega,by simp only [List.length_append,List.length_cons,List.length_nil]; omega,fin⟩
  · rintro ys H' ⟨rfl,rfl⟩ o ho
    rw [xl,List.take_length]
    exact q _ o (s3.new ho) (s3.free1 ho) upd_same
theorem ren_len {L:Nat}:∀ {R:List (List RwN)},(∀ r ∈ R,RowsT L r)→(R.flatMap renT).length ≤ 61 * R.length
  | [],_=>Nat.le_refl _
  | r :: R,h=>by
    have ih:=ren_len (R:=R) fun x hx=>h x (List.mem_cons_of_mem _ hx)
    have:=(h r List.mem_cons_self).few
    rw [List.flatMap_cons,List.length_append,renT,List.length_cons,List.length_map,List.length_cons]
    omega
def spStTexts (K:PySem.W.Frag):Sp:=fun vs H Q _=>∃ (p p1 p2 p3:Addr) (bs:List Addr) (ts:List V) (L h:Nat) (R:List (List RwN)) (zs:List (List Nat × List Nat)) (ws:List (List Nat)),vs = [.ref p]∧StA H p p1 p2 p3 bs ts L h R zs ws∧StateT L h R zs ws∧∀ H' o,Same H H'→H o = none→H' o = some (.lst ((stT L h R zs ws).map strV))→Q (.ref o) H'
def rdStTexts (K:PySem.W.Frag):TS:=
    tSeq (tAsg (tOp (rIxT K) (tVar 0) (tC (.int 0))) (gName 1))
      (tSeq (tAsg (tOp (rIxT K) (tVar 0) (tC (.int 1))) (gName 2))
      (tSeq (tAsg (tCB (rLenL K) (tCons (tOp (rIxT K) (tVar 0) (tC (.int 2))) tNil)) (gName 3))
      (tSeq (tAsg (tLst (tCons (tFstr [.fmt (tVar 1),.raw (tC (.str (txt [32]))),.fmt (tVar 2),.raw (tC (.str (txt [32]))),.fmt (tVar 3)]) tNil)) (gName 4))
      (tSeq (tFor (iList K (tOp (rIxT K) (tVar 0) (tC (.int 2)))) (gName 5) (tDrop (tBM K "list" rExtend (tVar 4) (tCons (tCall (spRenTexts K) [] E0 (tCons (tVar 5) tNil)) tNil))))
      (tRet (tOp rCat (tVar 4) (tCall (spThTexts K) [] E0 (tCons (tOp (rIxT K) (tVar 0) (tC (.int 3))) (tCons (tOp (rIxT K) (tVar 0) (tC (.int 4))) tNil)))))))))
def StInv (H:Hp) (p p4:Addr) (L h:Nat) (R:List (List RwN)):Nat→St→Hp→Prop:=fun i σ H'=>∃ v5,Keeps [p4] H H'∧H' p4 = some (.lst ((headT L h R.length :: (R.take i).flatMap renT).map strV))∧σ = [some (.ref p),some (.int L),some (.int h),some (.int R.length),some (.ref p4),v5]
theorem read_stTexts {K:PySem.W.Frag} {N:List Str} {vs:List V} {H:Hp} {Q:VK} {E:XK} (hN:N.length = 6) (h:spStTexts K vs H Q E):rdStTexts K { nx:=fun _ H'=>Q .non H',rt:=Q } (L2.start N vs) H:=by
  obtain ⟨p,p1,p2,p3,bs,ts,L,h,R,zs,ws,rfl,A,T,q⟩:=h
  have bl:=A.row.len
  have few:=T.few
  have hl26:=T.l26
  have hhL:=T.hL
  unfold rdStTexts L2.start
  rw [hN]
  refine seq_set fun c hc=>?_
  and_intros
  refine ixT_go (v:=.int L) (SqT.of A.top) (by decide) rfl (hc _ _ ?_)
  clear hc c
  refine seq_set fun c hc=>?_
  and_intros
  refine ixT_go (v:=.int h) (SqT.of A.top) (by decide) rfl (hc _ _ ?_)
  clear hc c
  refine seq_set fun c hc=>?_
  and_intros
  refine ixT_go (v:=.ref p1) (SqT.of A.top) (by decide) rfl (lenL_go (SqL.of A.ren) (hc _ _ ?_))
  clear hc c
  rw [List.length_map,bl]
  have n1:=(num_ok L (by omega)).2.2
  have n2:=(num_ok h (by omega)).2.2
  have n3:=(num_ok R.length (by omega)).2.2
  refine seq_set fun c hc=>?_
  simp only [List.set_cons_zero,List.set_cons_succ,List.replicate_succ,List.replicate_zero,List.map_cons,List.map_nil,List.cons_append,List.nil_append]
  refine ⟨_,rfl,num L,fmt_num (by omega),by simp only [List.length_nil]; omega,[32],rfl,by simp only [List.length_append,List.length_cons,List.length_nil]; omega,_,rfl,num h,fmt_num (by omega),by simp only [List.length_append,List.length_cons,List.length_nil]; omega,[32],rfl,by simp only [List.length_append,List.length_cons,List.length_nil]; omega,_,rfl,num R.length,fmt_num (by omega),by simp only [List.length_append,List.length_cons,List.length_nil]; omega,by simp only [List.length_append,List.length_cons,List.length_nil]; omega,(show 1 ≤ sizeLine by decide),fun p4 hp4=>hc _ _ ?_⟩
  clear hc c
  have s1:=Same.up H hp4 (o:=.lst [.str (txt ([] ++ num L ++ [32] ++ num h ++ [32] ++ num R.length))])
  have e1:(upd H p4 (.lst [.str (txt ([] ++ num L ++ [32] ++ num h ++ [32] ++ num R.length))])) p4 = some (.lst ((headT L h R.length :: (R.take 0).flatMap renT).map strV)):=upd_same
  generalize upd H p4 _ = H1 at s1 e1 ⊢
  have nosub:∀ b ∈ [p4],H b = none:=fun b hb=>by rw [List.mem_singleton.mp hb]; exact hp4
  refine seq_any fun c hc=>?_
  have A1:=A.same s1
  refine for_l (a:=p1) (xs:=bs.map V.ref) (fun Q h=>by and_intros; exact ixT_go (v:=.ref p1) (SqT.of A1.top) (by decide) rfl h) (SqL.of A1.ren) (StInv H1 p p4 L h R) ⟨none,fun b o e _=>e,e1,rfl⟩ (fun i σ H' _ h=>?_) ?_ ?_
  · obtain ⟨_,k',_⟩:=h
    exact SqL.of ((same_keep s1 k' nosub) _ _ A.ren)
  · rintro i y σ H' hy ⟨v5,k',l',rfl⟩
    rw [List.getElem?_map] at hy
    obtain ⟨b,hb,rfl⟩:=Option.map_eq_some_iff.mp hy
    have sH:=same_keep s1 k' nosub
    obtain ⟨r,xs,er,hx,px⟩:=(A.row.same sH).get hb
    have hR:=T.rows r (List.mem_of_getElem? er)
    have hil:i < R.length:=(List.getElem?_eq_some_iff.mp er).1
    and_intros
    refine ⟨.inl ⟨rfl,_,SqL.of l'⟩,L,b,xs,r,rfl,hx,px,hR,fun H2 o s2 ho eo=>?_⟩
    have l2:=s2 _ _ l'
    have len1:=ren_len (R:=R.take i) fun r hr=>T.rows r (List.mem_of_mem_take hr)
    rw [List.length_take] at len1
    have fr:=hR.few
    refine ⟨p4,o,_,_,rfl,rfl,l2,eo,by
      rw [List.length_map,List.length_map,List.length_cons,renT,List.length_cons,List.length_map,sizeLine_eq]
      omega,_,k'.trans ((s2.keeps _).upd (.inl List.mem_cons_self)),?_,rfl⟩
    have etk:R.take (i + 1) = R.take i ++ [r]:=by rw [List.take_add_one,er]; rfl
    rw [upd_same,etk,List.flatMap_append,← List.map_append]
    simp
  rintro σ H2 ⟨v5,k2,l2,rfl⟩
  rw [List.length_map,bl,List.take_length] at l2
  refine hc _ _ ?_
  clear hc c
  have s2:=same_keep s1 k2 nosub
  have A2:=A.same s2
  have len1:=ren_len (R:=R) T.rows
  have tf:=T.things.few
  and_intros
  refine ixT_go (v:=.ref p2) (SqT.of A2.top) (by decide) rfl (ixT_go (v:=.ref p3) (SqT.of A2.top) (by decide) rfl ⟨L,p2,p3,ts,zs,ws,rfl,A2.thi,A2.prs,A2.tak,T.things,fun H3 o s3 ho eo=>?_⟩)
  refine cat_go (a:=p4) (b:=o) (s3 _ _ l2) eo (by
    rw [List.length_map,List.length_map,List.length_cons,List.length_map]
    omega) fun l hl=>?_
  have s23:=s2.trans s3
  refine q _ l (s23.new hl) (s23.free1 hl) ?_
  rw [upd_same,stT,← List.map_append]
  simp
def spAskText:Sp:=fun vs H Q _=>∃ i:Int,vs = [.bl true,.int i]∧Q .non H
def rdAskText:TS:=tIfS (tNot (tB (tVar 0))) (tNever) (tNext)
theorem read_askText {N:List Str} {vs:List V} {H:Hp} {Q:VK} {E:XK} (hN:N.length = 2) (h:spAskText vs H Q E):rdAskText { nx:=fun _ H'=>Q .non H',rt:=Q } (L2.start N vs) H:=by
  obtain ⟨i,rfl,q⟩:=h
  unfold rdAskText L2.start
  rw [hN]
  and_intros
  exact q
def spWordsAt (K:PySem.W.Frag):Sp:=fun vs H Q _=>∃ (p:Addr) (ts:List (List Nat)) (i:Nat) (wds:List (List Nat)),vs = [.ref p,.int i]∧SqL K H p (ts.map strV)∧ts[i]? = some (joinL [32] wds)∧(joinL [32] wds).length ≤ 100000∧wds ≠ []∧(∀ w ∈ wds,32 ∉ w)∧∀ o,H o = none→Q (.ref o) (upd H o (.lst (wds.map strV)))
def rdWordsAt (K:PySem.W.Frag):TS:=
    tRet (tIf (tTest (tOp rLtI (tVar 1) (tCB (rLenL K) (tCons (tVar 0) tNil)))) (tBM K "str" rSplit (tOp (rIxL K) (tVar 0) (tVar 1)) (tCons (tC (.str (txt [32]))) tNil)) (tLst tNil))
theorem read_wordsAt {K:PySem.W.Frag} {N:List Str} {vs:List V} {H:Hp} {Q:VK} {E:XK} (hN:N.length = 2) (h:spWordsAt K vs H Q E):rdWordsAt K { nx:=fun _ H'=>Q .non H',rt:=Q } (L2.start N vs) H:=by
  obtain ⟨p,ts,i,wds,rfl,hp,ht,hl,hne,hf,q⟩:=h
  unfold rdWordsAt L2.start
  rw [hN]
  and_intros
  refine lenL_go hp ⟨_,rfl,?_⟩
  rw [List.length_map,if_pos (by have:=(List.getElem?_eq_some_iff.mp ht).1; omega)]
  refine ixL_go (v:=strV (joinL [32] wds)) hp (by omega) (by rw [Int.toNat_natCast,List.getElem?_map,ht]; rfl) ⟨rfl,joinL [32] wds,32,rfl,rfl,hl,fun o ho=>?_⟩
  rw [splitL_join wds hne hf]
  exact q o ho
def spIsNumber:Sp:=fun vs H Q _=>∃ l:List Nat,vs = [.str (txt l)]∧l.length ≤ 100000∧∀ H',Same H H'→Q (.bl (isNum l)) H'
def rdIsNumber (K:PySem.W.Frag):TS:=
    tSeq (tIfS (tOr (tTest (tOp rEq (tVar 0) (tC (.str (txt []))))) (tTest (tOp rGtI (tCB rLenS (tCons (tVar 0) tNil)) (tC (.int 4))))) (tRet (tC (.bl false))) (tNext))
      (tSeq (tIfS (tB (tBM K "str" rStarts (tVar 0) (tCons (tC (.str (txt [48]))) tNil))) (tRet (tOp rEq (tVar 0) (tC (.str (txt [48]))))) (tNext))
      (tRet (tCB (rAllB K) (tCons (tComp (iStr (tVar 0)) [] tYes (tOp rIn1 (tVar 0) (tC (.str (txt [48,49,50,51,52,53,54,55,56,57]))))) tNil))))
theorem read_isNumber {K:PySem.W.Frag} {N:List Str} {vs:List V} {H:Hp} {Q:VK} {E:XK} (hN:N.length = 1) (h:spIsNumber vs H Q E):rdIsNumber K { nx:=fun _ H'=>Q .non H',rt:=Q } (L2.start N vs) H:=by
  obtain ⟨l,rfl,hz,q⟩:=h
  unfold rdIsNumber L2.start
  rw [hN]
  and_intros
  refine ⟨rfl,?_⟩
  by_cases h1:l = []
  · rw [if_pos h1]
    have:isNum l = false:=by rw [h1]; rfl
    rw [← this]
    exact q _ (Same.refl _)
  rw [if_neg h1]
  refine lenS_go hz ⟨_,rfl,?_⟩
  by_cases h2:(4:Int) < (l.length:Int)
  · rw [if_pos h2]
    have:isNum l = false:=by
      unfold isNum
      rw [decide_eq_false (show ¬ l.length ≤ 4 by omega)]
      simp
    rw [← this]
    exact q _ (Same.refl _)
  rw [if_neg h2]
  have base:isNum l = (if l.head? = some 48 then decide (l = [48]) else l.all fun c=>decide (c ∈ FIGS)):=by
    unfold isNum
    rw [decide_eq_false h1,decide_eq_true (show l.length ≤ 4 by omega)]
    rfl
  refine ⟨rfl,l,48,rfl,rfl,_,rfl,?_⟩
  by_cases h3:l.head? = some 48
  · rw [if_pos h3] at base
    rw [if_pos (decide_eq_true h3)]
    refine ⟨rfl,?_⟩
    rw [← base]
    exact q _ (Same.refl _)
  · rw [if_neg h3] at base
    rw [if_neg (by rw [decide_eq_false h3]; decide)]
    refine comp_s (l:=l) (fun Q h=>⟨_,rfl,h⟩) (Nat.le_trans (show l.length ≤ 100000 by omega) (by decide)) (fun i ys H'=>H' = H∧ys = ((l.take i).map fun c=>decide (c ∈ FIGS)).map V.bl) ⟨rfl,rfl⟩
      (fun i ys H' _ p=>by rw [p.2,List.length_map,List.length_map,List.length_take]; omega) ?_ ?_
    · rintro i c ys H' hc ⟨rfl,rfl⟩ R hR
      and_intros
      refine ⟨c,_,rfl,rfl,hR _ _ ⟨rfl,?_⟩⟩
      rw [List.take_succ,hc,List.map_append,List.map_append]
      rfl
    · rintro ys H' ⟨rfl,rfl⟩ p hp
      rw [List.take_length]
      refine ⟨p,_,rfl,SqL.here,?_⟩
      have e:(l.map fun c=>decide (c ∈ FIGS)).all id = isNum l:=by rw [base,List.all_map]; rfl
      rw [e]
      exact q _ (Same.up _ hp)
def spIsNumberTo:Sp:=fun vs H Q _=>∃ (n m:Nat),vs = [.str (txt (num n)),.int m]∧n < 64∧n ≤ m∧∀ H',Same H H'→Q (.bl true) H'
def rdIsNumberTo:TS:=tRet (tAndV (tCall spIsNumber [] E0 (tCons (tVar 0) tNil)) (tOp rLeI (tCB rIntS (tCons (tVar 0) tNil)) (tVar 1)))
theorem read_isNumberTo {N:List Str} {vs:List V} {H:Hp} {Q:VK} {E:XK} (hN:N.length = 2) (h:spIsNumberTo vs H Q E):rdIsNumberTo { nx:=fun _ H'=>Q .non H',rt:=Q } (L2.start N vs) H:=by
  obtain ⟨n,m,rfl,hn,hm,q⟩:=h
  obtain ⟨_,i2,i3⟩:=num_ok n hn
  unfold rdIsNumberTo L2.start
  rw [hN]
  and_intros
  refine ⟨num n,rfl,by omega,fun H1 s1=>⟨_,rfl,?_⟩⟩
  rw [i2]
  and_intros
  refine ⟨num n,n,rfl,by omega,num_int hn,_,rfl,?_⟩
  rw [decide_eq_true (show (n:Int) ≤ (m:Int) by omega)]
  exact q _ s1
def spMarkBehind:Sp:=fun vs H Q _=>∃ (L:Nat) (l w:List Nat),vs = [.int L,.str (txt l),.str (txt w)]∧L ≤ 26∧Mark L w∧w.length ≤ 1000∧l < w∧∀ H',Same H H'→Q (.bl true) H'
def rdMarkBehind:TS:=tRet (tAndV (tCall spIsMark [] E0 (tCons (tVar 0) (tCons (tVar 2) tNil))) (tOp rLtS (tVar 1) (tVar 2)))
theorem read_markBehind {N:List Str} {vs:List V} {H:Hp} {Q:VK} {E:XK} (hN:N.length = 3) (h:spMarkBehind vs H Q E):rdMarkBehind { nx:=fun _ H'=>Q .non H',rt:=Q } (L2.start N vs) H:=by
  obtain ⟨L,l,w,rfl,hL,mw,wl,lt,q⟩:=h
  unfold rdMarkBehind L2.start
  rw [hN]
  and_intros
  refine ⟨L,w,rfl,hL,by omega,fun H1 s1=>⟨_,rfl,?_⟩⟩
  rw [markB_iff.mpr mw]
  and_intros
  refine ⟨_,_,rfl,rfl,?_⟩
  rw [decide_eq_true lt]
  exact q _ s1
theorem head_join (L h g:Nat):headT L h g = joinL [32] [num L,num h,num g]:=by
  rw [joinL_cons,joinL_cons]
  show num L ++ [32] ++ num h ++ [32] ++ num g = num L ++ [32] ++ (num h ++ [32] ++ num g)
  simp only [List.append_assoc]
theorem free_mark {L:Nat} {m:List Nat} (h:Mark L m):32 ∉ m:=fun z=>by have:=h.ls 32 z; omega
theorem free_thing {t:List Nat} (h:Thing t):32 ∉ t:=fun z=>by have:=h.2.2 32 z; revert this; decide
def rowW (y:RwN):List (List Nat):=match y.2 with
  | none=>[y.1,[45]]
  | some n=>[y.1,n]
theorem row_join (y:RwN):rowT y = joinL [32] (rowW y):=by
  unfold rowT rowW
  cases y.2 with
  | none=>rw [joinL_cons]; show y.1 ++ [32,45] = y.1 ++ [32] ++ [45]; simp
  | some n=>rw [joinL_cons]; rfl
def spReadHead (K:PySem.W.Frag):Sp:=fun vs H Q _=>∃ (p:Addr) (ts:List (List Nat)) (L h g:Nat),vs = [.ref p]∧SqL K H p (ts.map strV)∧ts[0]? = some (headT L h g)∧2 ≤ L∧L ≤ 26∧1 ≤ h∧h < L∧g ≤ 60∧∀ H' o,Same H H'→H o = none→H' o = some (.lst [.int L,.int h,.int g])→Q (.ref o) H'
def rdReadHead (K:PySem.W.Frag) (c:Addr):TS:=
    tSeq (tAsg (tCall (spWordsAt K) [] E0 (tCons (tVar 0) (tCons (tC (.int 0)) tNil))) (gName 1))
      (tSeq (tDrop (tCall spAskText [] E0 (tCons (tAndV (tOp rEq (tCB (rLenL K) (tCons (tVar 1) tNil)) (tC (.int 3))) (tCB (rAllB K) (tCons (tComp (iList K (tVar 1)) [] tYes (tCall spIsNumber [] E0 (tCons (tVar 0) tNil))) tNil))) (tCons (tC (.int 0)) tNil))))
      (tSeq (tCompSet 2 (iList K (tVar 1)) [] tYes (tCB rIntS (tCons (tVar 0) tNil)))
      (tSeq (tTry K c (fun Φ=>tDrop (tCallX (spAskL c) Φ (tCons (tOp (rIxL K) (tVar 2) (tC (.int 0))) (tCons (tOp (rIxL K) (tVar 2) (tC (.int 1))) tNil)))) (tNever))
      (tSeq (tDrop (tCall spAskText [] E0 (tCons (tOp rLeI (tOp (rIxL K) (tVar 2) (tC (.int 2))) (tC (.int 1000))) (tCons (tC (.int 0)) tNil))))
      (tRet (tVar 2))))))
theorem read_readHead {K:PySem.W.Frag} {c0:Addr} {N:List Str} {vs:List V} {H:Hp} {Q:VK} {E:XK} (hN:N.length = 3) (h:spReadHead K vs H Q E):rdReadHead K c0 { nx:=fun _ H'=>Q .non H',rt:=Q } (L2.start N vs) H:=by
  obtain ⟨p,ts,L,h,g,rfl,hp,ht,l2,l26,h1,hL,hg,q⟩:=h
  rw [head_join] at ht
  have a1:=num_ok L (by omega)
  have a2:=num_ok h (by omega)
  have a3:=num_ok g (by omega)
  have hns:∀ n ∈ [L,h,g],n < 64:=fun n hn=>by simp only [List.mem_cons,List.not_mem_nil,or_false] at hn; omega
  have ew:[num L,num h,num g] = [L,h,g].map num:=rfl
  unfold rdReadHead L2.start
  rw [hN]
  refine seq_set fun c hc=>?_
  and_intros
  refine ⟨p,ts,0,[num L,num h,num g],rfl,hp,ht,by
    rw [← head_join,headT]
    simp only [List.length_append,List.length_cons,List.length_nil]
    omega,by simp,fun w hw=>by
    simp only [List.mem_cons,List.not_mem_nil,or_false] at hw
    rcases hw with rfl | rfl | rfl
    · exact num_free (by omega)
    · exact num_free (by omega)
    · exact num_free (by omega),fun o ho=>hc _ _ ?_⟩
  clear hc c
  have s1:=Same.up H ho (o:=.lst ([num L,num h,num g].map strV))
  have e1:(upd H o (.lst ([num L,num h,num g].map strV))) o = some (.lst (([L,h,g].map num).map strV)):=upd_same
  generalize upd H o _ = H1 at s1 e1 ⊢
  simp only [List.set_cons_zero,List.set_cons_succ,List.replicate_succ,List.replicate_zero,List.map_cons,List.map_nil,List.cons_append,List.nil_append]
  refine seq_any fun c hc=>?_
  suffices main:∀ H2,Same H1 H2→c [some (.ref p),some (.ref o),none] H2 by
    and_intros
    refine lenL_go (SqL.of e1) ⟨rfl,?_⟩
    rw [if_pos (show V.int (((([L,h,g].map num).map strV).length:Nat):Int) = V.int 3 from rfl)]
    refine comp_l (a:=o) (xs:=([L,h,g].map num).map strV) (fun Q h=>⟨_,rfl,h⟩) (SqL.of e1) (fun i ys H'=>Same H1 H'∧ys = (List.replicate i true).map V.bl) ⟨Same.refl _,rfl⟩ (fun i ys H' _ p=>⟨SqL.of (p.1 _ _ e1),by rw [p.2,List.length_map,List.length_replicate]; exact Nat.le_refl _⟩) (show 3 ≤ sizeLine by decide) ?_ ?_
    · rintro i v ys H' hv ⟨s',rfl⟩ W hW
      rw [List.getElem?_map,List.getElem?_map] at hv
      obtain ⟨w,hw,rfl⟩:=Option.map_eq_some_iff.mp hv
      obtain ⟨n,hn,rfl⟩:=Option.map_eq_some_iff.mp hw
      obtain ⟨_,i2,i3⟩:=num_ok n (hns n (List.mem_of_getElem? hn))
      simp? [strV]
      refine ⟨num n,rfl,by omega,fun H2 s2=>?_⟩
      rw [i2]
      refine hW _ _ ⟨s'.trans s2,?_⟩
      rw [List.replicate_succ',List.map_append]
      rfl
    · rintro ys H' ⟨s',rfl⟩ p5 hp5
      refine ⟨p5,_,rfl,SqL.here,0,?_,main _ (s'.new hp5)⟩
      simp
  intro H2 s2
  refine hc _ _ ?_
  clear hc c
  have s12:=s1.trans s2
  have e2:=s2 _ _ e1
  refine seq_cset fun c hc=>?_
  refine comp_l (a:=o) (xs:=([L,h,g].map num).map strV) (fun Q h=>⟨_,rfl,h⟩) (SqL.of e2) (fun i ys H'=>H' = H2∧ys = (([L,h,g].take i).map fun n=>.int (n:Nat))) ⟨rfl,rfl⟩ (fun i ys H' _ p=>⟨by rw [p.1]; exact SqL.of e2,by rw [p.2,List.length_map,List.length_take]; exact Nat.min_le_left _ _⟩) (show 3 ≤ sizeLine by decide) ?_ ?_
  · rintro i v ys H' hv ⟨rfl,rfl⟩ W hW
    rw [List.getElem?_map,List.getElem?_map] at hv
    obtain ⟨w,hw,rfl⟩:=Option.map_eq_some_iff.mp hv
    obtain ⟨n,hn,rfl⟩:=Option.map_eq_some_iff.mp hw
    have i3:=(num_ok n (hns n (List.mem_of_getElem? hn))).2.2
    simp? [strV]
    refine ⟨num n,n,rfl,by omega,num_int (hns n (List.mem_of_getElem? hn)),hW _ _ ⟨rfl,?_⟩⟩
    rw [List.take_add_one,hn,List.map_append]
    rfl
  rintro ys H3 ⟨rfl,rfl⟩ o2 ho2
  refine hc _ _ ?_
  clear hc
  have s3:=s12.new ho2 (o:=.lst ([L,h,g].map fun n=>.int (n:Nat)))
  have f3:=s12.free1 ho2
  have e3:(upd H3 o2 (.lst (([L,h,g].take (([L,h,g].map num).map strV).length).map fun n=>.int (n:Nat)))) o2 = some (.lst [.int L,.int h,.int g]):=upd_same
  have s3:Same H (upd H3 o2 (.lst (([L,h,g].take (([L,h,g].map num).map strV).length).map fun n=>.int (n:Nat)))):=s12.new ho2
  generalize upd H3 o2 _ = H4 at s3 e3 ⊢
  simp only [List.set_cons_zero,List.set_cons_succ]
  refine seq_any fun c hc=>?_
  simp? [tTry,tCallX]
  refine ixL_go (v:=.int L) (SqL.of e3) (by decide) rfl (ixL_go (v:=.int h) (SqL.of e3) (by decide) rfl ?_)
  refine ⟨L,h,rfl,fun _=>hc _ _ ?_,fun z=>absurd ⟨by omega,by omega,by omega,by omega⟩ z⟩
  clear hc c
  refine seq_any fun c hc=>?_
  and_intros
  refine ixL_go (v:=.int g) (SqL.of e3) (by decide) rfl ⟨_,rfl,0,?_,hc _ _ ?_⟩
  · rw [decide_eq_true (show (g:Int) ≤ 1000 by omega)]
  · and_intros
    exact q _ o2 s3 f3 e3
def spReadMany (K:PySem.W.Frag):Sp:=fun vs H Q _=>∃ (p:Addr) (ts:List (List Nat)) (i g:Nat),vs = [.ref p,.int i]∧SqL K H p (ts.map strV)∧ts[i]? = some (kRnw ++ [32] ++ num g)∧g ≤ 60∧∀ H',Same H H'→Q (.int g) H'
def rdReadMany (K:PySem.W.Frag):TS:=
    tSeq (tAsg (tCall (spWordsAt K) [] E0 (tCons (tVar 0) (tCons (tVar 1) tNil))) (gName 2))
      (tSeq (tDrop (tCall spAskText [] E0 (tCons (tAndV (tOp rEq (tCB (rLenL K) (tCons (tVar 2) tNil)) (tC (.int 2))) (tAndV (tOp rEq (tOp (rIxL K) (tVar 2) (tC (.int 0))) (tC (.str (txt [114,101,110,101,119,97,108])))) (tCall spIsNumberTo [] E0 (tCons (tOp (rIxL K) (tVar 2) (tC (.int 1))) (tCons (tC (.int 1000)) tNil))))) (tCons (tVar 1) tNil))))
      (tRet (tCB rIntS (tCons (tOp (rIxL K) (tVar 2) (tC (.int 1))) tNil))))
theorem read_readMany {K:PySem.W.Frag} {N:List Str} {vs:List V} {H:Hp} {Q:VK} {E:XK} (hN:N.length = 3) (h:spReadMany K vs H Q E):rdReadMany K { nx:=fun _ H'=>Q .non H',rt:=Q } (L2.start N vs) H:=by
  obtain ⟨p,ts,i,g,rfl,hp,ht,hg,q⟩:=h
  have i3:=(num_ok g (by omega)).2.2
  unfold rdReadMany L2.start
  rw [hN]
  refine seq_set fun c hc=>?_
  and_intros
  refine ⟨p,ts,i,[kRnw,num g],rfl,hp,ht,by
    rw [joinL_cons]
    show (kRnw ++ [32] ++ num g).length ≤ _
    simp only [List.length_append,List.length_cons,List.length_nil,kRnw]
    omega,by simp,fun w hw=>by
    simp only [List.mem_cons,List.not_mem_nil,or_false] at hw
    rcases hw with rfl | rfl
    · decide
    · exact num_free (by omega),fun o ho=>hc _ _ ?_⟩
  clear hc c
  have s1:=Same.up H ho (o:=.lst ([kRnw,num g].map strV))
  have e1:(upd H o (.lst ([kRnw,num g].map strV))) o = some (.lst [strV kRnw,strV (num g)]):=upd_same
  generalize upd H o _ = H1 at s1 e1 ⊢
  refine seq_any fun c hc=>?_
  and_intros
  refine lenL_go (SqL.of e1) ⟨rfl,?_⟩
  rw [if_pos (show V.int ((([strV kRnw,strV (num g)].length:Nat)):Int) = V.int 2 from rfl)]
  refine ixL_go (v:=strV kRnw) (SqL.of e1) (by decide) rfl ⟨rfl,?_⟩
  rw [if_pos (show strV kRnw = V.str (txt [114,101,110,101,119,97,108]) from rfl)]
  refine ixL_go (v:=strV (num g)) (SqL.of e1) (by decide) rfl ⟨g,1000,rfl,by omega,by omega,fun H2 s2=>⟨i,rfl,hc _ _ ?_⟩⟩
  clear hc c
  and_intros
  exact ixL_go (v:=strV (num g)) (SqL.of (s2 _ _ e1)) (by decide) rfl ⟨num g,g,rfl,by omega,num_int (by omega),q _ (s1.trans s2)⟩
def w2 (y:RwN):List Nat:=y.2.getD [45]
theorem rowW_eq (y:RwN):rowW y = [y.1,w2 y]:=by unfold rowW w2; cases y.2 <;> rfl
theorem mark_pos {L:Nat} {m:List Nat} (h:Mark L m):[] < m:=by
  cases m with
  | nil=>exact absurd rfl h.ne
  | cons a m=>exact List.nil_lt_cons a m
def spReadRows (K:PySem.W.Frag):Sp:=fun vs H Q _=>∃ (L:Nat) (p:Addr) (ts:List (List Nat)) (i0:Nat) (r:List RwN),vs = [.int L,.ref p,.int i0,.int r.length]∧L ≤ 26∧H p = some (.lst (ts.map strV))∧RowsT L r∧i0 ≤ 100000∧(∀ j y,r[j]? = some y→ts[i0 + j]? = some (rowT y))∧∀ H' o xs,Same H H'→H o = none→H' o = some (.lst xs)→Prs H' xs (r.map rowP)→Q (.ref o) H'
def rdReadRows (K:PySem.W.Frag):TS:=
    tSeq (tAsg (tLst tNil) (gName 4))
      (tSeq (tAsg (tC (.str (txt []))) (gName 5))
      (tSeq (tAsg (tC (.str (txt []))) (gName 6))
      (tSeq (tFor (iRng2 (tCons (tVar 2) (tCons (tOp rAddI (tVar 2) (tVar 3)) tNil))) (gName 7) (tSeq (tAsg (tCall (spWordsAt K) [] E0 (tCons (tVar 1) (tCons (tVar 7) tNil))) (gName 8))
      (tSeq (tDrop (tCall spAskText [] E0 (tCons (tAndV (tOp rEq (tCB (rLenL K) (tCons (tVar 8) tNil)) (tC (.int 2))) (tCall spMarkBehind [] E0 (tCons (tVar 0) (tCons (tVar 5) (tCons (tOp (rIxL K) (tVar 8) (tC (.int 0))) tNil))))) (tCons (tVar 7) tNil))))
      (tSeq (tAsg (tOp (rIxL K) (tVar 8) (tC (.int 0))) (gName 5))
      (tIfS (tTest (tOp rEq (tOp (rIxL K) (tVar 8) (tC (.int 1))) (tC (.str (txt [45]))))) (tDrop (tBM K "list" rAppend (tVar 4) (tCons (tTup (tCons (tOp (rIxL K) (tVar 8) (tC (.int 0))) (tCons (tC .non) tNil))) tNil))) (tSeq (tDrop (tCall spAskText [] E0 (tCons (tCall spMarkBehind [] E0 (tCons (tVar 0) (tCons (tVar 6) (tCons (tOp (rIxL K) (tVar 8) (tC (.int 1))) tNil)))) (tCons (tVar 7) tNil))))
      (tSeq (tAsg (tOp (rIxL K) (tVar 8) (tC (.int 1))) (gName 6))
      (tDrop (tBM K "list" rAppend (tVar 4) (tCons (tTup (tCons (tOp (rIxL K) (tVar 8) (tC (.int 0))) (tCons (tOp (rIxL K) (tVar 8) (tC (.int 1))) tNil))) tNil))))))))))
      (tRet (tVar 4)))))
def RRInv (L i0:Nat) (p p4:Addr) (H:Hp) (r:List RwN):Nat→St→Hp→Prop:=fun i σ H'=>∃ (ys:List V) (lo ln:List Nat) (v7 v8:Option V),Keeps [p4] H H'∧H' p4 = some (.lst ys)∧ys.length = i∧Prs H' ys ((r.take i).map rowP)∧(∀ y ∈ r.drop i,lo < y.1∧∀ z,y.2 = some z→ln < z)∧σ = [some (.int L),some (.ref p),some (.int i0),some (.int r.length),some (.ref p4),some (strV lo),some (strV ln),v7,v8]
theorem read_readRows {K:PySem.W.Frag} {N:List Str} {vs:List V} {H:Hp} {Q:VK} {E:XK} (hN:N.length = 9) (h:spReadRows K vs H Q E):rdReadRows K { nx:=fun _ H'=>Q .non H',rt:=Q } (L2.start N vs) H:=by
  obtain ⟨L,p,ts,i0,r,rfl,hL26,hp,T,h0,ht,q⟩:=h
  have few:=T.few
  unfold rdReadRows L2.start
  rw [hN]
  refine seq_set fun c hc=>?_
  and_intros
  refine ⟨by decide,fun p4 hp4=>hc _ _ ?_⟩
  clear hc c
  have s1:=Same.up H hp4 (o:=.lst [])
  have e1:(upd H p4 (.lst [])) p4 = some (.lst []):=upd_same
  generalize upd H p4 _ = H1 at s1 e1 ⊢
  have nosub:∀ b ∈ [p4],H b = none:=fun b hb=>by rw [List.mem_singleton.mp hb]; exact hp4
  simp only [List.set_cons_zero,List.set_cons_succ,List.replicate_succ,List.replicate_zero,List.map_cons,List.map_nil,List.cons_append,List.nil_append]
  refine seq_set fun c hc=>?_
  and_intros
  refine hc _ _ ?_
  clear hc c
  refine seq_set fun c hc=>?_
  and_intros
  refine hc _ _ ?_
  clear hc c
  simp only [List.set_cons_zero,List.set_cons_succ]
  refine seq_any fun c hc=>?_
  refine for_r2 (l:=i0) (j:=(i0:Int) + (r.length:Nat)) (fun Q h=>by and_intros; exact h) (by omega) (by omega) (by omega) (by omega) (RRInv L i0 p p4 H1 r) ⟨[],[],[],none,none,fun b o e _=>e,e1,rfl,trivial,fun y hy=>⟨mark_pos (T.old y (List.mem_of_mem_drop hy)).1,fun z hz=>mark_pos (T.new y (List.mem_of_mem_drop hy) z hz).1⟩,rfl⟩ ?_ ?_
  · rintro i σ H' hi ⟨ys,lo,ln,v7,v8,k',l',hl',pr',up,rfl⟩
    have hil:i < r.length:=by omega
    obtain ⟨y,hy⟩:∃ y,r[i]? = some y:=⟨r[i],List.getElem?_eq_getElem hil⟩
    have sH:=same_keep s1 k' nosub
    have hym:=List.mem_of_getElem? hy
    have edr:r.drop i = y :: r.drop (i + 1):=drop_get hy
    have etk:r.take (i + 1) = r.take i ++ [y]:=by rw [List.take_add_one,hy]; rfl
    obtain ⟨u1,u2⟩:=up y (by rw [edr]; exact List.mem_cons_self)
    have om:=T.old y hym
    have nm:=T.new y hym
    have w2l:(w2 y).length ≤ 1000∧32 ∉ w2 y:=by
      unfold w2
      cases e:y.2 with
      | none=>exact ⟨by decide,by decide⟩
      | some z=>exact ⟨(nm z e).2,free_mark (nm z e).1⟩
    have upO:∀ y' ∈ r.drop (i + 1),y.1 < y'.1:=by
      have:=(List.Pairwise.sublist ((List.drop_sublist i r).map (·.1)) T.oup)
      rw [edr,List.map_cons,List.pairwise_cons] at this
      exact fun y' hy'=>this.1 _ (List.mem_map_of_mem hy')
    have app:∀ (ln':List Nat) (Hc:Hp) (t o:Addr),Keeps [p4] H1 Hc→Hc p4 = some (.lst ys)→Prs Hc ys ((r.take i).map rowP)→(∀ y' ∈ r.drop (i + 1),∀ z,y'.2 = some z→ln' < z)→Hc t = none→RRInv L i0 p p4 H1 r (i + 1) [some (.int L),some (.ref p),some (.int i0),some (.int r.length),some (.ref p4),some (strV y.1),some (strV ln'),some (.int ((i0:Int) + i)),some (.ref o)] (upd (upd Hc t (.tup [strV y.1,oV y.2])) p4 (.lst (ys ++ [.ref t]))):=fun ln' Hc t o kc lc prc hln ht=>by
      have n6:p4 ≠ t:=fun z=>by subst z; rw [lc] at ht; cases ht
      refine ⟨_,_,_,_,_,(kc.upd (.inr ht)).upd (.inl List.mem_cons_self),upd_same,by rw [List.length_append,hl']; rfl,?_,fun y' hy'=>⟨upO y' hy',hln y' hy'⟩,rfl⟩
      rw [etk,List.map_append]
      refine (prc.keep (keep_list ht lc)).app ⟨⟨t,rfl,?_⟩,trivial⟩
      rw [upd_ne (Ne.symm n6),upd_same]
      rfl
    refine seq_set fun c1 hc1=>?_
    and_intros
    refine ⟨p,ts,i0 + i,rowW y,rfl,SqL.of (sH _ _ hp),by rw [ht i y hy,row_join],by
      rw [rowW_eq,joinL_cons]
      show (y.1 ++ [32] ++ w2 y).length ≤ _
      simp only [List.length_append,List.length_cons,List.length_nil]
      omega,by rw [rowW_eq]; simp,fun w hw=>by
      rw [rowW_eq] at hw
      simp only [List.mem_cons,List.not_mem_nil,or_false] at hw
      rcases hw with rfl | rfl
      · exact free_mark om.1
      · exact w2l.2,fun o ho=>hc1 _ _ ?_⟩
    clear hc1 c1
    have sa:=Same.up H' ho (o:=.lst ((rowW y).map strV))
    have ea:(upd H' o (.lst ((rowW y).map strV))) o = some (.lst [strV y.1,strV (w2 y)]):=by rw [upd_same,rowW_eq]; rfl
    generalize upd H' o _ = Ha at sa ea ⊢
    simp only [List.set_cons_zero,List.set_cons_succ]
    refine seq_any fun c1 hc1=>?_
    and_intros
    refine lenL_go (SqL.of ea) ⟨rfl,?_⟩
    rw [if_pos (show V.int ((([strV y.1,strV (w2 y)].length:Nat)):Int) = V.int 2 from rfl)]
    refine ixL_go (v:=strV y.1) (SqL.of ea) (by decide) rfl ⟨L,lo,y.1,rfl,hL26,om.1,om.2,u1,fun Hb sb=>⟨_,rfl,hc1 _ _ ?_⟩⟩
    clear hc1 c1
    have eb:=sb _ _ ea
    have sab:=sa.trans sb
    refine seq_set fun c1 hc1=>?_
    and_intros
    refine ixL_go (v:=strV y.1) (SqL.of eb) (by decide) rfl (hc1 _ _ ?_)
    clear hc1 c1
    simp? [List.set_cons_zero,List.set_cons_succ]
    refine ixL_go (v:=strV (w2 y)) (SqL.of eb) (by decide) rfl ⟨rfl,?_⟩
    cases ey:y.2 with
    | none=>
      rw [if_pos (show strV (w2 y) = V.str (txt [45]) by unfold w2; rw [ey]; rfl)]
      refine ⟨.inl ⟨rfl,_,SqL.of (sab _ _ l')⟩,ixL_go (v:=strV y.1) (SqL.of eb) (by decide) rfl ⟨by decide,fun t ht=>?_⟩⟩
      have:=app ln Hb t o (k'.trans (sab.keeps _)) (sab _ _ l') (pr'.same sab) (fun y' hy'=>(up y' (by rw [edr]; exact List.mem_cons_of_mem _ hy')).2) ht
      rw [ey] at this
      exact append_go (by rw [upd_ne (fun z=>by subst z; rw [sab _ _ l'] at ht; cases ht)]; exact sab _ _ l') (by omega) this
    | some z=>
      have ew:w2 y = z:=by unfold w2; rw [ey]; rfl
      have zm:=nm z ey
      rw [ew] at eb
      rw [if_neg (show ¬ strV (w2 y) = V.str (txt [45]) by
        rw [ew]
        intro x
        have x2:z = [45]:=by simpa [strV,txt_inj] using x
        rw [x2] at zm
        have:=zm.1.ls 45 List.mem_cons_self
        omega)]
      refine ixL_go (v:=strV z) (SqL.of eb) (by decide) rfl ⟨L,ln,z,rfl,hL26,zm.1,zm.2,u2 z ey,fun Hc sc=>⟨_,rfl,?_⟩⟩
      have ec:=sc _ _ eb
      have sac:=sab.trans sc
      refine ixL_go (v:=strV z) (SqL.of ec) (by decide) rfl ⟨.inl ⟨rfl,_,SqL.of (sac _ _ l')⟩,ixL_go (v:=strV y.1) (SqL.of ec) (by decide) rfl (ixL_go (v:=strV z) (SqL.of ec) (by decide) rfl ⟨by decide,fun t ht=>?_⟩)⟩
      have:=app z Hc t o (k'.trans (sac.keeps _)) (sac _ _ l') (pr'.same sac) (by
        have:=(List.Pairwise.sublist ((List.drop_sublist i r).filterMap (·.2)) T.nup)
        rw [edr,List.filterMap_cons,ey,List.pairwise_cons] at this
        exact fun y' hy' z' hz'=>this.1 _ (List.mem_filterMap.mpr ⟨y',hy',hz'⟩)) ht
      rw [ey] at this
      exact append_go (by rw [upd_ne (fun z=>by subst z; rw [sac _ _ l'] at ht; cases ht)]; exact sac _ _ l') (by omega) this
  rintro σ H2 ⟨ys,lo,ln,v7,v8,k2,l2,hl2,pr2,-,rfl⟩
  refine hc _ _ ?_
  clear hc c
  have s2:=same_keep s1 k2 nosub
  rw [show ((i0:Int) + (r.length:Nat) - i0).toNat = r.length by omega,List.take_length] at pr2
  and_intros
  exact q _ p4 ys s2 hp4 l2 pr2
theorem eqLS_go2 {K:PySem.W.Frag} {H:Hp} {p p2:Addr} {xs:List (List Nat)} {Q:VK} (h1:H p = some (.lst (xs.map strV))) (h2:H p2 = some (.lst (xs.map strV))) (ok:∀ y ∈ xs,PyData.strOk (txt y) = true) (q:Q (.bl true) H):rEqLS K (.ref p) (.ref p2) H Q:=by
  refine ⟨p,p2,xs,xs,rfl,rfl,SqL.of h1,SqL.of h2,ok,ok,?_⟩
  rw [show (decide (xs = xs)) = true by simp]
  exact q
def kTkn:List Nat:=[116,97,107,101,110]
def thW (ws:List (List Nat)) (z:List Nat × List Nat):List (List Nat):=if z.1 ∈ ws then [z.1,z.2,kTkn] else [z.1,z.2]
theorem th_join (ws:List (List Nat)) (z:List Nat × List Nat):thT ws z = joinL [32] (thW ws z):=by
  unfold thT thW
  by_cases h:z.1 ∈ ws
  · rw [if_pos h,if_pos h,joinL_cons,joinL_cons]
    show z.1 ++ [32] ++ z.2 ++ [32,116,97,107,101,110] = z.1 ++ [32] ++ (z.2 ++ [32] ++ kTkn)
    simp [kTkn]
  · rw [if_neg h,if_neg h,joinL_cons]
    rfl
def Wds (H:Hp) (as:List Addr) (wl:List (List (List Nat))):Prop:=as.length = wl.length∧∀ (j:Nat) (w:List (List Nat)),wl[j]? = some w→∃ a,as[j]? = some a∧H a = some (.lst (w.map strV))
theorem Wds.same {H H':Hp} {as:List Addr} {wl:List (List (List Nat))} (h:Wds H as wl) (s:Same H H'):Wds H' as wl:=⟨h.1,fun j w e=>by
  obtain ⟨a,e1,e2⟩:=h.2 j w e
  exact ⟨a,e1,s _ _ e2⟩⟩
theorem Wds.up {H:Hp} {as:List Addr} {wl:List (List (List Nat))} {p:Addr} {o:HO} (h:Wds H as wl) (n:∀ a ∈ as,a ≠ p):Wds (upd H p o) as wl:=⟨h.1,fun j w e=>by
  obtain ⟨a,e1,e2⟩:=h.2 j w e
  exact ⟨a,e1,by rw [upd_ne (n a (List.mem_of_getElem? e1))]; exact e2⟩⟩
theorem Wds.add {H:Hp} {as:List Addr} {wl:List (List (List Nat))} {b:Addr} {w:List (List Nat)} (h:Wds H as wl) (e:H b = some (.lst (w.map strV))):Wds H (as ++ [b]) (wl ++ [w]):=⟨by rw [List.length_append,List.length_append,h.1]; rfl,fun j w' hj=>by
  by_cases hlt:j < wl.length
  · rw [List.getElem?_append_left hlt] at hj
    obtain ⟨a,e1,e2⟩:=h.2 j w' hj
    exact ⟨a,by rw [List.getElem?_append_left (by rw [h.1]; exact hlt)]; exact e1,e2⟩
  · rw [List.getElem?_append_right (by omega)] at hj
    rw [List.getElem?_append_right (by rw [h.1]; omega),h.1]
    have hj0:j - wl.length = 0:=by
      cases hh:j - wl.length with
      | zero=>rfl
      | succ k=>rw [hh] at hj; simp at hj
    rw [hj0] at hj ⊢
    simp at hj
    subst hj
    exact ⟨b,rfl,e⟩⟩
def spReadThings (K:PySem.W.Frag):Sp:=fun vs H Q _=>∃ (L:Nat) (p:Addr) (ts:List (List Nat)) (i0:Nat) (zs:List (List Nat × List Nat)) (ws:List (List Nat)),vs = [.int L,.ref p,.int i0]∧L ≤ 26∧H p = some (.lst (ts.map strV))∧ThingsT L zs ws∧i0 ≤ 100000∧ts.length = i0 + zs.length∧(∀ j z,zs[j]? = some z→ts[i0 + j]? = some (thT ws z))∧∀ H' o as,Same H H'→H o = none→H' o = some (.lst (as.map V.ref))→Wds H' as (zs.map (thW ws))→Q (.ref o) H'
def rdReadThings (K:PySem.W.Frag):TS:=
    tSeq (tAsg (tLst tNil) (gName 3))
      (tSeq (tAsg (tC (.str (txt []))) (gName 4))
      (tSeq (tFor (iRng2 (tCons (tVar 2) (tCons (tCB (rLenL K) (tCons (tVar 1) tNil)) tNil))) (gName 5) (tSeq (tAsg (tCall (spWordsAt K) [] E0 (tCons (tVar 1) (tCons (tVar 5) tNil))) (gName 6))
      (tSeq (tDrop (tCall spAskText [] E0 (tCons (tOrV (tOp rEq (tCB (rLenL K) (tCons (tVar 6) tNil)) (tC (.int 2))) (tOp (rEqLS K) (tSl (rSlL K) (tVar 6) (tPart (tC (.int 2))) tNoPart) (tLst (tCons (tC (.str (txt [116,97,107,101,110]))) tNil)))) (tCons (tVar 5) tNil))))
      (tSeq (tDrop (tCall spAskText [] E0 (tCons (tAndV (tCall spMarkBehind [] E0 (tCons (tVar 0) (tCons (tVar 4) (tCons (tOp (rIxL K) (tVar 6) (tC (.int 0))) tNil)))) (tCall spIsThing [] E0 (tCons (tOp (rIxL K) (tVar 6) (tC (.int 1))) tNil))) (tCons (tVar 5) tNil))))
      (tSeq (tAsg (tOp (rIxL K) (tVar 6) (tC (.int 0))) (gName 4))
      (tDrop (tBM K "list" rAppend (tVar 3) (tCons (tVar 6) tNil))))))))
      (tRet (tVar 3))))
def RTInv (L i0:Nat) (p p3:Addr) (H:Hp) (zs:List (List Nat × List Nat)) (ws:List (List Nat)):Nat→St→Hp→Prop:=fun i σ H'=>∃ (as:List Addr) (lo:List Nat) (v5 v6:Option V),Keeps [p3] H H'∧H' p3 = some (.lst (as.map V.ref))∧as.length = i∧Wds H' as ((zs.take i).map (thW ws))∧(∀ a ∈ as,a ≠ p3)∧(∀ z ∈ zs.drop i,lo < z.1)∧σ = [some (.int L),some (.ref p),some (.int i0),some (.ref p3),some (strV lo),v5,v6]
theorem read_readThings {K:PySem.W.Frag} {N:List Str} {vs:List V} {H:Hp} {Q:VK} {E:XK} (hN:N.length = 7) (h:spReadThings K vs H Q E):rdReadThings K { nx:=fun _ H'=>Q .non H',rt:=Q } (L2.start N vs) H:=by
  obtain ⟨L,p,ts,i0,zs,ws,rfl,hL26,hp,T,h0,htl,ht,q⟩:=h
  have few:=T.few
  unfold rdReadThings L2.start
  rw [hN]
  refine seq_set fun c hc=>?_
  and_intros
  refine ⟨by decide,fun p3 hp3=>hc _ _ ?_⟩
  clear hc c
  have s1:=Same.up H hp3 (o:=.lst [])
  have e1:(upd H p3 (.lst [])) p3 = some (.lst []):=upd_same
  generalize upd H p3 _ = H1 at s1 e1 ⊢
  have nosub:∀ b ∈ [p3],H b = none:=fun b hb=>by rw [List.mem_singleton.mp hb]; exact hp3
  simp only [List.set_cons_zero,List.set_cons_succ,List.replicate_succ,List.replicate_zero,List.map_cons,List.map_nil,List.cons_append,List.nil_append]
  refine seq_set fun c hc=>?_
  and_intros
  refine hc _ _ ?_
  clear hc c
  simp only [List.set_cons_zero,List.set_cons_succ]
  refine seq_any fun c hc=>?_
  refine for_r2 (l:=i0) (j:=(ts.length:Nat)) (fun Q h=>by and_intros; exact lenL_go (SqL.of (s1 _ _ hp)) (by rw [List.length_map]; exact h)) (by omega) (by omega) (by omega) (by omega) (RTInv L i0 p p3 H1 zs ws) ⟨[],[],none,none,fun b o e _=>e,e1,rfl,⟨rfl,fun j w e=>by simp at e⟩,fun a ha=>(nomatch ha),fun z hz=>mark_pos (T.mar z (List.mem_of_mem_drop hz)).1,rfl⟩ ?_ ?_
  · rintro i σ H' hi ⟨as,lo,v5,v6,k',l',hl',wd',na',up,rfl⟩
    have hil:i < zs.length:=by omega
    obtain ⟨z,hz⟩:∃ z,zs[i]? = some z:=⟨zs[i],List.getElem?_eq_getElem hil⟩
    have sH:=same_keep s1 k' nosub
    have hzm:=List.mem_of_getElem? hz
    have edr:zs.drop i = z :: zs.drop (i + 1):=drop_get hz
    have etk:zs.take (i + 1) = zs.take i ++ [z]:=by rw [List.take_add_one,hz]; rfl
    have u1:=up z (by rw [edr]; exact List.mem_cons_self)
    obtain ⟨zm,zl,zt⟩:=T.mar z hzm
    have ztl:=zt.2.1
    have upO:∀ y' ∈ zs.drop (i + 1),z.1 < y'.1:=by
      have:=(List.Pairwise.sublist ((List.drop_sublist i zs).map (·.1)) T.up)
      rw [edr,List.map_cons,List.pairwise_cons] at this
      exact fun y' hy'=>this.1 _ (List.mem_map_of_mem hy')
    refine seq_set fun c1 hc1=>?_
    and_intros
    refine ⟨p,ts,i0 + i,thW ws z,rfl,SqL.of (sH _ _ hp),by rw [ht i z hz,th_join],by
      rw [← th_join,thT]
      split <;> simp only [List.length_append,List.length_cons,List.length_nil] <;> omega,by unfold thW; split <;> simp,fun w hw=>by
      have:w = z.1 ∨ w = z.2 ∨ w = kTkn:=by
        unfold thW at hw
        split at hw <;> simp only [List.mem_cons,List.not_mem_nil,or_false] at hw
        · exact hw
        · rcases hw with h | h
          · exact .inl h
          · exact .inr (.inl h)
      rcases this with rfl | rfl | rfl
      · exact free_mark zm
      · exact free_thing zt
      · decide,fun o ho=>hc1 _ _ ?_⟩
    clear hc1 c1
    have no:o ≠ p3:=fun x=>by rw [x,l'] at ho; cases ho
    have sa:=Same.up H' ho (o:=.lst ((thW ws z).map strV))
    have ea:(upd H' o (.lst ((thW ws z).map strV))) o = some (.lst ((thW ws z).map strV)):=upd_same
    generalize upd H' o _ = Ha at sa ea ⊢
    simp only [List.set_cons_zero,List.set_cons_succ]
    refine seq_any fun c1 hc1=>?_
    suffices main:∀ Hb,Same Ha Hb→c1 [some (.int L),some (.ref p),some (.int i0),some (.ref p3),some (strV lo),some (.int ((i0:Int) + i)),some (.ref o)] Hb by
      and_intros
      refine lenL_go (SqL.of ea) ⟨rfl,?_⟩
      by_cases hw:z.1 ∈ ws
      · have ew:thW ws z = [z.1,z.2,kTkn]:=by unfold thW; rw [if_pos hw]
        rw [ew] at ea ⊢
        rw [if_neg (show ¬ V.int ((([z.1,z.2,kTkn].map strV).length:Nat):Int) = V.int 2 from fun x=>by injection x with x; exact absurd x (show ¬ ((3:Nat):Int) = 2 by decide))]
        refine slL_go (SqL.of ea) fun b hb=>⟨by decide,fun b2 hb2=>?_⟩
        have nb:b ≠ b2:=fun x=>by rw [← x,upd_same] at hb2; cases hb2
        refine eqLS_go2 (xs:=[kTkn]) (by rw [upd_ne nb,upd_same]; rfl) (by rw [upd_same]; rfl) (fun y hy=>by rw [List.mem_singleton.mp hy]; decide +kernel) ⟨_,rfl,main _ ((Same.up Ha hb).new hb2)⟩
      · have ew:thW ws z = [z.1,z.2]:=by unfold thW; rw [if_neg hw]
        rw [ew] at ea ⊢
        rw [if_pos (show V.int ((([z.1,z.2].map strV).length:Nat):Int) = V.int 2 from rfl)]
        exact ⟨_,rfl,main _ (Same.refl _)⟩
    intro Hb sb
    refine hc1 _ _ ?_
    clear hc1 c1
    have eb:=sb _ _ ea
    have sab:=sa.trans sb
    have g0:((thW ws z).map strV)[0]? = some (strV z.1):=by unfold thW; split <;> rfl
    have g1:((thW ws z).map strV)[1]? = some (strV z.2):=by unfold thW; split <;> rfl
    have gl:2 ≤ ((thW ws z).map strV).length:=by unfold thW; split <;> simp only [List.map_cons,List.map_nil,List.length_cons,List.length_nil] <;> omega
    refine seq_any fun c1 hc1=>?_
    and_intros
    refine ixL_go (v:=strV z.1) (SqL.of eb) (by omega) g0 ⟨L,lo,z.1,rfl,hL26,zm,zl,u1,fun Hc sc=>?_⟩
    refine ⟨_,rfl,?_⟩
    rw [if_pos rfl]
    have ec:=sc _ _ eb
    refine ixL_go (v:=strV z.2) (SqL.of ec) (by omega) g1 ⟨z.2,rfl,by omega,fun Hd b sd hb=>?_⟩
    have hb1:b = true:=hb.mpr zt
    subst hb1
    refine ⟨_,rfl,hc1 _ _ ?_⟩
    clear hc1 c1
    have ed:=sd _ _ ec
    have sad:=(sab.trans sc).trans sd
    refine seq_set fun c1 hc1=>?_
    and_intros
    refine ixL_go (v:=strV z.1) (SqL.of ed) (by omega) g0 (hc1 _ _ ?_)
    clear hc1 c1
    simp? [List.set_cons_zero,List.set_cons_succ]
    have ld:=sad _ _ l'
    refine ⟨.inl ⟨rfl,_,SqL.of ld⟩,append_go ld (by rw [List.length_map]; omega) ⟨as ++ [o],_,_,_,(k'.trans (sad.keeps _)).upd (.inl List.mem_cons_self),by rw [upd_same,List.map_append]; rfl,by rw [List.length_append,hl']; rfl,?_,fun a ha=>?_,upO,rfl⟩⟩
    · rw [etk,List.map_append]
      refine Wds.up ((wd'.same sad).add ed) fun a ha=>?_
      rcases List.mem_append.mp ha with h | h
      · exact na' a h
      · rw [List.mem_singleton.mp h]; exact no
    · rcases List.mem_append.mp ha with h | h
      · exact na' a h
      · rw [List.mem_singleton.mp h]; exact no
  rintro σ H2 ⟨as,lo,v5,v6,k2,l2,hl2,wd2,-,-,rfl⟩
  refine hc _ _ ?_
  clear hc c
  have s2:=same_keep s1 k2 nosub
  rw [show (((ts.length:Nat):Int) - i0).toNat = zs.length by omega,List.take_length] at wd2
  and_intros
  exact q _ p3 as s2 hp3 l2 wd2
theorem RowsC.up {H:Hp} {p:Addr} {o:HO} {ys:List V} (hp:H p = some (.lst ys)):∀ {as:List Addr} {R:List (List RwN)},RowsC H as R→(∀ a ∈ as,a ≠ p)→RowsC (upd H p o) as R
  | [],[],_,_=>trivial
  | [],_ :: _,h,_=>h.elim
  | _ :: _,[],h,_=>h.elim
  | a :: as,r :: R,⟨⟨xs,e,q⟩,t⟩,n=>⟨⟨xs,by rw [upd_ne (n a List.mem_cons_self)]; exact e,q.keep fun u zs hu=>by rw [upd_ne (fun z=>by subst z; rw [hp] at hu; cases hu)]; exact hu⟩,RowsC.up hp t fun b hb=>n b (List.mem_cons_of_mem _ hb)⟩
def posT (R:List (List RwN)) (i:Nat):Nat:=((R.take i).flatMap renT).length + 1
theorem posT_succ {R:List (List RwN)} {i:Nat} {r:List RwN} (h:R[i]? = some r):posT R (i + 1) = posT R i + 1 + r.length:=by
  unfold posT
  rw [show R.take (i + 1) = R.take i ++ [r] by rw [List.take_add_one,h]; rfl,List.flatMap_append,List.length_append,List.flatMap_cons,List.flatMap_nil,List.append_nil,renT,List.length_cons,List.length_map]
  omega
theorem st_at {R:List (List RwN)} {i:Nat} {r:List RwN} (h:R[i]? = some r) (x:List Nat) (tl:List (List Nat)) {k:Nat} (hk:k < (renT r).length):(x :: (R.flatMap renT ++ tl))[posT R i + k]? = (renT r)[k]?:=by
  have e:R = R.take i ++ r :: R.drop (i + 1):=by rw [← drop_get h,List.take_append_drop]
  have e2:R.flatMap renT = (R.take i).flatMap renT ++ (renT r ++ (R.drop (i + 1)).flatMap renT):=by
    conv=>lhs; rw [e]
    rw [List.flatMap_append,List.flatMap_cons]
  unfold posT
  rw [show ((R.take i).flatMap renT).length + 1 + k = ((R.take i).flatMap renT).length + k + 1 by omega,List.getElem?_cons_succ,e2,List.append_assoc,List.getElem?_append_right (by omega),List.append_assoc,List.getElem?_append_left (by omega)]
  congr 1
  omega
theorem th_at (R:List (List RwN)) (x:List Nat) (tl:List (List Nat)) (k:Nat):(x :: (R.flatMap renT ++ tl))[posT R R.length + k]? = tl[k]?:=by
  unfold posT
  rw [List.take_length,show (R.flatMap renT).length + 1 + k = (R.flatMap renT).length + k + 1 by omega,List.getElem?_cons_succ,List.getElem?_append_right (by omega)]
  congr 1
  omega
structure Fresh3 (H:Hp) (p1 p2 p3:Addr) (bs:List Addr):Prop where
  f1:H p1 = none
  f2:H p2 = none
  f3:H p3 = none
  fb:∀ b ∈ bs,H b = none
  b1:∀ b ∈ bs,b ≠ p1
  b2:∀ b ∈ bs,b ≠ p2
  b3:∀ b ∈ bs,b ≠ p3
  n12:p1 ≠ p2
  n13:p1 ≠ p3
  n23:p2 ≠ p3
def spReadState (K:PySem.W.Frag):Sp:=fun vs H Q _=>∃ (p:Addr) (L h:Nat) (R:List (List RwN)) (zs:List (List Nat × List Nat)) (ws:List (List Nat)),vs = [.ref p]∧H p = some (.lst ((stT L h R zs ws).map strV))∧StateT L h R zs ws∧∀ H' o p1 p2 p3 bs xs,Same H H'→H o = none→Fresh3 H p1 p2 p3 bs→StA H' o p1 p2 p3 bs xs L h R zs ws→Q (.ref o) H'
def rdReadState (K:PySem.W.Frag):TS:=
    tSeq (tAsg (tCall (spReadHead K) [] E0 (tCons (tVar 0) tNil)) (gName 1))
      (tSeq (tAsg (tLst tNil) (gName 2))
      (tSeq (tAsg (tC (.int 1)) (gName 3))
      (tSeq (tFor (iRng1 (tCons (tOp (rIxL K) (tVar 1) (tC (.int 2))) tNil)) (gName 4) (tSeq (tAsg (tCall (spReadMany K) [] E0 (tCons (tVar 0) (tCons (tVar 3) tNil))) (gName 5))
      (tSeq (tDrop (tBM K "list" rAppend (tVar 2) (tCons (tCall (spReadRows K) [] E0 (tCons (tOp (rIxL K) (tVar 1) (tC (.int 0))) (tCons (tVar 0) (tCons (tOp rAddI (tVar 3) (tC (.int 1))) (tCons (tVar 5) tNil))))) tNil)))
      (tAsg (tOp rAddI (tOp rAddI (tVar 3) (tC (.int 1))) (tVar 5)) (gName 3)))))
      (tSeq (tAsg (tCall (spReadThings K) [] E0 (tCons (tOp (rIxL K) (tVar 1) (tC (.int 0))) (tCons (tVar 0) (tCons (tVar 3) tNil)))) (gName 6))
      (tSeq (tCompSet 7 (iList K (tVar 6)) [] tYes (tTup (tCons (tOp (rIxL K) (tVar 0) (tC (.int 0))) (tCons (tOp (rIxL K) (tVar 0) (tC (.int 1))) tNil))))
      (tSeq (tCompSet 8 (iList K (tVar 6)) [] (tTest (tOp rEq (tCB (rLenL K) (tCons (tVar 0) tNil)) (tC (.int 3)))) (tOp (rIxL K) (tVar 0) (tC (.int 0))))
      (tRet (tTup (tCons (tOp (rIxL K) (tVar 1) (tC (.int 0))) (tCons (tOp (rIxL K) (tVar 1) (tC (.int 1))) (tCons (tVar 2) (tCons (tVar 7) (tCons (tVar 8) tNil)))))))))))))
def RSInv (p o1 p2:Addr) (H0 H:Hp) (R:List (List RwN)):Nat→St→Hp→Prop:=fun i σ H'=>∃ (bs:List Addr) (v4 v5:Option V),Keeps [p2] H H'∧H' p2 = some (.lst (bs.map V.ref))∧RowsC H' bs (R.take i)∧(∀ a ∈ bs,a ≠ p2∧H0 a = none)∧σ = [some (.ref p),some (.ref o1),some (.ref p2),some (.int (posT R i:Nat)),v4,v5,none,none,none]
theorem read_readState {K:PySem.W.Frag} {N:List Str} {vs:List V} {H:Hp} {Q:VK} {E:XK} (hN:N.length = 9) (h:spReadState K vs H Q E):rdReadState K { nx:=fun _ H'=>Q .non H',rt:=Q } (L2.start N vs) H:=by
  obtain ⟨p,L,h,R,zs,ws,rfl,hp,T,q⟩:=h
  have few:=T.few
  have zfew:=T.things.few
  have l26:=T.l26
  have hrl:=ren_len (R:=R) T.rows
  unfold rdReadState L2.start
  rw [hN]
  refine seq_set fun c hc=>?_
  and_intros
  refine ⟨p,stT L h R zs ws,L,h,R.length,rfl,SqL.of hp,rfl,T.l2,T.l26,T.h1,T.hL,T.few,fun H1 o1 s1 f1 e1=>hc _ _ ?_⟩
  clear hc c
  simp only [List.set_cons_zero,List.set_cons_succ,List.replicate_succ,List.replicate_zero,List.map_cons,List.map_nil,List.cons_append,List.nil_append]
  refine seq_set fun c hc=>?_
  and_intros
  refine ⟨by decide,fun p2 hp2=>hc _ _ ?_⟩
  clear hc c
  have f2:=s1.free1 hp2
  have s2:=Same.up H1 hp2 (o:=.lst [])
  have e2:(upd H1 p2 (.lst [])) p2 = some (.lst []):=upd_same
  generalize upd H1 p2 _ = H2 at s2 e2 ⊢
  have s12:=s1.trans s2
  have nosub:∀ b ∈ [p2],H1 b = none:=fun b hb=>by rw [List.mem_singleton.mp hb]; exact hp2
  refine seq_set fun c hc=>?_
  and_intros
  refine hc _ _ ?_
  clear hc c
  simp only [List.set_cons_zero,List.set_cons_succ]
  refine seq_any fun c hc=>?_
  have o1p:o1 ≠ p2:=fun z=>by rw [z,hp2] at e1; cases e1
  refine for_r1 (j:=(R.length:Nat)) (fun Q h=>by and_intros; exact ixL_go (v:=.int R.length) (SqL.of (s2 _ _ e1)) (by decide) rfl h) (by omega) (by omega) (RSInv p o1 p2 H H2 R) ⟨[],none,none,fun b o e _=>e,e2,trivial,fun a ha=>(nomatch ha),rfl⟩ ?_ ?_
  · rintro i σ H' hi ⟨bs,v4,v5,k',l',rc',na',rfl⟩
    have hil:i < R.length:=by omega
    obtain ⟨r,hr⟩:∃ r,R[i]? = some r:=⟨R[i],List.getElem?_eq_getElem hil⟩
    have sH:=same_keep s2 k' nosub
    have hrm:=List.mem_of_getElem? hr
    have rT:=T.rows r hrm
    have etk:R.take (i + 1) = R.take i ++ [r]:=by rw [List.take_add_one,hr]; rfl
    have epos:=posT_succ hr
    have hpos:posT R i ≤ 4000:=by
      have:=ren_len (R:=R.take i) fun r hr=>T.rows r (List.mem_of_mem_take hr)
      rw [List.length_take] at this
      unfold posT
      omega
    have hbl:=rc'.len
    rw [List.length_take] at hbl
    refine seq_set fun c1 hc1=>?_
    and_intros
    refine ⟨p,stT L h R zs ws,posT R i,r.length,rfl,SqL.of (sH _ _ (s1 _ _ hp)),?_,rT.few,fun Ha sa=>hc1 _ _ ?_⟩
    · have:=st_at hr (headT L h R.length) (zs.map (thT ws)) (k:=0) (by rw [renT]; exact Nat.succ_pos _)
      rw [Nat.add_zero] at this
      exact this
    clear hc1 c1
    have sa1:=sH.trans sa
    simp only [List.set_cons_zero,List.set_cons_succ]
    refine seq_any fun c1 hc1=>?_
    and_intros
    refine ⟨.inl ⟨rfl,_,SqL.of (sa _ _ l')⟩,ixL_go (v:=.int L) (SqL.of (sa1 _ _ e1)) (by decide) rfl ⟨L,p,stT L h R zs ws,posT R i + 1,r,rfl,l26,sa1 _ _ (s1 _ _ hp),rT,by omega,fun j y hy=>?_,fun Hb o xs sb ho eo po=>?_⟩⟩
    · have hj:=(List.getElem?_eq_some_iff.mp hy).1
      have:=st_at hr (headT L h R.length) (zs.map (thT ws)) (k:=j + 1) (by rw [renT,List.length_cons,List.length_map]; omega)
      rw [show posT R i + 1 + j = posT R i + (j + 1) by omega]
      refine this.trans ?_
      rw [renT,List.getElem?_cons_succ,List.getElem?_map,hy]
      rfl
    have lb:=sb _ _ (sa _ _ l')
    have no:o ≠ p2:=fun z=>by rw [z,sa _ _ l'] at ho; cases ho
    refine append_go lb (by rw [List.length_map]; omega) (hc1 _ _ ?_)
    clear hc1 c1
    and_intros
    refine ⟨bs ++ [o],some (.int (i:Nat)),some (.int (r.length:Nat)),(k'.trans ((sa.trans sb).keeps _)).upd (.inl List.mem_cons_self),by rw [upd_same,List.map_append]; rfl,?_,?_,?_⟩
    · rw [etk]
      refine RowsC.up lb ((rc'.same (sa.trans sb)).app ⟨⟨xs,eo,po⟩,trivial⟩) fun a ha=>?_
      rcases List.mem_append.mp ha with h | h
      · exact (na' a h).1
      · rw [List.mem_singleton.mp h]; exact no
    · intro a ha
      rcases List.mem_append.mp ha with h | h
      · exact na' a h
      · rw [List.mem_singleton.mp h]; exact ⟨no,(s1.trans sa1).free1 ho⟩
    · rw [epos]
      rfl
  rintro σ H3 ⟨bs,v4,v5,k3,l3,rc3,na3,rfl⟩
  refine hc _ _ ?_
  clear hc c
  rw [show ((R.length:Nat):Int).toNat = R.length from rfl] at rc3 ⊢
  rw [List.take_length] at rc3
  have s3:=same_keep s2 k3 nosub
  have s13:=s1.trans s3
  refine seq_set fun c hc=>?_
  and_intros
  refine ixL_go (v:=.int L) (SqL.of (s3 _ _ e1)) (by decide) rfl ⟨L,p,stT L h R zs ws,posT R R.length,zs,ws,rfl,l26,s13 _ _ hp,T.things,by unfold posT; rw [List.take_length]; omega,by
    unfold posT stT
    rw [List.take_length,List.length_cons,List.length_append,List.length_map]
    omega,fun j z hz=>by
    refine (th_at R _ _ j).trans ?_
    rw [List.getElem?_map,hz]
    rfl,fun H4 o6 as s4 f6 e6 wd=>hc _ _ ?_⟩
  clear hc c
  simp only [List.set_cons_zero,List.set_cons_succ]
  have s14:=s13.trans s4
  have asl:as.length = zs.length:=by rw [wd.1,List.length_map]
  refine seq_cset fun c hc=>?_
  refine comp_l (a:=o6) (xs:=as.map V.ref) (fun Q h=>⟨_,rfl,h⟩) (SqL.of e6) (fun i ys H'=>Same H4 H'∧ys.length = i∧Prs H' ys ((zs.take i).map stP)) ⟨Same.refl _,rfl,trivial⟩ (fun i ys H' _ p=>⟨SqL.of (p.1 _ _ e6),by rw [p.2.1]; exact Nat.le_refl _⟩) (by rw [List.length_map,sizeLine_eq]; omega) ?_ ?_
  · rintro i v ys H' hv ⟨s',yl,pr⟩ W hW
    rw [List.getElem?_map] at hv
    obtain ⟨a,ha,rfl⟩:=Option.map_eq_some_iff.mp hv
    have hia:i < zs.length:=by rw [← asl]; exact (List.getElem?_eq_some_iff.mp ha).1
    obtain ⟨z,hz⟩:∃ z,zs[i]? = some z:=⟨zs[i],List.getElem?_eq_getElem hia⟩
    obtain ⟨a',ha',ea⟩:=wd.2 i (thW ws z) (by rw [List.getElem?_map,hz]; rfl)
    rw [ha] at ha'
    cases ha'
    have ea':=s' _ _ ea
    have g0:((thW ws z).map strV)[0]? = some (strV z.1):=by unfold thW; split <;> rfl
    have g1:((thW ws z).map strV)[1]? = some (strV z.2):=by unfold thW; split <;> rfl
    have gl:2 ≤ ((thW ws z).map strV).length:=by unfold thW; split <;> simp only [List.map_cons,List.map_nil,List.length_cons,List.length_nil] <;> omega
    and_intros
    refine ixL_go (v:=strV z.1) (SqL.of ea') (by omega) g0 (ixL_go (v:=strV z.2) (SqL.of ea') (by omega) g1 ⟨by decide,fun t ht=>hW _ _ ⟨s'.new ht,by rw [List.length_append,yl]; rfl,?_⟩⟩)
    rw [show zs.take (i + 1) = zs.take i ++ [z] by rw [List.take_add_one,hz]; rfl,List.map_append]
    refine (pr.same (Same.up H' ht)).app ⟨⟨t,rfl,?_⟩,trivial⟩
    rw [upd_same]
    rfl
  rintro ys H5 ⟨s5,yl,pr5⟩ o7 ho7
  rw [List.length_map,asl,List.take_length] at pr5
  refine hc _ _ ?_
  clear hc c
  have s6:=s5.new ho7 (o:=.lst ys)
  have e7:(upd H5 o7 (.lst ys)) o7 = some (.lst ys):=upd_same
  have pr6:=pr5.same (Same.up H5 ho7 (o:=.lst ys))
  generalize upd H5 o7 _ = H6 at s6 e7 pr6 ⊢
  simp only [List.set_cons_zero,List.set_cons_succ]
  refine seq_cset fun c hc=>?_
  refine comp_l (a:=o6) (xs:=as.map V.ref) (fun Q h=>⟨_,rfl,h⟩) (SqL.of (s6 _ _ e6)) (fun i ys H'=>H' = H6∧ys = (((zs.take i).map (·.1)).filter fun m=>decide (m ∈ ws)).map strV) ⟨rfl,rfl⟩ (fun i ys H' _ p=>⟨by rw [p.1]; exact SqL.of (s6 _ _ e6),by
    rw [p.2,List.length_map]
    refine Nat.le_trans (List.length_filter_le _ _) ?_
    rw [List.length_map,List.length_take]
    exact Nat.min_le_left _ _⟩) (by rw [List.length_map,sizeLine_eq]; omega) ?_ ?_
  · rintro i v ys2 H' hv ⟨rfl,rfl⟩ W hW
    rw [List.getElem?_map] at hv
    obtain ⟨a,ha,rfl⟩:=Option.map_eq_some_iff.mp hv
    have hia:i < zs.length:=by rw [← asl]; exact (List.getElem?_eq_some_iff.mp ha).1
    obtain ⟨z,hz⟩:∃ z,zs[i]? = some z:=⟨zs[i],List.getElem?_eq_getElem hia⟩
    obtain ⟨a',ha',ea⟩:=wd.2 i (thW ws z) (by rw [List.getElem?_map,hz]; rfl)
    rw [ha] at ha'
    cases ha'
    have ea':=s6 _ _ ea
    have etk:zs.take (i + 1) = zs.take i ++ [z]:=by rw [List.take_add_one,hz]; rfl
    have hW:=fun ys' e=>hW ys' H' ⟨rfl,e⟩
    rw [etk,List.map_append,List.filter_append] at hW
    and_intros
    refine lenL_go (SqL.of ea') ⟨rfl,?_⟩
    by_cases hw:z.1 ∈ ws
    · have ew:thW ws z = [z.1,z.2,kTkn]:=by unfold thW; rw [if_pos hw]
      rw [ew] at ea' ⊢
      rw [if_pos (show V.int ((([z.1,z.2,kTkn].map strV).length:Nat):Int) = V.int 3 from rfl)]
      refine ixL_go (v:=strV z.1) (SqL.of ea') (show (0:Int) ≤ 0 by decide) rfl (hW _ ?_)
      simp [hw]
    · have ew:thW ws z = [z.1,z.2]:=by unfold thW; rw [if_neg hw]
      rw [ew] at ea' ⊢
      rw [if_neg (show ¬ V.int ((([z.1,z.2].map strV).length:Nat):Int) = V.int 3 from fun x=>by injection x with x; exact absurd x (show ¬ ((2:Nat):Int) = 3 by decide))]
      refine hW _ ?_
      simp [hw]
  rintro ys2 H7 ⟨rfl,rfl⟩ o8 ho8
  rw [List.length_map,asl,List.take_length,← T.things.tak]
  refine hc _ _ ?_
  clear hc c
  have s7:=Same.up H7 ho8 (o:=.lst (ws.map strV))
  have e8:(upd H7 o8 (.lst (ws.map strV))) o8 = some (.lst (ws.map strV)):=upd_same
  generalize upd H7 o8 _ = H8 at s7 e8 ⊢
  have s4_8:=s6.trans s7
  have s38:=s4.trans s4_8
  have s18:=s3.trans s38
  simp? [List.set_cons_zero,List.set_cons_succ]
  refine ixL_go (v:=.int L) (SqL.of (s18 _ _ e1)) (by decide) rfl (ixL_go (v:=.int h) (SqL.of (s18 _ _ e1)) (by decide) rfl ⟨by decide,fun o ho=>?_⟩)
  have sF:=(s1.trans s18)
  have sU:=Same.up H8 ho (o:=.tup [.int L,.int h,.ref p2,.ref o7,.ref o8])
  have live:∀ b ∈ bs,∃ u,H3 b = some u:=fun b hb=>by
    obtain ⟨i,hi⟩:=List.mem_iff_getElem?.mp hb
    obtain ⟨r,xs,_,e,_⟩:=rc3.get hi
    exact ⟨_,e⟩
  have s35:=s4.trans s5
  have s37:=s4.trans s6
  have dead:∀ {X Y:Hp} {a b:Addr} {u:HO},Same X Y→X a = some u→Y b = none→a ≠ b:=fun s e f z=>by rw [← z,s _ _ e] at f; cases f
  exact q _ o p2 o7 o8 bs ys (sF.trans sU) (sF.free1 ho) ⟨f2,((s13.trans s35).free1 ho7),((s13.trans s37).free1 ho8),fun b hb=>(na3 b hb).2,fun b hb=>(na3 b hb).1,fun b hb=>by
    obtain ⟨u,e⟩:=live b hb
    exact dead s35 e ho7,fun b hb=>by
    obtain ⟨u,e⟩:=live b hb
    exact dead s37 e ho8,dead s35 l3 ho7,dead s37 l3 ho8,dead (Same.refl _) e7 ho8⟩ ⟨upd_same,sU _ _ (s38 _ _ l3),(rc3.same s38).same sU,sU _ _ (s7 _ _ e7),(pr6.same s7).same sU,sU _ _ e8⟩
theorem abcL {L:Nat} {i:Nat} (hL:L ≤ 26) (h:i < L):(ABC.take L)[i]? = some (97 + i):=by
  rw [List.getElem?_take,if_pos h]
  exact abc_at (by omega)
theorem ixABL_go {H:Hp} {L:Nat} {i:Int} {Q:VK} (hL:L ≤ 26) (h0:0 ≤ i) (h1:i < L) (q:Q (.str (txt [97 + i.toNat])) H):rIxStr (.str (txt (ABC.take L))) (.int i) H Q:=
  ixS_go (by rw [List.length_take]; omega) h0 (abcL hL (by omega)) q
def spTMarks (K:PySem.W.Frag):Sp:=fun vs H Q _=>∃ (a:Addr) (ns:List Int) (b:Int) (L n:Nat),vs = [.ref a,.int b,.int L,.int n]∧SqL K H a (ns.map V.int)∧ns.length ≤ 63∧0 ≤ b∧b ≤ 10000∧2 ≤ L∧L ≤ 26∧n ≤ 40∧
  ∀ H' p (ms:List (List Nat)),Same H H'→H' p = none→(∀ m ∈ ms,Mark L m∧m.length ≤ 300)→ms.length ≤ n→ms.Pairwise (· < ·)→Q (.ref p) (upd H' p (.lst (ms.map strV)))
def rdTMarks (K:PySem.W.Frag):TS:=
    tSeq (tAsg (tSl rSlS (tC (.str (txt ABC))) tNoPart (tPart (tVar 2))) (gName 4))
      (tSeq (tAsg (tLst tNil) (gName 5))
      (tSeq (tFor (iRng1 (tCons (tVar 3) tNil)) (gName 6) (tSeq (tAsg (tCall (spDraw K) [] E0 (tCons (tVar 0) (tCons (tOp rAddI (tVar 1) (tOp rMulI (tC (.int 9)) (tVar 6))) (tCons (tC (.int 5)) tNil)))) (gName 7))
      (tSeq (tIfS (tTest (tOp rEq (tCall (spDraw K) [] E0 (tCons (tVar 0) (tCons (tOp rAddI (tOp rAddI (tVar 1) (tOp rMulI (tC (.int 9)) (tVar 6))) (tC (.int 1))) (tCons (tC (.int 40)) tNil)))) (tC (.int 0)))) (tAsg (tCall (spDraw K) [] E0 (tCons (tVar 0) (tCons (tOp rAddI (tVar 1) (tOp rMulI (tC (.int 9)) (tVar 6))) (tCons (tC (.int 300)) tNil)))) (gName 7)) (tNext))
      (tSeq (tAsg (tBM K "str" (rJoin K) (tC (.str (txt []))) (tCons (tComp (iRng1 (tCons (tVar 7) tNil)) [4,0,2,1,6] tYes (tOp rIxStr (tVar 1) (tCall (spDraw K) [] E0 (tCons (tVar 2) (tCons (tOp rAddI (tOp rAddI (tOp rAddI (tVar 4) (tOp rMulI (tC (.int 9)) (tVar 5))) (tC (.int 2))) (tVar 0)) (tCons (tVar 3) tNil)))))) tNil)) (gName 8))
      (tSeq (tAsg (tOp rAddS (tVar 8) (tOp rIxStr (tVar 4) (tOp rAddI (tC (.int 1)) (tCall (spDraw K) [] E0 (tCons (tVar 0) (tCons (tOp rAddI (tOp rAddI (tVar 1) (tOp rMulI (tC (.int 9)) (tVar 6))) (tC (.int 8))) (tCons (tOp rSubI (tVar 2) (tC (.int 1))) tNil))))))) (gName 8))
      (tIfS (tTest (tOp (rIn K true) (tVar 8) (tVar 5))) (tDrop (tBM K "list" rAppend (tVar 5) (tCons (tVar 8) tNil))) (tNext)))))))
      (tRet (tCB (rSortedS K) (tCons (tVar 5) tNil)))))
def TMInv (sc p:Addr) (b:Int) (L n:Nat) (H:Hp):Nat→St→Hp→Prop:=fun i σ H'=>∃ (ms:List (List Nat)) (v5 v6 v7:Option V),Same H H'∧H' p = some (.lst (ms.map strV))∧σ = [some (.ref sc),some (.int b),some (.int L),some (.int n),some (.str (txt (ABC.take L))),some (.ref p),v5,v6,v7]∧ms.Nodup∧(∀ m ∈ ms,Mark L m∧m.length ≤ 300)∧ms.length ≤ i
theorem read_tmarks {K:PySem.W.Frag} {N:List Str} {vs:List V} {H:Hp} {Q:VK} {E:XK} (hN:N.length = 9) (h:spTMarks K vs H Q E):rdTMarks K { nx:=fun _ H'=>Q .non H',rt:=Q } (L2.start N vs) H:=by
  obtain ⟨sc,ns,b,L,n,rfl,hS,hl,hb0,hb1,hL,hL26,hn,q⟩:=h
  unfold rdTMarks L2.start
  rw [hN]
  refine seq_set fun c hc=>?_
  and_intros
  refine slTo_go (by rw [abc_len]; decide) (by omega) (by rw [abc_len]; omega) (hc _ _ ?_)
  clear hc c
  rw [Int.toNat_natCast]
  simp only [List.set_cons_zero,List.set_cons_succ,List.replicate_succ,List.replicate_zero,List.map_cons,List.map_nil,List.cons_append,List.nil_append]
  refine seq_set fun c hc=>?_
  and_intros
  refine ⟨by decide,fun p hp=>hc _ _ ?_⟩
  clear hc c
  refine seq_any fun c hc=>?_
  simp? [List.set_cons_zero,List.set_cons_succ]
  refine for_r1 (j:=n) (fun Q h=>⟨_,rfl,h⟩) (by omega) (by omega) (TMInv sc p b L n H) ⟨[],_,_,_,Same.up _ hp,upd_same,rfl,List.nodup_nil,fun m h=>(nomatch h),Nat.le_refl _⟩ ?_ ?_
  · rintro i σ H1 hi ⟨ms,v5,v6,v7,s1,hM,rfl,nd,hm,hml⟩
    have hS1:=s1.seq hS
    refine seq_set fun c hc=>?_
    and_intros
    refine ⟨mulB_l (by decide) (by decide),sc,ns,_,_,rfl,hS1,hl,by omega,by omega,by decide,fun z hz0 hz1=>hc _ _ ?_⟩
    clear hc c
    refine seq_any fun c hc=>?_
    suffices main:∀ z:Int,0 ≤ z→z < 300→c [some (.ref sc),some (.int b),some (.int L),some (.int n),some (.str (txt (ABC.take L))),some (.ref p),some (.int i),some (.int z),v7] H1 by
      simp? [List.set_cons_zero,List.set_cons_succ]
      refine ⟨mulB_l (by decide) (by decide),sc,ns,_,_,rfl,hS1,hl,by omega,by omega,by decide,fun r h0 h1=>⟨rfl,?_⟩⟩
      by_cases e:V.int r = V.int 0
      · rw [if_pos e]
        exact ⟨mulB_l (by decide) (by decide),sc,ns,_,_,rfl,hS1,hl,by omega,by omega,by decide,fun z2 h20 h21=>main z2 h20 h21⟩
      · rw [if_neg e]
        exact main z hz0 (by omega)
    clear hz0 hz1 z
    intro z hz0 hz1
    refine hc _ _ ?_
    clear hc c
    refine seq_set fun c hc=>?_
    suffices main:∀ (H3:Hp) (t:List Nat),Same H1 H3→Ls L t→t.length ≤ 299→c (.str (txt t)) H3 by
      and_intros
      refine ⟨rfl,?_⟩
      refine comp_r1 (j:=z) (fun Q h=>⟨_,rfl,h⟩) (by omega) (by omega) (Nat.le_trans (show z.toNat ≤ 100000 by omega) (by decide))
        (fun i ys H'=>H' = H1∧∃ t:List Nat,ys = (t.map fun c=>strV [c])∧t.length = i∧Ls L t) ⟨rfl,[],rfl,rfl,Ls.nil L⟩
        (fun i ys H' _ p=>by obtain ⟨_,t,e,e2,_⟩:=p; rw [e,List.length_map,e2]; exact Nat.le_refl _) ?_ ?_
      · rintro j ys H' hj ⟨rfl,t,rfl,et,ht⟩ R hR
        and_intros
        refine ⟨mulB_l (by decide) (by decide),sc,ns,_,_,rfl,hS1,hl,by omega,by omega,by omega,fun r h0 h1=>?_⟩
        refine ixABL_go hL26 h0 (by omega) (hR _ _ ⟨rfl,t ++ [97 + r.toNat],by rw [List.map_append]; rfl,by rw [List.length_append,et]; rfl,ht.app fun c hc=>?_⟩)
        rw [List.mem_singleton.mp hc]; omega
      · rintro ys H' ⟨rfl,t,rfl,et,ht⟩ p3 hp3
        refine ⟨[],p3,t.map fun c=>[c],rfl,rfl,?_,?_,?_⟩
        · refine .inl (.inl ?_)
          rw [upd_same,List.map_map]
          rfl
        · rw [sum_ones]
          simp only [List.length_nil]; omega
        · rw [joinL_nil,flat_ones]
          exact main _ t (Same.up _ hp3) ht (by omega)
    intro H2 t s2 ht htl
    refine hc _ _ ?_
    clear hc c
    have hM2:=s2 _ _ hM
    have s12:=s1.trans s2
    have hS2:=s12.seq hS
    refine seq_set fun c hc=>?_
    suffices main:∀ mk:List Nat,Mark L mk→mk.length ≤ 300→c (.str (txt mk)) H2 by
      and_intros
      refine ⟨mulB_l (by decide) (by decide),sc,ns,_,_,rfl,hS2,hl,by omega,by omega,by omega,fun r h0 h1=>?_⟩
      and_intros
      refine ixABL_go (i:=1 + r) hL26 (by omega) (by omega) (addS_go (by simp only [List.length_cons,List.length_nil]; omega) (main _ ⟨ht.app fun c hc=>?_,Na.app (Na.one (show 97 + (1 + r).toNat ≠ 97 by omega)) (by simp),by simp⟩ ?_))
      · rw [List.mem_singleton.mp hc]; omega
      · rw [List.length_append]; simp only [List.length_cons,List.length_nil]; omega
    intro mk Mk zk
    refine hc _ _ ?_
    simp? [List.set_cons_zero,List.set_cons_succ]
    refine ⟨p,_,rfl,.inl (SqL.of hM2),rfl,flat_strs _,?_⟩
    rw [inV_strs]
    and_intros
    by_cases hin:mk ∈ ms
    · rw [if_neg (fun z=>z hin)]
      exact ⟨ms,_,_,_,s12,hM2,rfl,nd,hm,by omega⟩
    · rw [if_pos hin]
      refine ⟨.inl ⟨rfl,_,SqL.of hM2⟩,p,_,_,rfl,rfl,hM2,by rw [List.length_map,sizeLine_eq]; omega,?_⟩
      refine ⟨ms ++ [mk],_,_,_,s12.set hp,by rw [upd_same,List.map_append]; rfl,rfl,?_,fun m h=>?_,by rw [List.length_append]; simp; omega⟩
      · rw [List.nodup_append]
        refine ⟨nd,by simp,fun a ha b hb e=>?_⟩
        rw [List.mem_singleton.mp hb] at e
        subst e
        exact hin ha
      · rcases List.mem_append.mp h with h | h
        · exact hm m h
        · rw [List.mem_singleton.mp h]; exact ⟨Mk,zk⟩
  · rintro σ H1 ⟨ms,v5,v6,v7,s1,hM,rfl,nd,hm,hml⟩
    refine hc _ _ ?_
    and_intros
    rw [Int.toNat_natCast] at hml
    refine ⟨p,ms,rfl,SqL.of hM,by omega,fun r zs hr hpm hle=>?_⟩
    exact q _ r zs s1 hr (fun m h=>hm m (hpm.mem_iff.mp h)) (by rw [hpm.length_eq]; exact hml) (lt_of_sorted hle (hpm.nodup_iff.mpr nd))
def spTRows (K:PySem.W.Frag):Sp:=fun vs H Q _=>∃ (a:Addr) (ns:List Int) (b:Int) (L:Nat),vs = [.ref a,.int b,.int L]∧SqL K H a (ns.map V.int)∧ns.length ≤ 63∧0 ≤ b∧b ≤ 9000∧2 ≤ L∧L ≤ 26∧
  ∀ H' o xs (r:List RwN),Same H H'→H o = none→H' o = some (.lst xs)→Prs H' xs (r.map rowP)→RowsT L r→Q (.ref o) H'
def rdTRows (K:PySem.W.Frag):TS:=
    tSeq (tAsg (tCall (spTMarks K) [] E0 (tCons (tVar 0) (tCons (tVar 1) (tCons (tVar 2) (tCons (tCall (spDraw K) [] E0 (tCons (tVar 0) (tCons (tOp rAddI (tVar 1) (tC (.int 60))) (tCons (tC (.int 5)) tNil)))) tNil))))) (gName 3))
      (tSeq (tAsg (tCall (spTMarks K) [] E0 (tCons (tVar 0) (tCons (tOp rAddI (tVar 1) (tC (.int 61))) (tCons (tVar 2) (tCons (tCB (rLenL K) (tCons (tVar 3) tNil)) tNil))))) (gName 4))
      (tSeq (tAsg (tLst tNil) (gName 5))
      (tSeq (tFor (iList K (tVar 3)) (gName 6) (tSeq (tAsg (tC .non) (gName 7))
      (tSeq (tIfS (tAnd (tTest (tOp rGtI (tCB (rLenL K) (tCons (tVar 4) tNil)) (tC (.int 0)))) (tTest (tOp rGtI (tCall (spDraw K) [] E0 (tCons (tVar 0) (tCons (tOp rAddI (tOp rAddI (tVar 1) (tC (.int 120))) (tCB (rLenL K) (tCons (tVar 5) tNil))) (tCons (tC (.int 4)) tNil)))) (tC (.int 0))))) (tAsg (tBM K "list" rPopAt (tVar 4) (tCons (tC (.int 0)) tNil)) (gName 7)) (tNext))
      (tDrop (tBM K "list" rAppend (tVar 5) (tCons (tTup (tCons (tVar 6) (tCons (tVar 7) tNil))) tNil))))))
      (tRet (tVar 5)))))
def TRInv (sc p1 p2 p5:Addr) (b:Int) (L:Nat) (H:Hp) (ms news:List (List Nat)):Nat→St→Hp→Prop:=fun i σ H'=>∃ (ys:List V) (r:List RwN) (nr:List (List Nat)) (v6 v7:Option V),Keeps [p2,p5] H H'∧H' p2 = some (.lst (nr.map strV))∧H' p5 = some (.lst ys)∧ys.length = i∧Prs H' ys (r.map rowP)∧r.map (·.1) = ms.take i∧r.filterMap (·.2) ++ nr = news∧σ = [some (.ref sc),some (.int b),some (.int L),some (.ref p1),some (.ref p2),some (.ref p5),v6,v7]
theorem read_trows {K:PySem.W.Frag} {N:List Str} {vs:List V} {H:Hp} {Q:VK} {E:XK} (hN:N.length = 8) (h:spTRows K vs H Q E):rdTRows K { nx:=fun _ H'=>Q .non H',rt:=Q } (L2.start N vs) H:=by
  obtain ⟨sc,ns,b,L,rfl,hS,hl,hb0,hb1,hL,hL26,q⟩:=h
  unfold rdTRows L2.start
  rw [hN]
  refine seq_set fun c hc=>?_
  and_intros
  refine ⟨sc,ns,_,_,rfl,hS,hl,by omega,by omega,by decide,fun n hn0 hn1=>?_⟩
  obtain ⟨n,rfl⟩:=Int.eq_ofNat_of_zero_le hn0
  refine ⟨sc,ns,b,L,n,rfl,hS,hl,hb0,by omega,hL,hL26,by omega,fun Ha p1 ms sa hp1 hms hml hlt=>hc _ _ ?_⟩
  clear hc c
  have s1:=sa.new hp1 (o:=.lst (ms.map strV))
  have e1:(upd Ha p1 (.lst (ms.map strV))) p1 = some (.lst (ms.map strV)):=upd_same
  generalize upd Ha p1 _ = H1 at s1 e1 ⊢
  simp only [List.set_cons_zero,List.set_cons_succ,List.replicate_succ,List.replicate_zero,List.map_cons,List.map_nil,List.cons_append,List.nil_append]
  refine seq_set fun c hc=>?_
  and_intros
  refine lenL_go (SqL.of e1) ?_
  rw [List.length_map]
  refine ⟨sc,ns,_,L,ms.length,rfl,s1.seq hS,hl,by omega,by omega,hL,hL26,by omega,fun Hb p2 news sb hp2 hnw hnl hnt=>hc _ _ ?_⟩
  clear hc c
  have f2:=(s1.trans sb).free1 hp2
  have s2:=(s1.trans sb).new hp2 (o:=.lst (news.map strV))
  have e12:=(sb.new hp2 (o:=.lst (news.map strV))) _ _ e1
  have e2:(upd Hb p2 (.lst (news.map strV))) p2 = some (.lst (news.map strV)):=upd_same
  have n12:p1 ≠ p2:=fun z=>by rw [← z,sb _ _ e1] at hp2; cases hp2
  generalize upd Hb p2 _ = H2 at s2 e12 e2 ⊢
  refine seq_set fun c hc=>?_
  simp? [List.set_cons_zero,List.set_cons_succ]
  refine ⟨by decide,fun p5 hp5=>hc _ _ ?_⟩
  clear hc c
  have f5:=s2.free1 hp5
  have s3:=s2.new hp5 (o:=.lst [])
  have n15:p1 ≠ p5:=fun z=>by rw [← z,e12] at hp5; cases hp5
  have n25:p2 ≠ p5:=fun z=>by rw [← z,e2] at hp5; cases hp5
  have e13:=(Same.up H2 hp5 (o:=.lst [])) _ _ e12
  have e23:=(Same.up H2 hp5 (o:=.lst [])) _ _ e2
  have e5:(upd H2 p5 (.lst [])) p5 = some (.lst []):=upd_same
  generalize upd H2 p5 _ = H3 at s3 e13 e23 e5 ⊢
  have nosub:∀ b ∈ [p2,p5],H b = none:=fun b hb=>by
    simp only [List.mem_cons,List.not_mem_nil,or_false] at hb
    rcases hb with rfl | rfl
    · exact f2
    · exact f5
  have p1n:p1 ∉ [p2,p5]:=fun z=>by
    simp only [List.mem_cons,List.not_mem_nil,or_false] at z
    rcases z with z | z
    · exact n12 z
    · exact n15 z
  simp only [List.set_cons_zero,List.set_cons_succ]
  refine seq_any fun c hc=>?_
  refine for_l (a:=p1) (xs:=ms.map strV) (fun Q h=>⟨_,rfl,h⟩) (SqL.of e13) (TRInv sc p1 p2 p5 b L H3 ms news) ⟨[],[],news,none,none,fun b o e _=>e,e23,e5,rfl,trivial,rfl,rfl,rfl⟩ (fun i σ H' _ h=>?_) ?_ ?_
  · obtain ⟨_,_,_,_,_,k',_⟩:=h
    exact SqL.of (k' _ _ e13 p1n)
  · rintro i y σ H' hy ⟨ys,r,nr,v6,v7,k',l2',l5',hl',pr',hr1,hr2,rfl⟩
    rw [List.getElem?_map] at hy
    obtain ⟨o,ho,rfl⟩:=Option.map_eq_some_iff.mp hy
    have hi:i < ms.length:=(List.getElem?_eq_some_iff.mp ho).1
    have sH:=same_keep s3 k' nosub
    have etk:ms.take (i + 1) = ms.take i ++ [o]:=by rw [List.take_add_one,ho]; rfl
    have app:∀ (w:Option (List Nat)) (nr':List (List Nat)) (Hc:Hp),Keeps [p2,p5] H3 Hc→Hc p2 = some (.lst (nr'.map strV))→Hc p5 = some (.lst ys)→Prs Hc ys (r.map rowP)→(r ++ [(o,w)]).filterMap (·.2) ++ nr' = news→tDrop (tBM K "list" rAppend (tVar 5) (tCons (tTup (tCons (tVar 6) (tCons (tVar 7) tNil))) tNil)) { nx:=TRInv sc p1 p2 p5 b L H3 ms news (i + 1),rt:=Q,ct:=TRInv sc p1 p2 p5 b L H3 ms news (i + 1),bk:=c } [some (.ref sc),some (.int b),some (.int L),some (.ref p1),some (.ref p2),some (.ref p5),some (strV o),some (oV w)] Hc:=fun w nr' Hc kc lc2 lc5 prc hf=>by
      and_intros
      refine ⟨.inl ⟨rfl,_,SqL.of lc5⟩,by decide,fun t ht=>?_⟩
      have n6:p5 ≠ t:=fun z=>by subst z; rw [lc5] at ht; cases ht
      have n7:p2 ≠ t:=fun z=>by subst z; rw [lc2] at ht; cases ht
      refine append_go (by rw [upd_ne n6]; exact lc5) (by omega) ⟨_,r ++ [(o,w)],nr',_,_,(kc.upd (.inr ht)).upd (.inl (by simp)),by rw [upd_ne n25,upd_ne n7]; exact lc2,upd_same,by rw [List.length_append,hl']; rfl,?_,by rw [List.map_append,hr1,etk]; rfl,hf,rfl⟩
      rw [List.map_append]
      refine (prc.keep (keep_list ht lc5)).app ⟨⟨t,rfl,?_⟩,trivial⟩
      rw [upd_ne (Ne.symm n6),upd_same]
      rfl
    refine seq_set fun c1 hc1=>?_
    and_intros
    refine hc1 _ _ ?_
    clear hc1 c1
    simp only [List.set_cons_zero,List.set_cons_succ]
    refine seq_any fun c1 hc1=>?_
    and_intros
    have stay:c1 [some (.ref sc),some (.int b),some (.int L),some (.ref p1),some (.ref p2),some (.ref p5),some (strV o),some .non] H':=hc1 _ _ (app none nr H' k' l2' l5' pr' (by rw [List.filterMap_append]; simpa using hr2))
    refine lenL_go (SqL.of l2') ⟨_,rfl,?_⟩
    cases nr with
    | nil=>
      rw [if_neg (by simp)]
      exact stay
    | cons z nr=>
      rw [if_pos (by rw [List.length_map,List.length_cons]; omega)]
      refine lenL_go (SqL.of l5') ⟨_,rfl,sc,ns,_,_,rfl,sH.seq hS,hl,by omega,by omega,by decide,fun d hd0 hd1=>⟨_,rfl,?_⟩⟩
      by_cases hd:(0:Int) < d
      · rw [if_pos hd]
        refine ⟨.inl ⟨rfl,_,SqL.of l2'⟩,p2,_,0,0,strV z,rfl,rfl,l2',by decide,by decide,seqIx (by decide) (by rw [List.length_map,List.length_cons]; omega),rfl,?_⟩
        refine hc1 _ _ (app (some z) nr _ (k'.upd (.inl List.mem_cons_self)) upd_same (by rw [upd_ne (Ne.symm n25)]; exact l5') (pr'.keep fun t ys e=>by rw [upd_ne (fun x=>by subst x; rw [l2'] at e; cases e)]; exact e) ?_)
        rw [List.filterMap_append]
        simpa using hr2
      · rw [if_neg hd]
        exact stay
  rintro σ H4 ⟨ys,r,nr,v6,v7,k4,l2',l5',hl',pr',hr1,hr2,rfl⟩
  refine hc _ _ ?_
  clear hc c
  rw [List.length_map,List.take_length] at hr1
  have s4:=same_keep s3 k4 nosub
  have rl:r.length = ms.length:=by rw [← hr1,List.length_map]
  and_intros
  refine q _ p5 ys r s4 f5 l5' pr' ⟨by omega,fun y hy=>?_,fun y hy z hz=>?_,by rw [hr1]; exact hlt,?_⟩
  · have:=hms y.1 (by rw [← hr1]; exact List.mem_map_of_mem hy)
    exact ⟨this.1,by have:=this.2; omega⟩
  · have:=hnw z (by rw [← hr2]; exact List.mem_append_left _ (List.mem_filterMap.mpr ⟨y,hy,hz⟩))
    exact ⟨this.1,by have:=this.2; omega⟩
  · rw [← hr2] at hnt
    exact (List.pairwise_append.mp hnt).1
theorem comp_r1x {ta:TA} {fs:List Nat} {tt:TT} {te:TE} {σ:St} {H:Hp} {Q:VK} {B:Int} (ha:∀ R:List V→Hp→Prop,(∀ j:Int,0 ≤ j→j < B→R [.int j] H)→ta σ H R) (hB:B ≤ 100000)
    (Pv:Nat→List V→Hp→Prop) (h0:Pv 0 [] H) (hl:∀ i ys H,Pv i ys H→ys.length ≤ i)
    (hs:∀ (i:Nat) ys H,(i:Int) < B→Pv i ys H→∀ R:List V→Hp→Prop,(∀ ys' H',Pv (i + 1) ys' H'→R ys' H')→tt (some (.int i) :: compSt fs σ) H fun b H2=>if b = true then te (some (.int i) :: compSt fs σ) H2 fun y H3=>R (ys ++ [y]) H3 else R ys H2)
    (hd:∀ (i:Nat) ys H,(i:Int) < B→Pv i ys H→∀ p,H p = none→Q (.ref p) (upd H p (.lst ys))):tComp (iRng1 ta) fs tt te σ H Q:=by
  refine ha _ fun j j0 j1=>⟨j,rfl,by omega,by omega,?_⟩
  refine comp_range (lo:=0) (n:=j.toNat) Pv h0 (fun i ys H _ p=>hl i ys H p) (by rw [sizeLine_eq]; omega) (fun i ys H hi p=>?_) (fun ys H p=>hd _ ys H (by omega) p)
  rw [Int.zero_add]
  exact hs i ys H (by omega) p
theorem for_pre {K:PySem.W.Frag} {tl:TE} {g:TG} {tb:TS} {D:Ends} {σ:St} {H:Hp} (h:tl σ H fun x H1=>tFor (iList K (tC x)) g tb D σ H1):tFor (iList K tl) g tb D σ H:=h
theorem sub_filter {ws l:List (List Nat)} (h:ws.Sublist l):l.Nodup→ws = l.filter fun m=>decide (m ∈ ws):=by
  induction h with
  | slnil=>intro _; rfl
  | @cons ws l a s ih=>
    intro nd
    rw [List.nodup_cons] at nd
    rw [List.filter_cons,if_neg (by simpa using fun z=>nd.1 (s.subset z))]
    exact ih nd.2
  | @cons_cons ws l a s ih=>
    intro nd
    rw [List.nodup_cons] at nd
    rw [List.filter_cons,if_pos (by simp)]
    congr 1
    rw [List.filter_congr (q:=fun m=>decide (m ∈ ws)) (fun x hx=>by
      have:x ≠ a:=fun z=>nd.1 (z ▸ hx)
      simp [this])]
    exact ih nd.2
def spTMade (K:PySem.W.Frag):Sp:=fun vs H Q _=>∃ (a ps:Addr) (ns:List Int) (L h:Nat),vs = [.ref a,.ref ps]∧SqL K H a (ns.map V.int)∧ns.length ≤ 63∧H ps = some (.tup [.int L,.int h])∧2 ≤ L∧L ≤ 26∧1 ≤ h∧h < L∧
  ∀ H' o p1 p2 p3 bs xs R zs ws,Same H H'→StateT L h R zs ws→StA H' o p1 p2 p3 bs xs L h R zs ws→Q (.ref o) H'
def rdTMade (K:PySem.W.Frag):TS:=
    tSeq (tCompSet 2 (iRng1 (tCons (tCall (spDraw K) [] E0 (tCons (tVar 0) (tCons (tC (.int 3)) (tCons (tC (.int 4)) tNil)))) tNil)) [0,1] tYes (tCall (spTRows K) [] E0 (tCons (tVar 1) (tCons (tOp rAddI (tC (.int 300)) (tOp rMulI (tC (.int 200)) (tVar 0))) (tCons (tOp (rIxT K) (tVar 2) (tC (.int 0))) tNil)))))
      (tSeq (tAsg (tLst tNil) (gName 3))
      (tSeq (tAsg (tLst tNil) (gName 4))
      (tSeq (tFor (iList K (tCall (spTMarks K) [] E0 (tCons (tVar 0) (tCons (tC (.int 1000)) (tCons (tOp (rIxT K) (tVar 1) (tC (.int 0))) (tCons (tCall (spDraw K) [] E0 (tCons (tVar 0) (tCons (tC (.int 4)) (tCons (tC (.int 7)) tNil)))) tNil)))))) (gName 5) (tSeq (tDrop (tBM K "list" rAppend (tVar 3) (tCons (tTup (tCons (tVar 5) (tCons (tCall (spHThing K) [] E0 (tCons (tVar 0) (tCons (tOp rAddI (tC (.int 1100)) (tCB (rLenL K) (tCons (tVar 3) tNil))) tNil))) tNil))) tNil)))
      (tIfS (tTest (tOp rEq (tCall (spDraw K) [] E0 (tCons (tVar 0) (tCons (tOp rAddI (tC (.int 1200)) (tCB (rLenL K) (tCons (tVar 3) tNil))) (tCons (tC (.int 3)) tNil)))) (tC (.int 0)))) (tDrop (tBM K "list" rAppend (tVar 4) (tCons (tVar 5) tNil))) (tNext))))
      (tRet (tOp (rCatT K) (tVar 1) (tTup (tCons (tVar 2) (tCons (tVar 3) (tCons (tVar 4) tNil)))))))))
def TDInv (sc ps p1 p3 p4:Addr) (H:Hp) (ms:List (List Nat)):Nat→St→Hp→Prop:=fun i σ H'=>∃ (ys:List V) (zs:List (List Nat × List Nat)) (ws:List (List Nat)) (v5:Option V),Keeps [p3,p4] H H'∧H' p3 = some (.lst ys)∧H' p4 = some (.lst (ws.map strV))∧ys.length = i∧Prs H' ys (zs.map stP)∧zs.map (·.1) = ms.take i∧(∀ z ∈ zs,Thing z.2)∧ws.Sublist (ms.take i)∧σ = [some (.ref sc),some (.ref ps),some (.ref p1),some (.ref p3),some (.ref p4),v5]
theorem read_tmade {K:PySem.W.Frag} {N:List Str} {vs:List V} {H:Hp} {Q:VK} {E:XK} (hN:N.length = 6) (h:spTMade K vs H Q E):rdTMade K { nx:=fun _ H'=>Q .non H',rt:=Q } (L2.start N vs) H:=by
  obtain ⟨sc,ps,ns,L,h,rfl,hS,hl,hps,hL,hL26,h1,hhL,q⟩:=h
  unfold rdTMade L2.start
  rw [hN]
  refine seq_cset fun c hc=>?_
  refine comp_r1x (B:=4) (fun R hR=>by and_intros; exact ⟨sc,ns,_,_,rfl,hS,hl,by decide,by decide,by decide,fun r h0 h1=>hR r h0 h1⟩) (by decide)
    (fun i ys H'=>Same H H'∧∃ bs R,ys = bs.map V.ref∧RowsC H' bs R∧R.length = i∧∀ r ∈ R,RowsT L r) ⟨Same.refl _,[],[],rfl,trivial,rfl,fun r hr=>(nomatch hr)⟩
    (fun i ys H' p=>by obtain ⟨_,bs,R,e,rc,er,_⟩:=p; rw [e,List.length_map,rc.len,er]; exact Nat.le_refl _) ?_ ?_
  · rintro i ys H' hi ⟨s',bs,R,rfl,rc,er,hR⟩ W hW
    and_intros
    refine ⟨mulB_l (by decide) (by decide),ixT_go (v:=.int L) (SqT.of (s' _ _ hps)) (by decide) rfl ⟨sc,ns,_,L,rfl,s'.seq hS,hl,by omega,by omega,hL,hL26,fun H2 o xs r s2 ho eo pr rt=>hW _ _ ⟨s'.trans s2,bs ++ [o],R ++ [r],by rw [List.map_append]; rfl,(rc.same s2).app ⟨⟨xs,eo,pr⟩,trivial⟩,by rw [List.length_append,er]; rfl,fun r' hr'=>?_⟩⟩⟩
    rcases List.mem_append.mp hr' with z | z
    · exact hR r' z
    · rw [List.mem_singleton.mp z]; exact rt
  rintro k ys Ha hk ⟨sa,bs,R,rfl,rc,er,hR⟩ p1 hp1
  refine hc _ _ ?_
  clear hc c
  have s1:=sa.new hp1 (o:=.lst (bs.map V.ref))
  have rc1:=rc.same (Same.up Ha hp1 (o:=.lst (bs.map V.ref)))
  have e1:(upd Ha p1 (.lst (bs.map V.ref))) p1 = some (.lst (bs.map V.ref)):=upd_same
  generalize upd Ha p1 _ = H1 at s1 rc1 e1 ⊢
  simp only [List.set_cons_zero,List.set_cons_succ,List.replicate_succ,List.replicate_zero,List.map_cons,List.map_nil,List.cons_append,List.nil_append]
  refine seq_set fun c hc=>?_
  and_intros
  refine ⟨by decide,fun p3 hp3=>hc _ _ ?_⟩
  clear hc c
  have s12:=Same.up H1 hp3 (o:=.lst [])
  have e3:(upd H1 p3 (.lst [])) p3 = some (.lst []):=upd_same
  generalize upd H1 p3 _ = H2 at s12 e3 ⊢
  refine seq_set fun c hc=>?_
  simp? [List.set_cons_zero,List.set_cons_succ]
  refine ⟨by decide,fun p4 hp4=>hc _ _ ?_⟩
  clear hc c
  have f4:=s12.free1 hp4
  have n34:p3 ≠ p4:=fun z=>by rw [← z,e3] at hp4; cases hp4
  have s23:=Same.up H2 hp4 (o:=.lst [])
  have e4:(upd H2 p4 (.lst [])) p4 = some (.lst []):=upd_same
  generalize upd H2 p4 _ = H3 at s23 e4 ⊢
  have s13:=s12.trans s23
  have s3:=s1.trans s13
  have e33:=s23 _ _ e3
  simp only [List.set_cons_zero,List.set_cons_succ]
  refine seq_any fun c hc=>?_
  refine for_pre ?_
  and_intros
  refine ixT_go (v:=.int L) (SqT.of (s3 _ _ hps)) (by decide) rfl ⟨sc,ns,_,_,rfl,s3.seq hS,hl,by decide,by decide,by decide,fun n hn0 hn1=>?_⟩
  obtain ⟨n,rfl⟩:=Int.eq_ofNat_of_zero_le hn0
  refine ⟨sc,ns,1000,L,n,rfl,s3.seq hS,hl,by decide,by decide,hL,hL26,by omega,fun Hb p5 ms sb hp5 hms hml hlt=>?_⟩
  have s34:=sb.new hp5 (o:=.lst (ms.map strV))
  have e5:(upd Hb p5 (.lst (ms.map strV))) p5 = some (.lst (ms.map strV)):=upd_same
  have n35:p3 ≠ p5:=fun z=>by rw [← z,sb _ _ e33] at hp5; cases hp5
  have n45:p4 ≠ p5:=fun z=>by rw [← z,sb _ _ e4] at hp5; cases hp5
  generalize upd Hb p5 _ = H4 at s34 e5 ⊢
  have s14:=s13.trans s34
  have s4:=s1.trans s14
  have nosub:∀ b ∈ [p3,p4],H1 b = none:=fun b hb=>by
    simp only [List.mem_cons,List.not_mem_nil,or_false] at hb
    rcases hb with rfl | rfl
    · exact hp3
    · exact f4
  have p5n:p5 ∉ [p3,p4]:=fun z=>by
    simp only [List.mem_cons,List.not_mem_nil,or_false] at z
    rcases z with z | z
    · exact n35 z.symm
    · exact n45 z.symm
  have nd:ms.Nodup:=hlt.imp fun h=>by
    intro z
    subst z
    exact absurd h (List.lt_irrefl _)
  refine for_l (a:=p5) (xs:=ms.map strV) (fun Q h=>h) (SqL.of e5) (TDInv sc ps p1 p3 p4 H4 ms) ⟨[],[],[],none,fun b o e _=>e,s34 _ _ e33,s34 _ _ e4,rfl,trivial,rfl,fun z hz=>(nomatch hz),List.Sublist.slnil,rfl⟩ (fun i σ H' _ h=>?_) ?_ ?_
  · obtain ⟨_,_,_,_,k',_⟩:=h
    exact SqL.of (k' _ _ e5 p5n)
  · rintro i y σ H' hy ⟨ys,zs,ws,v5,k',l3,l4,hl',pr',hz1,hz2,hsub,rfl⟩
    rw [List.getElem?_map] at hy
    obtain ⟨o,ho,rfl⟩:=Option.map_eq_some_iff.mp hy
    have hi:i < ms.length:=(List.getElem?_eq_some_iff.mp ho).1
    have sH:=s1.trans (same_keep s14 k' nosub)
    have etk:ms.take (i + 1) = ms.take i ++ [o]:=by rw [List.take_add_one,ho]; rfl
    refine seq_any fun c1 hc1=>?_
    and_intros
    refine ⟨.inl ⟨rfl,_,SqL.of l3⟩,lenL_go (SqL.of l3) ⟨_,rfl,sc,ns,_,rfl,sH.seq hS,hl,by omega,by omega,fun H2' t s2 tht tl=>⟨by decide,fun u hu=>?_⟩⟩⟩
    have l32:=s2 _ _ l3
    have l42:=s2 _ _ l4
    have n6:p3 ≠ u:=fun z=>by subst z; rw [l32] at hu; cases hu
    have n7:p4 ≠ u:=fun z=>by subst z; rw [l42] at hu; cases hu
    refine append_go (by rw [upd_ne n6]; exact l32) (by omega) (hc1 _ _ ?_)
    clear hc1 c1
    have k2:Keeps [p3,p4] H4 (upd (upd H2' u (.tup [strV o,.str (txt t)])) p3 (.lst (ys ++ [.ref u]))):=((k'.trans (s2.keeps _)).upd (.inr hu)).upd (.inl List.mem_cons_self)
    have pr2:Prs (upd (upd H2' u (.tup [strV o,.str (txt t)])) p3 (.lst (ys ++ [.ref u]))) (ys ++ [.ref u]) ((zs ++ [(o,t)]).map stP):=by
      rw [List.map_append]
      refine ((pr'.same s2).keep (keep_list hu l32)).app ⟨⟨u,rfl,?_⟩,trivial⟩
      rw [upd_ne (Ne.symm n6),upd_same]
      rfl
    have l33:(upd (upd H2' u (.tup [strV o,.str (txt t)])) p3 (.lst (ys ++ [.ref u]))) p3 = some (.lst (ys ++ [.ref u])):=upd_same
    have l43:(upd (upd H2' u (.tup [strV o,.str (txt t)])) p3 (.lst (ys ++ [.ref u]))) p4 = some (.lst (ws.map strV)):=by rw [upd_ne (Ne.symm n34),upd_ne n7]; exact l42
    generalize upd (upd H2' u _) p3 _ = H5 at k2 pr2 l33 l43 ⊢
    have sH5:=s1.trans (same_keep s14 k2 nosub)
    have z1:(zs ++ [(o,t)]).map (·.1) = ms.take (i + 1):=by rw [List.map_append,hz1,etk]; rfl
    have z2:∀ z ∈ zs ++ [(o,t)],Thing z.2:=fun z hz=>by
      rcases List.mem_append.mp hz with hz | hz
      · exact hz2 z hz
      · rw [List.mem_singleton.mp hz]; exact tht
    have yl:(ys ++ [V.ref u]).length = i + 1:=by rw [List.length_append,hl']; rfl
    have wl:ws.length ≤ 64:=by
      have:=hsub.length_le
      rw [List.length_take] at this
      omega
    and_intros
    refine lenL_go (SqL.of l33) ⟨_,rfl,sc,ns,_,_,rfl,sH5.seq hS,hl,by omega,by omega,by decide,fun d hd0 hd1=>⟨rfl,?_⟩⟩
    by_cases e:V.int d = V.int 0
    · rw [if_pos e]
      refine ⟨.inl ⟨rfl,_,SqL.of l43⟩,append_go l43 (by rw [List.length_map]; omega) ⟨_,zs ++ [(o,t)],ws ++ [o],_,k2.upd (.inl (by simp)),by rw [upd_ne n34]; exact l33,by rw [upd_same,List.map_append]; rfl,yl,pr2.keep fun t' ys' e'=>by rw [upd_ne (fun x=>by subst x; rw [l43] at e'; cases e')]; exact e',z1,z2,by rw [etk]; exact hsub.append (List.Sublist.refl _),rfl⟩⟩
    · rw [if_neg e]
      exact ⟨_,zs ++ [(o,t)],ws,_,k2,l33,l43,yl,pr2,z1,z2,by rw [etk]; exact hsub.trans (List.sublist_append_left _ _),rfl⟩
  rintro σ H5 ⟨ys,zs,ws,v5,k5,l3,l4,hl',pr',hz1,hz2,hsub,rfl⟩
  refine hc _ _ ?_
  clear hc c
  rw [List.length_map,List.take_length] at hz1 hsub
  have s15:=same_keep s14 k5 nosub
  have s5:=s1.trans s15
  have zl:zs.length = ms.length:=by rw [← hz1,List.length_map]
  have T:StateT L h R zs ws:=⟨hL,hL26,h1,hhL,by omega,hR,by omega,fun z hz=>?_,by rw [hz1]; exact hlt,by rw [hz1]; exact sub_filter hsub nd⟩
  · and_intros
    refine ⟨by decide,fun t ht=>?_⟩
    have sU:=Same.up H5 ht (o:=.tup [.ref p1,.ref p3,.ref p4])
    refine ⟨ps,t,_,_,rfl,rfl,SqT.of ((s5.trans sU) _ _ hps),SqT.of upd_same,by simp,(show 5 ≤ sizeLine by decide),fun z=>(nomatch z),fun _ o ho=>?_⟩
    have sV:=sU.new ho (o:=.tup ([.int L,.int h] ++ [.ref p1,.ref p3,.ref p4]))
    exact q _ o p1 p3 p4 bs ys R zs ws (s5.trans sV) T ⟨upd_same,sV _ _ (s15 _ _ e1),(rc1.same s15).same sV,sV _ _ l3,pr'.same sV,sV _ _ l4⟩
  · have:=hms z.1 (by rw [← hz1]; exact List.mem_map_of_mem hz)
    exact ⟨this.1,by have:=this.2; omega,hz2 z hz⟩
theorem strN_go {H:Hp} {k:Nat} {Q:VK} (hk:k < 64) (q:Q (.str (txt (num k))) H):rStrI [.int (k:Int)] H Q:=by
  refine ⟨(k:Int),rfl,?_,?_⟩
  · rw [Int.natAbs_natCast]
    exact Nat.lt_of_le_of_lt (Nat.log2_le_self k) (by omega)
  · rw [← txt_num]; exact q
theorem join_go {K:PySem.W.Frag} {H:Hp} {p:Addr} {sep:List Nat} {ys:List (List Nat)} {Q:VK} (h:H p = some (.lst (ys.map strV))) (hz:(ys.map (·.length)).sum + ys.length * sep.length ≤ 16777216) (q:Q (.str (txt (joinL sep ys))) H):rJoin K (.str (txt sep)) [.ref p] H Q:=
  ⟨sep,p,ys,rfl,rfl,SqL.of h,hz,q⟩
def spTTexts (K:PySem.W.Frag):Sp:=fun vs H Q _=>∃ (p p1 p2 p3:Addr) (bs:List Addr) (ts:List V) (L h:Nat) (R:List (List RwN)) (zs:List (List Nat × List Nat)) (ws:List (List Nat)),vs = [.ref p]∧StA H p p1 p2 p3 bs ts L h R zs ws∧StateT L h R zs ws∧∀ H' o,Same H H'→H o = none→H' o = some (.lst ((stT L h R zs ws).map strV))→Q (.ref o) H'
def rdTTexts (K:PySem.W.Frag):TS:=
    tSeq (tAsg (tLst (tCons (tBM K "str" (rJoin K) (tC (.str (txt [32]))) (tCons (tLst (tCons (tCB rStrI (tCons (tOp (rIxT K) (tVar 0) (tC (.int 0))) tNil)) (tCons (tCB rStrI (tCons (tOp (rIxT K) (tVar 0) (tC (.int 1))) tNil)) (tCons (tCB rStrI (tCons (tCB (rLenL K) (tCons (tOp (rIxT K) (tVar 0) (tC (.int 2))) tNil)) tNil)) tNil)))) tNil)) tNil)) (gName 1))
      (tSeq (tFor (iList K (tOp (rIxT K) (tVar 0) (tC (.int 2)))) (gName 2) (tSeq (tDrop (tBM K "list" rAppend (tVar 1) (tCons (tOp rAddS (tC (.str (txt [114,101,110,101,119,97,108,32]))) (tCB rStrI (tCons (tCB (rLenL K) (tCons (tVar 2) tNil)) tNil))) tNil)))
      (tFor (iList K (tVar 2)) (gTup K 2 (gCons (gName 3) (gCons (gName 4) gNil))) (tDrop (tBM K "list" rAppend (tVar 1) (tCons (tIf (tB (tIsN (tVar 4))) (tOp rAddS (tVar 3) (tC (.str (txt [32,45])))) (tOp rAddS (tOp rAddS (tVar 3) (tC (.str (txt [32])))) (tVar 4))) tNil))))))
      (tSeq (tFor (iList K (tOp (rIxT K) (tVar 0) (tC (.int 3)))) (gTup K 2 (gCons (gName 5) (gCons (gName 6) gNil))) (tDrop (tBM K "list" rAppend (tVar 1) (tCons (tBM K "str" (rJoin K) (tC (.str (txt [32]))) (tCons (tOp rCat (tLst (tCons (tVar 5) (tCons (tVar 6) tNil))) (tOp rRep (tLst (tCons (tC (.str (txt [116, 97, 107, 101, 110]))) tNil)) (tBM K "list" (rCount K) (tOp (rIxT K) (tVar 0) (tC (.int 4))) (tCons (tVar 5) tNil)))) tNil)) tNil))))
      (tRet (tVar 1))))
def TOInv (H:Hp) (p p4:Addr) (L h:Nat) (R:List (List RwN)):Nat→St→Hp→Prop:=fun i σ H'=>∃ v2 v3 v4:Option V,Keeps [p4] H H'∧H' p4 = some (.lst ((headT L h R.length :: (R.take i).flatMap renT).map strV))∧σ = [some (.ref p),some (.ref p4),v2,v3,v4,none,none]
def TNInv (H:Hp) (p p4 b:Addr) (tx:List (List Nat)) (r:List RwN):Nat→St→Hp→Prop:=fun j σ H'=>∃ v3 v4:Option V,Keeps [p4] H H'∧H' p4 = some (.lst ((tx ++ (r.take j).map rowT).map strV))∧σ = [some (.ref p),some (.ref p4),some (.ref b),v3,v4,none,none]
def TZInv (H:Hp) (p p4:Addr) (tx:List (List Nat)) (zs:List (List Nat × List Nat)) (ws:List (List Nat)):Nat→St→Hp→Prop:=fun i σ H'=>∃ v2 v3 v4 v5 v6:Option V,Keeps [p4] H H'∧H' p4 = some (.lst ((tx ++ (zs.take i).map (thT ws)).map strV))∧σ = [some (.ref p),some (.ref p4),v2,v3,v4,v5,v6]
theorem count_strs2 (x:List Nat):∀ xs:List (List Nat),(xs.map strV).countP (fun y=>eqV y (.str (txt x))) = xs.count x
  | []=>rfl
  | y :: xs=>by
    rw [List.map_cons,List.countP_cons,List.count_cons,count_strs2 x xs]
    have e:eqV (strV y) (.str (txt x)) = (y == x):=by
      have:=inV_strs x [y]
      rw [show (y == x) = decide (y = x) by rw [Bool.eq_iff_iff]; simp]
      simpa [inV,eq_comm] using this
    rw [e]
theorem count_mem1 {x:List Nat}:∀ {l:List (List Nat)},l.Nodup→x ∈ l→l.count x = 1
  | [],_,h=>(nomatch h)
  | y :: l,nd,h=>by
    obtain ⟨n1,n2⟩:=List.nodup_cons.mp nd
    rw [List.count_cons]
    by_cases e:y = x
    · subst e
      rw [List.count_eq_zero_of_not_mem n1]
      simp
    · rw [count_mem1 n2 (by rcases List.mem_cons.mp h with z | z; exact absurd z.symm e; exact z)]
      simp [e]
theorem read_ttexts {K:PySem.W.Frag} {N:List Str} {vs:List V} {H:Hp} {Q:VK} {E:XK} (hN:N.length = 7) (h:spTTexts K vs H Q E):rdTTexts K { nx:=fun _ H'=>Q .non H',rt:=Q } (L2.start N vs) H:=by
  obtain ⟨p,p1,p2,p3,bs,ts,L,h,R,zs,ws,rfl,A,T,q⟩:=h
  have bl:=A.row.len
  have few:=T.few
  have hl26:=T.l26
  have hhL:=T.hL
  have n1:=(num_ok L (by omega)).2.2
  have n2:=(num_ok h (by omega)).2.2
  have n3:=(num_ok R.length (by omega)).2.2
  unfold rdTTexts L2.start
  rw [hN]
  refine seq_set fun c hc=>?_
  and_intros
  refine ⟨rfl,ixT_go (v:=.int L) (SqT.of A.top) (by decide) rfl (strN_go (by omega) (ixT_go (v:=.int h) (SqT.of A.top) (by decide) rfl (strN_go (by omega) (ixT_go (v:=.ref p1) (SqT.of A.top) (by decide) rfl (lenL_go (SqL.of A.ren) ?_)))))⟩
  rw [List.length_map,bl]
  refine strN_go (by omega) ⟨by decide,fun q0 hq0=>join_go (ys:=[num L,num h,num R.length]) upd_same (by simp only [List.map_cons,List.map_nil,List.sum_cons,List.sum_nil,List.length_cons,List.length_nil]; omega) ⟨by decide,fun p4 hp4=>hc _ _ ?_⟩⟩
  clear hc c
  rw [← head_join]
  have s0:=Same.up H hq0 (o:=.lst [strV (num L),strV (num h),strV (num R.length)])
  have f4:=s0.free1 hp4
  have s1:=s0.new hp4 (o:=.lst [.str (txt (headT L h R.length))])
  have e1:(upd (upd H q0 (.lst [strV (num L),strV (num h),strV (num R.length)])) p4 (.lst [.str (txt (headT L h R.length))])) p4 = some (.lst ((headT L h R.length :: (R.take 0).flatMap renT).map strV)):=upd_same
  have nosub:∀ b ∈ [p4],H b = none:=fun b hb=>by rw [List.mem_singleton.mp hb]; exact f4
  simp only [List.set_cons_zero,List.set_cons_succ,List.replicate_succ,List.replicate_zero,List.map_cons,List.map_nil,List.cons_append,List.nil_append]
  simp only [strV] at s1 e1
  generalize upd (upd H q0 _) p4 _ = H1 at s1 e1 ⊢
  have A1:=A.same s1
  refine seq_any fun c hc=>?_
  refine for_l (a:=p1) (xs:=bs.map V.ref) (fun Q h=>by and_intros; exact ixT_go (v:=.ref p1) (SqT.of A1.top) (by decide) rfl h) (SqL.of A1.ren) (TOInv H1 p p4 L h R) ⟨none,none,none,fun b o e _=>e,e1,rfl⟩ (fun i σ H' _ h=>?_) ?_ ?_
  · obtain ⟨_,_,_,k',_⟩:=h
    exact SqL.of ((same_keep s1 k' nosub) _ _ A.ren)
  · rintro i y σ H' hy ⟨v2,v3,v4,k',l',rfl⟩
    rw [List.getElem?_map] at hy
    obtain ⟨b,hb,rfl⟩:=Option.map_eq_some_iff.mp hy
    have sH:=same_keep s1 k' nosub
    obtain ⟨r,xs,er,hx0,px⟩:=A.row.get hb
    have hx:=sH _ _ hx0
    have hR:=T.rows r (List.mem_of_getElem? er)
    have hil:i < R.length:=(List.getElem?_eq_some_iff.mp er).1
    have xl:=px.len
    rw [List.length_map] at xl
    have len1:=ren_len (R:=R.take i) fun r hr=>T.rows r (List.mem_of_mem_take hr)
    rw [List.length_take] at len1
    have fr:=hR.few
    have nr:=(num_ok r.length (by omega)).2.2
    have etk:R.take (i + 1) = R.take i ++ [r]:=by rw [List.take_add_one,er]; rfl
    refine seq_any fun c1 hc1=>?_
    and_intros
    refine ⟨.inl ⟨rfl,_,SqL.of l'⟩,lenL_go (SqL.of hx) ?_⟩
    rw [xl]
    refine strN_go (by omega) (addS_go (by simp only [List.length_cons,List.length_nil]; omega) (append_go l' (by rw [List.length_map,List.length_cons]; omega) (hc1 _ _ ?_)))
    clear hc1 c1
    have k2:Keeps [p4] H1 (upd H' p4 (.lst (((headT L h R.length :: (R.take i).flatMap renT).map strV) ++ [.str (txt ([114,101,110,101,119,97,108,32] ++ num r.length))]))):=k'.upd (.inl List.mem_cons_self)
    have l2:(upd H' p4 (.lst (((headT L h R.length :: (R.take i).flatMap renT).map strV) ++ [.str (txt ([114,101,110,101,119,97,108,32] ++ num r.length))]))) p4 = some (.lst ((((headT L h R.length :: (R.take i).flatMap renT) ++ [kRnw ++ [32] ++ num r.length]) ++ (r.take 0).map rowT).map strV)):=by
      rw [upd_same,List.take_zero,List.map_nil,List.append_nil,List.map_append]
      rfl
    generalize upd H' p4 _ = H2 at k2 l2 ⊢
    refine for_l (a:=b) (xs:=xs) (fun Q h=>⟨_,rfl,h⟩) (SqL.of ((same_keep s1 k2 nosub) _ _ hx0)) (TNInv H1 p p4 b ((headT L h R.length :: (R.take i).flatMap renT) ++ [kRnw ++ [32] ++ num r.length]) r) ⟨v3,v4,k2,l2,rfl⟩ (fun j σ H' _ h=>?_) ?_ ?_
    · obtain ⟨_,_,k3,_⟩:=h
      exact SqL.of ((same_keep s1 k3 nosub) _ _ hx0)
    · rintro j x σ H3 hxj ⟨v3,v4,k3,l3,rfl⟩
      have sH3:=same_keep s1 k3 nosub
      obtain ⟨kk,t,ek,rfl,ht⟩:=(px.same sH3).get hxj
      rw [List.getElem?_map] at ek
      obtain ⟨⟨m,w⟩,ek2,rfl⟩:=Option.map_eq_some_iff.mp ek
      have hj:j < r.length:=(List.getElem?_eq_some_iff.mp ek2).1
      have ejk:r.take (j + 1) = r.take j ++ [(m,w)]:=by rw [List.take_add_one,ek2]; rfl
      have om:m.length ≤ 1000:=(hR.old _ (List.mem_of_getElem? ek2)).2
      have nm:=hR.new _ (List.mem_of_getElem? ek2)
      have ll:((((headT L h R.length :: (R.take i).flatMap renT) ++ [kRnw ++ [32] ++ num r.length]) ++ (r.take j).map rowT).map strV).length < 100000:=by
        rw [List.length_map,List.length_append,List.length_append,List.length_cons,List.length_map,List.length_take]
        simp only [List.length_cons,List.length_nil]
        omega
      simp? [gTup,gCons,gNil,rowP]
      refine ⟨[strV m,oV w],SqT.of ht,rfl,strV m,[oV w],rfl,oV w,[],rfl,rfl,?_⟩
      have fin:∀ tx,tx = rowT (m,w)→TNInv H1 p p4 b ((headT L h R.length :: (R.take i).flatMap renT) ++ [kRnw ++ [32] ++ num r.length]) r (j + 1) [some (.ref p),some (.ref p4),some (.ref b),some (strV m),some (oV w),none,none] (upd H3 p4 (.lst (((((headT L h R.length :: (R.take i).flatMap renT) ++ [kRnw ++ [32] ++ num r.length]) ++ (r.take j).map rowT).map strV) ++ [.str (txt tx)]))):=fun tx e=>by
        subst e
        refine ⟨_,_,k3.upd (.inl List.mem_cons_self),?_,rfl⟩
        rw [upd_same,ejk,List.map_append (l₁:=r.take j),← List.append_assoc,List.map_append (l₂:=List.map rowT [(m,w)])]
        rfl
      cases w with
      | none=>
        simp? [oV,strV]
        exact ⟨.inl ⟨rfl,_,SqL.of l3⟩,addS_go (by simp only [List.length_cons,List.length_nil]; omega) (append_go l3 ll (fin _ rfl))⟩
      | some z=>
        have:=(nm z rfl).2
        simp? [oV,strV]
        exact ⟨.inl ⟨rfl,_,SqL.of l3⟩,addS_go (by simp only [List.length_cons,List.length_nil]; omega) (addS_go (by simp only [List.length_append,List.length_cons,List.length_nil]; omega) (append_go l3 ll (fin _ rfl)))⟩
    · rintro σ H3 ⟨v3,v4,k3,l3,rfl⟩
      refine ⟨_,_,_,k3,?_,rfl⟩
      rw [l3,xl,List.take_length,etk,List.flatMap_append,List.flatMap_cons,List.flatMap_nil,List.append_nil,renT]
      simp
  rintro σ H2 ⟨v2,v3,v4,k2,l2,rfl⟩
  rw [List.length_map,bl,List.take_length] at l2
  refine hc _ _ ?_
  clear hc c
  have A2:=A.same (same_keep s1 k2 nosub)
  have tl:=A.prs.len
  rw [List.length_map] at tl
  have zfew:=T.things.few
  have len1:=ren_len (R:=R) T.rows
  obtain ⟨wl,wnd⟩:=T.things.taken
  refine seq_any fun c hc=>?_
  refine for_l (a:=p2) (xs:=ts) (fun Q h=>by and_intros; exact ixT_go (v:=.ref p2) (SqT.of A2.top) (by decide) rfl h) (SqL.of A2.thi) (TZInv H1 p p4 (headT L h R.length :: R.flatMap renT) zs ws) ⟨v2,v3,v4,none,none,k2,by rw [l2,List.take_zero,List.map_nil,List.append_nil],rfl⟩ (fun i σ H' _ h=>?_) ?_ ?_
  · obtain ⟨_,_,_,_,_,k',_⟩:=h
    exact SqL.of ((same_keep s1 k' nosub) _ _ A.thi)
  · rintro i x σ H3 hxi ⟨v2,v3,v4,v5,v6,k3,l3,rfl⟩
    have sH3:=same_keep s1 k3 nosub
    have A3:=A.same sH3
    obtain ⟨kk,t,ek,rfl,ht⟩:=A3.prs.get hxi
    rw [List.getElem?_map] at ek
    obtain ⟨⟨m,w⟩,ek2,rfl⟩:=Option.map_eq_some_iff.mp ek
    have hi:i < zs.length:=(List.getElem?_eq_some_iff.mp ek2).1
    have eik:zs.take (i + 1) = zs.take i ++ [(m,w)]:=by rw [List.take_add_one,ek2]; rfl
    obtain ⟨_,ml,tw⟩:=T.things.mar _ (List.mem_of_getElem? ek2)
    have twl:w.length ≤ 12:=tw.2.1
    have ml:m.length ≤ 1000:=ml
    have ll:(((headT L h R.length :: R.flatMap renT) ++ (zs.take i).map (thT ws)).map strV).length < 100000:=by
      rw [List.length_map,List.length_append,List.length_cons,List.length_map,List.length_take]
      omega
    simp? [gTup,gCons,gNil,stP]
    refine ⟨[strV m,strV w],SqT.of ht,rfl,strV m,[strV w],rfl,strV w,[],rfl,rfl,?_⟩
    refine ⟨.inl ⟨rfl,_,SqL.of l3⟩,rfl,by decide,fun a1 h1=>⟨by decide,fun a2 h2=>?_⟩⟩
    have n12:a1 ≠ a2:=fun z=>by rw [← z,upd_same] at h2; cases h2
    have sA:=(Same.up H3 h1 (o:=.lst [strV m,strV w])).new h2 (o:=.lst [.str (txt [116,97,107,101,110])])
    have eA1:(upd (upd H3 a1 (.lst [strV m,strV w])) a2 (.lst [.str (txt [116,97,107,101,110])])) a1 = some (.lst [strV m,strV w]):=by rw [upd_ne n12,upd_same]
    have eA2:(upd (upd H3 a1 (.lst [strV m,strV w])) a2 (.lst [.str (txt [116,97,107,101,110])])) a2 = some (.lst [.str (txt [116,97,107,101,110])]):=upd_same
    generalize upd (upd H3 a1 _) a2 _ = H4 at sA eA1 eA2 ⊢
    have ec:(ws.map strV).countP (fun y=>eqV y (strV m)) = ws.count m:=count_strs2 m ws
    have cl:ws.count m ≤ ws.length:=List.count_le_length
    refine ixT_go (v:=.ref p3) (SqT.of (sA _ _ A3.top)) (by decide) rfl ⟨.inl ⟨rfl,_,SqL.of (sA _ _ A3.tak)⟩,p3,_,_,rfl,rfl,SqL.of (sA _ _ A3.tak),rfl,flat_strs _,?_⟩
    rw [ec]
    refine ⟨a2,_,_,rfl,rfl,eA2,by omega,by omega,by rw [Int.toNat_natCast,sizeLine_eq]; simp only [List.length_cons,List.length_nil]; omega,fun a3 h3=>?_⟩
    have sB:=sA.new h3 (o:=.lst (List.replicate (((ws.count m:Nat):Int)).toNat [V.str (txt [116,97,107,101,110])]).flatten)
    have ecat:[strV m,strV w] ++ (List.replicate (((ws.count m:Nat):Int)).toNat [V.str (txt [116,97,107,101,110])]).flatten = (thW ws (m,w)).map strV:=by
      rw [Int.toNat_natCast]
      unfold thW
      by_cases hm:m ∈ ws
      · rw [if_pos hm,count_mem1 wnd hm]; rfl
      · rw [if_neg hm,List.count_eq_zero_of_not_mem hm]; rfl
    have elen:=congrArg List.length ecat
    have tl2:((thW ws (m,w)).map strV).length ≤ 3:=by unfold thW; split <;> simp
    have n13:a1 ≠ a3:=fun z=>by rw [← z,eA1] at h3; cases h3
    refine cat_go (a:=a1) (b:=a3) (by rw [upd_ne n13]; exact eA1) upd_same (by rw [← List.length_append,elen]; omega) fun a4 h4=>?_
    rw [ecat]
    have sC:=sB.new h4 (o:=.lst ((thW ws (m,w)).map strV))
    refine join_go (ys:=thW ws (m,w)) upd_same (by unfold thW; split <;> simp [kTkn] <;> omega) ?_
    rw [← th_join]
    refine append_go (sC _ _ l3) ll ⟨_,_,_,_,_,(k3.trans (sC.keeps _)).upd (.inl List.mem_cons_self),?_,rfl⟩
    rw [upd_same,eik,List.map_append (l₁:=zs.take i),← List.append_assoc,List.map_append (l₂:=List.map (thT ws) [(m,w)])]
    rfl
  rintro σ H3 ⟨v2,v3,v4,v5,v6,k3,l3,rfl⟩
  refine hc _ _ ?_
  clear hc c
  rw [tl,List.take_length] at l3
  and_intros
  exact q _ p4 (same_keep s1 k3 nosub) f4 l3
theorem dead_ne {X Y:Hp} {a b:Addr} {u:HO} (s:Same X Y) (e:X a = some u) (f:Y b = none):a ≠ b:=fun z=>by rw [← z,s _ _ e] at f; cases f
theorem RowsC.live {H:Hp} {as:List Addr} {R:List (List RwN)} (h:RowsC H as R) {b:Addr} (hb:b ∈ as):∃ u,H b = some u:=by
  obtain ⟨i,hi⟩:=List.mem_iff_getElem?.mp hb
  obtain ⟨r,xs,_,e,_⟩:=h.get hi
  exact ⟨_,e⟩
def spTCopy (K:PySem.W.Frag):Sp:=fun vs H Q _=>∃ (p p1 p2 p3:Addr) (bs:List Addr) (ts:List V) (L h:Nat) (R:List (List RwN)) (zs:List (List Nat × List Nat)) (ws:List (List Nat)),vs = [.ref p]∧StA H p p1 p2 p3 bs ts L h R zs ws∧R.length ≤ 60∧∀ H' o q1 q2 q3 cs,Same H H'→H o = none→Fresh3 H q1 q2 q3 cs→StA H' o q1 q2 q3 cs ts L h R zs ws→Q (.ref o) H'
def rdTCopy (K:PySem.W.Frag):TS:=
    tRet (tTup (tCons (tOp (rIxT K) (tVar 0) (tC (.int 0))) (tCons (tOp (rIxT K) (tVar 0) (tC (.int 1))) (tCons (tComp (iList K (tOp (rIxT K) (tVar 0) (tC (.int 2)))) [] tYes (tCB (rListOf K) (tCons (tVar 0) tNil))) (tCons (tCB (rListOf K) (tCons (tOp (rIxT K) (tVar 0) (tC (.int 3))) tNil)) (tCons (tCB (rListOf K) (tCons (tOp (rIxT K) (tVar 0) (tC (.int 4))) tNil)) tNil))))))
theorem read_tcopy {K:PySem.W.Frag} {N:List Str} {vs:List V} {H:Hp} {Q:VK} {E:XK} (hN:N.length = 1) (h:spTCopy K vs H Q E):rdTCopy K { nx:=fun _ H'=>Q .non H',rt:=Q } (L2.start N vs) H:=by
  obtain ⟨p,p1,p2,p3,bs,ts,L,h,R,zs,ws,rfl,A,few,q⟩:=h
  have bl:=A.row.len
  unfold rdTCopy L2.start
  rw [hN]
  and_intros
  refine ixT_go (v:=.int L) (SqT.of A.top) (by decide) rfl (ixT_go (v:=.int h) (SqT.of A.top) (by decide) rfl ?_)
  refine comp_l (a:=p1) (xs:=bs.map V.ref) (fun Q h=>by and_intros; exact ixT_go (v:=.ref p1) (SqT.of A.top) (by decide) rfl h) (SqL.of A.ren) (fun i ys H'=>Same H H'∧∃ cs:List Addr,ys = cs.map V.ref∧RowsC H' cs (R.take i)∧∀ b ∈ cs,H b = none) ⟨Same.refl _,[],rfl,trivial,fun b hb=>(nomatch hb)⟩ (fun i ys H' _ p=>⟨SqL.of (p.1 _ _ A.ren),by obtain ⟨_,cs,e,rc,_⟩:=p; rw [e,List.length_map,rc.len,List.length_take]; exact Nat.min_le_left _ _⟩) (by rw [List.length_map,sizeLine_eq]; omega) ?_ ?_
  · rintro i v ys H' hv ⟨s',cs,rfl,rc,fr⟩ W hW
    rw [List.getElem?_map] at hv
    obtain ⟨b,hb,rfl⟩:=Option.map_eq_some_iff.mp hv
    obtain ⟨r,xs,er,hx,px⟩:=A.row.get hb
    have etk:R.take (i + 1) = R.take i ++ [r]:=by rw [List.take_add_one,er]; rfl
    and_intros
    refine ⟨b,xs,rfl,.inl (SqL.of (s' _ _ hx)),fun l hl=>hW _ _ ⟨s'.new hl,cs ++ [l],by rw [List.map_append]; rfl,?_,fun c hc=>?_⟩⟩
    · rw [etk]
      have sU:=Same.up H' hl (o:=.lst xs)
      exact (rc.same sU).app ⟨⟨xs,upd_same,(px.same s').same sU⟩,trivial⟩
    · rcases List.mem_append.mp hc with z | z
      · exact fr c z
      · rw [List.mem_singleton.mp z]; exact s'.free1 hl
  rintro ys H1 ⟨s1,cs,rfl,rc,fr⟩ q1 hq1
  rw [List.length_map,bl,List.take_length] at rc
  have sA:=Same.up H1 hq1 (o:=.lst (cs.map V.ref))
  have eA:(upd H1 q1 (.lst (cs.map V.ref))) q1 = some (.lst (cs.map V.ref)):=upd_same
  generalize upd H1 q1 _ = H2 at sA eA ⊢
  have s2:=s1.trans sA
  refine ixT_go (v:=.ref p2) (SqT.of (s2 _ _ A.top)) (by decide) rfl ⟨p2,ts,rfl,.inl (SqL.of (s2 _ _ A.thi)),fun q2 hq2=>?_⟩
  have sB:=Same.up H2 hq2 (o:=.lst ts)
  have eB:(upd H2 q2 (.lst ts)) q2 = some (.lst ts):=upd_same
  generalize upd H2 q2 _ = H3 at sB eB ⊢
  have s3:=s2.trans sB
  refine ixT_go (v:=.ref p3) (SqT.of (s3 _ _ A.top)) (by decide) rfl ⟨p3,_,rfl,.inl (SqL.of (s3 _ _ A.tak)),fun q3 hq3=>?_⟩
  have sC:=Same.up H3 hq3 (o:=.lst (ws.map strV))
  have eC:(upd H3 q3 (.lst (ws.map strV))) q3 = some (.lst (ws.map strV)):=upd_same
  generalize upd H3 q3 _ = H4 at sC eC ⊢
  have s4:=s3.trans sC
  refine ⟨by decide,fun o ho=>?_⟩
  have sD:=Same.up H4 ho (o:=.tup [.int L,.int h,.ref q1,.ref q2,.ref q3])
  have sBC:=sB.trans sC
  exact q _ o q1 q2 q3 cs (s4.trans sD) (s4.free1 ho) ⟨s1.free1 hq1,s2.free1 hq2,s3.free1 hq3,fr,fun b hb=>(by
      obtain ⟨u,e⟩:=rc.live hb
      exact dead_ne (Same.refl _) e hq1),fun b hb=>(by
      obtain ⟨u,e⟩:=rc.live hb
      exact dead_ne sA e hq2),fun b hb=>(by
      obtain ⟨u,e⟩:=rc.live hb
      exact dead_ne (sA.trans sB) e hq3),dead_ne (Same.refl _) eA hq2,dead_ne sB eA hq3,dead_ne (Same.refl _) eB hq3⟩ ⟨upd_same,sD _ _ (sBC _ _ eA),((rc.same sA).same sBC).same sD,sD _ _ (sC _ _ eB),A.prs.same (s4.trans sD),sD _ _ eC⟩
end L2
namespace K70
open PySem PySem.Spec PyProof.Rows L2 MM
def top (i:Nat):Stmt:=PySem.Challenge.pw_shelfmark_k70_states_as_texts.main.body.getD i (.Pass ⟨0,0,0,0⟩)
abbrev s_p8:Stmt:=top 6
abbrev s_p10:Stmt:=top 7
abbrev s_p14:Stmt:=top 16
abbrev s_p12:Stmt:=top 20
abbrev s_p22:Stmt:=top 24
abbrev s_p21:Stmt:=top 25
abbrev s_p24:Stmt:=top 26
abbrev s_p23:Stmt:=top 27
abbrev s_p9:Stmt:=top 28
abbrev s_p25:Stmt:=top 29
abbrev s_p13:Stmt:=top 30
abbrev s_p11:Stmt:=top 31
abbrev s_p16:Stmt:=top 32
abbrev s_p17:Stmt:=top 33
abbrev s_p18:Stmt:=top 34
abbrev s_p20:Stmt:=top 35
abbrev s_p19:Stmt:=top 36
abbrev s_draw:Stmt:=top 38
abbrev s_size:Stmt:=top 39
abbrev s_thing:Stmt:=top 40
abbrev s_marks:Stmt:=top 41
abbrev s_rows:Stmt:=top 42
abbrev s_made:Stmt:=top 43
abbrev s_texts:Stmt:=top 44
abbrev s_copy:Stmt:=top 45
abbrev s_law:Stmt:=top 46
structure Ad where
  (c_NoLetters f_p8 f_p10 f_p14 f_p12 f_p22 f_p21 f_p24 f_p23 f_p9 f_p25 f_p13 f_p11 f_p16 f_p17 f_p18 f_p20 f_p19 f_draw f_size f_thing f_marks f_rows f_made f_texts f_copy f_law:Addr)
  (fd_p8 fd_p10 fd_p14 fd_p12 fd_p22 fd_p21 fd_p24 fd_p23 fd_p9 fd_p25 fd_p13 fd_p11 fd_p16 fd_p17 fd_p18 fd_p20 fd_p19 fd_draw fd_size fd_thing fd_marks fd_rows fd_made fd_texts fd_copy fd_law:FuncData)
structure Tx (K:PySem.W.Frag) (mg:Str→Option Value) (a:Ad):Prop where
  n_all:mg "all" = none
  n_dict:mg "dict" = none
  n_int:mg "int" = none
  n_isinstance:mg "isinstance" = none
  n_len:mg "len" = none
  n_list:mg "list" = none
  n_min:mg "min" = none
  n_range:mg "range" = none
  n_sorted:mg "sorted" = none
  n_str:mg "str" = none
  n_tuple:mg "tuple" = none
  c_SMALL:∃ t,mg "SMALL" = some (.str "abcdefghijklmnopqrstuvwxyz" t)
  c_LETTERS:∃ t,mg "LETTERS" = some (.int 0 t)
  c_HANDS:∃ t,mg "HANDS" = some (.int 1 t)
  c_RENEWALS:∃ t,mg "RENEWALS" = some (.int 2 t)
  c_THINGS:∃ t,mg "THINGS" = some (.int 3 t)
  c_TAKEN:∃ t,mg "TAKEN" = some (.int 4 t)
  c_THING_SIGNS:∃ t,mg "THING_SIGNS" = some (.str "abcdefghijklmnopqrstuvwxyz0123456789" t)
  c_LONGEST_THING:∃ t,mg "LONGEST_THING" = some (.int 12 t)
  c_FIGURES:∃ t,mg "FIGURES" = some (.str "0123456789" t)
  c_MOST_FIGURES:∃ t,mg "MOST_FIGURES" = some (.int 4 t)
  c_MOST_RENEWALS:∃ t,mg "MOST_RENEWALS" = some (.int 1000 t)
  c_MOST_ROWS:∃ t,mg "MOST_ROWS" = some (.int 1000 t)
  m_NoLetters:mg "NoLetters" = some (.ref a.c_NoLetters)
  x_NoLetters : PySem.W.excIn K a.c_NoLetters [.type "ValueError", .type "Exception", .type "BaseException", .type "object"] "ValueError.__new__" = true
  g_p8:mg "ask_letters" = some (.ref a.f_p8)
  F_p8:Fun K "ask_letters" "ask_letters" s_p8 a.f_p8 a.fd_p8
  b_p8 : Binds K a.fd_p8 ["letters", "hands"] []
  g_p10:mg "is_mark" = some (.ref a.f_p10)
  F_p10:Fun K "is_mark" "is_mark" s_p10 a.f_p10 a.fd_p10
  b_p10 : Binds K a.fd_p10 ["letters", "text"] []
  g_p14:mg "is_thing" = some (.ref a.f_p14)
  F_p14:Fun K "is_thing" "is_thing" s_p14 a.f_p14 a.fd_p14
  b_p14:Binds K a.fd_p14 ["text"] []
  g_p12:mg "is_number" = some (.ref a.f_p12)
  F_p12:Fun K "is_number" "is_number" s_p12 a.f_p12 a.fd_p12
  b_p12:Binds K a.fd_p12 ["word"] []
  g_p22:mg "row_texts" = some (.ref a.f_p22)
  F_p22:Fun K "row_texts" "row_texts" s_p22 a.f_p22 a.fd_p22
  b_p22:Binds K a.fd_p22 ["rows"] []
  g_p21:mg "renewal_texts" = some (.ref a.f_p21)
  F_p21:Fun K "renewal_texts" "renewal_texts" s_p21 a.f_p21 a.fd_p21
  b_p21:Binds K a.fd_p21 ["rows"] []
  g_p24:mg "thing_texts" = some (.ref a.f_p24)
  F_p24:Fun K "thing_texts" "thing_texts" s_p24 a.f_p24 a.fd_p24
  b_p24 : Binds K a.fd_p24 ["things", "taken"] []
  g_p23:mg "state_texts" = some (.ref a.f_p23)
  F_p23:Fun K "state_texts" "state_texts" s_p23 a.f_p23 a.fd_p23
  b_p23:Binds K a.fd_p23 ["state"] []
  g_p9:mg "ask_text" = some (.ref a.f_p9)
  F_p9:Fun K "ask_text" "ask_text" s_p9 a.f_p9 a.fd_p9
  b_p9 : Binds K a.fd_p9 ["good", "place"] []
  g_p25:mg "words_at" = some (.ref a.f_p25)
  F_p25:Fun K "words_at" "words_at" s_p25 a.f_p25 a.fd_p25
  b_p25 : Binds K a.fd_p25 ["texts", "place"] []
  g_p13:mg "is_number_to" = some (.ref a.f_p13)
  F_p13:Fun K "is_number_to" "is_number_to" s_p13 a.f_p13 a.fd_p13
  b_p13 : Binds K a.fd_p13 ["word", "most"] []
  g_p11:mg "is_mark_behind" = some (.ref a.f_p11)
  F_p11:Fun K "is_mark_behind" "is_mark_behind" s_p11 a.f_p11 a.fd_p11
  b_p11 : Binds K a.fd_p11 ["letters", "last", "word"] []
  g_p16:mg "read_head" = some (.ref a.f_p16)
  F_p16:Fun K "read_head" "read_head" s_p16 a.f_p16 a.fd_p16
  b_p16:Binds K a.fd_p16 ["texts"] []
  g_p17:mg "read_many" = some (.ref a.f_p17)
  F_p17:Fun K "read_many" "read_many" s_p17 a.f_p17 a.fd_p17
  b_p17 : Binds K a.fd_p17 ["texts", "place"] []
  g_p18:mg "read_rows" = some (.ref a.f_p18)
  F_p18:Fun K "read_rows" "read_rows" s_p18 a.f_p18 a.fd_p18
  b_p18 : Binds K a.fd_p18 ["letters", "texts", "place", "many"] []
  g_p20:mg "read_things" = some (.ref a.f_p20)
  F_p20:Fun K "read_things" "read_things" s_p20 a.f_p20 a.fd_p20
  b_p20 : Binds K a.fd_p20 ["letters", "texts", "place"] []
  g_p19:mg "read_state" = some (.ref a.f_p19)
  F_p19:Fun K "read_state" "read_state" s_p19 a.f_p19 a.fd_p19
  b_p19:Binds K a.fd_p19 ["texts"] []
  g_draw:mg "_law_draw" = some (.ref a.f_draw)
  F_draw:Fun K "_law_draw" "_law_draw" s_draw a.f_draw a.fd_draw
  b_draw : Binds K a.fd_draw ["_law_script", "_law_k", "_law_many"] []
  g_size:mg "_law_size" = some (.ref a.f_size)
  F_size:Fun K "_law_size" "_law_size" s_size a.f_size a.fd_size
  b_size:Binds K a.fd_size ["_law_script"] []
  g_thing:mg "_law_thing" = some (.ref a.f_thing)
  F_thing:Fun K "_law_thing" "_law_thing" s_thing a.f_thing a.fd_thing
  b_thing : Binds K a.fd_thing ["_law_script", "_law_k"] []
  g_marks:mg "_law_marks" = some (.ref a.f_marks)
  F_marks:Fun K "_law_marks" "_law_marks" s_marks a.f_marks a.fd_marks
  b_marks : Binds K a.fd_marks ["_law_script", "_law_k", "_law_letters", "_law_many"] []
  g_rows:mg "_law_rows" = some (.ref a.f_rows)
  F_rows:Fun K "_law_rows" "_law_rows" s_rows a.f_rows a.fd_rows
  b_rows : Binds K a.fd_rows ["_law_script", "_law_k", "_law_letters"] []
  g_made:mg "_law_made" = some (.ref a.f_made)
  F_made:Fun K "_law_made" "_law_made" s_made a.f_made a.fd_made
  b_made : Binds K a.fd_made ["_law_script", "_law_size_here"] []
  g_texts:mg "_law_texts" = some (.ref a.f_texts)
  F_texts:Fun K "_law_texts" "_law_texts" s_texts a.f_texts a.fd_texts
  b_texts:Binds K a.fd_texts ["_law_state"] []
  g_copy:mg "_law_copy" = some (.ref a.f_copy)
  F_copy:Fun K "_law_copy" "_law_copy" s_copy a.f_copy a.fd_copy
  b_copy:Binds K a.fd_copy ["_law_state"] []
  g_law:mg "law" = some (.ref a.f_law)
  F_law:Fun K "law" "law" s_law a.f_law a.fd_law
  b_law:Binds K a.fd_law ["_law_script"] []
end K70
namespace K70
open PySem PySem.Spec PyProof.Rows L2 MM
def spLaw (K:PySem.W.Frag):Sp:=fun vs H Q _=>∃ (a:Addr) (ns:List Int),vs = [.ref a]∧SqL K H a (ns.map V.int)∧ns.length ≤ 63∧∀ H',Q (.bl true) H'
def spSize (K:PySem.W.Frag):Sp:=fun vs H Q _=>∃ (a:Addr) (ns:List Int),vs = [.ref a]∧SqL K H a (ns.map V.int)∧ns.length ≤ 63∧∀ H' p (L h:Nat),Same H H'→H' p = some (.tup [.int L,.int h])→2 ≤ L→L ≤ 26→1 ≤ h→h + 1 ≤ L→Q (.ref p) H'
section
variable {P:Program} {w:World} {K:PySem.W.Frag} {mg:Str→Option Value} {base:Heap} {a:Ad} {f:Addr} {cdv:Value} {A:Around} {outer:List Env} {s:Shared} {H:Hp} {E:XK}
theorem sc_p8 : FnScope ["letters", "hands"] ["letters", "hands"] (defScope s_p8) := ⟨rfl, rfl, rfl, by decide +kernel, rfl, by decide +kernel, by decide +kernel⟩
def rd_p8 (K:PySem.W.Frag) (a:Ad) (E:XK):TS:=
    rdAskL a.c_NoLetters E [108,101,116,116,101,114,115,32,109,117,115,116,32,98,101,32,102,114,111,109,32,50,32,116,111,32,50,54] [104,97,110,100,115,32,109,117,115,116,32,98,101,32,102,114,111,109,32,49,32,116,111,32,111,110,101,32,108,101,115,115,32,116,104,97,110,32,108,101,116,116,101,114,115]
theorem pr_p8 (T:Tx K mg a) (hr:Room 0 (A.deeper (envOfC "ask_letters" (defScope s_p8) s.heap.objs.size f cdv))) :
    QSs (cxOf (CX1 P w) P w K mg base ["letters", "hands"] "ask_letters" (defScope s_p8) f cdv A outer s H E) (defBody s_p8) (rd_p8 K a E) := by
  delta rd_p8 rdAskL
  exact kss_cons (ks_if (kt_w (kw_or (kt_cmp op_lt (kv 0) ke_int) (kw_or1 (kt_cmp op_gt (kv 0) (ke_callB call_lenS T.n_len PyProof.Rows.Boot.«len» (ka_cons (ke_gstr T.c_SMALL small_eq) ka_nil)))))) (kss_one (ks_raise PySem.F.excBase_ValueError T.x_NoLetters T.m_NoLetters (ka_cons (ke_txt (by kernel_rfl)) ka_nil) (fun _ _ _ _ _ _ _ I m q=>made_def I m q))) (kss_nil))
      (kss_one (ks_if (kt_w (kw_or (kt_cmp op_lt (kv 1) ke_int) (kw_or1 (kt_cmp op_ge (kv 1) (kv 0))))) (kss_one (ks_raise PySem.F.excBase_ValueError T.x_NoLetters T.m_NoLetters (ka_cons (ke_txt (by kernel_rfl)) ka_nil) (fun _ _ _ _ _ _ _ I m q=>made_def I m q))) (kss_nil)))
theorem sc_p10 : FnScope ["letters", "text"] ["letters", "text"] (defScope s_p10) := ⟨rfl, rfl, rfl, by decide +kernel, rfl, by decide +kernel, by decide +kernel⟩
def rd_p10 (K:PySem.W.Frag) (a:Ad):TS:=
    rdIsMark K
theorem pr_p10 (T:Tx K mg a) (hr:Room 0 (A.deeper (envOfC "is_mark" (defScope s_p10) s.heap.objs.size f cdv))) :
    QSs (cxOf CX0 P w K mg base ["letters", "text"] "is_mark" (defScope s_p10) f cdv A outer s H E).nox (defBody s_p10) (rd_p10 K a) := by
  delta rd_p10 rdIsMark
  exact kss_cons (ks_if (kt_w (kw_or (kt_cmp op_eq (kv 1) (ke_txt (by kernel_rfl))) (kw_or1 (kt_val (ke_bm PySem.F.plainAttrs_str PySem.F.slot_str_endswith PySem.F.type_str_endswith mt_endswith (kv 1) (ka_cons (ke_txt (by kernel_rfl)) ka_nil)))))) (kss_one (ks_ret ke_bl)) (kss_nil))
      (kss_one (ks_ret (ke_callB (call_allB (by kernel_rfl)) T.n_all PyProof.Rows.Boot.«all» (ka_cons (ke_comp [("letters",0)] (ki_str (kv 1)) (fun _ _ _ _ _=>⟨kts_nil,ke_cmp op_in1 (kv 0) (ke_slice sl_str (ke_gstr T.c_SMALL small_eq) ko_none (ko_some (kvc 1)))⟩)) ka_nil))))
theorem sc_p14:FnScope ["text"] ["text"] (defScope s_p14):=⟨rfl,rfl,rfl,by decide +kernel,rfl,by decide +kernel,by decide +kernel⟩
def rd_p14 (K:PySem.W.Frag) (a:Ad):TS:=
    tSeq (tIfS (tOr (tTest (tOp rEq (tVar 0) (tC (.str (txt []))))) (tTest (tOp rGtI (tCB rLenS (tCons (tVar 0) tNil)) (tC (.int 12))))) (tRet (tC (.bl false))) (tNext))
      (tRet (tCB (rAllB K) (tCons (tComp (iStr (tVar 0)) [] tYes (tOp rIn1 (tVar 0) (tC (.str (txt [97,98,99,100,101,102,103,104,105,106,107,108,109,110,111,112,113,114,115,116,117,118,119,120,121,122,48,49,50,51,52,53,54,55,56,57]))))) tNil)))
theorem pr_p14 (T:Tx K mg a) (hr:Room 0 (A.deeper (envOfC "is_thing" (defScope s_p14) s.heap.objs.size f cdv))) :
    QSs (cxOf CX0 P w K mg base ["text"] "is_thing" (defScope s_p14) f cdv A outer s H E).nox (defBody s_p14) (rd_p14 K a):=by
  exact kss_cons (ks_if (kt_w (kw_or (kt_cmp op_eq (kv 0) (ke_txt (by kernel_rfl))) (kw_or1 (kt_cmp op_gt (ke_callB call_lenS T.n_len PyProof.Rows.Boot.«len» (ka_cons (kv 0) ka_nil)) (ke_gint T.c_LONGEST_THING))))) (kss_one (ks_ret ke_bl)) (kss_nil))
      (kss_one (ks_ret (ke_callB (call_allB (by kernel_rfl)) T.n_all PyProof.Rows.Boot.«all» (ka_cons (ke_comp [] (ki_str (kv 0)) (fun _ _ _ _ _=>⟨kts_nil,ke_cmp op_in1 (kv 0) (ke_gstr T.c_THING_SIGNS (by kernel_rfl))⟩)) ka_nil))))
theorem sc_p12:FnScope ["word"] ["word"] (defScope s_p12):=⟨rfl,rfl,rfl,by decide +kernel,rfl,by decide +kernel,by decide +kernel⟩
def rd_p12 (K:PySem.W.Frag) (a:Ad):TS:=
    rdIsNumber K
theorem pr_p12 (T:Tx K mg a) (hr:Room 0 (A.deeper (envOfC "is_number" (defScope s_p12) s.heap.objs.size f cdv))) :
    QSs (cxOf CX0 P w K mg base ["word"] "is_number" (defScope s_p12) f cdv A outer s H E).nox (defBody s_p12) (rd_p12 K a):=by
  delta rd_p12 rdIsNumber
  exact kss_cons (ks_if (kt_w (kw_or (kt_cmp op_eq (kv 0) (ke_txt (by kernel_rfl))) (kw_or1 (kt_cmp op_gt (ke_callB call_lenS T.n_len PyProof.Rows.Boot.«len» (ka_cons (kv 0) ka_nil)) (ke_gint T.c_MOST_FIGURES))))) (kss_one (ks_ret ke_bl)) (kss_nil))
      (kss_cons (ks_if (kt_val (ke_bm PySem.F.plainAttrs_str PySem.F.slot_str_startswith PySem.F.type_str_startswith mt_startswith (kv 0) (ka_cons (ke_txt (by kernel_rfl)) ka_nil))) (kss_one (ks_ret (ke_cmp op_eq (kv 0) (ke_txt (by kernel_rfl))))) (kss_nil))
      (kss_one (ks_ret (ke_callB (call_allB (by kernel_rfl)) T.n_all PyProof.Rows.Boot.«all» (ka_cons (ke_comp [] (ki_str (kv 0)) (fun _ _ _ _ _=>⟨kts_nil,ke_cmp op_in1 (kv 0) (ke_gstr T.c_FIGURES (by kernel_rfl))⟩)) ka_nil)))))
theorem sc_p22:FnScope ["rows"] ["rows"] (defScope s_p22):=⟨rfl,rfl,rfl,by decide +kernel,rfl,by decide +kernel,by decide +kernel⟩
def rd_p22 (K:PySem.W.Frag) (a:Ad):TS:=
    rdRowTexts K
theorem pr_p22 (T:Tx K mg a) (hr:Room 0 (A.deeper (envOfC "row_texts" (defScope s_p22) s.heap.objs.size f cdv))) :
    QSs (cxOf CX0 P w K mg base ["rows"] "row_texts" (defScope s_p22) f cdv A outer s H E).nox (defBody s_p22) (rd_p22 K a):=by
  delta rd_p22 rdRowTexts
  exact kss_one (ks_ret (ke_comp2 [] (ki_list (kv 0)) (fun _ _ _ _ _=>⟨kts_nil,ke_ifExp (kt_isN (kv 1)) (ke_fstr (kf_fmt (kv 0) (kf_raw (ke_txt (by kernel_rfl)) kf_nil))) (ke_fstr (kf_fmt (kv 0) (kf_raw (ke_txt (by kernel_rfl)) (kf_fmt (kv 1) kf_nil))))⟩)))
theorem sc_p21 : FnScope ["rows", "many"] ["rows"] (defScope s_p21) := ⟨rfl, rfl, rfl, by decide +kernel, rfl, by decide +kernel, by decide +kernel⟩
def rd_p21 (K:PySem.W.Frag) (a:Ad):TS:=
    rdRenTexts K
theorem pr_p21 (T : Tx K mg a) (G_p22 : FnOk P w K mg base CX0 1 a.f_p22 a.fd_p22 ["rows"] (spRowTexts K)) (hr : Room 1 (A.deeper (envOfC "renewal_texts" (defScope s_p21) s.heap.objs.size f cdv))) :
    QSs (cxOf CX0 P w K mg base ["rows", "many"] "renewal_texts" (defScope s_p21) f cdv A outer s H E).nox (defBody s_p21) (rd_p21 K a) := by
  delta rd_p21 rdRenTexts
  exact kss_cons (ks_set (i:=1) sc_p21.nd (ke_callB call_len_seq T.n_len PyProof.Rows.Boot.«len» (ka_cons (kv 0) ka_nil)))
      (kss_one (ks_ret (ke_op op_cat (ke_lst (ka_cons (ke_fstr (kf_raw (ke_txt (by kernel_rfl)) (kf_fmt (kv 1) kf_nil))) ka_nil)) (ke_call G_p22 (by exact hr.mono (by decide)) T.g_p22 T.F_p22.kp T.b_p22 pass0 (ka_cons (kv 0) ka_nil)))))
theorem sc_p24 : FnScope ["things", "taken", "gone"] ["things", "taken"] (defScope s_p24) := ⟨rfl, rfl, rfl, by decide +kernel, rfl, by decide +kernel, by decide +kernel⟩
def rd_p24 (K:PySem.W.Frag) (a:Ad):TS:=
    rdThTexts K
theorem pr_p24 (T:Tx K mg a) (hr:Room 0 (A.deeper (envOfC "thing_texts" (defScope s_p24) s.heap.objs.size f cdv))) :
    QSs (cxOf CX0 P w K mg base ["things", "taken", "gone"] "thing_texts" (defScope s_p24) f cdv A outer s H E).nox (defBody s_p24) (rd_p24 K a) := by
  have hu:=Room.units hr
  delta rd_p24 rdThTexts
  exact kss_cons (ks_setc (i:=2) sc_p24.nd (ke_callTy (call_dictOf (by kernel_rfl)) T.n_dict PyProof.Rows.Boot.«dict» (ka_cons (ke_comp [] (ki_list (kv 1)) (fun _ _ _ _ _=>⟨kts_nil,ke_tup (ka_cons (kv 0) (ka_cons ke_bl ka_nil))⟩)) ka_nil)))
      (kss_one (ks_ret (ke_comp2 [("gone",2)] (ki_list (kv 0)) (fun _ _ _ _ _=>⟨kts_nil,ke_ifExp (kt_cmp (op_inD hu) (kv 0) (kvc 2)) (ke_fstr (kf_fmt (kv 0) (kf_raw (ke_txt (by kernel_rfl)) (kf_fmt (kv 1) (kf_raw (ke_txt (by kernel_rfl)) kf_nil))))) (ke_fstr (kf_fmt (kv 0) (kf_raw (ke_txt (by kernel_rfl)) (kf_fmt (kv 1) kf_nil))))⟩))))
theorem sc_p23 : FnScope ["state", "letters", "hands", "age", "texts", "rows"] ["state"] (defScope s_p23) := ⟨rfl, rfl, rfl, by decide +kernel, rfl, by decide +kernel, by decide +kernel⟩
def rd_p23 (K:PySem.W.Frag) (a:Ad):TS:=
    rdStTexts K
theorem pr_p23 (T : Tx K mg a) (G_p21 : FnOk P w K mg base CX0 2 a.f_p21 a.fd_p21 ["rows"] (spRenTexts K)) (G_p24 : FnOk P w K mg base CX0 1 a.f_p24 a.fd_p24 ["things", "taken"] (spThTexts K)) (hr : Room 2 (A.deeper (envOfC "state_texts" (defScope s_p23) s.heap.objs.size f cdv))) :
    QSs (cxOf CX0 P w K mg base ["state", "letters", "hands", "age", "texts", "rows"] "state_texts" (defScope s_p23) f cdv A outer s H E).nox (defBody s_p23) (rd_p23 K a) := by
  delta rd_p23 rdStTexts
  exact kss_cons (ks_set (i:=1) sc_p23.nd (ke_ix ix_tup (kv 0) (ke_gint T.c_LETTERS)))
      (kss_cons (ks_set (i:=2) sc_p23.nd (ke_ix ix_tup (kv 0) (ke_gint T.c_HANDS)))
      (kss_cons (ks_set (i:=3) sc_p23.nd (ke_callB call_len_seq T.n_len PyProof.Rows.Boot.«len» (ka_cons (ke_ix ix_tup (kv 0) (ke_gint T.c_RENEWALS)) ka_nil)))
      (kss_cons (ks_set (i:=4) sc_p23.nd (ke_lst (ka_cons (ke_fstr (kf_fmt (kv 1) (kf_raw (ke_txt (by kernel_rfl)) (kf_fmt (kv 2) (kf_raw (ke_txt (by kernel_rfl)) (kf_fmt (kv 3) kf_nil)))))) ka_nil)))
      (kss_cons (ks_for (ki_list (ke_ix ix_tup (kv 0) (ke_gint T.c_RENEWALS))) (kg_name (i:=5) sc_p23.nd) (kss_one (ks_expr (ke_bm PySem.F.plainAttrs_list PySem.F.slot_list_extend PySem.F.type_list_extend mt_extend (kv 4) (ka_cons (ke_call G_p21 (by exact hr.mono (by decide)) T.g_p21 T.F_p21.kp T.b_p21 pass0 (ka_cons (kv 5) ka_nil)) ka_nil)))))
      (kss_one (ks_ret (ke_op op_cat (kv 4) (ke_call G_p24 (by exact hr.mono (by decide)) T.g_p24 T.F_p24.kp T.b_p24 pass0 (ka_cons (ke_ix ix_tup (kv 0) (ke_gint T.c_THINGS)) (ka_cons (ke_ix ix_tup (kv 0) (ke_gint T.c_TAKEN)) ka_nil))))))))))
theorem sc_p9 : FnScope ["good", "place"] ["good", "place"] (defScope s_p9) := ⟨rfl, rfl, rfl, by decide +kernel, rfl, by decide +kernel, by decide +kernel⟩
def rd_p9 (K:PySem.W.Frag) (a:Ad):TS:=
    rdAskText
theorem pr_p9 (T:Tx K mg a) (hr:Room 0 (A.deeper (envOfC "ask_text" (defScope s_p9) s.heap.objs.size f cdv))) :
    QSs (cxOf CX0 P w K mg base ["good", "place"] "ask_text" (defScope s_p9) f cdv A outer s H E).nox (defBody s_p9) (rd_p9 K a) := by
  delta rd_p9 rdAskText
  exact kss_one (ks_if (kt_not (kt_val (kv 0))) (kss_one ks_never) (kss_nil))
theorem sc_p25 : FnScope ["texts", "place"] ["texts", "place"] (defScope s_p25) := ⟨rfl, rfl, rfl, by decide +kernel, rfl, by decide +kernel, by decide +kernel⟩
def rd_p25 (K:PySem.W.Frag) (a:Ad):TS:=
    rdWordsAt K
theorem pr_p25 (T:Tx K mg a) (hr:Room 0 (A.deeper (envOfC "words_at" (defScope s_p25) s.heap.objs.size f cdv))) :
    QSs (cxOf CX0 P w K mg base ["texts", "place"] "words_at" (defScope s_p25) f cdv A outer s H E).nox (defBody s_p25) (rd_p25 K a) := by
  delta rd_p25 rdWordsAt
  exact kss_one (ks_ret (ke_ifExp (kt_cmp op_lt (kv 1) (ke_callB call_len_seq T.n_len PyProof.Rows.Boot.«len» (ka_cons (kv 0) ka_nil))) (ke_bm PySem.F.plainAttrs_str PySem.F.slot_str_split PySem.F.type_str_split mt_split (ke_ix ix_list (kv 0) (kv 1)) (ka_cons (ke_txt (by kernel_rfl)) ka_nil)) (ke_lst ka_nil)))
theorem sc_p13 : FnScope ["word", "most"] ["word", "most"] (defScope s_p13) := ⟨rfl, rfl, rfl, by decide +kernel, rfl, by decide +kernel, by decide +kernel⟩
def rd_p13 (K:PySem.W.Frag) (a:Ad):TS:=
    rdIsNumberTo
theorem pr_p13 (T : Tx K mg a) (G_p12 : FnOk P w K mg base CX0 1 a.f_p12 a.fd_p12 ["word"] spIsNumber) (hr : Room 1 (A.deeper (envOfC "is_number_to" (defScope s_p13) s.heap.objs.size f cdv))) :
    QSs (cxOf CX0 P w K mg base ["word", "most"] "is_number_to" (defScope s_p13) f cdv A outer s H E).nox (defBody s_p13) (rd_p13 K a) := by
  delta rd_p13 rdIsNumberTo
  exact kss_one (ks_ret (ke_and (ke_call G_p12 (by exact hr.mono (by decide)) T.g_p12 T.F_p12.kp T.b_p12 pass0 (ka_cons (kv 0) ka_nil)) (ke_one (ke_cmp op_le (ke_callTy call_intS T.n_int PyProof.Rows.Boot.«int» (ka_cons (kv 0) ka_nil)) (kv 1)))))
theorem sc_p11 : FnScope ["letters", "last", "word"] ["letters", "last", "word"] (defScope s_p11) := ⟨rfl, rfl, rfl, by decide +kernel, rfl, by decide +kernel, by decide +kernel⟩
def rd_p11 (K:PySem.W.Frag) (a:Ad):TS:=
    rdMarkBehind
theorem pr_p11 (T : Tx K mg a) (G_p10 : FnOk P w K mg base CX0 1 a.f_p10 a.fd_p10 ["letters", "text"] spIsMark) (hr : Room 1 (A.deeper (envOfC "is_mark_behind" (defScope s_p11) s.heap.objs.size f cdv))) :
    QSs (cxOf CX0 P w K mg base ["letters", "last", "word"] "is_mark_behind" (defScope s_p11) f cdv A outer s H E).nox (defBody s_p11) (rd_p11 K a) := by
  delta rd_p11 rdMarkBehind
  exact kss_one (ks_ret (ke_and (ke_call G_p10 (by exact hr.mono (by decide)) T.g_p10 T.F_p10.kp T.b_p10 pass0 (ka_cons (kv 0) (ka_cons (kv 2) ka_nil))) (ke_one (ke_cmp op_ltS (kv 1) (kv 2)))))
theorem sc_p16 : FnScope ["texts", "words", "numbers"] ["texts"] (defScope s_p16) := ⟨rfl, rfl, rfl, by decide +kernel, rfl, by decide +kernel, by decide +kernel⟩
def rd_p16 (K:PySem.W.Frag) (a:Ad):TS:=
    rdReadHead K a.c_NoLetters
theorem pr_p16 (T : Tx K mg a) (G_p25 : FnOk P w K mg base CX0 1 a.f_p25 a.fd_p25 ["texts", "place"] (spWordsAt K)) (G_p12 : FnOk P w K mg base CX0 1 a.f_p12 a.fd_p12 ["word"] spIsNumber) (G_p9 : FnOk P w K mg base CX0 1 a.f_p9 a.fd_p9 ["good", "place"] spAskText) (G_p8 : FnOk P w K mg base (CX1 P w) 1 a.f_p8 a.fd_p8 ["letters", "hands"] (spAskL a.c_NoLetters)) (hr : Room 1 (A.deeper (envOfC "read_head" (defScope s_p16) s.heap.objs.size f cdv))) :
    QSs (cxOf CX0 P w K mg base ["texts", "words", "numbers"] "read_head" (defScope s_p16) f cdv A outer s H E).nox (defBody s_p16) (rd_p16 K a) := by
  delta rd_p16 rdReadHead
  exact kss_cons (ks_set (i:=1) sc_p16.nd (ke_call G_p25 (by exact hr.mono (by decide)) T.g_p25 T.F_p25.kp T.b_p25 pass0 (ka_cons (kv 0) (ka_cons ke_int ka_nil))))
      (kss_cons (ks_expr (ke_call G_p9 (by exact hr.mono (by decide)) T.g_p9 T.F_p9.kp T.b_p9 pass0 (ka_cons (ke_and (ke_cmp op_eq (ke_callB call_len_seq T.n_len PyProof.Rows.Boot.«len» (ka_cons (kv 1) ka_nil)) ke_int) (ke_one (ke_callB (call_allB (by kernel_rfl)) T.n_all PyProof.Rows.Boot.«all» (ka_cons (ke_comp [] (ki_list (kv 1)) (fun _ _ _ _ _=>⟨kts_nil,ke_call G_p12 (by exact hr.mono (by decide)) T.g_p12 T.F_p12.kp T.b_p12 pass0 (ka_cons (kv 0) ka_nil)⟩)) ka_nil)))) (ka_cons ke_int ka_nil))))
      (kss_cons (ks_comp (i:=2) [] sc_p16.nd (ki_list (kv 1)) (fun _ _ _ _ _=>⟨kts_nil,ke_callTy call_intS T.n_int PyProof.Rows.Boot.«int» (ka_cons (kv 0) ka_nil)⟩))
      (kss_cons (ks_try0 T.m_NoLetters (fun _ _ _ hx=>kss_one (ks_expr (ke_callX G_p8 (by exact hr.mono (by decide)) T.g_p8 T.F_p8.kp T.b_p8 hx (ka_cons (ke_ix ix_list (kv 2) ke_int) (ka_cons (ke_ix ix_list (kv 2) ke_int) ka_nil))))) (fun _=>kss_one ks_never))
      (kss_cons (ks_expr (ke_call G_p9 (by exact hr.mono (by decide)) T.g_p9 T.F_p9.kp T.b_p9 pass0 (ka_cons (ke_cmp op_le (ke_ix ix_list (kv 2) ke_int) (ke_gint T.c_MOST_RENEWALS)) (ka_cons ke_int ka_nil))))
      (kss_one (ks_ret (kv 2)))))))
theorem sc_p17 : FnScope ["texts", "place", "words"] ["texts", "place"] (defScope s_p17) := ⟨rfl, rfl, rfl, by decide +kernel, rfl, by decide +kernel, by decide +kernel⟩
def rd_p17 (K:PySem.W.Frag) (a:Ad):TS:=
    rdReadMany K
theorem pr_p17 (T : Tx K mg a) (G_p25 : FnOk P w K mg base CX0 1 a.f_p25 a.fd_p25 ["texts", "place"] (spWordsAt K)) (G_p13 : FnOk P w K mg base CX0 2 a.f_p13 a.fd_p13 ["word", "most"] spIsNumberTo) (G_p9 : FnOk P w K mg base CX0 1 a.f_p9 a.fd_p9 ["good", "place"] spAskText) (hr : Room 2 (A.deeper (envOfC "read_many" (defScope s_p17) s.heap.objs.size f cdv))) :
    QSs (cxOf CX0 P w K mg base ["texts", "place", "words"] "read_many" (defScope s_p17) f cdv A outer s H E).nox (defBody s_p17) (rd_p17 K a) := by
  delta rd_p17 rdReadMany
  exact kss_cons (ks_set (i:=2) sc_p17.nd (ke_call G_p25 (by exact hr.mono (by decide)) T.g_p25 T.F_p25.kp T.b_p25 pass0 (ka_cons (kv 0) (ka_cons (kv 1) ka_nil))))
      (kss_cons (ks_expr (ke_call G_p9 (by exact hr.mono (by decide)) T.g_p9 T.F_p9.kp T.b_p9 pass0 (ka_cons (ke_and (ke_cmp op_eq (ke_callB call_len_seq T.n_len PyProof.Rows.Boot.«len» (ka_cons (kv 2) ka_nil)) ke_int) (ke_and (ke_cmp op_eq (ke_ix ix_list (kv 2) ke_int) (ke_txt (by kernel_rfl))) (ke_one (ke_call G_p13 (by exact hr.mono (by decide)) T.g_p13 T.F_p13.kp T.b_p13 pass0 (ka_cons (ke_ix ix_list (kv 2) ke_int) (ka_cons (ke_gint T.c_MOST_ROWS) ka_nil)))))) (ka_cons (kv 1) ka_nil))))
      (kss_one (ks_ret (ke_callTy call_intS T.n_int PyProof.Rows.Boot.«int» (ka_cons (ke_ix ix_list (kv 2) ke_int) ka_nil)))))
theorem sc_p18 : FnScope ["letters", "texts", "place", "many", "rows", "last_old", "last_new", "here", "words"] ["letters", "texts", "place", "many"] (defScope s_p18) := ⟨rfl, rfl, rfl, by decide +kernel, rfl, by decide +kernel, by decide +kernel⟩
def rd_p18 (K:PySem.W.Frag) (a:Ad):TS:=
    rdReadRows K
theorem pr_p18 (T : Tx K mg a) (G_p25 : FnOk P w K mg base CX0 1 a.f_p25 a.fd_p25 ["texts", "place"] (spWordsAt K)) (G_p11 : FnOk P w K mg base CX0 2 a.f_p11 a.fd_p11 ["letters", "last", "word"] spMarkBehind) (G_p9 : FnOk P w K mg base CX0 1 a.f_p9 a.fd_p9 ["good", "place"] spAskText) (hr : Room 2 (A.deeper (envOfC "read_rows" (defScope s_p18) s.heap.objs.size f cdv))) :
    QSs (cxOf CX0 P w K mg base ["letters", "texts", "place", "many", "rows", "last_old", "last_new", "here", "words"] "read_rows" (defScope s_p18) f cdv A outer s H E).nox (defBody s_p18) (rd_p18 K a) := by
  delta rd_p18 rdReadRows
  exact kss_cons (ks_set (i:=4) sc_p18.nd (ke_lst ka_nil))
      (kss_cons (ks_set (i:=5) sc_p18.nd (ke_txt (by kernel_rfl)))
      (kss_cons (ks_set (i:=6) sc_p18.nd (ke_txt (by kernel_rfl)))
      (kss_cons (ks_for (ki_range2 T.n_range (ka_cons (kv 2) (ka_cons (ke_op op_add (kv 2) (kv 3)) ka_nil))) (kg_name (i:=7) sc_p18.nd) (kss_cons (ks_set (i:=8) sc_p18.nd (ke_call G_p25 (by exact hr.mono (by decide)) T.g_p25 T.F_p25.kp T.b_p25 pass0 (ka_cons (kv 1) (ka_cons (kv 7) ka_nil))))
      (kss_cons (ks_expr (ke_call G_p9 (by exact hr.mono (by decide)) T.g_p9 T.F_p9.kp T.b_p9 pass0 (ka_cons (ke_and (ke_cmp op_eq (ke_callB call_len_seq T.n_len PyProof.Rows.Boot.«len» (ka_cons (kv 8) ka_nil)) ke_int) (ke_one (ke_call G_p11 (by exact hr.mono (by decide)) T.g_p11 T.F_p11.kp T.b_p11 pass0 (ka_cons (kv 0) (ka_cons (kv 5) (ka_cons (ke_ix ix_list (kv 8) ke_int) ka_nil)))))) (ka_cons (kv 7) ka_nil))))
      (kss_cons (ks_set (i:=5) sc_p18.nd (ke_ix ix_list (kv 8) ke_int))
      (kss_one (ks_if (kt_cmp op_eq (ke_ix ix_list (kv 8) ke_int) (ke_txt (by kernel_rfl))) (kss_one (ks_expr (ke_bm PySem.F.plainAttrs_list PySem.F.slot_list_append PySem.F.type_list_append mt_append (kv 4) (ka_cons (ke_tup (ka_cons (ke_ix ix_list (kv 8) ke_int) (ka_cons ke_non ka_nil))) ka_nil)))) (kss_cons (ks_expr (ke_call G_p9 (by exact hr.mono (by decide)) T.g_p9 T.F_p9.kp T.b_p9 pass0 (ka_cons (ke_call G_p11 (by exact hr.mono (by decide)) T.g_p11 T.F_p11.kp T.b_p11 pass0 (ka_cons (kv 0) (ka_cons (kv 6) (ka_cons (ke_ix ix_list (kv 8) ke_int) ka_nil)))) (ka_cons (kv 7) ka_nil))))
      (kss_cons (ks_set (i:=6) sc_p18.nd (ke_ix ix_list (kv 8) ke_int))
      (kss_one (ks_expr (ke_bm PySem.F.plainAttrs_list PySem.F.slot_list_append PySem.F.type_list_append mt_append (kv 4) (ka_cons (ke_tup (ka_cons (ke_ix ix_list (kv 8) ke_int) (ka_cons (ke_ix ix_list (kv 8) ke_int) ka_nil))) ka_nil))))))))))))
      (kss_one (ks_ret (kv 4))))))
theorem sc_p20 : FnScope ["letters", "texts", "place", "rows", "last", "here", "words"] ["letters", "texts", "place"] (defScope s_p20) := ⟨rfl, rfl, rfl, by decide +kernel, rfl, by decide +kernel, by decide +kernel⟩
def rd_p20 (K:PySem.W.Frag) (a:Ad):TS:=
    rdReadThings K
theorem pr_p20 (T : Tx K mg a) (G_p25 : FnOk P w K mg base CX0 1 a.f_p25 a.fd_p25 ["texts", "place"] (spWordsAt K)) (G_p9 : FnOk P w K mg base CX0 1 a.f_p9 a.fd_p9 ["good", "place"] spAskText) (G_p11 : FnOk P w K mg base CX0 2 a.f_p11 a.fd_p11 ["letters", "last", "word"] spMarkBehind) (G_p14 : FnOk P w K mg base CX0 1 a.f_p14 a.fd_p14 ["text"] spIsThing) (hr : Room 2 (A.deeper (envOfC "read_things" (defScope s_p20) s.heap.objs.size f cdv))) :
    QSs (cxOf CX0 P w K mg base ["letters", "texts", "place", "rows", "last", "here", "words"] "read_things" (defScope s_p20) f cdv A outer s H E).nox (defBody s_p20) (rd_p20 K a) := by
  have hu:=Room.units hr
  delta rd_p20 rdReadThings
  exact kss_cons (ks_set (i:=3) sc_p20.nd (ke_lst ka_nil))
      (kss_cons (ks_set (i:=4) sc_p20.nd (ke_txt (by kernel_rfl)))
      (kss_cons (ks_for (ki_range2 T.n_range (ka_cons (kv 2) (ka_cons (ke_callB call_len_seq T.n_len PyProof.Rows.Boot.«len» (ka_cons (kv 1) ka_nil)) ka_nil))) (kg_name (i:=5) sc_p20.nd) (kss_cons (ks_set (i:=6) sc_p20.nd (ke_call G_p25 (by exact hr.mono (by decide)) T.g_p25 T.F_p25.kp T.b_p25 pass0 (ka_cons (kv 1) (ka_cons (kv 5) ka_nil))))
      (kss_cons (ks_expr (ke_call G_p9 (by exact hr.mono (by decide)) T.g_p9 T.F_p9.kp T.b_p9 pass0 (ka_cons (ke_or (ke_cmp op_eq (ke_callB call_len_seq T.n_len PyProof.Rows.Boot.«len» (ka_cons (kv 6) ka_nil)) ke_int) (ke_one (ke_cmp (op_eqLS hu) (ke_slice sl_list (kv 6) (ko_some ke_int) ko_none) (ke_lst (ka_cons (ke_txt (by kernel_rfl)) ka_nil))))) (ka_cons (kv 5) ka_nil))))
      (kss_cons (ks_expr (ke_call G_p9 (by exact hr.mono (by decide)) T.g_p9 T.F_p9.kp T.b_p9 pass0 (ka_cons (ke_and (ke_call G_p11 (by exact hr.mono (by decide)) T.g_p11 T.F_p11.kp T.b_p11 pass0 (ka_cons (kv 0) (ka_cons (kv 4) (ka_cons (ke_ix ix_list (kv 6) ke_int) ka_nil)))) (ke_one (ke_call G_p14 (by exact hr.mono (by decide)) T.g_p14 T.F_p14.kp T.b_p14 pass0 (ka_cons (ke_ix ix_list (kv 6) ke_int) ka_nil)))) (ka_cons (kv 5) ka_nil))))
      (kss_cons (ks_set (i:=4) sc_p20.nd (ke_ix ix_list (kv 6) ke_int))
      (kss_one (ks_expr (ke_bm PySem.F.plainAttrs_list PySem.F.slot_list_append PySem.F.type_list_append mt_append (kv 3) (ka_cons (kv 6) ka_nil)))))))))
      (kss_one (ks_ret (kv 3)))))
theorem sc_p19 : FnScope ["texts", "numbers", "renewals", "place", "step", "many", "rows", "things", "taken"] ["texts"] (defScope s_p19) := ⟨rfl, rfl, rfl, by decide +kernel, rfl, by decide +kernel, by decide +kernel⟩
def rd_p19 (K:PySem.W.Frag) (a:Ad):TS:=
    rdReadState K
theorem pr_p19 (T : Tx K mg a) (G_p16 : FnOk P w K mg base CX0 2 a.f_p16 a.fd_p16 ["texts"] (spReadHead K)) (G_p17 : FnOk P w K mg base CX0 3 a.f_p17 a.fd_p17 ["texts", "place"] (spReadMany K)) (G_p18 : FnOk P w K mg base CX0 3 a.f_p18 a.fd_p18 ["letters", "texts", "place", "many"] (spReadRows K)) (G_p20 : FnOk P w K mg base CX0 3 a.f_p20 a.fd_p20 ["letters", "texts", "place"] (spReadThings K)) (hr : Room 3 (A.deeper (envOfC "read_state" (defScope s_p19) s.heap.objs.size f cdv))) :
    QSs (cxOf CX0 P w K mg base ["texts", "numbers", "renewals", "place", "step", "many", "rows", "things", "taken"] "read_state" (defScope s_p19) f cdv A outer s H E).nox (defBody s_p19) (rd_p19 K a) := by
  delta rd_p19 rdReadState
  exact kss_cons (ks_set (i:=1) sc_p19.nd (ke_call G_p16 (by exact hr.mono (by decide)) T.g_p16 T.F_p16.kp T.b_p16 pass0 (ka_cons (kv 0) ka_nil)))
      (kss_cons (ks_set (i:=2) sc_p19.nd (ke_lst ka_nil))
      (kss_cons (ks_set (i:=3) sc_p19.nd ke_int)
      (kss_cons (ks_for (ki_range1 T.n_range (ka_cons (ke_ix ix_list (kv 1) ke_int) ka_nil)) (kg_name (i:=4) sc_p19.nd) (kss_cons (ks_set (i:=5) sc_p19.nd (ke_call G_p17 (by exact hr.mono (by decide)) T.g_p17 T.F_p17.kp T.b_p17 pass0 (ka_cons (kv 0) (ka_cons (kv 3) ka_nil))))
      (kss_cons (ks_expr (ke_bm PySem.F.plainAttrs_list PySem.F.slot_list_append PySem.F.type_list_append mt_append (kv 2) (ka_cons (ke_call G_p18 (by exact hr.mono (by decide)) T.g_p18 T.F_p18.kp T.b_p18 pass0 (ka_cons (ke_ix ix_list (kv 1) ke_int) (ka_cons (kv 0) (ka_cons (ke_op op_add (kv 3) ke_int) (ka_cons (kv 5) ka_nil))))) ka_nil)))
      (kss_one (ks_set (i:=3) sc_p19.nd (ke_op op_add (ke_op op_add (kv 3) ke_int) (kv 5)))))))
      (kss_cons (ks_set (i:=6) sc_p19.nd (ke_call G_p20 (by exact hr.mono (by decide)) T.g_p20 T.F_p20.kp T.b_p20 pass0 (ka_cons (ke_ix ix_list (kv 1) ke_int) (ka_cons (kv 0) (ka_cons (kv 3) ka_nil)))))
      (kss_cons (ks_comp (i:=7) [] sc_p19.nd (ki_list (kv 6)) (fun _ _ _ _ _=>⟨kts_nil,ke_tup (ka_cons (ke_ix ix_list (kv 0) ke_int) (ka_cons (ke_ix ix_list (kv 0) ke_int) ka_nil))⟩))
      (kss_cons (ks_comp (i:=8) [] sc_p19.nd (ki_list (kv 6)) (fun _ _ _ _ _=>⟨kts_one (kt_cmp op_eq (ke_callB call_len_seq T.n_len PyProof.Rows.Boot.«len» (ka_cons (kv 0) ka_nil)) ke_int),ke_ix ix_list (kv 0) ke_int⟩))
      (kss_one (ks_ret (ke_tup (ka_cons (ke_ix ix_list (kv 1) ke_int) (ka_cons (ke_ix ix_list (kv 1) ke_int) (ka_cons (kv 2) (ka_cons (kv 7) (ka_cons (kv 8) ka_nil))))))))))))))
theorem sc_draw : FnScope ["_law_script", "_law_k", "_law_many", "_law_cell", "_law_seed"] ["_law_script", "_law_k", "_law_many"] (defScope s_draw) := ⟨rfl, rfl, rfl, by decide +kernel, rfl, by decide +kernel, by decide +kernel⟩
def rd_draw (K:PySem.W.Frag) (a:Ad):TS:=
    rdDraw K
theorem pr_draw (T:Tx K mg a) (hr:Room 0 (A.deeper (envOfC "_law_draw" (defScope s_draw) s.heap.objs.size f cdv))) :
    QSs (cxOf CX0 P w K mg base ["_law_script", "_law_k", "_law_many", "_law_cell", "_law_seed"] "_law_draw" (defScope s_draw) f cdv A outer s H E).nox (defBody s_draw) (rd_draw K a) := by
  delta rd_draw rdDraw
  exact kss_cons (ks_set (i:=3) sc_draw.nd (ke_ifExp (kt_cmp op_gt (ke_callB call_len_seq T.n_len PyProof.Rows.Boot.«len» (ka_cons (kv 0) ka_nil)) ke_int) (ke_ix ix_list (kv 0) (ke_op op_mod (kv 1) (ke_callB call_len_seq T.n_len PyProof.Rows.Boot.«len» (ka_cons (kv 0) ka_nil)))) ke_int))
      (kss_cons (ks_if (kt_w (kw_and (kt_cmp op_gt (ke_callB call_len_seq T.n_len PyProof.Rows.Boot.«len» (ka_cons (kv 0) ka_nil)) ke_int) (kw_and1 (kt_cmp op_eq (ke_op op_mod (ke_ix ix_list (kv 0) ke_int) ke_int) ke_int)))) (kss_one (ks_ret (ke_op op_mod (ke_op op_mod (ke_op op_shr (kv 3) (ke_op op_add (ke_op op_mulB ke_int (ke_op op_fdiv (kv 1) (ke_callB call_len_seq T.n_len PyProof.Rows.Boot.«len» (ka_cons (kv 0) ka_nil)))) ke_int)) ke_int) (kv 2)))) (kss_nil))
      (kss_cons (ks_set (i:=4) sc_draw.nd (ke_op op_add (ke_op op_add (ke_op op_mod (kv 3) ke_int) (ke_op op_mulB (ke_op op_mulB ke_int (kv 1)) (kv 1))) ke_int))
      (kss_one (ks_ret (ke_op op_mod (ke_op op_mod (ke_op op_mulB (ke_op op_mod (ke_op op_mulB (kv 4) ke_int) ke_int) ke_int) ke_int) (kv 2))))))
theorem sc_size : FnScope ["_law_script", "_law_letters", "_law_hands"] ["_law_script"] (defScope s_size) := ⟨rfl, rfl, rfl, by decide +kernel, rfl, by decide +kernel, by decide +kernel⟩
def rd_size (K:PySem.W.Frag) (a:Ad):TS:=
    tSeq (tAsg (tOp (rIxL K) (tLst (tCons (tC (.int 2)) (tCons (tC (.int 3)) (tCons (tC (.int 4)) (tCons (tC (.int 5)) (tCons (tC (.int 10)) (tCons (tC (.int 26)) tNil))))))) (tCall (spDraw K) [] E0 (tCons (tVar 0) (tCons (tC (.int 0)) (tCons (tC (.int 6)) tNil))))) (gName 1))
      (tSeq (tAsg (tOp rAddI (tC (.int 1)) (tCall (spDraw K) [] E0 (tCons (tVar 0) (tCons (tC (.int 1)) (tCons (tCB rMin2 (tCons (tC (.int 4)) (tCons (tOp rSubI (tVar 1) (tC (.int 1))) tNil))) tNil))))) (gName 2))
      (tRet (tTup (tCons (tVar 1) (tCons (tIf (tTest (tOp rEq (tCall (spDraw K) [] E0 (tCons (tVar 0) (tCons (tC (.int 2)) (tCons (tC (.int 8)) tNil)))) (tC (.int 0)))) (tOp rSubI (tVar 1) (tC (.int 1))) (tVar 2)) tNil)))))
theorem pr_size (T : Tx K mg a) (G_draw : FnOk P w K mg base CX0 1 a.f_draw a.fd_draw ["_law_script", "_law_k", "_law_many"] (spDraw K)) (hr : Room 1 (A.deeper (envOfC "_law_size" (defScope s_size) s.heap.objs.size f cdv))) :
    QSs (cxOf CX0 P w K mg base ["_law_script", "_law_letters", "_law_hands"] "_law_size" (defScope s_size) f cdv A outer s H E).nox (defBody s_size) (rd_size K a) := by
  exact kss_cons (ks_set (i:=1) sc_size.nd (ke_ix ix_list (ke_lst (ka_cons ke_int (ka_cons ke_int (ka_cons ke_int (ka_cons ke_int (ka_cons ke_int (ka_cons ke_int ka_nil))))))) (ke_call G_draw (by exact hr.mono (by decide)) T.g_draw T.F_draw.kp T.b_draw pass0 (ka_cons (kv 0) (ka_cons ke_int (ka_cons ke_int ka_nil))))))
      (kss_cons (ks_set (i:=2) sc_size.nd (ke_op op_add ke_int (ke_call G_draw (by exact hr.mono (by decide)) T.g_draw T.F_draw.kp T.b_draw pass0 (ka_cons (kv 0) (ka_cons ke_int (ka_cons (ke_callB (call_min2 (by kernel_rfl)) T.n_min PyProof.Rows.Boot.«min» (ka_cons ke_int (ka_cons (ke_op op_sub (kv 1) ke_int) ka_nil))) ka_nil))))))
      (kss_one (ks_ret (ke_tup (ka_cons (kv 1) (ka_cons (ke_ifExp (kt_cmp op_eq (ke_call G_draw (by exact hr.mono (by decide)) T.g_draw T.F_draw.kp T.b_draw pass0 (ka_cons (kv 0) (ka_cons ke_int (ka_cons ke_int ka_nil)))) ke_int) (ke_op op_sub (kv 1) ke_int) (kv 2)) ka_nil))))))
theorem sc_thing : FnScope ["_law_script", "_law_k", "_law_some"] ["_law_script", "_law_k"] (defScope s_thing) := ⟨rfl, rfl, rfl, by decide +kernel, rfl, by decide +kernel, by decide +kernel⟩
def rd_thing (K:PySem.W.Frag) (a:Ad):TS:=
    rdHThing K
theorem pr_thing (T : Tx K mg a) (G_draw : FnOk P w K mg base CX0 1 a.f_draw a.fd_draw ["_law_script", "_law_k", "_law_many"] (spDraw K)) (hr : Room 1 (A.deeper (envOfC "_law_thing" (defScope s_thing) s.heap.objs.size f cdv))) :
    QSs (cxOf CX0 P w K mg base ["_law_script", "_law_k", "_law_some"] "_law_thing" (defScope s_thing) f cdv A outer s H E).nox (defBody s_thing) (rd_thing K a) := by
  delta rd_thing rdHThing
  exact kss_cons (ks_set (i:=2) sc_thing.nd (ke_lst (ka_cons (ke_txt (by kernel_rfl)) (ka_cons (ke_txt (by kernel_rfl)) (ka_cons (ke_txt (by kernel_rfl)) (ka_cons (ke_txt (by kernel_rfl)) (ka_cons (ke_txt (by kernel_rfl)) (ka_cons (ke_txt (by kernel_rfl)) (ka_cons (ke_txt (by kernel_rfl)) (ka_cons (ke_txt (by kernel_rfl)) ka_nil))))))))))
      (kss_one (ks_ret (ke_ix ix_list (kv 2) (ke_call G_draw (by exact hr.mono (by decide)) T.g_draw T.F_draw.kp T.b_draw pass0 (ka_cons (kv 0) (ka_cons (kv 1) (ka_cons ke_int ka_nil)))))))
theorem sc_marks : FnScope ["_law_script", "_law_k", "_law_letters", "_law_many", "_law_signs", "_law_marks_here", "_law_n", "_law_size_here", "_law_text"] ["_law_script", "_law_k", "_law_letters", "_law_many"] (defScope s_marks) := ⟨rfl, rfl, rfl, by decide +kernel, rfl, by decide +kernel, by decide +kernel⟩
def rd_marks (K:PySem.W.Frag) (a:Ad):TS:=
    rdTMarks K
theorem pr_marks (T : Tx K mg a) (G_draw : FnOk P w K mg base CX0 1 a.f_draw a.fd_draw ["_law_script", "_law_k", "_law_many"] (spDraw K)) (hr : Room 1 (A.deeper (envOfC "_law_marks" (defScope s_marks) s.heap.objs.size f cdv))) :
    QSs (cxOf CX0 P w K mg base ["_law_script", "_law_k", "_law_letters", "_law_many", "_law_signs", "_law_marks_here", "_law_n", "_law_size_here", "_law_text"] "_law_marks" (defScope s_marks) f cdv A outer s H E).nox (defBody s_marks) (rd_marks K a) := by
  delta rd_marks rdTMarks
  exact kss_cons (ks_setc (i:=4) sc_marks.nd (ke_slice sl_str (ke_txt small_eq) ko_none (ko_some (kvc 2))))
      (kss_cons (ks_set (i:=5) sc_marks.nd (ke_lst ka_nil))
      (kss_cons (ks_for (ki_range1 T.n_range (ka_cons (kv 3) ka_nil)) (kg_namec (i:=6) sc_marks.nd) (kss_cons (ks_set (i:=7) sc_marks.nd (ke_call G_draw (by exact hr.mono (by decide)) T.g_draw T.F_draw.kp T.b_draw pass0 (ka_cons (kvc 0) (ka_cons (ke_op op_add (kvc 1) (ke_op op_mulB ke_int (kvc 6))) (ka_cons ke_int ka_nil)))))
      (kss_cons (ks_if (kt_cmp op_eq (ke_call G_draw (by exact hr.mono (by decide)) T.g_draw T.F_draw.kp T.b_draw pass0 (ka_cons (kvc 0) (ka_cons (ke_op op_add (ke_op op_add (kvc 1) (ke_op op_mulB ke_int (kvc 6))) ke_int) (ka_cons ke_int ka_nil)))) ke_int) (kss_one (ks_set (i:=7) sc_marks.nd (ke_call G_draw (by exact hr.mono (by decide)) T.g_draw T.F_draw.kp T.b_draw pass0 (ka_cons (kvc 0) (ka_cons (ke_op op_add (kvc 1) (ke_op op_mulB ke_int (kvc 6))) (ka_cons ke_int ka_nil)))))) (kss_nil))
      (kss_cons (ks_set (i := 8) sc_marks.nd (ke_bm PySem.F.plainAttrs_str PySem.F.slot_str_join PySem.F.type_str_join mt_join (ke_txt (by kernel_rfl)) (ka_cons (ke_comp [("_law_signs", 4), ("_law_script", 0), ("_law_letters", 2), ("_law_k", 1), ("_law_n", 6)] (ki_range1 T.n_range (ka_cons (kv 7) ka_nil)) (fun _ _ _ _ _ => ⟨kts_nil, ke_ix ix_strL (kvc 1) (ke_call G_draw (by exact hr.mono (by decide)) T.g_draw T.F_draw.kp T.b_draw pass0 (ka_cons (kvc 2) (ka_cons (ke_op op_add (ke_op op_add (ke_op op_add (kvc 4) (ke_op op_mulB ke_int (kvc 5))) ke_int) (kv 0)) (ka_cons (kvc 3) ka_nil))))⟩)) ka_nil)))
      (kss_cons (ks_set (i:=8) sc_marks.nd (ke_op op_addS (kv 8) (ke_ix ix_strL (kvc 4) (ke_op op_add ke_int (ke_call G_draw (by exact hr.mono (by decide)) T.g_draw T.F_draw.kp T.b_draw pass0 (ka_cons (kvc 0) (ka_cons (ke_op op_add (ke_op op_add (kvc 1) (ke_op op_mulB ke_int (kvc 6))) ke_int) (ka_cons (ke_op op_sub (kvc 2) ke_int) ka_nil))))))))
      (kss_one (ks_if (kt_cmp op_notIn_seq (kv 8) (kv 5)) (kss_one (ks_expr (ke_bm PySem.F.plainAttrs_list PySem.F.slot_list_append PySem.F.type_list_append mt_append (kv 5) (ka_cons (kv 8) ka_nil)))) (kss_nil))))))))
      (kss_one (ks_ret (ke_callB call_sortedS T.n_sorted PyProof.Rows.Boot.«sorted» (ka_cons (kv 5) ka_nil))))))
theorem sc_rows : FnScope ["_law_script", "_law_k", "_law_letters", "_law_olds", "_law_news", "_law_rows_here", "_law_old", "_law_fresh"] ["_law_script", "_law_k", "_law_letters"] (defScope s_rows) := ⟨rfl, rfl, rfl, by decide +kernel, rfl, by decide +kernel, by decide +kernel⟩
def rd_rows (K:PySem.W.Frag) (a:Ad):TS:=
    rdTRows K
theorem pr_rows (T : Tx K mg a) (G_draw : FnOk P w K mg base CX0 1 a.f_draw a.fd_draw ["_law_script", "_law_k", "_law_many"] (spDraw K)) (G_marks : FnOk P w K mg base CX0 2 a.f_marks a.fd_marks ["_law_script", "_law_k", "_law_letters", "_law_many"] (spTMarks K)) (hr : Room 2 (A.deeper (envOfC "_law_rows" (defScope s_rows) s.heap.objs.size f cdv))) :
    QSs (cxOf CX0 P w K mg base ["_law_script", "_law_k", "_law_letters", "_law_olds", "_law_news", "_law_rows_here", "_law_old", "_law_fresh"] "_law_rows" (defScope s_rows) f cdv A outer s H E).nox (defBody s_rows) (rd_rows K a) := by
  delta rd_rows rdTRows
  exact kss_cons (ks_set (i:=3) sc_rows.nd (ke_call G_marks (by exact hr.mono (by decide)) T.g_marks T.F_marks.kp T.b_marks pass0 (ka_cons (kv 0) (ka_cons (kv 1) (ka_cons (kv 2) (ka_cons (ke_call G_draw (by exact hr.mono (by decide)) T.g_draw T.F_draw.kp T.b_draw pass0 (ka_cons (kv 0) (ka_cons (ke_op op_add (kv 1) ke_int) (ka_cons ke_int ka_nil)))) ka_nil))))))
      (kss_cons (ks_set (i:=4) sc_rows.nd (ke_call G_marks (by exact hr.mono (by decide)) T.g_marks T.F_marks.kp T.b_marks pass0 (ka_cons (kv 0) (ka_cons (ke_op op_add (kv 1) ke_int) (ka_cons (kv 2) (ka_cons (ke_callB call_len_seq T.n_len PyProof.Rows.Boot.«len» (ka_cons (kv 3) ka_nil)) ka_nil))))))
      (kss_cons (ks_set (i:=5) sc_rows.nd (ke_lst ka_nil))
      (kss_cons (ks_for (ki_list (kv 3)) (kg_name (i:=6) sc_rows.nd) (kss_cons (ks_set (i:=7) sc_rows.nd ke_non)
      (kss_cons (ks_if (kt_w (kw_and (kt_cmp op_gt (ke_callB call_len_seq T.n_len PyProof.Rows.Boot.«len» (ka_cons (kv 4) ka_nil)) ke_int) (kw_and1 (kt_cmp op_gt (ke_call G_draw (by exact hr.mono (by decide)) T.g_draw T.F_draw.kp T.b_draw pass0 (ka_cons (kv 0) (ka_cons (ke_op op_add (ke_op op_add (kv 1) ke_int) (ke_callB call_len_seq T.n_len PyProof.Rows.Boot.«len» (ka_cons (kv 5) ka_nil))) (ka_cons ke_int ka_nil)))) ke_int)))) (kss_one (ks_set (i:=7) sc_rows.nd (ke_bm PySem.F.plainAttrs_list PySem.F.slot_list_pop PySem.F.type_list_pop mt_popAt (kv 4) (ka_cons ke_int ka_nil)))) (kss_nil))
      (kss_one (ks_expr (ke_bm PySem.F.plainAttrs_list PySem.F.slot_list_append PySem.F.type_list_append mt_append (kv 5) (ka_cons (ke_tup (ka_cons (kv 6) (ka_cons (kv 7) ka_nil))) ka_nil)))))))
      (kss_one (ks_ret (kv 5))))))
theorem sc_made : FnScope ["_law_script", "_law_size_here", "_law_renewals", "_law_things", "_law_taken", "_law_mark"] ["_law_script", "_law_size_here"] (defScope s_made) := ⟨rfl, rfl, rfl, by decide +kernel, rfl, by decide +kernel, by decide +kernel⟩
def rd_made (K:PySem.W.Frag) (a:Ad):TS:=
    rdTMade K
theorem pr_made (T : Tx K mg a) (G_draw : FnOk P w K mg base CX0 1 a.f_draw a.fd_draw ["_law_script", "_law_k", "_law_many"] (spDraw K)) (G_rows : FnOk P w K mg base CX0 3 a.f_rows a.fd_rows ["_law_script", "_law_k", "_law_letters"] (spTRows K)) (G_marks : FnOk P w K mg base CX0 2 a.f_marks a.fd_marks ["_law_script", "_law_k", "_law_letters", "_law_many"] (spTMarks K)) (G_thing : FnOk P w K mg base CX0 2 a.f_thing a.fd_thing ["_law_script", "_law_k"] (spHThing K)) (hr : Room 3 (A.deeper (envOfC "_law_made" (defScope s_made) s.heap.objs.size f cdv))) :
    QSs (cxOf CX0 P w K mg base ["_law_script", "_law_size_here", "_law_renewals", "_law_things", "_law_taken", "_law_mark"] "_law_made" (defScope s_made) f cdv A outer s H E).nox (defBody s_made) (rd_made K a) := by
  delta rd_made rdTMade
  exact kss_cons (ks_comp (i := 2) [("_law_script", 0), ("_law_size_here", 1)] sc_made.nd (ki_range1 T.n_range (ka_cons (ke_call G_draw (by exact hr.mono (by decide)) T.g_draw T.F_draw.kp T.b_draw pass0 (ka_cons (kvc 0) (ka_cons ke_int (ka_cons ke_int ka_nil)))) ka_nil)) (fun _ _ _ _ _ => ⟨kts_nil, ke_call G_rows (by exact hr.mono (by decide)) T.g_rows T.F_rows.kp T.b_rows pass0 (ka_cons (kvc 1) (ka_cons (ke_op op_add ke_int (ke_op op_mulB ke_int (kv 0))) (ka_cons (ke_ix ix_tup (kvc 2) ke_int) ka_nil)))⟩))
      (kss_cons (ks_set (i:=3) sc_made.nd (ke_lst ka_nil))
      (kss_cons (ks_set (i:=4) sc_made.nd (ke_lst ka_nil))
      (kss_cons (ks_for (ki_list (ke_call G_marks (by exact hr.mono (by decide)) T.g_marks T.F_marks.kp T.b_marks pass0 (ka_cons (kvc 0) (ka_cons ke_int (ka_cons (ke_ix ix_tup (kvc 1) ke_int) (ka_cons (ke_call G_draw (by exact hr.mono (by decide)) T.g_draw T.F_draw.kp T.b_draw pass0 (ka_cons (kvc 0) (ka_cons ke_int (ka_cons ke_int ka_nil)))) ka_nil)))))) (kg_name (i:=5) sc_made.nd) (kss_cons (ks_expr (ke_bm PySem.F.plainAttrs_list PySem.F.slot_list_append PySem.F.type_list_append mt_append (kv 3) (ka_cons (ke_tup (ka_cons (kv 5) (ka_cons (ke_call G_thing (by exact hr.mono (by decide)) T.g_thing T.F_thing.kp T.b_thing pass0 (ka_cons (kvc 0) (ka_cons (ke_op op_add ke_int (ke_callB call_len_seq T.n_len PyProof.Rows.Boot.«len» (ka_cons (kv 3) ka_nil))) ka_nil))) ka_nil))) ka_nil)))
      (kss_one (ks_if (kt_cmp op_eq (ke_call G_draw (by exact hr.mono (by decide)) T.g_draw T.F_draw.kp T.b_draw pass0 (ka_cons (kvc 0) (ka_cons (ke_op op_add ke_int (ke_callB call_len_seq T.n_len PyProof.Rows.Boot.«len» (ka_cons (kv 3) ka_nil))) (ka_cons ke_int ka_nil)))) ke_int) (kss_one (ks_expr (ke_bm PySem.F.plainAttrs_list PySem.F.slot_list_append PySem.F.type_list_append mt_append (kv 4) (ka_cons (kv 5) ka_nil)))) (kss_nil)))))
      (kss_one (ks_ret (ke_op op_catT (kvc 1) (ke_tup (ka_cons (kv 2) (ka_cons (kv 3) (ka_cons (kv 4) ka_nil))))))))))
theorem sc_texts : FnScope ["_law_state", "_law_texts_here", "_law_rows_here", "_law_old", "_law_fresh", "_law_mark", "_law_thing_here"] ["_law_state"] (defScope s_texts) := ⟨rfl, rfl, rfl, by decide +kernel, rfl, by decide +kernel, by decide +kernel⟩
def rd_texts (K:PySem.W.Frag) (a:Ad):TS:=
    rdTTexts K
theorem pr_texts (T:Tx K mg a) (hr:Room 0 (A.deeper (envOfC "_law_texts" (defScope s_texts) s.heap.objs.size f cdv))) :
    QSs (cxOf CX0 P w K mg base ["_law_state", "_law_texts_here", "_law_rows_here", "_law_old", "_law_fresh", "_law_mark", "_law_thing_here"] "_law_texts" (defScope s_texts) f cdv A outer s H E).nox (defBody s_texts) (rd_texts K a) := by
  delta rd_texts rdTTexts
  exact kss_cons (ks_set (i:=1) sc_texts.nd (ke_lst (ka_cons (ke_bm PySem.F.plainAttrs_str PySem.F.slot_str_join PySem.F.type_str_join mt_join (ke_txt (by kernel_rfl)) (ka_cons (ke_lst (ka_cons (ke_callTy call_str_int T.n_str PyProof.Rows.Boot.«str» (ka_cons (ke_ix ix_tup (kv 0) ke_int) ka_nil)) (ka_cons (ke_callTy call_str_int T.n_str PyProof.Rows.Boot.«str» (ka_cons (ke_ix ix_tup (kv 0) ke_int) ka_nil)) (ka_cons (ke_callTy call_str_int T.n_str PyProof.Rows.Boot.«str» (ka_cons (ke_callB call_len_seq T.n_len PyProof.Rows.Boot.«len» (ka_cons (ke_ix ix_tup (kv 0) ke_int) ka_nil)) ka_nil)) ka_nil)))) ka_nil)) ka_nil)))
      (kss_cons (ks_for (ki_list (ke_ix ix_tup (kv 0) ke_int)) (kg_name (i:=2) sc_texts.nd) (kss_cons (ks_expr (ke_bm PySem.F.plainAttrs_list PySem.F.slot_list_append PySem.F.type_list_append mt_append (kv 1) (ka_cons (ke_op op_addS (ke_txt (by kernel_rfl)) (ke_callTy call_str_int T.n_str PyProof.Rows.Boot.«str» (ka_cons (ke_callB call_len_seq T.n_len PyProof.Rows.Boot.«len» (ka_cons (kv 2) ka_nil)) ka_nil))) ka_nil)))
      (kss_one (ks_for (ki_list (kv 2)) (kg_tup (kgs_cons (kg_name (i:=3) sc_texts.nd) (kgs_cons (kg_name (i:=4) sc_texts.nd) kgs_nil))) (kss_one (ks_expr (ke_bm PySem.F.plainAttrs_list PySem.F.slot_list_append PySem.F.type_list_append mt_append (kv 1) (ka_cons (ke_ifExp (kt_isN (kv 4)) (ke_op op_addS (kv 3) (ke_txt (by kernel_rfl))) (ke_op op_addS (ke_op op_addS (kv 3) (ke_txt (by kernel_rfl))) (kv 4))) ka_nil))))))))
      (kss_cons (ks_for (ki_list (ke_ix ix_tup (kv 0) ke_int)) (kg_tup (kgs_cons (kg_name (i:=5) sc_texts.nd) (kgs_cons (kg_name (i:=6) sc_texts.nd) kgs_nil))) (kss_one (ks_expr (ke_bm PySem.F.plainAttrs_list PySem.F.slot_list_append PySem.F.type_list_append mt_append (kv 1) (ka_cons (ke_bm PySem.F.plainAttrs_str PySem.F.slot_str_join PySem.F.type_str_join mt_join (ke_txt (by kernel_rfl)) (ka_cons (ke_op op_cat (ke_lst (ka_cons (kv 5) (ka_cons (kv 6) ka_nil))) (ke_op op_rep (ke_lst (ka_cons (ke_txt (by kernel_rfl)) ka_nil)) (ke_bm PySem.F.plainAttrs_list PySem.F.slot_list_count PySem.F.type_list_count mt_count (ke_ix ix_tup (kv 0) ke_int) (ka_cons (kv 5) ka_nil)))) ka_nil)) ka_nil)))))
      (kss_one (ks_ret (kv 1)))))
theorem sc_copy:FnScope ["_law_state"] ["_law_state"] (defScope s_copy):=⟨rfl,rfl,rfl,by decide +kernel,rfl,by decide +kernel,by decide +kernel⟩
def rd_copy (K:PySem.W.Frag) (a:Ad):TS:=
    rdTCopy K
theorem pr_copy (T:Tx K mg a) (hr:Room 0 (A.deeper (envOfC "_law_copy" (defScope s_copy) s.heap.objs.size f cdv))) :
    QSs (cxOf CX0 P w K mg base ["_law_state"] "_law_copy" (defScope s_copy) f cdv A outer s H E).nox (defBody s_copy) (rd_copy K a):=by
  delta rd_copy rdTCopy
  exact kss_one (ks_ret (ke_tup (ka_cons (ke_ix ix_tup (kv 0) ke_int) (ka_cons (ke_ix ix_tup (kv 0) ke_int) (ka_cons (ke_comp [] (ki_list (ke_ix ix_tup (kv 0) ke_int)) (fun _ _ _ _ _=>⟨kts_nil,ke_callTy call_list_of T.n_list PyProof.Rows.Boot.«list» (ka_cons (kv 0) ka_nil)⟩)) (ka_cons (ke_callTy call_list_of T.n_list PyProof.Rows.Boot.«list» (ka_cons (ke_ix ix_tup (kv 0) ke_int) ka_nil)) (ka_cons (ke_callTy call_list_of T.n_list PyProof.Rows.Boot.«list» (ka_cons (ke_ix ix_tup (kv 0) ke_int) ka_nil)) ka_nil)))))))
theorem sc_law : FnScope ["_law_script", "_law_size_here", "_law_state", "_law_due", "_law_handed", "_law_texts_here", "_law_told_texts", "_law_found", "_law_rows_here", "_law_row"] ["_law_script"] (defScope s_law) := ⟨rfl, rfl, rfl, by decide +kernel, rfl, by decide +kernel, by decide +kernel⟩
def rd_law (K:PySem.W.Frag) (a:Ad):TS:=
    tSeq (tAsg (tCall (spSize K) [] E0 (tCons (tVar 0) tNil)) (gName 1))
      (tSeq (tAsg (tCall (spTMade K) [] E0 (tCons (tVar 0) (tCons (tVar 1) tNil))) (gName 2))
      (tSeq (tAsg (tCall (spTTexts K) [] E0 (tCons (tVar 2) tNil)) (gName 3))
      (tSeq (tAsg (tCall (spTCopy K) [] E0 (tCons (tVar 2) tNil)) (gName 4))
      (tSeq (tAsg (tCall (spStTexts K) [] E0 (tCons (tVar 4) tNil)) (gName 5))
      (tSeq (tIfS (tOr (tNot (tB (tIsi K "list" (tVar 5)))) (tOr (tTest (tOp (rNeLS K) (tVar 5) (tVar 3))) (tTest (tOp (rNeD K) (tVar 4) (tVar 2))))) (tRet (tC (.bl false))) (tNext))
      (tSeq (tDrop (tBM K "list" rAppend (tVar 5) (tCons (tC (.str (txt [98,32,98]))) tNil)))
      (tSeq (tDrop (tBM0 K "list" rClear (tOp (rIxT K) (tVar 4) (tC (.int 3)))))
      (tSeq (tIfS (tTest (tOp (rNeLS K) (tCall (spStTexts K) [] E0 (tCons (tCall (spTCopy K) [] E0 (tCons (tVar 2) tNil)) tNil)) (tVar 3))) (tRet (tC (.bl false))) (tNext))
      (tSeq (tAsg (tCB (rListOf K) (tCons (tVar 3) tNil)) (gName 6))
      (tSeq (tAsg (tCall (spReadState K) [] E0 (tCons (tVar 6) tNil)) (gName 7))
      (tSeq (tIfS (tOr (tNot (tB (tIsi K "tuple" (tVar 7)))) (tOr (tTest (tOp (rNeD K) (tVar 7) (tVar 2))) (tTest (tOp (rNeLS K) (tVar 6) (tVar 3))))) (tRet (tC (.bl false))) (tNext))
      (tSeq (tFor (iList K (tOp (rIxT K) (tVar 7) (tC (.int 2)))) (gName 8) (tSeq (tFor (iList K (tVar 8)) (gName 9) (tIfS (tNot (tB (tIsi K "tuple" (tVar 9)))) (tRet (tC (.bl false))) (tNext)))
      (tDrop (tBM K "list" rAppend (tVar 8) (tCons (tTup (tCons (tC (.str (txt [98]))) (tCons (tC .non) tNil))) tNil)))))
      (tSeq (tDrop (tBM K "list" rAppend (tOp (rIxT K) (tVar 7) (tC (.int 2))) (tCons (tLst tNil) tNil)))
      (tSeq (tDrop (tBM K "list" rAppend (tOp (rIxT K) (tVar 7) (tC (.int 3))) (tCons (tTup (tCons (tC (.str (txt [98]))) (tCons (tC (.str (txt [98]))) tNil))) tNil)))
      (tSeq (tDrop (tBM K "list" rAppend (tOp (rIxT K) (tVar 7) (tC (.int 4))) (tCons (tC (.str (txt [98]))) tNil)))
      (tRet (tAndV (tOp (rEqD K) (tCall (spReadState K) [] E0 (tCons (tCB (rListOf K) (tCons (tVar 3) tNil)) tNil)) (tVar 2)) (tOp rEq (tCB (rLenL K) (tCons (tOp (rIxT K) (tVar 7) (tC (.int 3))) tNil)) (tOp rAddI (tCB (rLenL K) (tCons (tOp (rIxT K) (tVar 2) (tC (.int 3))) tNil)) (tC (.int 1)))))))))))))))))))))
theorem pr_law (T : Tx K mg a) (G_size : FnOk P w K mg base CX0 2 a.f_size a.fd_size ["_law_script"] (spSize K)) (G_made : FnOk P w K mg base CX0 4 a.f_made a.fd_made ["_law_script", "_law_size_here"] (spTMade K)) (G_texts : FnOk P w K mg base CX0 1 a.f_texts a.fd_texts ["_law_state"] (spTTexts K)) (G_copy : FnOk P w K mg base CX0 1 a.f_copy a.fd_copy ["_law_state"] (spTCopy K)) (G_p23 : FnOk P w K mg base CX0 3 a.f_p23 a.fd_p23 ["state"] (spStTexts K)) (G_p19 : FnOk P w K mg base CX0 4 a.f_p19 a.fd_p19 ["texts"] (spReadState K)) (hr : Room 4 (A.deeper (envOfC "law" (defScope s_law) s.heap.objs.size f cdv))) :
    QSs (cxOf CX0 P w K mg base ["_law_script", "_law_size_here", "_law_state", "_law_due", "_law_handed", "_law_texts_here", "_law_told_texts", "_law_found", "_law_rows_here", "_law_row"] "law" (defScope s_law) f cdv A outer s H E).nox (defBody s_law) (rd_law K a) := by
  have hu:=Room.units hr
  exact kss_cons (ks_set (i:=1) sc_law.nd (ke_call G_size (by exact hr.mono (by decide)) T.g_size T.F_size.kp T.b_size pass0 (ka_cons (kv 0) ka_nil)))
      (kss_cons (ks_set (i:=2) sc_law.nd (ke_call G_made (by exact hr.mono (by decide)) T.g_made T.F_made.kp T.b_made pass0 (ka_cons (kv 0) (ka_cons (kv 1) ka_nil))))
      (kss_cons (ks_set (i:=3) sc_law.nd (ke_call G_texts (by exact hr.mono (by decide)) T.g_texts T.F_texts.kp T.b_texts pass0 (ka_cons (kv 2) ka_nil)))
      (kss_cons (ks_set (i:=4) sc_law.nd (ke_call G_copy (by exact hr.mono (by decide)) T.g_copy T.F_copy.kp T.b_copy pass0 (ka_cons (kv 2) ka_nil)))
      (kss_cons (ks_set (i:=5) sc_law.nd (ke_call G_p23 (by exact hr.mono (by decide)) T.g_p23 T.F_p23.kp T.b_p23 pass0 (ka_cons (kv 4) ka_nil)))
      (kss_cons (ks_if (kt_w (kw_or (kt_not (kt_val (ke_isi T.n_isinstance PyProof.Rows.Boot.«isinstance» T.n_list PyProof.Rows.Boot.«list» (kv 5)))) (kw_or (kt_cmp (op_neLS hu) (kv 5) (kv 3)) (kw_or1 (kt_cmp (op_neD hu) (kv 4) (kv 2)))))) (kss_one (ks_ret ke_bl)) (kss_nil))
      (kss_cons (ks_expr (ke_bm PySem.F.plainAttrs_list PySem.F.slot_list_append PySem.F.type_list_append mt_append (kv 5) (ka_cons (ke_txt (by kernel_rfl)) ka_nil)))
      (kss_cons (ks_expr (ke_bm0 PySem.F.plainAttrs_list PySem.F.slot_list_clear PySem.F.type_list_clear mt_clear (ke_ix ix_tup (kv 4) ke_int)))
      (kss_cons (ks_if (kt_cmp (op_neLS hu) (ke_call G_p23 (by exact hr.mono (by decide)) T.g_p23 T.F_p23.kp T.b_p23 pass0 (ka_cons (ke_call G_copy (by exact hr.mono (by decide)) T.g_copy T.F_copy.kp T.b_copy pass0 (ka_cons (kv 2) ka_nil)) ka_nil)) (kv 3)) (kss_one (ks_ret ke_bl)) (kss_nil))
      (kss_cons (ks_set (i:=6) sc_law.nd (ke_callTy call_list_of T.n_list PyProof.Rows.Boot.«list» (ka_cons (kv 3) ka_nil)))
      (kss_cons (ks_set (i:=7) sc_law.nd (ke_call G_p19 (by exact hr.mono (by decide)) T.g_p19 T.F_p19.kp T.b_p19 pass0 (ka_cons (kv 6) ka_nil)))
      (kss_cons (ks_if (kt_w (kw_or (kt_not (kt_val (ke_isi T.n_isinstance PyProof.Rows.Boot.«isinstance» T.n_tuple PyProof.Rows.Boot.«tuple» (kv 7)))) (kw_or (kt_cmp (op_neD hu) (kv 7) (kv 2)) (kw_or1 (kt_cmp (op_neLS hu) (kv 6) (kv 3)))))) (kss_one (ks_ret ke_bl)) (kss_nil))
      (kss_cons (ks_for (ki_list (ke_ix ix_tup (kv 7) ke_int)) (kg_name (i:=8) sc_law.nd) (kss_cons (ks_for (ki_list (kv 8)) (kg_name (i:=9) sc_law.nd) (kss_one (ks_if (kt_not (kt_val (ke_isi T.n_isinstance PyProof.Rows.Boot.«isinstance» T.n_tuple PyProof.Rows.Boot.«tuple» (kv 9)))) (kss_one (ks_ret ke_bl)) (kss_nil))))
      (kss_one (ks_expr (ke_bm PySem.F.plainAttrs_list PySem.F.slot_list_append PySem.F.type_list_append mt_append (kv 8) (ka_cons (ke_tup (ka_cons (ke_txt (by kernel_rfl)) (ka_cons ke_non ka_nil))) ka_nil))))))
      (kss_cons (ks_expr (ke_bm PySem.F.plainAttrs_list PySem.F.slot_list_append PySem.F.type_list_append mt_append (ke_ix ix_tup (kv 7) ke_int) (ka_cons (ke_lst ka_nil) ka_nil)))
      (kss_cons (ks_expr (ke_bm PySem.F.plainAttrs_list PySem.F.slot_list_append PySem.F.type_list_append mt_append (ke_ix ix_tup (kv 7) ke_int) (ka_cons (ke_tup (ka_cons (ke_txt (by kernel_rfl)) (ka_cons (ke_txt (by kernel_rfl)) ka_nil))) ka_nil)))
      (kss_cons (ks_expr (ke_bm PySem.F.plainAttrs_list PySem.F.slot_list_append PySem.F.type_list_append mt_append (ke_ix ix_tup (kv 7) ke_int) (ka_cons (ke_txt (by kernel_rfl)) ka_nil)))
      (kss_one (ks_ret (ke_and (ke_cmp (op_eqD hu) (ke_call G_p19 (by exact hr.mono (by decide)) T.g_p19 T.F_p19.kp T.b_p19 pass0 (ka_cons (ke_callTy call_list_of T.n_list PyProof.Rows.Boot.«list» (ka_cons (kv 3) ka_nil)) ka_nil)) (kv 2)) (ke_one (ke_cmp op_eq (ke_callB call_len_seq T.n_len PyProof.Rows.Boot.«len» (ka_cons (ke_ix ix_tup (kv 7) ke_int) ka_nil)) (ke_op op_add (ke_callB call_len_seq T.n_len PyProof.Rows.Boot.«len» (ka_cons (ke_ix ix_tup (kv 2) ke_int) ka_nil)) ke_int)))))))))))))))))))))
end
end K70
namespace K70
open PySem PySem.Spec PyProof.Rows L2 MM
theorem read_size {K:PySem.W.Frag} {a:Ad} {N:List Str} {vs:List V} {H:Hp} {Q:VK} {E:XK} (hN:N.length = 3) (h:spSize K vs H Q E):rd_size K a { nx:=fun _ H'=>Q .non H',rt:=Q } (L2.start N vs) H:=by
  obtain ⟨sc,ns,rfl,hS,hl,q⟩:=h
  unfold rd_size L2.start
  rw [hN]
  refine seq_set fun c hc=>?_
  and_intros
  refine ⟨by decide,fun p hp=>?_⟩
  have s1:=Same.up (o:=HO.lst [V.int 2,V.int 3,V.int 4,V.int 5,V.int 10,V.int 26]) H hp
  refine ⟨sc,ns,_,_,rfl,s1.seq hS,hl,by decide,by decide,by decide,fun r h0 h1=>?_⟩
  refine ixI_go (ns:=[2,3,4,5,10,26]) SqL.here h0 (by simp only [List.length_cons,List.length_nil]; omega) fun L hL _=>hc _ _ ?_
  clear hc c
  generalize upd H p _ = H1 at s1 ⊢
  have hS1:=s1.seq hS
  have hL2:2 ≤ L∧L ≤ 26:=by
    simp only [List.mem_cons,List.not_mem_nil,or_false] at hL
    omega
  obtain ⟨L,rfl⟩:=Int.eq_ofNat_of_zero_le (a:=L) (by omega)
  refine seq_set fun c hc=>?_
  and_intros
  refine ⟨4,_,rfl,⟨sc,ns,_,_,rfl,hS1,hl,by decide,by decide,by split <;> omega,fun r2 h20 h21=>⟨_,rfl,hc _ _ ?_⟩⟩⟩
  clear hc c
  have hh:1 ≤ 1 + r2∧1 + r2 + 1 ≤ L:=by split at h21 <;> omega
  generalize 1 + r2 = h at hh ⊢
  and_intros
  refine ⟨sc,ns,_,_,rfl,hS1,hl,by decide,by decide,by decide,fun r3 h30 h31=>⟨rfl,?_⟩⟩
  by_cases z:r3 = 0
  · rw [if_pos (congrArg V.int z)]
    refine ⟨by decide,fun p2 hp2=>?_⟩
    have:=q _ p2 L (L - 1) (s1.new hp2 (o:=.tup [.int L,.int ((L:Int) - 1)])) (by rw [upd_same]; simp; omega) (by omega) (by omega) (by omega) (by omega)
    exact this
  · rw [if_neg (fun y=>z (V.int.inj y))]
    refine ⟨by decide,fun p2 hp2=>?_⟩
    have:=q _ p2 L h.toNat (s1.new hp2 (o:=.tup [.int L,.int h])) (by rw [upd_same]; simp; omega) (by omega) (by omega) (by omega) (by omega)
    exact this
theorem isiT_go {K:PySem.W.Frag} {H:Hp} {a:Addr} {xs:List V} {Q:VK} (h:H a = some (.tup xs)) (q:Q (.bl true) H):rIsi K "tuple" (.ref a) H Q:=⟨_,_,.tup h,isTy_tuple_tuple,q⟩
theorem stA_keep {H H':Hp} {F:List Addr} {p p1 p2 p3:Addr} {bs:List Addr} {ts:List V} {L h:Nat} {R:List (List RwN)} {zs:List (List Nat × List Nat)} {ws:List (List Nat)} (A:StA H p p1 p2 p3 bs ts L h R zs ws) (k:Keeps F H H') (hF:∀ t ∈ F,∃ xs,H t = some (.lst xs)) (hn:∀ b ∈ p1 :: p2 :: p3 :: bs,b ∉ F):StA H' p p1 p2 p3 bs ts L h R zs ws:=by
  have tt:∀ t ys,H t = some (.tup ys)→t ∉ F:=fun t ys e z=>by obtain ⟨xs,w⟩:=hF t z; rw [e] at w; cases w
  refine ⟨k _ _ A.top (tt _ _ A.top),k _ _ A.ren (hn p1 (by simp)),A.row.keep k (fun t z ys e=>tt t ys e z) fun a ha=>hn a (by simp [ha]),k _ _ A.thi (hn p2 (by simp)),A.prs.keep fun t ys e=>k t _ e (tt t ys e),k _ _ A.tak (hn p3 (by simp))⟩
theorem neLS_go {K:PySem.W.Frag} {H:Hp} {p p2:Addr} {xs:List (List Nat)} {Q:VK} (h1:H p = some (.lst (xs.map strV))) (h2:H p2 = some (.lst (xs.map strV))) (ok:∀ y ∈ xs,PyData.strOk (txt y) = true) (q:Q (.bl false) H):rNeLS K (.ref p) (.ref p2) H Q:=by
  refine ⟨p,p2,xs,xs,rfl,rfl,SqL.of h1,SqL.of h2,ok,ok,?_⟩
  rw [show (!decide (xs = xs)) = false by simp]
  exact q
theorem num_small:∀ n,n < 64→(num n).all (fun c=>decide (c < 128)) = true:=by decide +kernel
def Sm (l:List Nat):Prop:=∀ c ∈ l,c < 128
instance (l:List Nat):Decidable (Sm l):=inferInstanceAs (Decidable (∀ c ∈ l,c < 128))
theorem signs128:∀ c ∈ SIGNS,c < 128:=by decide
theorem Sm.app {l m:List Nat} (a:Sm l) (b:Sm m):Sm (l ++ m):=fun c hc=>by
  rcases List.mem_append.mp hc with h | h
  · exact a c h
  · exact b c h
theorem sm_num {n:Nat} (h:n < 64):Sm (num n):=fun c hc=>by
  have:=List.all_eq_true.mp (num_small n h) c hc
  simpa using this
theorem sm_mark {L:Nat} (hL:L ≤ 26) {m:List Nat} (h:Mark L m):Sm m:=fun c hc=>by have:=h.ls c hc; omega
theorem sm_thing {t:List Nat} (h:Thing t):Sm t:=fun c hc=>signs128 c (h.2.2 c hc)
theorem sm_sp:Sm [32]:=by decide
theorem st_small {L h:Nat} {R:List (List RwN)} {zs:List (List Nat × List Nat)} {ws:List (List Nat)} (T:StateT L h R zs ws):∀ y ∈ stT L h R zs ws,Sm y:=by
  have l26:=T.l26
  have few:=T.few
  have hL:=T.hL
  intro y hy
  rcases List.mem_cons.mp hy with rfl | hy
  · exact ((((sm_num (by omega)).app sm_sp).app (sm_num (by omega))).app sm_sp).app (sm_num (by omega))
  rcases List.mem_append.mp hy with hy | hy
  · obtain ⟨r,hr,hy⟩:=List.mem_flatMap.mp hy
    have rT:=T.rows r hr
    have rf:=rT.few
    rcases List.mem_cons.mp hy with rfl | hy
    · exact ((show Sm kRnw by decide).app sm_sp).app (sm_num (by omega))
    · obtain ⟨w,hw,rfl⟩:=List.mem_map.mp hy
      have o:=sm_mark l26 (rT.old w hw).1
      have n:=rT.new w hw
      obtain ⟨w1,w2⟩:=w
      cases w2 with
      | none=>exact o.app (show Sm [32,45] by decide)
      | some z=>exact (o.app sm_sp).app (sm_mark l26 (n z rfl).1)
  · obtain ⟨z,hz,rfl⟩:=List.mem_map.mp hy
    obtain ⟨zm,_,zt⟩:=T.things.mar z hz
    have b:=((sm_mark l26 zm).app sm_sp).app (sm_thing zt)
    unfold thT
    split
    · exact b.app (show Sm [32,116,97,107,101,110] by decide)
    · exact b
theorem st_ok {L h:Nat} {R:List (List RwN)} {zs:List (List Nat × List Nat)} {ws:List (List Nat)} (T:StateT L h R zs ws):∀ y ∈ stT L h R zs ws,PyData.strOk (txt y) = true:=fun y hy=>strOk_small fun c hc=>by have:=st_small T y hy c hc; omega
theorem st_okS {L h:Nat} {R:List (List RwN)} {zs:List (List Nat × List Nat)} {ws:List (List Nat)} (T:StateT L h R zs ws):StOk R zs ws:=by
  have l26:=T.l26
  have th:∀ z ∈ zs,PyData.strOk (txt z.1) = true∧PyData.strOk (txt z.2) = true:=fun z hz=>⟨strOk_mark l26 (T.things.mar z hz).1.ls,strOk_thing (T.things.mar z hz).2.2⟩
  refine ⟨fun r hr y hy=>⟨strOk_mark l26 ((T.rows r hr).old y hy).1.ls,fun z hz=>strOk_mark l26 ((T.rows r hr).new y hy z hz).1.ls⟩,th,fun w hw=>?_⟩
  rw [T.things.tak] at hw
  obtain ⟨z,hz,rfl⟩:=List.mem_map.mp (List.mem_filter.mp hw).1
  exact (th z hz).1
theorem st_len {L h:Nat} {R:List (List RwN)} {zs:List (List Nat × List Nat)} {ws:List (List Nat)} (T:StateT L h R zs ws):((stT L h R zs ws).map strV).length < 100000:=by
  have:=ren_len (R:=R) T.rows
  have:=T.few
  have:=T.things.few
  unfold stT
  rw [List.length_map,List.length_cons,List.length_append,List.length_map]
  omega
def FInv (H:Hp) (ds:List Addr) (σ0:List (Option V)):Nat→L2.St→Hp→Prop:=fun i σ H'=>∃ v8 v9:Option V,Keeps ds H H'∧(∀ d ∈ ds,∃ ys,H' d = some (.lst ys)∧ys.length ≤ 60 + i∧∀ y ∈ ys,∃ t u,y = .ref t∧H' t = some (.tup u))∧σ = σ0 ++ [v8,v9]
theorem read_law {K:PySem.W.Frag} {a:Ad} {N:List Str} {vs:List V} {H:Hp} {Q:VK} {E:XK} (hN:N.length = 10) (h:spLaw K vs H Q E):rd_law K a { nx:=fun _ H'=>Q .non H',rt:=Q } (L2.start N vs) H:=by
  obtain ⟨sc,ns,rfl,hS,hl,q⟩:=h
  unfold rd_law L2.start
  rw [hN]
  refine seq_set fun c hc=>?_
  and_intros
  refine ⟨sc,ns,rfl,hS,hl,fun H1 ps L h s1 eps hL hL26 h1 hhL=>hc _ _ ?_⟩
  clear hc c
  simp only [List.set_cons_zero,List.set_cons_succ,List.replicate_succ,List.replicate_zero,List.map_cons,List.map_nil,List.cons_append,List.nil_append]
  refine seq_set fun c hc=>?_
  and_intros
  refine ⟨sc,ps,ns,L,h,rfl,s1.seq hS,hl,eps,hL,hL26,h1,by omega,fun H2 p p1 p2 p3 bs xs R zs ws s2 T A2=>hc _ _ ?_⟩
  clear hc c
  have ok:=st_ok T
  have okS:=st_okS T
  have few:=T.few
  have zfew:=T.things.few
  refine seq_set fun c hc=>?_
  and_intros
  refine ⟨p,p1,p2,p3,bs,xs,L,h,R,zs,ws,rfl,A2,T,fun H3 o3 s3 f3 e3=>hc _ _ ?_⟩
  clear hc c
  have A3:=A2.same s3
  refine seq_set fun c hc=>?_
  and_intros
  refine ⟨p,p1,p2,p3,bs,xs,L,h,R,zs,ws,rfl,A3,few,fun H4 o4 q1 q2 q3 cs s4 f4 F4 B4=>hc _ _ ?_⟩
  clear hc c
  have A4:=A3.same s4
  have e34:=s4 _ _ e3
  refine seq_set fun c hc=>?_
  and_intros
  refine ⟨o4,q1,q2,q3,cs,xs,L,h,R,zs,ws,rfl,B4,T,fun H5 o5 s5 f5 e5=>hc _ _ ?_⟩
  clear hc c
  have A5:=A4.same s5
  have B5:=B4.same s5
  have e35:=s5 _ _ e34
  simp only [List.set_cons_zero,List.set_cons_succ]
  refine seq_any fun c hc=>?_
  and_intros
  refine isiL_go e5 ⟨_,rfl,?_⟩
  and_intros
  refine neLS_go e5 e35 ok ⟨_,rfl,?_⟩
  rw [if_neg (by decide)]
  refine ne_states B5 A5 okS ⟨_,rfl,?_⟩
  rw [if_neg (by decide)]
  refine hc _ _ ?_
  clear hc c
  have sl:=st_len T
  have live:∀ b ∈ p1 :: p2 :: p3 :: bs,∃ u,H3 b = some u:=fun b hb=>by
    simp only [List.mem_cons] at hb
    rcases hb with rfl | rfl | rfl | hb
    · exact ⟨_,A3.ren⟩
    · exact ⟨_,A3.thi⟩
    · exact ⟨_,A3.tak⟩
    · exact A3.row.live hb
  have out:∀ {F:List Addr},(∀ x ∈ F,H3 x = none)→∀ b ∈ p1 :: p2 :: p3 :: bs,b ∉ F:=fun hF b hb z=>by
    obtain ⟨u,e⟩:=live b hb
    rw [hF b z] at e
    cases e
  -- the texts are the asker's
  refine seq_any fun c hc=>?_
  and_intros
  refine ⟨.inl ⟨rfl,_,SqL.of e5⟩,append_go e5 sl (hc _ _ ?_)⟩
  clear hc c
  have g5:∀ x ∈ [o5],H3 x = none:=fun x hx=>by rw [List.mem_singleton.mp hx]; exact s4.free1 f5
  have k6:Keeps [o5] H5 (upd H5 o5 (.lst ((stT L h R zs ws).map strV ++ [.str (txt [98,32,98])]))):=Keeps.upd (fun b o e _=>e) (.inl List.mem_cons_self)
  generalize upd H5 o5 _ = H6 at k6 ⊢
  have A6:=stA_keep A5 k6 (fun t ht=>by rw [List.mem_singleton.mp ht]; exact ⟨_,e5⟩) (out g5)
  have e36:=k6 _ _ e35 (fun z=>by have:=g5 _ z; rw [e3] at this; cases this)
  have t6:=k6 _ _ B5.top (fun z=>by rw [List.mem_singleton.mp z] at B4; have:=B4.top; rw [f5] at this; cases this)
  have u6:=k6 _ _ B5.thi (fun z=>by rw [List.mem_singleton.mp z] at B4; have:=B4.thi; rw [f5] at this; cases this)
  refine seq_any fun c hc=>?_
  and_intros
  refine ixT_go (v:=.ref q2) (SqT.of t6) (by decide) rfl ⟨.inl ⟨rfl,_,SqL.of u6⟩,q2,_,rfl,rfl,u6,hc _ _ ?_⟩
  clear hc c
  have g6:∀ x ∈ [q2],H3 x = none:=fun x hx=>by rw [List.mem_singleton.mp hx]; exact F4.f2
  have k7:Keeps [q2] H6 (upd H6 q2 (.lst [])):=Keeps.upd (fun b o e _=>e) (.inl List.mem_cons_self)
  generalize upd H6 q2 _ = H7 at k7 ⊢
  have A7:=stA_keep A6 k7 (fun t ht=>by rw [List.mem_singleton.mp ht]; exact ⟨_,u6⟩) (out g6)
  have e37:=k7 _ _ e36 (fun z=>by have:=g6 _ z; rw [e3] at this; cases this)
  clear B4 B5 t6 u6 k6 k7 e5 F4 e36 A6 e35 e34 A5 A4
  -- once more
  refine seq_any fun c hc=>?_
  and_intros
  refine ⟨p,p1,p2,p3,bs,xs,L,h,R,zs,ws,rfl,A7,few,fun H8 o8 q1 q2 q3 cs s8 f8 F8 B8=>⟨o8,q1,q2,q3,cs,xs,L,h,R,zs,ws,rfl,B8,T,fun H9 o9 s9 f9 e9=>?_⟩⟩
  have s79:=s8.trans s9
  have A9:=A7.same s79
  have e39:=s79 _ _ e37
  refine neLS_go e9 e39 ok ⟨_,rfl,?_⟩
  rw [if_neg (by decide)]
  refine hc _ _ ?_
  clear hc c
  refine seq_set fun c hc=>?_
  and_intros
  refine ⟨o3,_,rfl,.inl (SqL.of e39),fun o6 h6=>hc _ _ ?_⟩
  clear hc c
  have s10:=Same.up H9 h6 (o:=.lst ((stT L h R zs ws).map strV))
  have e6:(upd H9 o6 (.lst ((stT L h R zs ws).map strV))) o6 = some (.lst ((stT L h R zs ws).map strV)):=upd_same
  generalize upd H9 o6 _ = H10 at s10 e6 ⊢
  have A10:=A9.same s10
  have e310:=s10 _ _ e39
  simp only [List.set_cons_zero,List.set_cons_succ]
  refine seq_set fun c hc=>?_
  and_intros
  refine ⟨o6,L,h,R,zs,ws,rfl,e6,T,fun H11 o7 r1 r2 r3 ds us s11 f7 F G=>hc _ _ ?_⟩
  clear hc c
  have A11:=A10.same s11
  have e311:=s11 _ _ e310
  simp only [List.set_cons_zero,List.set_cons_succ]
  refine seq_any fun c hc=>?_
  and_intros
  refine isiT_go G.top ⟨_,rfl,?_⟩
  and_intros
  refine ne_states G A11 okS ⟨_,rfl,?_⟩
  rw [if_neg (by decide)]
  refine neLS_go (s11 _ _ e6) e311 ok ⟨_,rfl,?_⟩
  rw [if_neg (by decide)]
  refine hc _ _ ?_
  clear hc c
  have dl:=G.row.len
  have ul:=G.prs.len
  have xl:=A11.prs.len
  rw [List.length_map] at ul xl
  have r1n:r1 ∉ ds:=fun z=>F.b1 r1 z rfl
  have r2n:r2 ∉ ds:=fun z=>F.b2 r2 z rfl
  have r3n:r3 ∉ ds:=fun z=>F.b3 r3 z rfl
  -- the state is the asker's
  refine seq_any fun c hc=>?_
  refine for_l (a:=r1) (xs:=ds.map V.ref) (fun Q h=>by and_intros; exact ixT_go (v:=.ref r1) (SqT.of G.top) (by decide) rfl h) (SqL.of G.ren) (FInv H11 ds [some (.ref sc),some (.ref ps),some (.ref p),some (.ref o3),some (.ref o4),some (.ref o5),some (.ref o6),some (.ref o7)]) ⟨none,none,fun b o e _=>e,fun d hd=>?_,rfl⟩ (fun i σ H' _ h=>?_) ?_ ?_
  · obtain ⟨i,hi⟩:=List.mem_iff_getElem?.mp hd
    obtain ⟨r,ys,er,ey,py⟩:=G.row.get hi
    have yl:=py.len
    rw [List.length_map] at yl
    have rf:=(T.rows r (List.mem_of_getElem? er)).few
    refine ⟨ys,ey,by omega,fun y hy=>?_⟩
    obtain ⟨j,hj⟩:=List.mem_iff_getElem?.mp hy
    obtain ⟨w,t,_,e1,e2⟩:=py.get hj
    exact ⟨t,_,e1,e2⟩
  · obtain ⟨_,_,k',_⟩:=h
    exact SqL.of (k' _ _ G.ren r1n)
  · rintro i y σ H' hy ⟨v8,v9,k',tp',rfl⟩
    rw [List.getElem?_map] at hy
    obtain ⟨d,hd,rfl⟩:=Option.map_eq_some_iff.mp hy
    have hi:i < ds.length:=(List.getElem?_eq_some_iff.mp hd).1
    have hdm:=List.mem_of_getElem? hd
    obtain ⟨ys,ey,yl,yt⟩:=tp' d hdm
    refine seq_any fun c1 hc1=>?_
    refine for_l (a:=d) (xs:=ys) (fun Q h=>⟨_,rfl,h⟩) (SqL.of ey) (fun j σ Hx=>Hx = H'∧∃ v9:Option V,σ = [some (.ref sc),some (.ref ps),some (.ref p),some (.ref o3),some (.ref o4),some (.ref o5),some (.ref o6),some (.ref o7),some (.ref d),v9]) ⟨rfl,v9,rfl⟩ (fun j σ Hx _ h=>by rw [h.1]; exact SqL.of ey) ?_ ?_
    · rintro j x σ Hx hx ⟨rfl,v9,rfl⟩
      obtain ⟨t,u,rfl,et⟩:=yt x (List.mem_of_getElem? hx)
      simp? [List.set_cons_zero,List.set_cons_succ]
      refine isiT_go et ⟨_,rfl,?_⟩
      and_intros
      exact ⟨_,rfl⟩
    · rintro σ Hx ⟨rfl,v9,rfl⟩
      refine hc1 _ _ ?_
      clear hc1 c1
      and_intros
      refine ⟨.inl ⟨rfl,_,SqL.of ey⟩,by decide,fun t ht=>?_⟩
      have ndt:d ≠ t:=fun z=>by rw [z,ht] at ey; cases ey
      refine append_go (by rw [upd_ne ndt]; exact ey) (by omega) ⟨_,_,(k'.upd (.inr ht)).upd (.inl hdm),fun d' hd'=>?_,rfl⟩
      have tk:∀ t' u,Hx t' = some (.tup u)→(upd (upd Hx t (.tup [.str (txt [98]),.non])) d (.lst (ys ++ [.ref t]))) t' = some (.tup u):=fun t' u e=>keep_list ht ey t' u e
      by_cases z:d' = d
      · subst z
        refine ⟨_,upd_same,by rw [List.length_append]; simp; omega,fun y hy=>?_⟩
        rcases List.mem_append.mp hy with hy | hy
        · obtain ⟨t',u,e1,e2⟩:=yt y hy
          exact ⟨t',u,e1,tk _ _ e2⟩
        · exact ⟨t,_,List.mem_singleton.mp hy,by rw [upd_ne (Ne.symm ndt),upd_same]⟩
      · obtain ⟨ys',ey',yl',yt'⟩:=tp' d' hd'
        refine ⟨ys',by rw [upd_ne z,upd_ne (fun w=>by rw [w,ht] at ey'; cases ey')]; exact ey',by omega,fun y hy=>?_⟩
        obtain ⟨t',u,e1,e2⟩:=yt' y hy
        exact ⟨t',u,e1,tk _ _ e2⟩
  rintro σ H12 ⟨v8,v9,k12,-,rfl⟩
  refine hc _ _ ?_
  clear hc c
  have m12:∀ d ∈ ds,∃ ys,H11 d = some (.lst ys):=fun d hd=>by
    obtain ⟨i,hi⟩:=List.mem_iff_getElem?.mp hd
    obtain ⟨r,ys,er,ey,py⟩:=G.row.get hi
    exact ⟨ys,ey⟩
  have lF:∀ x ∈ r1 :: r2 :: r3 :: ds,∃ ys,H11 x = some (.lst ys):=fun x hx=>by
    simp only [List.mem_cons] at hx
    rcases hx with rfl | rfl | rfl | hx
    · exact ⟨_,G.ren⟩
    · exact ⟨_,G.thi⟩
    · exact ⟨_,G.tak⟩
    · exact m12 x hx
  have fF:∀ x ∈ r1 :: r2 :: r3 :: ds,H10 x = none:=fun x hx=>by
    simp only [List.mem_cons] at hx
    rcases hx with rfl | rfl | rfl | hx
    · exact F.f1
    · exact F.f2
    · exact F.f3
    · exact F.fb x hx
  have nT:∀ t u,H11 t = some (.tup u)→t ∉ r1 :: r2 :: r3 :: ds:=fun t u e z=>by
    obtain ⟨ys,e2⟩:=lF t z
    rw [e] at e2
    cases e2
  have kF:Keeps (r1 :: r2 :: r3 :: ds) H11 H12:=fun b o e n=>k12 b o e fun z=>n (List.mem_cons_of_mem _ (List.mem_cons_of_mem _ (List.mem_cons_of_mem _ z)))
  have t12:=kF _ _ G.top (nT _ _ G.top)
  have a12:=k12 _ _ G.ren r1n
  have b12:=k12 _ _ G.thi r2n
  have c12:=k12 _ _ G.tak r3n
  simp only [List.cons_append,List.nil_append]
  refine seq_any fun c hc=>?_
  and_intros
  refine ixT_go (v:=.ref r1) (SqT.of t12) (by decide) rfl ⟨.inl ⟨rfl,_,SqL.of a12⟩,by decide,fun n1 hn1=>?_⟩
  have d1:r1 ≠ n1:=fun z=>by rw [z,hn1] at a12; cases a12
  refine append_go (by rw [upd_ne d1]; exact a12) (by rw [List.length_map]; omega) (hc _ _ ?_)
  clear hc c
  have k13:=(kF.upd (p:=n1) (o:=.lst []) (.inr hn1)).upd (p:=r1) (o:=.lst (ds.map V.ref ++ [.ref n1])) (.inl (by simp))
  have b13:(upd (upd H12 n1 (.lst [])) r1 (.lst (ds.map V.ref ++ [.ref n1]))) r2 = some (.lst us):=by rw [upd_ne (Ne.symm F.n12),upd_ne (fun z=>by rw [z,hn1] at b12; cases b12)]; exact b12
  have c13:(upd (upd H12 n1 (.lst [])) r1 (.lst (ds.map V.ref ++ [.ref n1]))) r3 = some (.lst (ws.map strV)):=by rw [upd_ne (Ne.symm F.n13),upd_ne (fun z=>by rw [z,hn1] at c12; cases c12)]; exact c12
  generalize upd (upd H12 n1 _) r1 _ = H13 at k13 b13 c13 ⊢
  have t13:=k13 _ _ G.top (nT _ _ G.top)
  refine seq_any fun c hc=>?_
  and_intros
  refine ixT_go (v:=.ref r2) (SqT.of t13) (by decide) rfl ⟨.inl ⟨rfl,_,SqL.of b13⟩,by decide,fun n2 hn2=>?_⟩
  refine append_go (by rw [upd_ne (fun z=>by rw [z,hn2] at b13; cases b13)]; exact b13) (by omega) (hc _ _ ?_)
  clear hc c
  have k14:=(k13.upd (p:=n2) (o:=.tup [.str (txt [98]),.str (txt [98])]) (.inr hn2)).upd (p:=r2) (o:=.lst (us ++ [.ref n2])) (.inl (by simp))
  have b14:(upd (upd H13 n2 (.tup [.str (txt [98]),.str (txt [98])])) r2 (.lst (us ++ [.ref n2]))) r2 = some (.lst (us ++ [.ref n2])):=upd_same
  have c14:(upd (upd H13 n2 (.tup [.str (txt [98]),.str (txt [98])])) r2 (.lst (us ++ [.ref n2]))) r3 = some (.lst (ws.map strV)):=by rw [upd_ne (Ne.symm F.n23),upd_ne (fun z=>by rw [z,hn2] at c13; cases c13)]; exact c13
  generalize upd (upd H13 n2 _) r2 _ = H14 at k14 b14 c14 ⊢
  have t14:=k14 _ _ G.top (nT _ _ G.top)
  refine seq_any fun c hc=>?_
  and_intros
  have wl:=T.things.taken.1
  refine ixT_go (v:=.ref r3) (SqT.of t14) (by decide) rfl ⟨.inl ⟨rfl,_,SqL.of c14⟩,append_go c14 (by rw [List.length_map]; omega) (hc _ _ ?_)⟩
  clear hc c
  have k15:=k14.upd (p:=r3) (o:=.lst (ws.map strV ++ [.str (txt [98])])) (.inl (by simp))
  have b15:(upd H14 r3 (.lst (ws.map strV ++ [.str (txt [98])]))) r2 = some (.lst (us ++ [.ref n2])):=by rw [upd_ne F.n23]; exact b14
  generalize upd H14 r3 _ = H15 at k15 b15 ⊢
  have t15:=k15 _ _ G.top (nT _ _ G.top)
  have A15:=stA_keep A11 k15 lF (fun b hb z=>by
    have f:=fF b z
    simp only [List.mem_cons] at hb
    rcases hb with rfl | rfl | rfl | hb
    · rw [A10.ren] at f; cases f
    · rw [A10.thi] at f; cases f
    · rw [A10.tak] at f; cases f
    · obtain ⟨u,e⟩:=A10.row.live hb
      rw [e] at f; cases f)
  have e315:=k15 _ _ e311 (fun z=>by have:=fF _ z; rw [e310] at this; cases this)
  and_intros
  refine ⟨o3,_,rfl,.inl (SqL.of e315),fun o16 h16=>?_⟩
  have s16:=Same.up H15 h16 (o:=.lst ((stT L h R zs ws).map strV))
  refine ⟨o16,L,h,R,zs,ws,rfl,upd_same,T,fun H17 o17 w1 w2 w3 es vs s17 f17 F17 G17=>?_⟩
  have sE:=s16.trans s17
  have A17:=A15.same sE
  refine eq_states G17 A17 okS ⟨_,rfl,?_⟩
  rw [if_pos rfl]
  refine ixT_go (v:=.ref r2) (SqT.of (sE _ _ t15)) (by decide) rfl (lenL_go (SqL.of (sE _ _ b15)) (ixT_go (v:=.ref p2) (SqT.of A17.top) (by decide) rfl (lenL_go (SqL.of A17.thi) ?_)))
  refine ⟨_,rfl,rfl,?_⟩
  rw [decide_eq_true (show V.int (((us ++ [V.ref n2]).length:Nat):Int) = V.int ((xs.length:Int) + 1) by
    rw [List.length_append]
    simp only [List.length_cons,List.length_nil]
    congr 1
    omega)]
  exact q _
end K70
def PySem.W.Fast.tw4726599466396962471:Nat:=0
def PySem.W.Fast.tw4855276322507662338:Nat:=0
def PySem.W.Fast.tw5842123920461447183:Nat:=0
def PySem.W.Fast.tw14107522365905158737:Nat:=0
def PySem.W.Fast.tw18422461403616088659:Nat:=0
def PySem.W.Fast.tw2028283617343082368:Nat:=0
def PySem.W.Fast.tw6770153492832783150:Nat:=0
def PySem.W.Fast.tw11091764129330660813:Nat:=0
def PySem.W.Fast.tw10158577415471669460:Nat:=0
def PySem.W.Fast.tw9405580520998575617:Nat:=0
def PySem.W.Fast.tw9215079443109305382:Nat:=0
def PySem.W.Fast.tw2972862197970679592:Nat:=0
def PySem.W.Fast.tw4249001699557727334:Nat:=0
def PySem.W.Fast.tw18360281249619996887:Nat:=0
def PySem.W.Fast.tw14280505668945255439:Nat:=0
def PySem.W.Fast.tw2310864952332758775:Nat:=0
def PySem.W.Fast.tw14061309290998781789:Nat:=0
def PySem.W.Fast.tw12992065750982387401:Nat:=0
namespace K70
open PySem PySem.Spec PyProof.Rows L2 MM
section
variable {P:Program} {w:World} {K:PySem.W.Frag} {mg:Str→Option Value} {base:Heap} {a:Ad}
theorem ok_p8 (T : Tx K mg a) : FnOk P w K mg base (CX1 P w) 1 a.f_p8 a.fd_p8 ["letters", "hands"] (spAskL a.c_NoLetters) :=
  T.F_p8.okX sc_p8 (fun _ _ _ _ h=>by obtain ⟨_,_,e,_⟩:=h; rw [e]; rfl) (fun _ _ _ _ _ _ hr=>pr_p8 T  hr) fun _ _ _ _ h=>read_askL rfl h
theorem ok_p10 (T : Tx K mg a) : FnOk P w K mg base CX0 1 a.f_p10 a.fd_p10 ["letters", "text"] spIsMark :=
  T.F_p10.okQ sc_p10 (fun _ _ _ _ h=>by obtain ⟨_,_,e,_⟩:=h; rw [e]; rfl) (fun _ _ _ _ _ _ hr=>pr_p10 T  hr) fun _ _ _ _ h=>read_isMark rfl h
theorem ok_p14 (T:Tx K mg a):FnOk P w K mg base CX0 1 a.f_p14 a.fd_p14 ["text"] spIsThing:=
  T.F_p14.okQ sc_p14 (fun _ _ _ _ h=>by obtain ⟨_,e,_⟩:=h; rw [e]; rfl) (fun _ _ _ _ _ _ hr=>pr_p14 T  hr) fun _ _ _ _ h=>read_isThing rfl h
theorem ok_p12 (T:Tx K mg a):FnOk P w K mg base CX0 1 a.f_p12 a.fd_p12 ["word"] spIsNumber:=
  T.F_p12.okQ sc_p12 (fun _ _ _ _ h=>by obtain ⟨_,e,_⟩:=h; rw [e]; rfl) (fun _ _ _ _ _ _ hr=>pr_p12 T  hr) fun _ _ _ _ h=>read_isNumber rfl h
theorem ok_p22 (T:Tx K mg a):FnOk P w K mg base CX0 1 a.f_p22 a.fd_p22 ["rows"] (spRowTexts K):=
  T.F_p22.okQ sc_p22 (fun _ _ _ _ h=>by obtain ⟨_,_,_,_,e,_⟩:=h; rw [e]; rfl) (fun _ _ _ _ _ _ hr=>pr_p22 T  hr) fun _ _ _ _ h=>read_rowTexts rfl h
theorem ok_p21 (T:Tx K mg a):FnOk P w K mg base CX0 2 a.f_p21 a.fd_p21 ["rows"] (spRenTexts K):=
  T.F_p21.okQ sc_p21 (fun _ _ _ _ h=>by obtain ⟨_,_,_,_,e,_⟩:=h; rw [e]; rfl) (fun _ _ _ _ _ _ hr=>pr_p21 T (ok_p22 T) hr) fun _ _ _ _ h=>read_renTexts rfl h
theorem ok_p24 (T : Tx K mg a) : FnOk P w K mg base CX0 1 a.f_p24 a.fd_p24 ["things", "taken"] (spThTexts K) :=
  T.F_p24.okQ sc_p24 (fun _ _ _ _ h=>by obtain ⟨_,_,_,_,_,_,e,_⟩:=h; rw [e]; rfl) (fun _ _ _ _ _ _ hr=>pr_p24 T  hr) fun _ _ _ _ h=>read_thTexts rfl h
theorem ok_p23 (T:Tx K mg a):FnOk P w K mg base CX0 3 a.f_p23 a.fd_p23 ["state"] (spStTexts K):=
  T.F_p23.okQ sc_p23 (fun _ _ _ _ h=>by obtain ⟨_,_,_,_,_,_,_,_,_,_,_,e,_⟩:=h; rw [e]; rfl) (fun _ _ _ _ _ _ hr=>pr_p23 T (ok_p21 T) (ok_p24 T) hr) fun _ _ _ _ h=>read_stTexts rfl h
theorem ok_p9 (T : Tx K mg a) : FnOk P w K mg base CX0 1 a.f_p9 a.fd_p9 ["good", "place"] spAskText :=
  T.F_p9.okQ sc_p9 (fun _ _ _ _ h=>by obtain ⟨_,e,_⟩:=h; rw [e]; rfl) (fun _ _ _ _ _ _ hr=>pr_p9 T  hr) fun _ _ _ _ h=>read_askText rfl h
theorem ok_p25 (T : Tx K mg a) : FnOk P w K mg base CX0 1 a.f_p25 a.fd_p25 ["texts", "place"] (spWordsAt K) :=
  T.F_p25.okQ sc_p25 (fun _ _ _ _ h=>by obtain ⟨_,_,_,_,e,_⟩:=h; rw [e]; rfl) (fun _ _ _ _ _ _ hr=>pr_p25 T  hr) fun _ _ _ _ h=>read_wordsAt rfl h
theorem ok_p13 (T : Tx K mg a) : FnOk P w K mg base CX0 2 a.f_p13 a.fd_p13 ["word", "most"] spIsNumberTo :=
  T.F_p13.okQ sc_p13 (fun _ _ _ _ h=>by obtain ⟨_,_,e,_⟩:=h; rw [e]; rfl) (fun _ _ _ _ _ _ hr=>pr_p13 T (ok_p12 T) hr) fun _ _ _ _ h=>read_isNumberTo rfl h
theorem ok_p11 (T : Tx K mg a) : FnOk P w K mg base CX0 2 a.f_p11 a.fd_p11 ["letters", "last", "word"] spMarkBehind :=
  T.F_p11.okQ sc_p11 (fun _ _ _ _ h=>by obtain ⟨_,_,_,e,_⟩:=h; rw [e]; rfl) (fun _ _ _ _ _ _ hr=>pr_p11 T (ok_p10 T) hr) fun _ _ _ _ h=>read_markBehind rfl h
theorem ok_p16 (T:Tx K mg a):FnOk P w K mg base CX0 2 a.f_p16 a.fd_p16 ["texts"] (spReadHead K):=
  T.F_p16.okQ sc_p16 (fun _ _ _ _ h=>by obtain ⟨_,_,_,_,_,e,_⟩:=h; rw [e]; rfl) (fun _ _ _ _ _ _ hr=>pr_p16 T (ok_p25 T) (ok_p12 T) (ok_p9 T) (ok_p8 T) hr) fun _ _ _ _ h=>read_readHead rfl h
theorem ok_p17 (T : Tx K mg a) : FnOk P w K mg base CX0 3 a.f_p17 a.fd_p17 ["texts", "place"] (spReadMany K) :=
  T.F_p17.okQ sc_p17 (fun _ _ _ _ h=>by obtain ⟨_,_,_,_,e,_⟩:=h; rw [e]; rfl) (fun _ _ _ _ _ _ hr=>pr_p17 T (ok_p25 T) (ok_p13 T) (ok_p9 T) hr) fun _ _ _ _ h=>read_readMany rfl h
theorem ok_p18 (T : Tx K mg a) : FnOk P w K mg base CX0 3 a.f_p18 a.fd_p18 ["letters", "texts", "place", "many"] (spReadRows K) :=
  T.F_p18.okQ sc_p18 (fun _ _ _ _ h=>by obtain ⟨_,_,_,_,_,e,_⟩:=h; rw [e]; rfl) (fun _ _ _ _ _ _ hr=>pr_p18 T (ok_p25 T) (ok_p11 T) (ok_p9 T) hr) fun _ _ _ _ h=>read_readRows rfl h
theorem ok_p20 (T : Tx K mg a) : FnOk P w K mg base CX0 3 a.f_p20 a.fd_p20 ["letters", "texts", "place"] (spReadThings K) :=
  T.F_p20.okQ sc_p20 (fun _ _ _ _ h=>by obtain ⟨_,_,_,_,_,_,e,_⟩:=h; rw [e]; rfl) (fun _ _ _ _ _ _ hr=>pr_p20 T (ok_p25 T) (ok_p9 T) (ok_p11 T) (ok_p14 T) hr) fun _ _ _ _ h=>read_readThings rfl h
theorem ok_p19 (T:Tx K mg a):FnOk P w K mg base CX0 4 a.f_p19 a.fd_p19 ["texts"] (spReadState K):=
  T.F_p19.okQ sc_p19 (fun _ _ _ _ h=>by obtain ⟨_,_,_,_,_,_,e,_⟩:=h; rw [e]; rfl) (fun _ _ _ _ _ _ hr=>pr_p19 T (ok_p16 T) (ok_p17 T) (ok_p18 T) (ok_p20 T) hr) fun _ _ _ _ h=>read_readState rfl h
theorem ok_draw (T : Tx K mg a) : FnOk P w K mg base CX0 1 a.f_draw a.fd_draw ["_law_script", "_law_k", "_law_many"] (spDraw K) :=
  T.F_draw.okQ sc_draw (fun _ _ _ _ h=>by obtain ⟨_,_,_,_,e,_⟩:=h; rw [e]; rfl) (fun _ _ _ _ _ _ hr=>pr_draw T  hr) fun _ _ _ _ h=>read_draw rfl h
theorem ok_size (T:Tx K mg a):FnOk P w K mg base CX0 2 a.f_size a.fd_size ["_law_script"] (spSize K):=
  T.F_size.okQ sc_size (fun _ _ _ _ h=>by obtain ⟨_,_,e,_⟩:=h; rw [e]; rfl) (fun _ _ _ _ _ _ hr=>pr_size T (ok_draw T) hr) fun _ _ _ _ h=>read_size rfl h
theorem ok_thing (T : Tx K mg a) : FnOk P w K mg base CX0 2 a.f_thing a.fd_thing ["_law_script", "_law_k"] (spHThing K) :=
  T.F_thing.okQ sc_thing (fun _ _ _ _ h=>by obtain ⟨_,_,_,e,_⟩:=h; rw [e]; rfl) (fun _ _ _ _ _ _ hr=>pr_thing T (ok_draw T) hr) fun _ _ _ _ h=>read_hthing rfl h
theorem ok_marks (T : Tx K mg a) : FnOk P w K mg base CX0 2 a.f_marks a.fd_marks ["_law_script", "_law_k", "_law_letters", "_law_many"] (spTMarks K) :=
  T.F_marks.okQ sc_marks (fun _ _ _ _ h=>by obtain ⟨_,_,_,_,_,e,_⟩:=h; rw [e]; rfl) (fun _ _ _ _ _ _ hr=>pr_marks T (ok_draw T) hr) fun _ _ _ _ h=>read_tmarks rfl h
theorem ok_rows (T : Tx K mg a) : FnOk P w K mg base CX0 3 a.f_rows a.fd_rows ["_law_script", "_law_k", "_law_letters"] (spTRows K) :=
  T.F_rows.okQ sc_rows (fun _ _ _ _ h=>by obtain ⟨_,_,_,_,e,_⟩:=h; rw [e]; rfl) (fun _ _ _ _ _ _ hr=>pr_rows T (ok_draw T) (ok_marks T) hr) fun _ _ _ _ h=>read_trows rfl h
theorem ok_made (T : Tx K mg a) : FnOk P w K mg base CX0 4 a.f_made a.fd_made ["_law_script", "_law_size_here"] (spTMade K) :=
  T.F_made.okQ sc_made (fun _ _ _ _ h=>by obtain ⟨_,_,_,_,_,e,_⟩:=h; rw [e]; rfl) (fun _ _ _ _ _ _ hr=>pr_made T (ok_draw T) (ok_rows T) (ok_marks T) (ok_thing T) hr) fun _ _ _ _ h=>read_tmade rfl h
theorem ok_texts (T:Tx K mg a):FnOk P w K mg base CX0 1 a.f_texts a.fd_texts ["_law_state"] (spTTexts K):=
  T.F_texts.okQ sc_texts (fun _ _ _ _ h=>by obtain ⟨_,_,_,_,_,_,_,_,_,_,_,e,_⟩:=h; rw [e]; rfl) (fun _ _ _ _ _ _ hr=>pr_texts T  hr) fun _ _ _ _ h=>read_ttexts rfl h
theorem ok_copy (T:Tx K mg a):FnOk P w K mg base CX0 1 a.f_copy a.fd_copy ["_law_state"] (spTCopy K):=
  T.F_copy.okQ sc_copy (fun _ _ _ _ h=>by obtain ⟨_,_,_,_,_,_,_,_,_,_,_,e,_⟩:=h; rw [e]; rfl) (fun _ _ _ _ _ _ hr=>pr_copy T  hr) fun _ _ _ _ h=>read_tcopy rfl h
theorem ok_law (T:Tx K mg a):FnOk P w K mg base CX0 5 a.f_law a.fd_law ["_law_script"] (spLaw K):=
  T.F_law.okQ sc_law (fun _ _ _ _ h=>by obtain ⟨_,_,e,_⟩:=h; rw [e]; rfl) (fun _ _ _ _ _ _ hr=>pr_law T (ok_size T) (ok_made T) (ok_texts T) (ok_copy T) (ok_p23 T) (ok_p19 T) hr) fun _ _ _ _ h=>read_law rfl h
end
theorem tx_mk {K:PySem.W.Frag} {h:Heap} {mg:Str→Option Value} (X:K.In h) (G:h.Ns mainGlobals mg)
    {f_p8 od_p8 an_p8 sl_p8 oc_p8 kV_p8 dc_p8 pm_p8 cd_p8 ct_p8}
    (a_p8 : PySem.W.nsIn K mainGlobals "ask_letters" = some (some (.ref f_p8))) (l_p8 : K.lookup f_p8 = some ⟨oc_p8, od_p8, .func (PySem.W.fnOf "ask_letters" "ask_letters" (defArgs s_p8) (defBody s_p8) (defScope s_p8) .none kV_p8 dc_p8 pm_p8 an_p8 cd_p8 ct_p8), sl_p8⟩) (c_p8 : PySem.W.codeIn K cd_p8 "ask_letters" = true) (k_p8 : PySem.W.keepIn K (.ref f_p8) = true)
    {f_p10 od_p10 an_p10 sl_p10 oc_p10 kV_p10 dc_p10 pm_p10 cd_p10 ct_p10}
    (a_p10 : PySem.W.nsIn K mainGlobals "is_mark" = some (some (.ref f_p10))) (l_p10 : K.lookup f_p10 = some ⟨oc_p10, od_p10, .func (PySem.W.fnOf "is_mark" "is_mark" (defArgs s_p10) (defBody s_p10) (defScope s_p10) .none kV_p10 dc_p10 pm_p10 an_p10 cd_p10 ct_p10), sl_p10⟩) (c_p10 : PySem.W.codeIn K cd_p10 "is_mark" = true) (k_p10 : PySem.W.keepIn K (.ref f_p10) = true)
    {f_p14 od_p14 an_p14 sl_p14 oc_p14 kV_p14 dc_p14 pm_p14 cd_p14 ct_p14}
    (a_p14 : PySem.W.nsIn K mainGlobals "is_thing" = some (some (.ref f_p14))) (l_p14 : K.lookup f_p14 = some ⟨oc_p14, od_p14, .func (PySem.W.fnOf "is_thing" "is_thing" (defArgs s_p14) (defBody s_p14) (defScope s_p14) .none kV_p14 dc_p14 pm_p14 an_p14 cd_p14 ct_p14), sl_p14⟩) (c_p14 : PySem.W.codeIn K cd_p14 "is_thing" = true) (k_p14 : PySem.W.keepIn K (.ref f_p14) = true)
    {f_p12 od_p12 an_p12 sl_p12 oc_p12 kV_p12 dc_p12 pm_p12 cd_p12 ct_p12}
    (a_p12 : PySem.W.nsIn K mainGlobals "is_number" = some (some (.ref f_p12))) (l_p12 : K.lookup f_p12 = some ⟨oc_p12, od_p12, .func (PySem.W.fnOf "is_number" "is_number" (defArgs s_p12) (defBody s_p12) (defScope s_p12) .none kV_p12 dc_p12 pm_p12 an_p12 cd_p12 ct_p12), sl_p12⟩) (c_p12 : PySem.W.codeIn K cd_p12 "is_number" = true) (k_p12 : PySem.W.keepIn K (.ref f_p12) = true)
    {f_p22 od_p22 an_p22 sl_p22 oc_p22 kV_p22 dc_p22 pm_p22 cd_p22 ct_p22}
    (a_p22 : PySem.W.nsIn K mainGlobals "row_texts" = some (some (.ref f_p22))) (l_p22 : K.lookup f_p22 = some ⟨oc_p22, od_p22, .func (PySem.W.fnOf "row_texts" "row_texts" (defArgs s_p22) (defBody s_p22) (defScope s_p22) .none kV_p22 dc_p22 pm_p22 an_p22 cd_p22 ct_p22), sl_p22⟩) (c_p22 : PySem.W.codeIn K cd_p22 "row_texts" = true) (k_p22 : PySem.W.keepIn K (.ref f_p22) = true)
    {f_p21 od_p21 an_p21 sl_p21 oc_p21 kV_p21 dc_p21 pm_p21 cd_p21 ct_p21}
    (a_p21 : PySem.W.nsIn K mainGlobals "renewal_texts" = some (some (.ref f_p21))) (l_p21 : K.lookup f_p21 = some ⟨oc_p21, od_p21, .func (PySem.W.fnOf "renewal_texts" "renewal_texts" (defArgs s_p21) (defBody s_p21) (defScope s_p21) .none kV_p21 dc_p21 pm_p21 an_p21 cd_p21 ct_p21), sl_p21⟩) (c_p21 : PySem.W.codeIn K cd_p21 "renewal_texts" = true) (k_p21 : PySem.W.keepIn K (.ref f_p21) = true)
    {f_p24 od_p24 an_p24 sl_p24 oc_p24 kV_p24 dc_p24 pm_p24 cd_p24 ct_p24}
    (a_p24 : PySem.W.nsIn K mainGlobals "thing_texts" = some (some (.ref f_p24))) (l_p24 : K.lookup f_p24 = some ⟨oc_p24, od_p24, .func (PySem.W.fnOf "thing_texts" "thing_texts" (defArgs s_p24) (defBody s_p24) (defScope s_p24) .none kV_p24 dc_p24 pm_p24 an_p24 cd_p24 ct_p24), sl_p24⟩) (c_p24 : PySem.W.codeIn K cd_p24 "thing_texts" = true) (k_p24 : PySem.W.keepIn K (.ref f_p24) = true)
    {f_p23 od_p23 an_p23 sl_p23 oc_p23 kV_p23 dc_p23 pm_p23 cd_p23 ct_p23}
    (a_p23 : PySem.W.nsIn K mainGlobals "state_texts" = some (some (.ref f_p23))) (l_p23 : K.lookup f_p23 = some ⟨oc_p23, od_p23, .func (PySem.W.fnOf "state_texts" "state_texts" (defArgs s_p23) (defBody s_p23) (defScope s_p23) .none kV_p23 dc_p23 pm_p23 an_p23 cd_p23 ct_p23), sl_p23⟩) (c_p23 : PySem.W.codeIn K cd_p23 "state_texts" = true) (k_p23 : PySem.W.keepIn K (.ref f_p23) = true)
    {f_p9 od_p9 an_p9 sl_p9 oc_p9 kV_p9 dc_p9 pm_p9 cd_p9 ct_p9}
    (a_p9 : PySem.W.nsIn K mainGlobals "ask_text" = some (some (.ref f_p9))) (l_p9 : K.lookup f_p9 = some ⟨oc_p9, od_p9, .func (PySem.W.fnOf "ask_text" "ask_text" (defArgs s_p9) (defBody s_p9) (defScope s_p9) .none kV_p9 dc_p9 pm_p9 an_p9 cd_p9 ct_p9), sl_p9⟩) (c_p9 : PySem.W.codeIn K cd_p9 "ask_text" = true) (k_p9 : PySem.W.keepIn K (.ref f_p9) = true)
    {f_p25 od_p25 an_p25 sl_p25 oc_p25 kV_p25 dc_p25 pm_p25 cd_p25 ct_p25}
    (a_p25 : PySem.W.nsIn K mainGlobals "words_at" = some (some (.ref f_p25))) (l_p25 : K.lookup f_p25 = some ⟨oc_p25, od_p25, .func (PySem.W.fnOf "words_at" "words_at" (defArgs s_p25) (defBody s_p25) (defScope s_p25) .none kV_p25 dc_p25 pm_p25 an_p25 cd_p25 ct_p25), sl_p25⟩) (c_p25 : PySem.W.codeIn K cd_p25 "words_at" = true) (k_p25 : PySem.W.keepIn K (.ref f_p25) = true)
    {f_p13 od_p13 an_p13 sl_p13 oc_p13 kV_p13 dc_p13 pm_p13 cd_p13 ct_p13}
    (a_p13 : PySem.W.nsIn K mainGlobals "is_number_to" = some (some (.ref f_p13))) (l_p13 : K.lookup f_p13 = some ⟨oc_p13, od_p13, .func (PySem.W.fnOf "is_number_to" "is_number_to" (defArgs s_p13) (defBody s_p13) (defScope s_p13) .none kV_p13 dc_p13 pm_p13 an_p13 cd_p13 ct_p13), sl_p13⟩) (c_p13 : PySem.W.codeIn K cd_p13 "is_number_to" = true) (k_p13 : PySem.W.keepIn K (.ref f_p13) = true)
    {f_p11 od_p11 an_p11 sl_p11 oc_p11 kV_p11 dc_p11 pm_p11 cd_p11 ct_p11}
    (a_p11 : PySem.W.nsIn K mainGlobals "is_mark_behind" = some (some (.ref f_p11))) (l_p11 : K.lookup f_p11 = some ⟨oc_p11, od_p11, .func (PySem.W.fnOf "is_mark_behind" "is_mark_behind" (defArgs s_p11) (defBody s_p11) (defScope s_p11) .none kV_p11 dc_p11 pm_p11 an_p11 cd_p11 ct_p11), sl_p11⟩) (c_p11 : PySem.W.codeIn K cd_p11 "is_mark_behind" = true) (k_p11 : PySem.W.keepIn K (.ref f_p11) = true)
    {f_p16 od_p16 an_p16 sl_p16 oc_p16 kV_p16 dc_p16 pm_p16 cd_p16 ct_p16}
    (a_p16 : PySem.W.nsIn K mainGlobals "read_head" = some (some (.ref f_p16))) (l_p16 : K.lookup f_p16 = some ⟨oc_p16, od_p16, .func (PySem.W.fnOf "read_head" "read_head" (defArgs s_p16) (defBody s_p16) (defScope s_p16) .none kV_p16 dc_p16 pm_p16 an_p16 cd_p16 ct_p16), sl_p16⟩) (c_p16 : PySem.W.codeIn K cd_p16 "read_head" = true) (k_p16 : PySem.W.keepIn K (.ref f_p16) = true)
    {f_p17 od_p17 an_p17 sl_p17 oc_p17 kV_p17 dc_p17 pm_p17 cd_p17 ct_p17}
    (a_p17 : PySem.W.nsIn K mainGlobals "read_many" = some (some (.ref f_p17))) (l_p17 : K.lookup f_p17 = some ⟨oc_p17, od_p17, .func (PySem.W.fnOf "read_many" "read_many" (defArgs s_p17) (defBody s_p17) (defScope s_p17) .none kV_p17 dc_p17 pm_p17 an_p17 cd_p17 ct_p17), sl_p17⟩) (c_p17 : PySem.W.codeIn K cd_p17 "read_many" = true) (k_p17 : PySem.W.keepIn K (.ref f_p17) = true)
    {f_p18 od_p18 an_p18 sl_p18 oc_p18 kV_p18 dc_p18 pm_p18 cd_p18 ct_p18}
    (a_p18 : PySem.W.nsIn K mainGlobals "read_rows" = some (some (.ref f_p18))) (l_p18 : K.lookup f_p18 = some ⟨oc_p18, od_p18, .func (PySem.W.fnOf "read_rows" "read_rows" (defArgs s_p18) (defBody s_p18) (defScope s_p18) .none kV_p18 dc_p18 pm_p18 an_p18 cd_p18 ct_p18), sl_p18⟩) (c_p18 : PySem.W.codeIn K cd_p18 "read_rows" = true) (k_p18 : PySem.W.keepIn K (.ref f_p18) = true)
    {f_p20 od_p20 an_p20 sl_p20 oc_p20 kV_p20 dc_p20 pm_p20 cd_p20 ct_p20}
    (a_p20 : PySem.W.nsIn K mainGlobals "read_things" = some (some (.ref f_p20))) (l_p20 : K.lookup f_p20 = some ⟨oc_p20, od_p20, .func (PySem.W.fnOf "read_things" "read_things" (defArgs s_p20) (defBody s_p20) (defScope s_p20) .none kV_p20 dc_p20 pm_p20 an_p20 cd_p20 ct_p20), sl_p20⟩) (c_p20 : PySem.W.codeIn K cd_p20 "read_things" = true) (k_p20 : PySem.W.keepIn K (.ref f_p20) = true)
    {f_p19 od_p19 an_p19 sl_p19 oc_p19 kV_p19 dc_p19 pm_p19 cd_p19 ct_p19}
    (a_p19 : PySem.W.nsIn K mainGlobals "read_state" = some (some (.ref f_p19))) (l_p19 : K.lookup f_p19 = some ⟨oc_p19, od_p19, .func (PySem.W.fnOf "read_state" "read_state" (defArgs s_p19) (defBody s_p19) (defScope s_p19) .none kV_p19 dc_p19 pm_p19 an_p19 cd_p19 ct_p19), sl_p19⟩) (c_p19 : PySem.W.codeIn K cd_p19 "read_state" = true) (k_p19 : PySem.W.keepIn K (.ref f_p19) = true)
    {f_draw od_draw an_draw sl_draw oc_draw kV_draw dc_draw pm_draw cd_draw ct_draw}
    (a_draw : PySem.W.nsIn K mainGlobals "_law_draw" = some (some (.ref f_draw))) (l_draw : K.lookup f_draw = some ⟨oc_draw, od_draw, .func (PySem.W.fnOf "_law_draw" "_law_draw" (defArgs s_draw) (defBody s_draw) (defScope s_draw) .none kV_draw dc_draw pm_draw an_draw cd_draw ct_draw), sl_draw⟩) (c_draw : PySem.W.codeIn K cd_draw "_law_draw" = true) (k_draw : PySem.W.keepIn K (.ref f_draw) = true)
    {f_size od_size an_size sl_size oc_size kV_size dc_size pm_size cd_size ct_size}
    (a_size : PySem.W.nsIn K mainGlobals "_law_size" = some (some (.ref f_size))) (l_size : K.lookup f_size = some ⟨oc_size, od_size, .func (PySem.W.fnOf "_law_size" "_law_size" (defArgs s_size) (defBody s_size) (defScope s_size) .none kV_size dc_size pm_size an_size cd_size ct_size), sl_size⟩) (c_size : PySem.W.codeIn K cd_size "_law_size" = true) (k_size : PySem.W.keepIn K (.ref f_size) = true)
    {f_thing od_thing an_thing sl_thing oc_thing kV_thing dc_thing pm_thing cd_thing ct_thing}
    (a_thing : PySem.W.nsIn K mainGlobals "_law_thing" = some (some (.ref f_thing))) (l_thing : K.lookup f_thing = some ⟨oc_thing, od_thing, .func (PySem.W.fnOf "_law_thing" "_law_thing" (defArgs s_thing) (defBody s_thing) (defScope s_thing) .none kV_thing dc_thing pm_thing an_thing cd_thing ct_thing), sl_thing⟩) (c_thing : PySem.W.codeIn K cd_thing "_law_thing" = true) (k_thing : PySem.W.keepIn K (.ref f_thing) = true)
    {f_marks od_marks an_marks sl_marks oc_marks kV_marks dc_marks pm_marks cd_marks ct_marks}
    (a_marks : PySem.W.nsIn K mainGlobals "_law_marks" = some (some (.ref f_marks))) (l_marks : K.lookup f_marks = some ⟨oc_marks, od_marks, .func (PySem.W.fnOf "_law_marks" "_law_marks" (defArgs s_marks) (defBody s_marks) (defScope s_marks) .none kV_marks dc_marks pm_marks an_marks cd_marks ct_marks), sl_marks⟩) (c_marks : PySem.W.codeIn K cd_marks "_law_marks" = true) (k_marks : PySem.W.keepIn K (.ref f_marks) = true)
    {f_rows od_rows an_rows sl_rows oc_rows kV_rows dc_rows pm_rows cd_rows ct_rows}
    (a_rows : PySem.W.nsIn K mainGlobals "_law_rows" = some (some (.ref f_rows))) (l_rows : K.lookup f_rows = some ⟨oc_rows, od_rows, .func (PySem.W.fnOf "_law_rows" "_law_rows" (defArgs s_rows) (defBody s_rows) (defScope s_rows) .none kV_rows dc_rows pm_rows an_rows cd_rows ct_rows), sl_rows⟩) (c_rows : PySem.W.codeIn K cd_rows "_law_rows" = true) (k_rows : PySem.W.keepIn K (.ref f_rows) = true)
    {f_made od_made an_made sl_made oc_made kV_made dc_made pm_made cd_made ct_made}
    (a_made : PySem.W.nsIn K mainGlobals "_law_made" = some (some (.ref f_made))) (l_made : K.lookup f_made = some ⟨oc_made, od_made, .func (PySem.W.fnOf "_law_made" "_law_made" (defArgs s_made) (defBody s_made) (defScope s_made) .none kV_made dc_made pm_made an_made cd_made ct_made), sl_made⟩) (c_made : PySem.W.codeIn K cd_made "_law_made" = true) (k_made : PySem.W.keepIn K (.ref f_made) = true)
    {f_texts od_texts an_texts sl_texts oc_texts kV_texts dc_texts pm_texts cd_texts ct_texts}
    (a_texts : PySem.W.nsIn K mainGlobals "_law_texts" = some (some (.ref f_texts))) (l_texts : K.lookup f_texts = some ⟨oc_texts, od_texts, .func (PySem.W.fnOf "_law_texts" "_law_texts" (defArgs s_texts) (defBody s_texts) (defScope s_texts) .none kV_texts dc_texts pm_texts an_texts cd_texts ct_texts), sl_texts⟩) (c_texts : PySem.W.codeIn K cd_texts "_law_texts" = true) (k_texts : PySem.W.keepIn K (.ref f_texts) = true)
    {f_copy od_copy an_copy sl_copy oc_copy kV_copy dc_copy pm_copy cd_copy ct_copy}
    (a_copy : PySem.W.nsIn K mainGlobals "_law_copy" = some (some (.ref f_copy))) (l_copy : K.lookup f_copy = some ⟨oc_copy, od_copy, .func (PySem.W.fnOf "_law_copy" "_law_copy" (defArgs s_copy) (defBody s_copy) (defScope s_copy) .none kV_copy dc_copy pm_copy an_copy cd_copy ct_copy), sl_copy⟩) (c_copy : PySem.W.codeIn K cd_copy "_law_copy" = true) (k_copy : PySem.W.keepIn K (.ref f_copy) = true)
    {f_law od_law an_law sl_law oc_law kV_law dc_law pm_law cd_law ct_law}
    (a_law : PySem.W.nsIn K mainGlobals "law" = some (some (.ref f_law))) (l_law : K.lookup f_law = some ⟨oc_law, od_law, .func (PySem.W.fnOf "law" "law" (defArgs s_law) (defBody s_law) (defScope s_law) .none kV_law dc_law pm_law an_law cd_law ct_law), sl_law⟩) (c_law : PySem.W.codeIn K cd_law "law" = true) (k_law : PySem.W.keepIn K (.ref f_law) = true)
    {c_NoLetters : Addr} (ac_NoLetters : PySem.W.nsIn K mainGlobals "NoLetters" = some (some (.ref c_NoLetters))) (xc_NoLetters : PySem.W.excIn K c_NoLetters [.type "ValueError", .type "Exception", .type "BaseException", .type "object"] "ValueError.__new__" = true)
    {t_SMALL:Tok} (q_SMALL:PySem.W.nsIn K mainGlobals "SMALL" = some (some (.str "abcdefghijklmnopqrstuvwxyz" t_SMALL)))
    {t_LETTERS:Tok} (q_LETTERS:PySem.W.nsIn K mainGlobals "LETTERS" = some (some (.int 0 t_LETTERS)))
    {t_HANDS:Tok} (q_HANDS:PySem.W.nsIn K mainGlobals "HANDS" = some (some (.int 1 t_HANDS)))
    {t_RENEWALS:Tok} (q_RENEWALS:PySem.W.nsIn K mainGlobals "RENEWALS" = some (some (.int 2 t_RENEWALS)))
    {t_THINGS:Tok} (q_THINGS:PySem.W.nsIn K mainGlobals "THINGS" = some (some (.int 3 t_THINGS)))
    {t_TAKEN:Tok} (q_TAKEN:PySem.W.nsIn K mainGlobals "TAKEN" = some (some (.int 4 t_TAKEN)))
    {t_THING_SIGNS:Tok} (q_THING_SIGNS:PySem.W.nsIn K mainGlobals "THING_SIGNS" = some (some (.str "abcdefghijklmnopqrstuvwxyz0123456789" t_THING_SIGNS)))
    {t_LONGEST_THING:Tok} (q_LONGEST_THING:PySem.W.nsIn K mainGlobals "LONGEST_THING" = some (some (.int 12 t_LONGEST_THING)))
    {t_FIGURES:Tok} (q_FIGURES:PySem.W.nsIn K mainGlobals "FIGURES" = some (some (.str "0123456789" t_FIGURES)))
    {t_MOST_FIGURES:Tok} (q_MOST_FIGURES:PySem.W.nsIn K mainGlobals "MOST_FIGURES" = some (some (.int 4 t_MOST_FIGURES)))
    {t_MOST_RENEWALS:Tok} (q_MOST_RENEWALS:PySem.W.nsIn K mainGlobals "MOST_RENEWALS" = some (some (.int 1000 t_MOST_RENEWALS)))
    {t_MOST_ROWS:Tok} (q_MOST_ROWS:PySem.W.nsIn K mainGlobals "MOST_ROWS" = some (some (.int 1000 t_MOST_ROWS)))
    (z_all:PySem.W.nsIn K mainGlobals "all" = some none)
    (z_dict:PySem.W.nsIn K mainGlobals "dict" = some none)
    (z_int:PySem.W.nsIn K mainGlobals "int" = some none)
    (z_isinstance:PySem.W.nsIn K mainGlobals "isinstance" = some none)
    (z_len:PySem.W.nsIn K mainGlobals "len" = some none)
    (z_list:PySem.W.nsIn K mainGlobals "list" = some none)
    (z_min:PySem.W.nsIn K mainGlobals "min" = some none)
    (z_range:PySem.W.nsIn K mainGlobals "range" = some none)
    (z_sorted:PySem.W.nsIn K mainGlobals "sorted" = some none)
    (z_str:PySem.W.nsIn K mainGlobals "str" = some none)
    (z_tuple:PySem.W.nsIn K mainGlobals "tuple" = some none)
    : ∃ a : Ad, Tx K mg a ∧ mg "law" = some (.ref a.f_law) ∧ ∀ (s : Shared) (v : Value), BindsTo s a.fd_law ⟨[v], []⟩ [("_law_script", v)] := by
  have F_p8:=fun_mk (st:=s_p8) l_p8 c_p8 k_p8
  have b_p8 := F_p8.binds (ps := ["letters", "hands"]) fun _ _ _ _ _ _ us hl => by obtain ⟨_, _, e⟩ := ex2 hl; subst e; rfl
  have F_p10:=fun_mk (st:=s_p10) l_p10 c_p10 k_p10
  have b_p10 := F_p10.binds (ps := ["letters", "text"]) fun _ _ _ _ _ _ us hl => by obtain ⟨_, _, e⟩ := ex2 hl; subst e; rfl
  have F_p14:=fun_mk (st:=s_p14) l_p14 c_p14 k_p14
  have b_p14:=F_p14.binds (ps:=["text"]) fun _ _ _ _ _ _ us hl=>by obtain ⟨_,e⟩:=ex1 hl; subst e; rfl
  have F_p12:=fun_mk (st:=s_p12) l_p12 c_p12 k_p12
  have b_p12:=F_p12.binds (ps:=["word"]) fun _ _ _ _ _ _ us hl=>by obtain ⟨_,e⟩:=ex1 hl; subst e; rfl
  have F_p22:=fun_mk (st:=s_p22) l_p22 c_p22 k_p22
  have b_p22:=F_p22.binds (ps:=["rows"]) fun _ _ _ _ _ _ us hl=>by obtain ⟨_,e⟩:=ex1 hl; subst e; rfl
  have F_p21:=fun_mk (st:=s_p21) l_p21 c_p21 k_p21
  have b_p21:=F_p21.binds (ps:=["rows"]) fun _ _ _ _ _ _ us hl=>by obtain ⟨_,e⟩:=ex1 hl; subst e; rfl
  have F_p24:=fun_mk (st:=s_p24) l_p24 c_p24 k_p24
  have b_p24 := F_p24.binds (ps := ["things", "taken"]) fun _ _ _ _ _ _ us hl => by obtain ⟨_, _, e⟩ := ex2 hl; subst e; rfl
  have F_p23:=fun_mk (st:=s_p23) l_p23 c_p23 k_p23
  have b_p23:=F_p23.binds (ps:=["state"]) fun _ _ _ _ _ _ us hl=>by obtain ⟨_,e⟩:=ex1 hl; subst e; rfl
  have F_p9:=fun_mk (st:=s_p9) l_p9 c_p9 k_p9
  have b_p9 := F_p9.binds (ps := ["good", "place"]) fun _ _ _ _ _ _ us hl => by obtain ⟨_, _, e⟩ := ex2 hl; subst e; rfl
  have F_p25:=fun_mk (st:=s_p25) l_p25 c_p25 k_p25
  have b_p25 := F_p25.binds (ps := ["texts", "place"]) fun _ _ _ _ _ _ us hl => by obtain ⟨_, _, e⟩ := ex2 hl; subst e; rfl
  have F_p13:=fun_mk (st:=s_p13) l_p13 c_p13 k_p13
  have b_p13 := F_p13.binds (ps := ["word", "most"]) fun _ _ _ _ _ _ us hl => by obtain ⟨_, _, e⟩ := ex2 hl; subst e; rfl
  have F_p11:=fun_mk (st:=s_p11) l_p11 c_p11 k_p11
  have b_p11 := F_p11.binds (ps := ["letters", "last", "word"]) fun _ _ _ _ _ _ us hl => by obtain ⟨_, _, _, e⟩ := ex3 hl; subst e; rfl
  have F_p16:=fun_mk (st:=s_p16) l_p16 c_p16 k_p16
  have b_p16:=F_p16.binds (ps:=["texts"]) fun _ _ _ _ _ _ us hl=>by obtain ⟨_,e⟩:=ex1 hl; subst e; rfl
  have F_p17:=fun_mk (st:=s_p17) l_p17 c_p17 k_p17
  have b_p17 := F_p17.binds (ps := ["texts", "place"]) fun _ _ _ _ _ _ us hl => by obtain ⟨_, _, e⟩ := ex2 hl; subst e; rfl
  have F_p18:=fun_mk (st:=s_p18) l_p18 c_p18 k_p18
  have b_p18 := F_p18.binds (ps := ["letters", "texts", "place", "many"]) fun _ _ _ _ _ _ us hl => by obtain ⟨_, _, _, _, e⟩ := ex4 hl; subst e; rfl
  have F_p20:=fun_mk (st:=s_p20) l_p20 c_p20 k_p20
  have b_p20 := F_p20.binds (ps := ["letters", "texts", "place"]) fun _ _ _ _ _ _ us hl => by obtain ⟨_, _, _, e⟩ := ex3 hl; subst e; rfl
  have F_p19:=fun_mk (st:=s_p19) l_p19 c_p19 k_p19
  have b_p19:=F_p19.binds (ps:=["texts"]) fun _ _ _ _ _ _ us hl=>by obtain ⟨_,e⟩:=ex1 hl; subst e; rfl
  have F_draw:=fun_mk (st:=s_draw) l_draw c_draw k_draw
  have b_draw := F_draw.binds (ps := ["_law_script", "_law_k", "_law_many"]) fun _ _ _ _ _ _ us hl => by obtain ⟨_, _, _, e⟩ := ex3 hl; subst e; rfl
  have F_size:=fun_mk (st:=s_size) l_size c_size k_size
  have b_size:=F_size.binds (ps:=["_law_script"]) fun _ _ _ _ _ _ us hl=>by obtain ⟨_,e⟩:=ex1 hl; subst e; rfl
  have F_thing:=fun_mk (st:=s_thing) l_thing c_thing k_thing
  have b_thing := F_thing.binds (ps := ["_law_script", "_law_k"]) fun _ _ _ _ _ _ us hl => by obtain ⟨_, _, e⟩ := ex2 hl; subst e; rfl
  have F_marks:=fun_mk (st:=s_marks) l_marks c_marks k_marks
  have b_marks := F_marks.binds (ps := ["_law_script", "_law_k", "_law_letters", "_law_many"]) fun _ _ _ _ _ _ us hl => by obtain ⟨_, _, _, _, e⟩ := ex4 hl; subst e; rfl
  have F_rows:=fun_mk (st:=s_rows) l_rows c_rows k_rows
  have b_rows := F_rows.binds (ps := ["_law_script", "_law_k", "_law_letters"]) fun _ _ _ _ _ _ us hl => by obtain ⟨_, _, _, e⟩ := ex3 hl; subst e; rfl
  have F_made:=fun_mk (st:=s_made) l_made c_made k_made
  have b_made := F_made.binds (ps := ["_law_script", "_law_size_here"]) fun _ _ _ _ _ _ us hl => by obtain ⟨_, _, e⟩ := ex2 hl; subst e; rfl
  have F_texts:=fun_mk (st:=s_texts) l_texts c_texts k_texts
  have b_texts:=F_texts.binds (ps:=["_law_state"]) fun _ _ _ _ _ _ us hl=>by obtain ⟨_,e⟩:=ex1 hl; subst e; rfl
  have F_copy:=fun_mk (st:=s_copy) l_copy c_copy k_copy
  have b_copy:=F_copy.binds (ps:=["_law_state"]) fun _ _ _ _ _ _ us hl=>by obtain ⟨_,e⟩:=ex1 hl; subst e; rfl
  have F_law:=fun_mk (st:=s_law) l_law c_law k_law
  have b_law:=F_law.binds (ps:=["_law_script"]) fun _ _ _ _ _ _ us hl=>by obtain ⟨_,e⟩:=ex1 hl; subst e; rfl
  exact ⟨⟨c_NoLetters,f_p8,f_p10,f_p14,f_p12,f_p22,f_p21,f_p24,f_p23,f_p9,f_p25,f_p13,f_p11,f_p16,f_p17,f_p18,f_p20,f_p19,f_draw,f_size,f_thing,f_marks,f_rows,f_made,f_texts,f_copy,f_law,_,_,_,_,_,_,_,_,_,_,_,_,_,_,_,_,_,_,_,_,_,_,_,_,_,_⟩,⟨PySem.W.mg_none_of X G z_all,PySem.W.mg_none_of X G z_dict,PySem.W.mg_none_of X G z_int,PySem.W.mg_none_of X G z_isinstance,PySem.W.mg_none_of X G z_len,PySem.W.mg_none_of X G z_list,PySem.W.mg_none_of X G z_min,PySem.W.mg_none_of X G z_range,PySem.W.mg_none_of X G z_sorted,PySem.W.mg_none_of X G z_str,PySem.W.mg_none_of X G z_tuple,⟨_,PySem.W.mg_of X G q_SMALL⟩,⟨_,PySem.W.mg_of X G q_LETTERS⟩,⟨_,PySem.W.mg_of X G q_HANDS⟩,⟨_,PySem.W.mg_of X G q_RENEWALS⟩,⟨_,PySem.W.mg_of X G q_THINGS⟩,⟨_,PySem.W.mg_of X G q_TAKEN⟩,⟨_,PySem.W.mg_of X G q_THING_SIGNS⟩,⟨_,PySem.W.mg_of X G q_LONGEST_THING⟩,⟨_,PySem.W.mg_of X G q_FIGURES⟩,⟨_,PySem.W.mg_of X G q_MOST_FIGURES⟩,⟨_,PySem.W.mg_of X G q_MOST_RENEWALS⟩,⟨_,PySem.W.mg_of X G q_MOST_ROWS⟩,PySem.W.mg_of X G ac_NoLetters,xc_NoLetters,PySem.W.mg_of X G a_p8,F_p8,b_p8,PySem.W.mg_of X G a_p10,F_p10,b_p10,PySem.W.mg_of X G a_p14,F_p14,b_p14,PySem.W.mg_of X G a_p12,F_p12,b_p12,PySem.W.mg_of X G a_p22,F_p22,b_p22,PySem.W.mg_of X G a_p21,F_p21,b_p21,PySem.W.mg_of X G a_p24,F_p24,b_p24,PySem.W.mg_of X G a_p23,F_p23,b_p23,PySem.W.mg_of X G a_p9,F_p9,b_p9,PySem.W.mg_of X G a_p25,F_p25,b_p25,PySem.W.mg_of X G a_p13,F_p13,b_p13,PySem.W.mg_of X G a_p11,F_p11,b_p11,PySem.W.mg_of X G a_p16,F_p16,b_p16,PySem.W.mg_of X G a_p17,F_p17,b_p17,PySem.W.mg_of X G a_p18,F_p18,b_p18,PySem.W.mg_of X G a_p20,F_p20,b_p20,PySem.W.mg_of X G a_p19,F_p19,b_p19,PySem.W.mg_of X G a_draw,F_draw,b_draw,PySem.W.mg_of X G a_size,F_size,b_size,PySem.W.mg_of X G a_thing,F_thing,b_thing,PySem.W.mg_of X G a_marks,F_marks,b_marks,PySem.W.mg_of X G a_rows,F_rows,b_rows,PySem.W.mg_of X G a_made,F_made,b_made,PySem.W.mg_of X G a_texts,F_texts,b_texts,PySem.W.mg_of X G a_copy,F_copy,b_copy,PySem.W.mg_of X G a_law,F_law,b_law⟩,PySem.W.mg_of X G a_law,fun s v=>.of_eq rfl⟩
theorem walk {l:PySem.W.OpenLaw} {q:Program} {loose:List Str} {XP:(Str→Option Value)→Heap→Prop} {YP:World→Heap→Prop} {d:DefRec} {K:Params→PySem.W.Frag} (hn:l.most = some 63) (hdf:d.params.defaults = [])
    (hY:∀ (w:World) (h:Heap),YP w h→(K w.params).In h)
    (F:∀ (w:World) (mg:Str→Option Value) (fa:Addr) (h:Heap),(K w.params).In h→h.Ns mainGlobals mg→mg d.name = some (.ref fa)→
      ∃ fd : FuncData, (∀ (s : Shared) (u : Value), BindsTo s fd ⟨[u], []⟩ [("_law_script", u)]) ∧ ∀ base : Heap, (K w.params).In base → base.Ns mainGlobals mg → FnOk l.prog w (K w.params) mg base CX0 5 fa fd ["_law_script"] (spLaw (K w.params))) :
    PySem.W.WalkO q loose XP YP l.row.toRowW d [] (fun f vs=>PySem.call f vs):=
  L2.walk_of (n:=63) (k:=5) (x:="_law_script") (CX:=fun _=>CX0) (sp:=fun w=>spLaw (K w.params)) hn (by decide) hdf ⟨rfl,by decide,by decide⟩ hY F (fun _ _ a ns hl _ hS=>⟨a,ns,rfl,hS,hl,fun _=>rfl⟩) fun _ _ _ _ _ z=>z
end K70
open PySem PySem.W PyProof.Rows
set_option maxRecDepth 100000 in
set_option maxHeartbeats 0 in
theorem PySem.Challenge.cw_shelfmark_k70_states_as_texts_holds : PySem.Challenge.rw_shelfmark_k70_states_as_texts.Holds := by
  w_on; o_law; k_head; (case hw=>w_witness2)
  k_fill
  refine K70.walk (l:=PySem.Challenge.rw_shelfmark_k70_states_as_texts) rfl rfl (fun w h Y=>PySem.W.kIn_of Y) ?F
  case F=>
    intro w mg fa h KX G hmg
    have M : ∃ a : K70.Ad, K70.Tx (L2.KOf KX) mg a ∧ mg "law" = some (.ref a.f_law) ∧ ∀ (s : Shared) (v : Value), BindsTo s a.fd_law ⟨[v], []⟩ [("_law_script", v)] := by
      dsimp only [L2.KOf]
      refine' K70.tx_mk KX G (a_p8:=?a_p8) (l_p8:=?l_p8) (c_p8:=?c_p8) (k_p8:=?k_p8) (a_p10:=?a_p10) (l_p10:=?l_p10) (c_p10:=?c_p10) (k_p10:=?k_p10) (a_p14:=?a_p14) (l_p14:=?l_p14) (c_p14:=?c_p14) (k_p14:=?k_p14) (a_p12:=?a_p12) (l_p12:=?l_p12) (c_p12:=?c_p12) (k_p12:=?k_p12) (a_p22:=?a_p22) (l_p22:=?l_p22) (c_p22:=?c_p22) (k_p22:=?k_p22) (a_p21:=?a_p21) (l_p21:=?l_p21) (c_p21:=?c_p21) (k_p21:=?k_p21) (a_p24:=?a_p24) (l_p24:=?l_p24) (c_p24:=?c_p24) (k_p24:=?k_p24) (a_p23:=?a_p23) (l_p23:=?l_p23) (c_p23:=?c_p23) (k_p23:=?k_p23) (a_p9:=?a_p9) (l_p9:=?l_p9) (c_p9:=?c_p9) (k_p9:=?k_p9) (a_p25:=?a_p25) (l_p25:=?l_p25) (c_p25:=?c_p25) (k_p25:=?k_p25) (a_p13:=?a_p13) (l_p13:=?l_p13) (c_p13:=?c_p13) (k_p13:=?k_p13) (a_p11:=?a_p11) (l_p11:=?l_p11) (c_p11:=?c_p11) (k_p11:=?k_p11) (a_p16:=?a_p16) (l_p16:=?l_p16) (c_p16:=?c_p16) (k_p16:=?k_p16) (a_p17:=?a_p17) (l_p17:=?l_p17) (c_p17:=?c_p17) (k_p17:=?k_p17) (a_p18:=?a_p18) (l_p18:=?l_p18) (c_p18:=?c_p18) (k_p18:=?k_p18) (a_p20:=?a_p20) (l_p20:=?l_p20) (c_p20:=?c_p20) (k_p20:=?k_p20) (a_p19:=?a_p19) (l_p19:=?l_p19) (c_p19:=?c_p19) (k_p19:=?k_p19) (a_draw:=?a_draw) (l_draw:=?l_draw) (c_draw:=?c_draw) (k_draw:=?k_draw) (a_size:=?a_size) (l_size:=?l_size) (c_size:=?c_size) (k_size:=?k_size) (a_thing:=?a_thing) (l_thing:=?l_thing) (c_thing:=?c_thing) (k_thing:=?k_thing) (a_marks:=?a_marks) (l_marks:=?l_marks) (c_marks:=?c_marks) (k_marks:=?k_marks) (a_rows:=?a_rows) (l_rows:=?l_rows) (c_rows:=?c_rows) (k_rows:=?k_rows) (a_made:=?a_made) (l_made:=?l_made) (c_made:=?c_made) (k_made:=?k_made) (a_texts:=?a_texts) (l_texts:=?l_texts) (c_texts:=?c_texts) (k_texts:=?k_texts) (a_copy:=?a_copy) (l_copy:=?l_copy) (c_copy:=?c_copy) (k_copy:=?k_copy) (a_law:=?a_law) (l_law:=?l_law) (c_law:=?c_law) (k_law:=?k_law) (ac_NoLetters:=?ac_NoLetters) (xc_NoLetters:=?xc_NoLetters) (q_SMALL:=?q_SMALL) (q_LETTERS:=?q_LETTERS) (q_HANDS:=?q_HANDS) (q_RENEWALS:=?q_RENEWALS) (q_THINGS:=?q_THINGS) (q_TAKEN:=?q_TAKEN) (q_THING_SIGNS:=?q_THING_SIGNS) (q_LONGEST_THING:=?q_LONGEST_THING) (q_FIGURES:=?q_FIGURES) (q_MOST_FIGURES:=?q_MOST_FIGURES) (q_MOST_RENEWALS:=?q_MOST_RENEWALS) (q_MOST_ROWS:=?q_MOST_ROWS) (z_all:=?z_all) (z_dict:=?z_dict) (z_int:=?z_int) (z_isinstance:=?z_isinstance) (z_len:=?z_len) (z_list:=?z_list) (z_min:=?z_min) (z_range:=?z_range) (z_sorted:=?z_sorted) (z_str:=?z_str) (z_tuple:=?z_tuple)
      (case a_p8=>k_is)
      (case l_p8=>k_is)
      (case c_p8=>k_is)
      (case k_p8=>k_is)
      (case a_p10=>k_is)
      (case l_p10=>k_is)
      (case c_p10=>k_is)
      (case k_p10=>k_is)
      (case a_p14=>k_is)
      (case l_p14=>k_is)
      (case c_p14=>k_is)
      (case k_p14=>k_is)
      (case a_p12=>k_is)
      (case l_p12=>k_is)
      (case c_p12=>k_is)
      (case k_p12=>k_is)
      (case a_p22=>k_is)
      (case l_p22=>k_is)
      (case c_p22=>k_is)
      (case k_p22=>k_is)
      (case a_p21=>k_is)
      (case l_p21=>k_is)
      (case c_p21=>k_is)
      (case k_p21=>k_is)
      (case a_p24=>k_is)
      (case l_p24=>k_is)
      (case c_p24=>k_is)
      (case k_p24=>k_is)
      (case a_p23=>k_is)
      (case l_p23=>k_is)
      (case c_p23=>k_is)
      (case k_p23=>k_is)
      (case a_p9=>k_is)
      (case l_p9=>k_is)
      (case c_p9=>k_is)
      (case k_p9=>k_is)
      (case a_p25=>k_is)
      (case l_p25=>k_is)
      (case c_p25=>k_is)
      (case k_p25=>k_is)
      (case a_p13=>k_is)
      (case l_p13=>k_is)
      (case c_p13=>k_is)
      (case k_p13=>k_is)
      (case a_p11=>k_is)
      (case l_p11=>k_is)
      (case c_p11=>k_is)
      (case k_p11=>k_is)
      (case a_p16=>k_is)
      (case l_p16=>k_is)
      (case c_p16=>k_is)
      (case k_p16=>k_is)
      (case a_p17=>k_is)
      (case l_p17=>k_is)
      (case c_p17=>k_is)
      (case k_p17=>k_is)
      (case a_p18=>k_is)
      (case l_p18=>k_is)
      (case c_p18=>k_is)
      (case k_p18=>k_is)
      (case a_p20=>k_is)
      (case l_p20=>k_is)
      (case c_p20=>k_is)
      (case k_p20=>k_is)
      (case a_p19=>k_is)
      (case l_p19=>k_is)
      (case c_p19=>k_is)
      (case k_p19=>k_is)
      (case a_draw=>k_is)
      (case l_draw=>k_is)
      (case c_draw=>k_is)
      (case k_draw=>k_is)
      (case a_size=>k_is)
      (case l_size=>k_is)
      (case c_size=>k_is)
      (case k_size=>k_is)
      (case a_thing=>k_is)
      (case l_thing=>k_is)
      (case c_thing=>k_is)
      (case k_thing=>k_is)
      (case a_marks=>k_is)
      (case l_marks=>k_is)
      (case c_marks=>k_is)
      (case k_marks=>k_is)
      (case a_rows=>k_is)
      (case l_rows=>k_is)
      (case c_rows=>k_is)
      (case k_rows=>k_is)
      (case a_made=>k_is)
      (case l_made=>k_is)
      (case c_made=>k_is)
      (case k_made=>k_is)
      (case a_texts=>k_is)
      (case l_texts=>k_is)
      (case c_texts=>k_is)
      (case k_texts=>k_is)
      (case a_copy=>k_is)
      (case l_copy=>k_is)
      (case c_copy=>k_is)
      (case k_copy=>k_is)
      (case a_law=>k_is)
      (case l_law=>k_is)
      (case c_law=>k_is)
      (case k_law=>k_is)
      (case ac_NoLetters=>k_is)
      (case xc_NoLetters=>k_exc)
      (case q_SMALL=>k_is)
      (case q_LETTERS=>k_is)
      (case q_HANDS=>k_is)
      (case q_RENEWALS=>k_is)
      (case q_THINGS=>k_is)
      (case q_TAKEN=>k_is)
      (case q_THING_SIGNS=>k_is)
      (case q_LONGEST_THING=>k_is)
      (case q_FIGURES=>k_is)
      (case q_MOST_FIGURES=>k_is)
      (case q_MOST_RENEWALS=>k_is)
      (case q_MOST_ROWS=>k_is)
      (case z_all=>k_is)
      (case z_dict=>k_is)
      (case z_int=>k_is)
      (case z_isinstance=>k_is)
      (case z_len=>k_is)
      (case z_list=>k_is)
      (case z_min=>k_is)
      (case z_range=>k_is)
      (case z_sorted=>k_is)
      (case z_str=>k_is)
      (case z_tuple=>k_is)
    obtain ⟨a,T,hl,hb⟩:=M
    have e0:=hmg.symm.trans hl
    cases e0
    exact ⟨_,hb,fun base _ _=>K70.ok_law T⟩
