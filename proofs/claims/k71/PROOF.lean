import PyProof.Rows.All
import Wide.All
import OpenK.AllK
import Wide.FinOn
import Lean
import PyProof.EqAt
import PyProof.EqKinds
import PyProof.TupleCall
import KE.IntBitsLaws
import PyProof.Rows.CallKwBuiltin
import KE.KRevIter
import KE.KDictSum
import PyProof.AttrMissHeap
import KE.KDictOf
import KE.KSortTup
import KE.KItemsList
import PyProof.LongRange
import PyProof.Rows.FStr
import PyProof.Rows.StrNews
import PyProof.StrLawsTight
import PyProof.StrLawsChain
import KE.KIntText
import PySem.Challenge.RW_shelfmark_k71_texts_refused
set_option Elab.async false
set_option linter.all false
set_option maxRecDepth 100000
set_option maxHeartbeats 4000000
namespace L2
open PySem PySem.Spec PyProof.Rows
inductive Key where
  | inl (i:Int) | inr (x:Str) | non
deriving DecidableEq
def isNon:Value→Bool
  | .none=>true
  | _=>false
def keyIs:Key→Value→Bool
  | .inl k,v=>Value.isInt k v
  | .inr x,v=>Value.isStrOf x v
  | .non,v=>isNon v
def keyH (w:World):Key→Int
  | .inl k=>hashInt k
  | .inr x=>hashStr w x
  | .non=>(reduceHash 4238894112)
theorem keyIs_shape:∀ {k:Key} {v:Value},keyIs k v = true→(∃ i t,k = Key.inl i∧v = Value.int i t) ∨ (∃ x t,k = Key.inr x∧v = Value.str x t) ∨ (k = Key.non∧v = Value.none)
  | .inl i,v,h=>by
    obtain ⟨t,e⟩:=Value.isInt_shape (k:=i) (v:=v) h
    exact .inl ⟨i,t,rfl,e⟩
  | .inr x,v,h=>by
    obtain ⟨t,e⟩:=Value.isStrOf_shape (x:=x) (v:=v) h
    exact .inr (.inl ⟨x,t,rfl,e⟩)
  | .non,v,h=>by
    cases v <;> first | exact .inr (.inr ⟨rfl,rfl⟩) | exact nomatch (show false = true from h)
theorem key_ll (a b:Int):decide (Key.inl a = Key.inl b) = (a == b):=by
  by_cases e:a = b
  · subst e; simp
  · rw [decide_eq_false (fun q=>e (Key.inl.inj q))]; exact (beq_eq_false_iff_ne.mpr e).symm
theorem key_rr (a b:Str):decide (Key.inr a = Key.inr b) = decide (a = b):=by
  by_cases e:a = b
  · subst e; simp
  · rw [decide_eq_false (fun q=>e (Key.inr.inj q)),decide_eq_false e]
theorem hash_non {prog:Program} {w:World} {A:Around} {E:Value→Shared→Prop} {s:Shared} {Q:Int→Shared→Prop} (h:Q (reduceHash 4238894112) { s with toks:=s.toks + 1 }):wpAny (model prog w) A (pyHash .none) Q E s:=
  W.pyHash_slot (T:="NoneType") rfl F.slot_NoneType_hash F.entry_NoneType_hash (F.args_NoneType_hash_1 _) (beq_builtin_none _) (.inl rfl) (wpAny_bind (wpAny_pure (wpAny_bind (wpAny_mkInt (wpAny_pure ⟨_,_,rfl,h⟩)))))
theorem eq_non {prog:Program} {w:World} {A:Around} {E:Value→Shared→Prop} {s:Shared} {Q:Bool→Shared→Prop} (h:Q true s):wpAny (model prog w) A (eqBool .none .none) Q E s:=by
  unfold eqBool
  refine wpAny_holding ?_
  rw [if_pos (by decide)]
  exact wpAny_bind (wpAny_rule (wpAny_pure h))
def mixKind (prog:Program) (w:World):PySem.KeyKind prog w Key where
  is:=keyIs
  hash:=keyH w
  inj:=fun v a b ha hb=>by
    rcases keyIs_shape ha with ⟨i,t,rfl,rfl⟩ | ⟨x,t,rfl,rfl⟩ | ⟨rfl,rfl⟩ <;> rcases keyIs_shape hb with ⟨j,u,rfl,e⟩ | ⟨y,u,rfl,e⟩ | ⟨rfl,e⟩ <;>
      first | (cases e; rfl) | cases e
  byValue:=fun k v h=>by
    rcases keyIs_shape h with ⟨i,t,rfl,rfl⟩ | ⟨x,t,rfl,rfl⟩ | ⟨rfl,rfl⟩ <;> rfl
  pyHash:=fun hv h=>by
    rcases keyIs_shape hv with ⟨i,t,rfl,rfl⟩ | ⟨x,t,rfl,rfl⟩ | ⟨rfl,rfl⟩
    · exact wpAny_pyHash_int h
    · exact wpAny_pyHash_str h
    · exact hash_non h
  eqBool:=fun hu hv h=>by
    rcases keyIs_shape hu with ⟨i,t,rfl,rfl⟩ | ⟨x,t,rfl,rfl⟩ | ⟨rfl,rfl⟩ <;> rcases keyIs_shape hv with ⟨j,u,rfl,rfl⟩ | ⟨y,u,rfl,rfl⟩ | ⟨rfl,rfl⟩
    · rw [key_ll] at h; exact wpAny_eqBool_int h
    · exact SeqAt.EqAt.int_str i t y u _ _ _ _ h
    · exact SeqAt.EqAt.int_none i t _ _ _ _ h
    · exact SeqAt.EqAt.str_int x t j u _ _ _ _ h
    · rw [key_rr] at h; exact wpAny_eqBool_str h
    · exact SeqAt.EqAt.str_none x t _ _ _ _ h
    · exact SeqAt.EqAt.none_int j u _ _ _ _ h
    · exact SeqAt.EqAt.none_str y u _ _ _ _ h
    · exact eq_non h
  «strs»:=fun k x t v h=>by
    rcases keyIs_shape h with ⟨i,u,rfl,e⟩ | ⟨y,u,rfl,e⟩ | ⟨rfl,e⟩
    · exact nomatch e
    · injection e with e1 _
      subst e1
      cases v <;> rfl
    · exact nomatch e
inductive V where
  | non | bl (b:Bool) | int (i:Int) | str (x:Str) | byt (b:Array UInt8) | flt (b:UInt64) | ref (a:Addr) | ty (n:String)
  deriving DecidableEq
def RelV:V→Value→Prop
  | .non,u=>u = Value.none
  | .bl b,u=>u = Value.bool b
  | .int i,u=>∃ t,u = Value.int i t
  | .str x,u=>∃ t,u = Value.str x t
  | .byt b,u=>∃ t,u = Value.bytes b t
  | .flt b,u=>∃ t,u = Value.float b t
  | .ref a,u=>u = Value.ref a
  | .ty n,u=>u = Value.type n
abbrev Vals:List V→List Value→Prop:=Paired RelV
theorem Vals.length {xs:List V} {us:List Value} (r:Vals xs us):xs.length = us.length:=Paired.length r
theorem Vals.get:∀ {xs:List V} {us:List Value} {i:Nat} {x:V},Vals xs us→xs[i]? = some x→∃ u,us[i]? = some u∧RelV x u
  | _,_,_,_,.nil,e=>by simp at e
  | _,_,0,_,.cons r _,e=>by simp at e; subst e; exact ⟨_,rfl,r⟩
  | _,_,i + 1,x,.cons _ t,e=>by
    obtain ⟨u,h1,h2⟩:=Vals.get (i:=i) (x:=x) t (by simpa using e)
    exact ⟨u,by simpa using h1,h2⟩
theorem Vals.set {x:V} {u:Value} (r:RelV x u):∀ {xs:List V} {us:List Value} (i:Nat),Vals xs us→Vals (xs.set i x) (us.set i u)
  | _,_,_,.nil=>.nil
  | _,_,0,.cons _ t=>.cons r t
  | _,_,i + 1,.cons q t=>.cons q (Vals.set r i t)
theorem Vals.append:∀ {xs ys:List V} {us ws:List Value},Vals xs us→Vals ys ws→Vals (xs ++ ys) (us ++ ws)
  | _,_,_,_,.nil,s=>s
  | _,_,_,_,.cons r t,s=>.cons r (Vals.append t s)
theorem Vals.take:∀ {xs:List V} {us:List Value} (n:Nat),Vals xs us→Vals (xs.take n) (us.take n)
  | _,_,0,_=>.nil
  | _,_,_ + 1,.nil=>.nil
  | _,_,n + 1,.cons r t=>.cons r (Vals.take n t)
theorem Vals.drop:∀ {xs:List V} {us:List Value} (n:Nat),Vals xs us→Vals (xs.drop n) (us.drop n)
  | _,_,0,r=>r
  | _,_,_ + 1,.nil=>.nil
  | _,_,n + 1,.cons _ t=>Vals.drop n t
def RelO:Option V→Option Value→Prop
  | some v,some u=>RelV v u
  | none,none=>True
  | _,_=>False
def KV {κ:Type}:List (κ × V)→List (κ × Value)→Prop:=Paired fun (p:κ × V) (q:κ × Value)=>p.1 = q.1∧RelV p.2 q.2
def kV:Key→V
  | .inl i=>.int i
  | .inr x=>.str x
  | .non=>.non
inductive HO where
  /-- a list -/
  | lst (xs:List V)
  /-- a tuple (never changes) -/
  | tup (xs:List V)
  /-- a dict whose keys are ints and texts; one whose keys are tuples of ints and texts (the empty one is both) -/
  | dK (kvs:List (Key × V)) | dT (kvs:List (List Key × V))
  /-- a set of ints: its members,its size -/
  | set (S:Int→Bool) (n:Nat)
  /-- an instance of the class at C,its dict at dx,its attributes -/
  | ins (C dx:Addr) (fs:List (Str × V))
  /-- the dict of the instance at x -/
  | own (x:Addr)
  /-- the dict of an exception -/
  | xd (fs:List (Str × V))
  /-- a bound method,f of x -/
  | met (f x:Addr)
  /-- a range object lo,lo + 1,.. below hi -/
  | rng (lo hi:Int)
  /-- a thing that is known to the object (the script; a dict while a loop walks it): read,never written while it is so -/
  | frz (o:Obj) (u:HO)
  /-- a code object's table -/
  | tbl (ps:Array Value)
  /-- any other thing,by what is true of its one object (a def of one's own: SetO a S n:=HO.ext fun h=>..) -/
  | ext (φ:Heap→Prop)
abbrev Hp:=Addr→Option HO
def upd (H:Hp) (a:Addr) (o:HO):Hp:=fun b=>if b = a then some o else H b
theorem upd_same {H:Hp} {a:Addr} {o:HO}:upd H a o a = some o:=by unfold upd; rw [if_pos rfl]
theorem upd_ne {H:Hp} {a b:Addr} {o:HO} (h:b ≠ a):upd H a o b = H b:=by unfold upd; rw [if_neg h]
theorem upd_upd {H:Hp} {a:Addr} {o u:HO}:upd (upd H a o) a u = upd H a u:=by
  funext b; unfold upd; split <;> rfl
theorem ne_of_none {H:Hp} {a b:Addr} {o:HO} (h:H a = some o) (h':H b = none):a ≠ b:=by
  intro e; subst e; rw [h] at h'; cases h'
section
variable (P:Program) (w:World)
def ObjOk (H:Hp) (h:Heap) (a:Addr):HO→Prop
  | .lst xs=>xs.length ≤ sizeLine∧∃ (its:List Value) (n:Nat),Vals xs its∧h.get? a = some { cls:=.type "list",data:=.seq its.toArray n }
  | .tup xs=>xs.length ≤ sizeLine∧∃ its:List Value,Vals xs its∧IsTup h a its.toArray
  | .dK kvs=>kvs.length ≤ sizeLine∧(a == sysModules) = false∧∃ vs,KV kvs vs∧h.DictOf (mixKind P w) a vs
  | .dT kvs=>kvs.length ≤ sizeLine∧(a == sysModules) = false∧∃ xs:List (List Key × Addr × Value),
      Paired (fun (p:List Key × V) (q:List Key × Addr × Value)=>p.1 = q.1∧H q.2.1 = some (.tup (p.1.map kV))∧RelV p.2 q.2.2) kvs xs∧
      ∃ o es ep,h.get? a = some o∧o.ExactDict∧o.data = .dict es ep∧es.toList = xs.map (entryOfKey (tupleKind (mixKind P w)))∧(xs.map (·.1)).Nodup
  | .set S n=>h.SetOf (intKind P w) a S n
  | .ins C dx fs=>H dx = some (.own a)∧fs.length ≤ 1000∧dx ≠ a∧h.get? a = some (PySem.W.instObj C dx)∧
      ∃ mA,h.Ns1 dx mA∧(∀ f,RelO (fs.lookup f) (mA f))∧PySem.Within mA (fs.map (·.1))
  | .own _=>∃ o,h.get? a = some o
  | .xd fs=>∃ mA,h.Ns1 a mA∧∀ f,RelO (fs.lookup f) (mA f)
  | .rng lo hi=>∃ t u v,h.get? a = some { cls:=.type "range",data:=.fields #[.int lo t,.int hi u,.int 1 v] }
  | .frz o u=>h.get? a = some o∧ObjOk H h a u
  | .tbl ps=>h.get? a = some { cls:=.none,data:=.fields ps }
  | .met f x=>h.get? a = some (PySem.W.methodObj (.ref f) (.ref x))
  | .ext φ=>φ h∧(∃ o,h.get? a = some o)∧∀ h1 h2:Heap,φ h1→(∀ o,h1.get? a = some o→h2.get? a = some o)→φ h2
def HOk (H:Hp) (h:Heap):Prop:=∀ a o,H a = some o→ObjOk P w H h a o
end
section
variable {P:Program} {w:World} {H H':Hp} {h h':Heap} {a:Addr} {o:HO}
theorem ObjOk.lt (x:ObjOk P w H h a o):a < h.objs.size:=by
  cases o with
  | lst xs=>obtain ⟨_,_,_,_,e⟩:=x; exact Heap.lt_size e
  | tup xs=>obtain ⟨_,_,_,p⟩:=x; exact p.lt
  | dK kvs=>obtain ⟨_,_,_,_,o,_,_,e,_⟩:=x; exact Heap.lt_size e
  | dT kvs=>obtain ⟨_,_,_,_,o,_,_,e,_⟩:=x; exact Heap.lt_size e
  | set S n=>obtain ⟨o,_,_,_,e,_⟩:=x; exact Heap.lt_size e
  | ins C dx fs=>obtain ⟨_,_,_,e,_⟩:=x; exact Heap.lt_size e
  | own y=>obtain ⟨_,e⟩:=x; exact Heap.lt_size e
  | xd fs=>obtain ⟨_,⟨_,_,_,e,_⟩,_⟩:=x; exact Heap.lt_size e
  | rng lo hi=>obtain ⟨_,_,_,e⟩:=x; exact Heap.lt_size e
  | frz ob u=>obtain ⟨e,_⟩:=x; exact Heap.lt_size e
  | tbl ps=>exact Heap.lt_size (show h.get? a = some _ from x)
  | met f y=>exact Heap.lt_size (show h.get? a = some _ from x)
  | ext φ=>obtain ⟨_,⟨_,e⟩,_⟩:=x; exact Heap.lt_size e
theorem Paired.mapP {α β:Type} {F G:α→β→Prop}:∀ {l₁:List α} {l₂:List β},Paired F l₁ l₂→(∀ a b,F a b→G a b)→Paired G l₁ l₂
  | _,_,.nil,_=>.nil
  | _,_,.cons r t,f=>.cons (f _ _ r) (Paired.mapP t f)
theorem ObjOk.stay (x:ObjOk P w H h a o) (k:∀ b u,(b = a ∨ H b = some (.own a))→h.get? b = some u→h'.get? b = some u)
    (ho:∀ b,H b = some (.own a)→H' b = some (.own a)) (ht:∀ b xs,H b = some (.tup xs)→H' b = some (.tup xs)):ObjOk P w H' h' a o:=by
  induction o with
  | lst xs=>obtain ⟨z,its,n,r,e⟩:=x; exact ⟨z,its,n,r,k _ _ (.inl rfl) e⟩
  | tup xs=>obtain ⟨z,its,r,ob,e,c⟩:=x; exact ⟨z,its,r,ob,k _ _ (.inl rfl) e,c⟩
  | dK kvs=>obtain ⟨z,y,vs,r,ob,es,ep,e,c⟩:=x; exact ⟨z,y,vs,r,ob,es,ep,k _ _ (.inl rfl) e,c⟩
  | dT kvs=>
    obtain ⟨z,y,xs,r,ob,es,ep,e,c⟩:=x
    exact ⟨z,y,xs,Paired.mapP r fun p q z=>⟨z.1,ht _ _ z.2.1,z.2.2⟩,ob,es,ep,k _ _ (.inl rfl) e,c⟩
  | set S n=>obtain ⟨ob,es,ep,t,e,c⟩:=x; exact ⟨ob,es,ep,t,k _ _ (.inl rfl) e,c⟩
  | ins C dx fs=>
    obtain ⟨d,z,ne,e,mA,⟨od,es,ep,e2,c⟩,r⟩:=x
    exact ⟨ho _ d,z,ne,k _ _ (.inl rfl) e,mA,⟨od,es,ep,k _ _ (.inr d) e2,c⟩,r⟩
  | own y=>obtain ⟨ob,e⟩:=x; exact ⟨ob,k _ _ (.inl rfl) e⟩
  | xd fs=>obtain ⟨mA,⟨od,es,ep,e,c⟩,r⟩:=x; exact ⟨mA,⟨od,es,ep,k _ _ (.inl rfl) e,c⟩,r⟩
  | rng lo hi=>obtain ⟨t,u,v,e⟩:=x; exact ⟨t,u,v,k _ _ (.inl rfl) e⟩
  | frz ob u ih=>obtain ⟨e,q⟩:=x; exact ⟨k _ _ (.inl rfl) e,ih q⟩
  | tbl ps=>
    have e:h.get? a = some { cls:=.none,data:=.fields ps }:=x
    show h'.get? a = some { cls:=.none,data:=.fields ps }
    exact k a _ (.inl rfl) e
  | met f y=>
    have e:h.get? a = some (PySem.W.methodObj (.ref f) (.ref y)):=x
    show h'.get? a = some (PySem.W.methodObj (.ref f) (.ref y))
    exact k a _ (.inl rfl) e
  | ext φ=>obtain ⟨p,⟨o,e⟩,st⟩:=x; exact ⟨st _ _ p fun o q=>k _ _ (.inl rfl) q,⟨o,k _ _ (.inl rfl) e⟩,st⟩
theorem HOk.lt (x:HOk P w H h) (e:H a = some o):a < h.objs.size:=(x a o e).lt
theorem HOk.fresh (x:HOk P w H h) (e:h.objs.size ≤ a):H a = none:=by
  cases q:H a with
  | none=>rfl
  | some u=>exact absurd (Nat.lt_of_lt_of_le (x.lt q) e) (Nat.lt_irrefl _)
theorem HOk.kept (x:HOk P w H h) (k:∀ b u,h.get? b = some u→h'.get? b = some u):HOk P w H h':=fun a o e=>
  (x a o e).stay (fun b u _ q=>k b u q) (fun _ q=>q) fun _ _ q=>q
theorem HOk.laid (x:HOk P w H h) (k:∀ b u,h.get? b = some u→h'.get? b = some u) (hp:h.objs.size ≤ a) (new:ObjOk P w (upd H a o) h' a o):HOk P w (upd H a o) h':=fun b u e=>by
  have hn:=x.fresh hp
  by_cases hb:b = a
  · subst hb; rw [upd_same] at e; cases e; exact new
  · rw [upd_ne hb] at e
    exact (x b u e).stay (fun c v _ q=>k c v q) (fun c q=>by rw [upd_ne (ne_of_none q hn)]; exact q) fun c xs q=>by rw [upd_ne (ne_of_none q hn)]; exact q
end
def Rd (H:Hp) (a:Addr) (u:HO):Prop:=H a = some u ∨ ∃ o,H a = some (.frz o u)
theorem Rd.ok {P:Program} {w:World} {H:Hp} {h:Heap} {a:Addr} {u:HO} (r:Rd H a u) (x:HOk P w H h):ObjOk P w H h a u:=by
  rcases r with r | ⟨o,r⟩
  · exact x a u r
  · obtain ⟨_,q⟩:=x a _ r
    exact q
def Mut:Option HO→Prop
  | some (.lst _)=>True
  | some (.dK _)=>True
  | some (.dT _)=>True
  | some (.set _ _)=>True
  | some (.ins _ _ _)=>True
  | some (.ext _)=>True
  | _=>False
section
variable {P:Program} {w:World} {H:Hp} {h h':Heap} {x e:Addr} {o':HO}
theorem HOk.write (ok:HOk P w H h) (mu:Mut (H x)) (he:e = x ∨ H e = some (.own x)) (k:∀ b u,b ≠ e→h.get? b = some u→h'.get? b = some u) (heo:∃ u,h'.get? e = some u)
    (new:ObjOk P w (upd H x o') h' x o'):HOk P w (upd H x o') h':=fun b u q=>by
  have nown:∀ c y,H c = some (.own y)→c ≠ x:=fun c y r z=>by subst z; rw [r] at mu; exact mu
  have ntup:∀ c xs,H c = some (.tup xs)→c ≠ x:=fun c xs r z=>by subst z; rw [r] at mu; exact mu
  by_cases hb:b = x
  · subst hb; rw [upd_same] at q; cases q; exact new
  · rw [upd_ne hb] at q
    by_cases hbe:b = e
    · have q':H b = some (.own x):=by
        rcases he with z | z
        · exact absurd (hbe.trans z) hb
        · rw [hbe]; exact z
      rw [q] at q'; cases q'
      obtain ⟨v,hv⟩:=heo
      exact ⟨v,by rw [hbe]; exact hv⟩
    · refine (ok b u q).stay (fun c v hc r=>k c v ?_ r) (fun c r=>by rw [upd_ne (nown c b r)]; exact r) fun c xs r=>by rw [upd_ne (ntup c xs r)]; exact r
      rcases hc with rfl | hc
      · exact hbe
      · rintro rfl
        rcases he with z | z
        · exact nown c b hc z
        · rw [hc] at z; cases z; exact hb rfl
end
structure Un (fs ex:List Addr) (H H':Hp) (h h':Heap):Prop where
  keep:∀ b o,h.get? b = some o→H b = none→b ∉ fs→b ∉ ex→h'.get? b = some o
  slot:∀ b o,h.get? b = some o→H b = none→b ∈ fs→b ∉ ex→∃ sl,h'.get? b = some { o with slots:=sl }
  free:∀ b o,h.get? b = some o→H b = none→b ∉ ex→H' b = none
  there:∀ b o,h.get? b = some o→b ∉ ex→∃ o',h'.get? b = some o'
  tups:∀ b xs,H b = some (.tup xs)→H' b = some (.tup xs)
  frzs:∀ b o u,H b = some (.frz o u)→H' b = some (.frz o u)
  tbls:∀ b ps,H b = some (.tbl ps)→∃ more,H' b = some (.tbl (ps ++ more))
section
variable {fs fs' ex ex':List Addr} {H H1 H2:Hp} {h h1 h2 h':Heap} {a x e:Addr} {o:HO}
theorem Un.any (u:Un fs ex H H1 h h1) {b:Addr} {ob:Obj} (q:h.get? b = some ob) (n:H b = none) (hx:b ∉ ex):∃ sl,h1.get? b = some { ob with slots:=sl }:=by
  by_cases hb:b ∈ fs
  · exact u.slot b ob q n hb hx
  · exact ⟨ob.slots,u.keep b ob q n hb hx⟩
theorem Un.kept (k:∀ b u,h.get? b = some u→h'.get? b = some u):Un fs ex H H h h':=
  ⟨fun b ob q _ _ _=>k b ob q,fun b ob q _ _ _=>⟨ob.slots,k b ob q⟩,fun _ _ _ n _=>n,fun b ob q _=>⟨ob,k b ob q⟩,fun _ _ q=>q,fun _ _ _ q=>q,fun _ ps q=>⟨#[],by rw [q]; simp⟩⟩
theorem Un.refl:Un fs ex H H h h:=Un.kept fun _ _ q=>q
theorem Un.laid (k:∀ b u,h.get? b = some u→h'.get? b = some u) (hp:h.objs.size ≤ a) (hn:H a = none):Un fs ex H (upd H a o) h h' where
  keep:=fun b u q _ _ _=>k b u q
  slot:=fun b u q _ _ _=>⟨u.slots,k b u q⟩
  free:=fun b u q n _=>by rw [upd_ne (Nat.ne_of_lt (Nat.lt_of_lt_of_le (Heap.lt_size q) hp))]; exact n
  there:=fun b u q _=>⟨u,k b u q⟩
  tups:=fun b xs q=>by rw [upd_ne (ne_of_none q hn)]; exact q
  frzs:=fun b u xs q=>by rw [upd_ne (ne_of_none q hn)]; exact q
  tbls:=fun b ps q=>⟨#[],by rw [upd_ne (ne_of_none q hn),q]; simp⟩
theorem Un.write (mu:Mut (H x)) (he:e = x ∨ H e = some (.own x)) (k:∀ b u,b ≠ e→h.get? b = some u→h'.get? b = some u) (heo:∃ u,h'.get? e = some u):Un fs ex H (upd H x o) h h':=by
  have hx:∀ b,H b = none→b ≠ x:=fun b n z=>by subst z; rw [n] at mu; exact mu
  have hb:∀ b,H b = none→b ≠ e:=fun b n z=>by
    subst z
    rcases he with r | r
    · exact hx b n r
    · rw [n] at r; cases r
  have hm:∀ b u,H b = some u→¬ Mut (some u)→b ≠ x:=fun b u q nm z=>by subst z; rw [q] at mu; exact nm mu
  refine ⟨fun b u q n _ _=>k b u (hb b n) q,fun b u q n _ _=>⟨u.slots,k b u (hb b n) q⟩,fun b u q n _=>by rw [upd_ne (hx b n)]; exact n,fun b u q _=>?_,
    fun b xs q=>by rw [upd_ne (hm b _ q fun z=>z)]; exact q,fun b u xs q=>by rw [upd_ne (hm b _ q fun z=>z)]; exact q,fun b ps q=>⟨#[],by rw [upd_ne (hm b _ q fun z=>z),q]; simp⟩⟩
  by_cases hbe:b = e
  · subst hbe; exact heo
  · exact ⟨u,k b u hbe q⟩
end
def trk (h:Heap) (H:Hp):List Addr:=(List.range h.objs.size).filter fun a=>(H a).isSome
def hidT (h:Heap) (H:Hp):Heap:=PySem.W.hideAll h (trk h H)
theorem hidT_size (h:Heap) (H:Hp):(hidT h H).objs.size = h.objs.size:=PySem.W.hideAll_size _ _
theorem hidT_get {h:Heap} {H:Hp} {b:Addr} {o:Obj} (e:h.get? b = some o) (n:H b = none):(hidT h H).get? b = some o:=
  PySem.W.hideAll_get _ e fun hm=>by
    have q:(H b).isSome = true:=(List.mem_filter.mp hm).2
    rw [n] at q; simp at q
theorem of_hidT {h:Heap} {H:Hp} {b:Addr} {o:Obj} (e:(hidT h H).get? b = some o):h.get? b = some o∧H b = none:=by
  have e':h.get? b = some o:=PySem.W.of_hideAll (trk h H) e
  refine ⟨e',?_⟩
  cases q:H b with
  | none=>rfl
  | some x=>
    have hm:b ∈ trk h H:=List.mem_filter.mpr ⟨List.mem_range.mpr (Heap.lt_size e'),by simp [q]⟩
    have z:(hidT h H).get? b = none:=PySem.W.hideAll_none (trk h H) hm
    rw [z] at e; cases e
structure Mod (K:PySem.W.Frag) (mg:Str→Option Value) (base:Heap):Prop where
  kin:K.In base
  glob:base.Ns mainGlobals mg
  blt:∃ mb,base.Ns builtinsNs mb∧∀ x:Str,x ≠ "__name__"→mb x = bootBuiltins x
  nolimit:base.NoLimit
structure Cx where
  prog:Program
  w:World
  K:PySem.W.Frag
  mg:Str→Option Value
  base:Heap
  A:Around
  N:List Str
  s₀:Shared
  H₀:Hp
  env:Env
  outer:List Env
  stack:List Env
  ex:List Addr
  fn:Str→Bool
  calm:Bool
  pn:List (Addr × Obj)
  xe:Value→Shared→Prop
def frs (l:List Env):List Addr:=l.filterMap (·.frame)
abbrev Cx.fs (X:Cx):List Addr:=frs X.outer
def Vis (sc:Scope) (x:Str):Prop:=sc.names.lookup x = some .local ∨ sc.names.lookup x = some .cell ∨ sc.names.lookup x = some .free
def Loc (sc:Scope) (x:Str):Prop:=sc.names.lookup x = some .local ∨ sc.names.lookup x = some .cell
def Look (env:Env) (h:Heap) (m:Str→Option Value) (x:Str) (u:Value):Prop:=
  (env.kindOf x = some .local∧m x = some u) ∨ ((env.kindOf x = some .cell ∨ env.kindOf x = some .free)∧∃ c,env.cells.lookup x = some c∧h.IsCell c (some u))
structure Cx.Ok (X:Cx):Prop where
  mod:Mod X.K X.mg X.base
  kind:X.env.scope.kind = .function
  glob:X.env.globals = mainGlobals
  blt:X.env.builtins = builtinsNs
  above:X.s₀.heap.objs.size ≤ X.env.locals
  inj:∀ x y c,X.env.cells.lookup x = some c→X.env.cells.lookup y = some c→x = y
  has:∀ x,(X.env.kindOf x = some .cell ∨ X.env.kindOf x = some .free)→∃ c,X.env.cells.lookup x = some c
  cab:∀ x c,X.fn x = true→X.env.cells.lookup x = some c→X.s₀.heap.objs.size ≤ c
  hd:X.calm = true→X.A.handled = none
  frames:X.A.frames = some X.stack
  stk:X.stack = X.outer ∨ (X.stack = X.env :: X.outer∧X.env.frame = some X.env.locals)
  exf:∀ b ∈ X.ex,b ≠ X.env.locals∧∀ x c,X.env.cells.lookup x = some c→c ≠ b
  bs:∀ b o,X.base.get? b = some o→X.s₀.heap.get? b = some o∧X.H₀ b = none
  bsz:X.base.objs.size ≤ X.s₀.heap.objs.size
  noex:∀ b o,X.base.get? b = some o→b ∉ X.ex
  exfs:∀ b ∈ X.ex,b ∉ X.fs
  funs:X.s₀.heap.FunFrames X.base X.outer
  frf:∀ b ∈ X.fs,X.H₀ b = none
structure Inv (X:Cx) (pins:List (Addr × Obj)) (σ:List (Option V)) (H:Hp) (s:Shared):Prop where
  ok:X.Ok
  os:s.os = X.s₀.os
  bare:AllBare s.gens
  base:Un X.fs X.ex X.H₀ H X.s₀.heap s.heap
  loc:∃ m,s.heap.Ns X.env.locals m∧∀ (i:Nat) (x:Str) (v:V),X.N[i]? = some x→σ[i]? = some (some v)→Vis X.env.scope x→∃ u,RelV v u∧Look X.env s.heap m x u
  cell:∀ x c,X.env.cells.lookup x = some c→∃ v,s.heap.IsCell c v
  free:H X.env.locals = none
  freeC:∀ x c,X.env.cells.lookup x = some c→H c = none
  pin:∀ p ∈ X.pn ++ pins,s.heap.get? p.1 = some p.2∧H p.1 = none∧p.1 ≠ X.env.locals∧p.1 ∉ X.fs∧∀ v,p.2.data ≠ .cell v
  hok:HOk X.prog X.w H s.heap
  len:σ.length = X.N.length
section
variable {X:Cx} {pins:List (Addr × Obj)} {σ:List (Option V)} {H H':Hp} {s:Shared} {h':Heap}
theorem Cx.Ok.nofr (ok:X.Ok) {b:Addr} {o:Obj} (e:X.base.get? b = some o):b ∉ X.fs:=fun hb=>by
  have:=(ok.funs.mem hb).1
  rw [e] at this; cases this
theorem Inv.bs (I:Inv X pins σ H s):∀ b o,X.base.get? b = some o→s.heap.get? b = some o∧H b = none:=fun b o e=>
  ⟨I.base.keep b o (I.ok.bs b o e).1 (I.ok.bs b o e).2 (I.ok.nofr e) (I.ok.noex b o e),I.base.free b o (I.ok.bs b o e).1 (I.ok.bs b o e).2 (I.ok.noex b o e)⟩
theorem Inv.bk (I:Inv X pins σ H s):∀ b o,X.base.get? b = some o→s.heap.get? b = some o:=fun b o e=>(I.bs b o e).1
theorem Inv.mod (I:Inv X pins σ H s):Mod X.K X.mg X.base:=I.ok.mod
theorem Inv.kIn (I:Inv X pins σ H s):X.K.In s.heap:=I.ok.mod.kin.keeps I.bk
theorem Inv.lt (I:Inv X pins σ H s):X.env.locals < s.heap.objs.size:=let ⟨_,hn,_⟩:=I.loc; hn.lt
theorem Inv.sz (I:Inv X pins σ H s):X.s₀.heap.objs.size ≤ s.heap.objs.size:=Nat.le_trans I.ok.above (Nat.le_of_lt I.lt)
theorem Inv.nofs (I:Inv X pins σ H s) {a:Addr} (h:s.heap.objs.size ≤ a):a ∉ X.fs:=fun hb=>by
  obtain ⟨_,o,ho,_⟩:=I.ok.funs.mem hb
  exact absurd (Nat.lt_of_lt_of_le (Heap.lt_size ho) (Nat.le_trans I.sz h)) (Nat.lt_irrefl _)
theorem Inv.cne (I:Inv X pins σ H s):∀ x c,X.env.cells.lookup x = some c→c ≠ X.env.locals:=fun x c e z=>by
  obtain ⟨v,o,ho,hd⟩:=I.cell x c e
  obtain ⟨m,⟨o',es,ep,ho',hd',_⟩,_⟩:=I.loc
  rw [z,ho'] at ho; cases ho; rw [hd'] at hd; cases hd
theorem Inv.funs (I:Inv X pins σ H s):s.heap.FunFrames X.base X.outer:=by
  have all:∀ (l:List Env),(∀ b ∈ frs l,b ∈ X.fs)→X.s₀.heap.FunFrames X.base l→s.heap.FunFrames X.base l:=by
    intro l
    induction l with
    | nil=>intro _ _; trivial
    | cons env r ih=>
      intro hs hl
      obtain ⟨hk,⟨L,o,hf,hn,ho,hd⟩,hr⟩:=hl
      have hL:L ∈ X.fs:=hs L (by unfold frs; rw [List.filterMap_cons,hf]; exact List.mem_cons_self)
      obtain ⟨sl,e⟩:=I.base.slot L o ho (I.ok.frf L hL) hL fun z=>I.ok.exfs L z hL
      exact ⟨hk,⟨L,_,hf,hn,e,hd⟩,ih (fun b hb=>hs b (by unfold frs; rw [List.filterMap_cons,hf]; exact List.mem_cons_of_mem _ hb)) hr⟩
  exact all X.outer (fun _ hb=>hb) I.ok.funs
theorem Inv.stack (I:Inv X pins σ H s):s.heap.FunFrames X.base X.stack:=by
  rcases I.ok.stk with e | ⟨e,hf⟩
  · rw [e]; exact I.funs
  · rw [e]
    obtain ⟨m,hn,_⟩:=I.loc
    refine .cons (by rw [I.ok.kind]; decide) hf hn ?_ I.funs
    exact Heap.get?_none_of_le (Nat.le_trans I.ok.bsz I.ok.above)
theorem Inv.stkSub (I:Inv X pins σ H s):∀ b ∈ frs X.stack,b ∈ X.env.locals :: X.fs:=fun b hb=>by
  rcases I.ok.stk with e | ⟨e,hf⟩
  · rw [e] at hb; exact List.mem_cons_of_mem _ hb
  · rw [e] at hb
    unfold frs at hb
    rw [List.filterMap_cons,hf] at hb
    exact hb
theorem Inv.stkFree (I:Inv X pins σ H s):∀ b ∈ frs X.stack,H b = none:=fun b hb=>by
  rcases List.mem_cons.mp (I.stkSub b hb) with e | hb
  · rw [e]; exact I.free
  · obtain ⟨_,o,ho,_⟩:=I.ok.funs.mem hb
    exact I.base.free b o ho (I.ok.frf b hb) fun z=>I.ok.exfs b z hb
theorem Inv.step {g':Array GenState} {t':Nat} {d':Drawn} {ch:List Addr} (I:Inv X pins σ H s)
    (hch:∀ b ∈ ch,(b ∈ X.ex ∨ X.s₀.heap.objs.size ≤ b)∧b ≠ X.env.locals∧(∀ x c,X.env.cells.lookup x = some c→c ≠ b)∧∀ p ∈ X.pn ++ pins,p.1 ≠ b)
    (keep:∀ b o,b ≠ X.env.locals→b ∉ X.fs→b ∉ ch→s.heap.get? b = some o→H b = none→h'.get? b = some o)
    (slot:∀ b o,b ≠ X.env.locals→b ∈ X.fs→b ∉ ch→s.heap.get? b = some o→H b = none→∃ sl,h'.get? b = some { o with slots:=sl }) (free:∀ b o,b ∉ ch→s.heap.get? b = some o→H b = none→H' b = none)
    (there:∀ b o,b ∉ ch→s.heap.get? b = some o→∃ o',h'.get? b = some o')
    (tups:∀ b xs,H b = some (.tup xs)→H' b = some (.tup xs)) (frzs:∀ b o u,H b = some (.frz o u)→H' b = some (.frz o u)) (tbls:∀ b ps,H b = some (.tbl ps)→∃ more,H' b = some (.tbl (ps ++ more)))
    (ns:∀ m,s.heap.Ns X.env.locals m→h'.Ns X.env.locals m) (hok:HOk X.prog X.w H' h') (hg:AllBare g') :
    Inv X pins σ H' { s with heap:=h',gens:=g',drawn:=d',toks:=t' }:=by
  have neL:∀ b o,X.s₀.heap.get? b = some o→b ≠ X.env.locals:=fun b o e=>Nat.ne_of_lt (Nat.lt_of_lt_of_le (Heap.lt_size e) I.ok.above)
  have neC:∀ b o,X.s₀.heap.get? b = some o→b ∉ X.ex→b ∉ ch:=fun b o e hx hb=>by
    rcases (hch b hb).1 with z | z
    · exact hx z
    · exact absurd (Nat.lt_of_lt_of_le (Heap.lt_size e) z) (Nat.lt_irrefl _)
  have cellK:∀ x c,X.env.cells.lookup x = some c→∀ v,s.heap.IsCell c v→h'.IsCell c v:=fun x c e v ⟨o,ho,hd⟩=>by
    have nch:c ∉ ch:=fun z=>(hch c z).2.2.1 x c e rfl
    by_cases hc:c ∈ X.fs
    · obtain ⟨sl,q⟩:=slot c o (I.cne x c e) hc nch ho (I.freeC x c e)
      exact ⟨_,q,hd⟩
    · exact ⟨o,keep c o (I.cne x c e) hc nch ho (I.freeC x c e),hd⟩
  refine ⟨I.ok,I.os,hg,⟨fun b o e n hb hx=>?_,fun b o e n hb hx=>?_,fun b o e n hx=>?_,fun b o e hx=>?_,fun b xs e=>tups b xs (I.base.tups b xs e),fun b o xs e=>frzs b o xs (I.base.frzs b o xs e),fun b ps e=>?_⟩,?_,fun x c e=>?_,?_,fun x c e=>?_,fun p hp=>?_,hok,I.len⟩
  · exact keep b o (neL b o e) hb (neC b o e hx) (I.base.keep b o e n hb hx) (I.base.free b o e n hx)
  · obtain ⟨sl,e1⟩:=I.base.slot b o e n hb hx
    obtain ⟨sl',e2⟩:=slot b _ (neL b o e) hb (neC b o e hx) e1 (I.base.free b o e n hx)
    exact ⟨sl',e2⟩
  · obtain ⟨o',e1⟩:=I.base.there b o e hx
    exact free b o' (neC b o e hx) e1 (I.base.free b o e n hx)
  · obtain ⟨o',e1⟩:=I.base.there b o e hx
    exact there b o' (neC b o e hx) e1
  · obtain ⟨m1,e1⟩:=I.base.tbls b ps e
    obtain ⟨m2,e2⟩:=tbls b _ e1
    exact ⟨m1 ++ m2,by rw [e2,Array.append_assoc]⟩
  · obtain ⟨m,hn,hl⟩:=I.loc
    refine ⟨m,ns m hn,fun i x v e1 e2 e3=>?_⟩
    obtain ⟨u,r,l⟩:=hl i x v e1 e2 e3
    refine ⟨u,r,?_⟩
    rcases l with l | ⟨k,c,e,z⟩
    · exact .inl l
    · exact .inr ⟨k,c,e,cellK x c e _ z⟩
  · obtain ⟨v,z⟩:=I.cell x c e
    exact ⟨v,cellK x c e v z⟩
  · obtain ⟨m,⟨o,_,_,ho,_⟩,_⟩:=I.loc
    exact free _ o (fun z=>(hch _ z).2.1 rfl) ho I.free
  · obtain ⟨v,o,ho,hd⟩:=I.cell x c e
    exact free c o (fun z=>(hch c z).2.2.1 x c e rfl) ho (I.freeC x c e)
  · obtain ⟨e,n,ne,nf,d⟩:=I.pin p hp
    have nch:p.1 ∉ ch:=fun z=>(hch p.1 z).2.2.2 p hp rfl
    exact ⟨keep p.1 p.2 ne nf nch e n,free p.1 p.2 nch e n,ne,nf,d⟩
theorem Inv.un {t':Nat} (I:Inv X pins σ H s) (u:Un X.fs [] H H' s.heap h') (hok:HOk X.prog X.w H' h'):Inv X pins σ H' { s with heap:=h',toks:=t' }:=by
  obtain ⟨m,⟨o,es,ep,ho,r⟩,_⟩:=id I.loc
  obtain ⟨sl,hL⟩:=u.any ho I.free (by simp)
  exact I.step (g':=s.gens) (d':=s.drawn) (ch:=[]) (fun _ z=>nomatch z) (fun b o _ hb _ e n=>u.keep b o e n hb (by simp)) (fun b o _ hb _ e n=>u.slot b o e n hb (by simp)) (fun b o _ e n=>u.free b o e n (by simp)) (fun b o _ e=>u.there b o e (by simp)) u.tups u.frzs u.tbls (fun m' hm=>by
    obtain ⟨o',es',ep',ho',r'⟩:=hm
    rw [ho] at ho'; cases ho'
    exact ⟨_,es',ep',hL,r'⟩) hok I.bare
theorem Inv.call {g':Array GenState} {t':Nat} {d':Drawn} {ch:List Addr} (I:Inv X pins σ H s) (u:Un (frs X.stack) ch H H' s.heap h') (hok:HOk X.prog X.w H' h') (hg:AllBare g')
    (hch:∀ b ∈ ch,(b ∈ X.ex ∨ X.s₀.heap.objs.size ≤ b)∧b ≠ X.env.locals∧(∀ x c,X.env.cells.lookup x = some c→c ≠ b)∧∀ p ∈ X.pn ++ pins,p.1 ≠ b) :
    Inv X pins σ H' { s with heap:=h',gens:=g',drawn:=d',toks:=t' }:=by
  obtain ⟨m,⟨o,es,ep,ho,r⟩,_⟩:=id I.loc
  obtain ⟨sl,hL⟩:=u.any ho I.free fun z=>(hch _ z).2.1 rfl
  exact I.step (ch:=ch) hch (fun b o hL hb hc e n=>u.keep b o e n (fun z=>(List.mem_cons.mp (I.stkSub b z)).elim hL hb) hc) (fun b o _ _ hc e n=>u.any e n hc) (fun b o hc e n=>u.free b o e n hc) (fun b o hc e=>u.there b o e hc) u.tups u.frzs u.tbls (fun m' hm=>by
    obtain ⟨o',es',ep',ho',r'⟩:=hm
    rw [ho] at ho'; cases ho'
    exact ⟨_,es',ep',hL,r'⟩) hok hg
theorem Inv.turned {t':Nat} {it:Addr} (I:Inv X pins σ H s) (k:∀ b o,b ≠ it→s.heap.get? b = some o→h'.get? b = some o) (hn:H it = none) (hL:it ≠ X.env.locals)
    (h1:it ∈ X.ex ∨ X.s₀.heap.objs.size ≤ it) (h2:∀ x c,X.env.cells.lookup x = some c→c ≠ it) (h3:∀ p ∈ X.pn ++ pins,p.1 ≠ it):Inv X pins σ H { s with heap:=h',toks:=t' }:=by
  have nit:∀ b u,H b = some u→b ≠ it:=fun b u e z=>by rw [z,hn] at e; cases e
  refine I.step (g':=s.gens) (d':=s.drawn) (ch:=[it]) (fun b hb=>?_) (fun b o _ _ hc e _=>k b o (fun z=>hc (by simp [z])) e) (fun b o _ _ hc e _=>⟨o.slots,k b o (fun z=>hc (by simp [z])) e⟩) (fun _ _ _ _ n=>n)
    (fun b o hc e=>⟨o,k b o (fun z=>hc (by simp [z])) e⟩) (fun _ _ e=>e) (fun _ _ _ e=>e) (fun b ps e=>⟨#[],by rw [e]; simp⟩) (fun m hm=>?_) (fun b u e=>?_) I.bare
  · have e:b = it:=by simpa using hb
    subst e
    exact ⟨h1,hL,h2,h3⟩
  · obtain ⟨o,es,ep,ho,r⟩:=hm
    exact ⟨o,es,ep,k _ o (Ne.symm hL) ho,r⟩
  · refine (I.hok b u e).stay (fun c v hc q=>k c v ?_ q) (fun _ q=>q) fun _ _ q=>q
    rcases hc with z | z
    · rw [z]; exact nit b u e
    · exact nit c _ z
theorem Inv.tok (I:Inv X pins σ H s) (t:Nat):Inv X pins σ H { s with toks:=t }:=I.un (h':=s.heap) (t':=t) Un.refl I.hok
theorem Inv.kept {t':Nat} (I:Inv X pins σ H s) (k:∀ b u,s.heap.get? b = some u→h'.get? b = some u):Inv X pins σ H { s with heap:=h',toks:=t' }:=I.un (Un.kept k) (I.hok.kept k)
theorem Inv.laid {a:Addr} {o:HO} {t':Nat} (I:Inv X pins σ H s) (k:∀ b u,s.heap.get? b = some u→h'.get? b = some u) (hp:s.heap.objs.size ≤ a) (new:ObjOk X.prog X.w (upd H a o) h' a o) :
    Inv X pins σ (upd H a o) { s with heap:=h',toks:=t' }:=I.un (Un.laid k hp (I.hok.fresh hp)) (I.hok.laid k hp new)
theorem Inv.write {x e:Addr} {o:HO} {t':Nat} (I:Inv X pins σ H s) (mu:Mut (H x)) (he:e = x ∨ H e = some (.own x)) (k:∀ b u,b ≠ e→s.heap.get? b = some u→h'.get? b = some u) (heo:∃ u,h'.get? e = some u)
    (new:ObjOk X.prog X.w (upd H x o) h' x o):Inv X pins σ (upd H x o) { s with heap:=h',toks:=t' }:=I.un (Un.write mu he k heo) (I.hok.write mu he k heo new)
theorem Inv.weak {σ':List (Option V)} (I:Inv X pins σ H s) (hl:σ'.length = σ.length) (w:∀ (i:Nat) v,σ'[i]? = some (some v)→σ[i]? = some (some v)):Inv X pins σ' H s:=
  ⟨I.ok,I.os,I.bare,I.base,let ⟨m,hn,hl'⟩:=I.loc; ⟨m,hn,fun i x v e1 e2 e3=>hl' i x v e1 (w i v e2) e3⟩,I.cell,I.free,I.freeC,I.pin,I.hok,hl.trans I.len⟩
theorem Inv.pins_of {pins':List (Addr × Obj)} (I:Inv X pins σ H s) (h:∀ p ∈ pins',s.heap.get? p.1 = some p.2∧H p.1 = none∧p.1 ≠ X.env.locals∧p.1 ∉ X.fs∧∀ v,p.2.data ≠ .cell v):Inv X pins' σ H s:=
  ⟨I.ok,I.os,I.bare,I.base,I.loc,I.cell,I.free,I.freeC,fun p hp=>(List.mem_append.mp hp).elim (fun z=>I.pin p (List.mem_append_left _ z)) (h p),I.hok,I.len⟩
theorem nodup_ix {N:List Str} (hN:N.Nodup) {i j:Nat} {x:Str} (a:N[i]? = some x) (b:N[j]? = some x):i = j:=by
  obtain ⟨h1,e1⟩:=List.getElem?_eq_some_iff.mp a
  obtain ⟨h2,e2⟩:=List.getElem?_eq_some_iff.mp b
  exact (List.getElem_inj hN).mp (e1.trans e2.symm)
theorem store_ok2 {M:Model} {A:Around} {E:Value→Shared→Prop} {i:Nat} {x:Str} {v:V} {u:Value} {Q:Unit→Shared→Prop} (I:Inv X pins σ H s) (hN:X.N.Nodup) (hi:X.N[i]? = some x) (hx:Loc X.env.scope x) (r:RelV v u)
    (h:∀ s',Inv X pins (σ.set i (some v)) H s'→(∃ a,Heap.SameBut a s.heap s'.heap∧(a = X.env.locals ∨ X.env.cells.lookup x = some a))→Q () s') (hf:X.fn x = true ∨ X.env.scope.names.lookup x = some .local:=by first | exact .inl rfl | exact .inr rfl | assumption):wpAny M A (storeName X.env x u) Q E s:=by
  obtain ⟨m,hn,hl⟩:=id I.loc
  have hcls:(X.env.scope.kind == .class || (X.env.scope.kind == .module && X.env.locals != X.env.globals)) = false:=by rw [I.ok.kind]; rfl
  have hiσ:i < σ.length:=by rw [I.len]; exact (List.getElem?_eq_some_iff.mp hi).1
  have cne:=I.cne
  have tracked:∀ {a:Addr} {h':Heap},(∃ o,s.heap.get? a = some o∧H a = none)→Heap.SameBut a s.heap h'→HOk X.prog X.w H h':=fun {a h'} ha hs b ob e=>by
    obtain ⟨_,_,hfree⟩:=ha
    refine (I.hok b ob e).stay (fun c w' hc q=>(hs.2 c ?_).trans q) (fun _ q=>q) fun _ _ q=>q
    rintro rfl
    rcases hc with rfl | hc
    · rw [hfree] at e; cases e
    · rw [hfree] at hc; cases hc
  rcases hx with hk | hk
  · refine wpAny_storeName_local hk hn (fun h' hn' hs=>?_) hcls
    obtain ⟨oL,_,_,hoL,_⟩:=id hn
    refine h _ ⟨I.ok,I.os,I.bare,⟨fun b o e n hb hx=>?_,fun b o e n hb hx=>?_,I.base.free,fun b o e hx=>?_,I.base.tups,I.base.frzs,I.base.tbls⟩,⟨_,hn',fun j y v' e1 e2 e3=>?_⟩,fun y c e=>?_,I.free,I.freeC,fun p hp=>?_,tracked ⟨oL,hoL,I.free⟩ hs,by simpa using I.len⟩ ⟨_,hs,.inl rfl⟩
    · exact (hs.2 b (Nat.ne_of_lt (Nat.lt_of_lt_of_le (Heap.lt_size e) I.ok.above))).trans (I.base.keep b o e n hb hx)
    · obtain ⟨sl,e1⟩:=I.base.slot b o e n hb hx
      exact ⟨sl,(hs.2 b (Nat.ne_of_lt (Nat.lt_of_lt_of_le (Heap.lt_size e) I.ok.above))).trans e1⟩
    · obtain ⟨o',e1⟩:=I.base.there b o e hx
      exact ⟨o',(hs.2 b (Nat.ne_of_lt (Nat.lt_of_lt_of_le (Heap.lt_size e) I.ok.above))).trans e1⟩
    · by_cases hj:j = i
      · subst hj
        rw [hi] at e1; cases e1
        rw [List.getElem?_set_self hiσ] at e2
        cases e2
        exact ⟨u,r,.inl ⟨hk,by simp⟩⟩
      · rw [List.getElem?_set_ne (Ne.symm hj)] at e2
        obtain ⟨u',r',q⟩:=hl j y v' e1 e2 e3
        refine ⟨u',r',?_⟩
        rcases q with ⟨k,e⟩ | ⟨k,c,e,z⟩
        · refine .inl ⟨k,?_⟩
          have:y ≠ x:=fun e=>hj (nodup_ix hN e1 (e ▸ hi))
          simp [this,e]
        · exact .inr ⟨k,c,e,z.sameBut hs (cne y c e)⟩
    · obtain ⟨w',z⟩:=I.cell y c e
      exact ⟨w',z.sameBut hs (cne y c e)⟩
    · obtain ⟨e,n,ne,nf,d⟩:=I.pin p hp
      exact ⟨(hs.2 p.1 ne).trans e,n,ne,nf,d⟩
  · have hfn:X.fn x = true:=by
      rcases hf with z | z
      · exact z
      · rw [z] at hk; cases hk
    obtain ⟨c,hc⟩:=I.ok.has x (.inl hk)
    obtain ⟨w',z⟩:=I.cell x c hc
    refine wpAny_storeName_cell I.ok.kind hk hc z (fun h' hc' hs=>?_)
    obtain ⟨oc,hoc,hocd⟩:=id z
    refine h { s with heap:=h' } ⟨I.ok,I.os,I.bare,⟨fun b o e n hb hx=>?_,fun b o e n hb hx=>?_,I.base.free,fun b o e hx=>?_,I.base.tups,I.base.frzs,I.base.tbls⟩,⟨m,hn.sameBut hs (Ne.symm (cne x c hc)),fun j y v' e1 e2 e3=>?_⟩,fun y c' e=>?_,I.free,I.freeC,fun p hp=>?_,tracked ⟨oc,hoc,I.freeC x c hc⟩ hs,by simpa using I.len⟩ ⟨c,hs,.inr hc⟩
    · exact (hs.2 b (Nat.ne_of_lt (Nat.lt_of_lt_of_le (Heap.lt_size e) (I.ok.cab x c hfn hc)))).trans (I.base.keep b o e n hb hx)
    · obtain ⟨sl,e1⟩:=I.base.slot b o e n hb hx
      exact ⟨sl,(hs.2 b (Nat.ne_of_lt (Nat.lt_of_lt_of_le (Heap.lt_size e) (I.ok.cab x c hfn hc)))).trans e1⟩
    · obtain ⟨o',e1⟩:=I.base.there b o e hx
      exact ⟨o',(hs.2 b (Nat.ne_of_lt (Nat.lt_of_lt_of_le (Heap.lt_size e) (I.ok.cab x c hfn hc)))).trans e1⟩
    · by_cases hj:j = i
      · subst hj
        rw [hi] at e1; cases e1
        rw [List.getElem?_set_self hiσ] at e2
        cases e2
        exact ⟨u,r,.inr ⟨.inl hk,c,hc,hc'⟩⟩
      · rw [List.getElem?_set_ne (Ne.symm hj)] at e2
        obtain ⟨u',r',q⟩:=hl j y v' e1 e2 e3
        refine ⟨u',r',?_⟩
        rcases q with q | ⟨k,c',e,z'⟩
        · exact .inl q
        · refine .inr ⟨k,c',e,z'.sameBut hs ?_⟩
          rintro rfl
          exact hj (nodup_ix hN e1 (I.ok.inj _ _ _ e hc ▸ hi))
    · by_cases hcc:c' = c
      · subst hcc; exact ⟨_,hc'⟩
      · obtain ⟨w2,z2⟩:=I.cell y c' e
        exact ⟨w2,z2.sameBut hs hcc⟩
    · obtain ⟨e,n,ne,nf,d⟩:=I.pin p hp
      refine ⟨(hs.2 p.1 ?_).trans e,n,ne,nf,d⟩
      intro q
      rw [q,hoc] at e
      have q':oc = p.2:=Option.some.inj e
      exact d w' (by rw [← q']; exact hocd)
theorem store_ok {M:Model} {A:Around} {E:Value→Shared→Prop} {i:Nat} {x:Str} {v:V} {u:Value} {Q:Unit→Shared→Prop} (I:Inv X pins σ H s) (hN:X.N.Nodup) (hi:X.N[i]? = some x) (hx:Loc X.env.scope x) (r:RelV v u)
    (h:∀ s',Inv X pins (σ.set i (some v)) H s'→Q () s') (hf:X.fn x = true ∨ X.env.scope.names.lookup x = some .local:=by first | exact .inl rfl | exact .inr rfl | assumption):wpAny M A (storeName X.env x u) Q E s:=
  store_ok2 I hN hi hx r (fun s' I' _=>h s' I') hf
theorem Inv.call' {s':Shared} {ch:List Addr} (I:Inv X pins σ H s) (ho:s'.os = s.os) (u:Un (frs X.stack) ch H H' s.heap s'.heap) (hok:HOk X.prog X.w H' s'.heap) (hg:AllBare s'.gens)
    (hch:∀ b ∈ ch,(b ∈ X.ex ∨ X.s₀.heap.objs.size ≤ b)∧b ≠ X.env.locals∧(∀ x c,X.env.cells.lookup x = some c→c ≠ b)∧∀ p ∈ X.pn ++ pins,p.1 ≠ b):Inv X pins σ H' s':=by
  obtain ⟨h',g',d',t',o'⟩:=s'
  have e:o' = s.os:=ho
  subst e
  exact I.call (g':=g') (t':=t') (d':=d') u hok hg hch
end
abbrev XK:=Value→Option Addr→Hp→Prop
abbrev St:=List (Option V)
abbrev VK:=V→Hp→Prop
abbrev TE:=St→Hp→VK→Prop
abbrev TT:=St→Hp→(Bool→Hp→Prop)→Prop
abbrev TA:=St→Hp→(List V→Hp→Prop)→Prop
structure Ends where
  nx:St→Hp→Prop
  rt:VK
  bk:St→Hp→Prop:=fun _ _=>False
  ct:St→Hp→Prop:=fun _ _=>False
abbrev TS:=Ends→St→Hp→Prop
def EP (X:Cx) (pins:List (Addr × Obj)) (σ:St) (Q:VK) (u:Value) (s':Shared):Prop:=∃ v H',Inv X pins σ H' s'∧RelV v u∧Q v H'
def TP (X:Cx) (pins:List (Addr × Obj)) (σ:St) (Q:Bool→Hp→Prop) (b:Bool) (s':Shared):Prop:=∃ H',Inv X pins σ H' s'∧Q b H'
def AP (X:Cx) (pins:List (Addr × Obj)) (σ:St) (Q:List V→Hp→Prop) (us:List Value) (s':Shared):Prop:=∃ vs H',Inv X pins σ H' s'∧Vals vs us∧Q vs H'
def SP (X:Cx) (pins:List (Addr × Obj)) (D:Ends) (f:Flow) (s':Shared):Prop:=
  match f with
  | .next=>∃ σ' H',Inv X pins σ' H' s'∧D.nx σ' H'
  | .brk=>∃ σ' H',Inv X pins σ' H' s'∧D.bk σ' H'
  | .cont=>∃ σ' H',Inv X pins σ' H' s'∧D.ct σ' H'
  | .ret u=>∃ v σ' H',Inv X pins σ' H' s'∧RelV v u∧D.rt v H'
def PE (X:Cx) (e:Expr) (t:TE):Prop:=
  ∀ (pins:List (Addr × Obj)) (s:Shared) (σ:St) (H:Hp) (Q:VK),Inv X pins σ H s→t σ H Q→wpAny (model X.prog X.w) X.A (eval e X.env) (EP X pins σ Q) X.xe s
def PT (X:Cx) (e:Expr) (t:TT):Prop:=
  ∀ (pins:List (Addr × Obj)) (s:Shared) (σ:St) (H:Hp) (Q:Bool→Hp→Prop),Inv X pins σ H s→t σ H Q→wpAny (model X.prog X.w) X.A (isTrue e X.env (eval e X.env)) (TP X pins σ Q) X.xe s
def PW (X:Cx) (e:Expr) (t:TT):Prop:=
  ∀ (whole:Sem Value) (pins:List (Addr × Obj)) (s:Shared) (σ:St) (H:Hp) (Q:Bool→Hp→Prop),Inv X pins σ H s→t σ H Q→wpAny (model X.prog X.w) X.A (isTrue e X.env whole) (TP X pins σ Q) X.xe s
theorem PW.pt {X:Cx} {e:Expr} {t:TT} (h:PW X e t):PT X e t:=h _
def PA (X:Cx) (es:List Expr) (t:TA):Prop:=
  ∀ (pos:Pos) (pins:List (Addr × Obj)) (s:Shared) (σ:St) (H:Hp) (Q:List V→Hp→Prop),Inv X pins σ H s→t σ H Q→wpAny (model X.prog X.w) X.A (spliced (backTo pos (starEach es X.env))) (AP X pins σ Q) X.xe s
def PS (X:Cx) (st:Stmt) (t:TS):Prop:=
  ∀ (pins:List (Addr × Obj)) (s:Shared) (σ:St) (H:Hp) (D:Ends),Inv X pins σ H s→t D σ H→wpAny (model X.prog X.w) X.A (exec st X.env) (SP X pins D) X.xe s
def PSs (X:Cx) (st:List Stmt) (t:TS):Prop:=
  ∀ (pins:List (Addr × Obj)) (s:Shared) (σ:St) (H:Hp) (D:Ends),Inv X pins σ H s→t D σ H→wpAny (model X.prog X.w) X.A (execs st X.env) (SP X pins D) X.xe s
theorem thn {α:Type} {t:Sem α} {Q Q':α→Shared→Prop} {M:Model} {A:Around} {E:Value→Shared→Prop} {s:Shared} (h:wpAny M A t Q E s) (hQ:∀ a s,Q a s→Q' a s):wpAny M A t Q' E s:=wpAny_mono h hQ fun _ _ x=>x
section
variable {X:Cx}
def varK:Option (Option V)→Hp→VK→Prop | some (some v),H,Q=>Q v H | _,_,_=>False
theorem varK_some {v:V} {H:Hp} {Q:VK}:varK (some (some v)) H Q = Q v H:=rfl
theorem varK_ex {o:Option (Option V)} {H:Hp} {Q:VK} (h:varK o H Q):∃ v,o = some (some v)∧Q v H:=by
  cases o with
  | none=>cases h
  | some o=>cases o with
    | none=>cases h
    | some v=>exact ⟨v,rfl,h⟩
def blK:V→(Bool→Prop)→Prop | .bl k,P=>P k | _,_=>False
theorem blK_bl {k:Bool} {P:Bool→Prop}:blK (.bl k) P = P k:=rfl
theorem blK_ex {x:V} {P:Bool→Prop} (h:blK x P):∃ k,x = .bl k∧P k:=by cases x with
  | bl k=>exact ⟨k,rfl,h⟩
  | _=>cases h
def intK:V→(Int→Prop)→Prop | .int k,P=>P k | _,_=>False
theorem intK_int {k:Int} {P:Int→Prop}:intK (.int k) P = P k:=rfl
theorem intK_ex {x:V} {P:Int→Prop} (h:intK x P):∃ k,x = .int k∧P k:=by cases x with
  | int k=>exact ⟨k,rfl,h⟩
  | _=>cases h
theorem bK {k:Bool} {P:Bool→Prop} (h:P k):blK (.bl k) P:=h
theorem kK {k:Int} {P:Int→Prop} (h:P k):intK (.int k) P:=h
def tVar (i:Nat):TE:=fun σ H Q=>varK σ[i]? H Q
def tC (v:V):TE:=fun _ H Q=>Q v H
theorem pe_var {i : Nat} {x : Str} {pos : Pos} (hN : X.N[i]? = some x) (hv : Vis X.env.scope x) (hd : (x == ("__debug__" : Str)) = false := by decide) (hcd : (x == ("__classdict__" : Str)) = false := by decide) : PE X (.Name x pos) (tVar i) := by
  intro pins s σ H Q I h
  obtain ⟨v,e,h⟩:=varK_ex h
  obtain ⟨m,hn,hl⟩:=I.loc
  obtain ⟨u,r,l⟩:=hl i x v hN e hv
  have fin:EP X pins σ Q u s:=⟨v,H,I,r,h⟩
  rcases l with ⟨hk,hm⟩ | ⟨hk,c,hc,hcell⟩
  · exact wpAny_Name (wpAny_loadName_local I.ok.kind hk hn hm fin) hd
  · rcases hk with hk | hk
    · exact wpAny_Name (wpAny_loadName_cell I.ok.kind hk hc hcell fin) hd
    · exact wpAny_Name (wpAny_loadName_free I.ok.kind hk hc hcell fin hcd) hd
theorem pe_int {i j pos}:PE X (.Constant (.int i) j pos) (tC (.int i)):=fun _ _ _ H _ I h=>wpAny_Constant_int ⟨.int i,H,I.tok _,⟨_,rfl⟩,h⟩
theorem pe_bl {b j pos}:PE X (.Constant (.bool b) j pos) (tC (.bl b)):=fun _ _ _ H _ I h=>Constant_bool ⟨.bl b,H,I,rfl,h⟩
theorem pe_non {j pos}:PE X (.Constant .none j pos) (tC .non):=fun _ _ _ H _ I h=>Constant_none ⟨.non,H,I,rfl,h⟩
theorem pe_str {x j pos}:PE X (.Constant (.str x) j pos) (tC (.str x)):=fun _ _ _ H _ I h=>Calls.Constant_str ⟨.str x,H,I.tok _,⟨_,rfl⟩,h⟩
def Gl (X:Cx) (x:Str):Prop:=X.env.kindOf x = some .globalImplicit
theorem ld_glob {E:Value→Shared→Prop} {pins:List (Addr × Obj)} {s:Shared} {σ:St} {H:Hp} {x:Str} {u:Value} {pos:Pos} {Q:Value→Shared→Prop} (I:Inv X pins σ H s) (hg:Gl X x) (hm:X.mg x = some u) (h:Q u s)
    (hd:(x == ("__debug__":Str)) = false:=by decide):wpAny (model X.prog X.w) X.A (eval (.Name x pos) X.env) Q E s:=
  Calls.Name_function_global I.ok.kind hg (Calls.loadGlobal_global (by rw [I.ok.glob]; exact I.mod.glob.keeps I.bk) hm h) hd
theorem ld_blt {E:Value→Shared→Prop} {pins:List (Addr × Obj)} {s:Shared} {σ:St} {H:Hp} {x:Str} {u:Value} {pos:Pos} {Q:Value→Shared→Prop} (I:Inv X pins σ H s) (hg:Gl X x) (hm:X.mg x = none) (hv:bootBuiltins x = some u) (h:Q u s)
    (hn : x ≠ "__name__" := by decide) (hd : (x == ("__debug__" : Str)) = false := by decide) : wpAny (model X.prog X.w) X.A (eval (.Name x pos) X.env) Q E s := by
  obtain ⟨mb,h1,h2⟩:=I.mod.blt
  exact Calls.Name_function_global I.ok.kind hg (Calls.loadGlobal_builtin (by rw [I.ok.glob]; exact I.mod.glob.keeps I.bk) hm (by rw [I.ok.blt]; exact h1.keeps I.bk) ((h2 x hn).trans hv) h) hd
theorem pe_glob {x:Str} {v:V} {u:Value} {pos:Pos} (hg:Gl X x) (hm:X.mg x = some u) (r:RelV v u) (hd:(x == ("__debug__":Str)) = false:=by decide):PE X (.Name x pos) (tC v):=
  fun _ _ _ H _ I h=>ld_glob I hg hm ⟨v,H,I,r,h⟩ hd
theorem pe_bltn {x : Str} {v : V} {u : Value} {pos : Pos} (hg : Gl X x) (hm : X.mg x = none) (hv : bootBuiltins x = some u) (r : RelV v u) (hn : x ≠ "__name__" := by decide) (hd : (x == ("__debug__" : Str)) = false := by decide) : PE X (.Name x pos) (tC v) :=
  fun _ _ _ H _ I h=>ld_blt I hg hm hv ⟨v,H,I,r,h⟩ hn hd
variable {a b:Expr} {ta tb:TE} {pos:Pos}
def PC (X:Cx) (op:CmpOp) (a b:Expr) (t:TE):Prop:=
  ∀ (pins:List (Addr × Obj)) (s:Shared) (σ:St) (H:Hp) (Q:VK),Inv X pins σ H s→t σ H Q→
    wpAny (model X.prog X.w) X.A (eval a X.env) (fun v s₁=>wpAny (model X.prog X.w) X.A (eval b X.env) (fun u s₂=>wpAny (model X.prog X.w) X.A (compareOp op v u) (EP X pins σ Q) X.xe s₂) X.xe s₁) X.xe s
theorem nobehind (b:Expr) {op:CmpOp} (h:op ≠ .In) (h2:op ≠ .NotIn):behindInMarks op b = false:=by
  have e1:(op == CmpOp.In) = false:=by cases op <;> first | rfl | exact absurd rfl h
  have e2:(op == CmpOp.NotIn) = false:=by cases op <;> first | rfl | exact absurd rfl h2
  cases b <;> simp [behindInMarks,e1,e2]
def tIsN (ta:TE):TE:=fun σ H Q=>ta σ H fun x H1=>Q (.bl (decide (x = .non))) H1
def tNotN (ta:TE):TE:=fun σ H Q=>ta σ H fun x H1=>Q (.bl (!decide (x = .non))) H1
theorem RelV.none_iff {x:V} {v:Value} (r:RelV x v):(v == Value.none) = decide (x = .non):=by
  cases x with
  | non=>cases r; rfl
  | bl _=>cases r; rfl
  | int _=>obtain ⟨t,rfl⟩:=r; rfl
  | str _=>obtain ⟨t,rfl⟩:=r; rfl
  | byt _=>obtain ⟨t,rfl⟩:=r; rfl
  | flt _=>obtain ⟨t,rfl⟩:=r; rfl
  | ref _=>cases r; rfl
  | ty _=>cases r; rfl
theorem pc_isN {j pos'} (ha:PE X a ta):PC X .Is a (.Constant .none j pos') (tIsN ta):=by
  intro pins s σ H Q I h
  refine thn (ha pins s σ H _ I h) fun v s1 ⟨x,H1,I1,r1,q1⟩=>?_
  exact Constant_none (is_none_gen ⟨.bl _,H1,I1,by rw [r1.none_iff]; rfl,q1⟩)
theorem pc_notN {j pos'} (ha:PE X a ta):PC X .IsNot a (.Constant .none j pos') (tNotN ta):=by
  intro pins s σ H Q I h
  refine thn (ha pins s σ H _ I h) fun v s1 ⟨x,H1,I1,r1,q1⟩=>?_
  exact Constant_none (isnot_none_gen ⟨.bl _,H1,I1,by rw [r1.none_iff]; rfl,q1⟩)
def tB (t:TE):TT:=fun σ H Q=>t σ H fun x H1=>blK x fun c=>Q c H1
theorem pt_cmp {op:CmpOp} {t:TE} (h:PC X op a b t) (h1:behindInMarks op b = false:=by first | exact nobehind _ (by decide) (by decide) | rfl):PT X (.Compare a [op] [b] pos) (tB t):=by
  intro pins s σ H Q I hw
  refine wpAny_isTrue_Compare1 (thn (h pins s σ H _ I hw) fun v s1 h1=>thn h1 fun u s2 h2=>thn h2 fun c s3 ⟨x,H1,I1,r1,q1⟩=>?_) h1
  obtain ⟨d,rfl,q⟩:=blK_ex q1
  cases r1
  exact wpAny_truthy_bool ⟨H1,I1,q⟩
theorem pt_val {e:Expr} {t:TE} (h:PE X e t) (he:∀ whole,isTrue e X.env whole = (do let v ← whole; standAt e.pos; holding [v] (truthy v)):=by intro _; rfl):PT X e (tB t):=by
  intro pins s σ H Q I hw
  refine isTrue_plain (thn (h pins s σ H _ I hw) fun v s1 ⟨x,H1,I1,r1,q1⟩=>?_) (he _)
  obtain ⟨d,rfl,q⟩:=blK_ex q1
  cases r1
  exact wpAny_truthy_bool ⟨H1,I1,q⟩
variable {tA tB':TT} {rest:List Expr}
def tAnd (t u:TT):TT:=fun σ H Q=>t σ H fun c H1=>if c = true then u σ H1 Q else Q false H1
def tOr (t u:TT):TT:=fun σ H Q=>t σ H fun c H1=>if c = true then Q true H1 else u σ H1 Q
def tNot (t:TT):TT:=fun σ H Q=>t σ H fun c H1=>Q (!c) H1
theorem pw_and1 (ha:PT X a tA):PW X (.BoolOp .And [a] pos) tA:=by
  intro wh pins s σ H Q I h
  refine isTrue_and (thn (ha pins s σ H Q I h) fun c s1 e=>?_)
  cases c with
  | true=>exact isTrue_and_nil e
  | false=>exact e
theorem pw_or1 (ha:PT X a tA):PW X (.BoolOp .Or [a] pos) tA:=by
  intro wh pins s σ H Q I h
  refine isTrue_or (thn (ha pins s σ H Q I h) fun c s1 e=>?_)
  cases c with
  | false=>exact isTrue_or_nil e
  | true=>exact e
theorem pw_and (ha:PT X a tA) (hb:PW X (.BoolOp .And (b :: rest) pos) tB'):PW X (.BoolOp .And (a :: b :: rest) pos) (tAnd tA tB'):=by
  intro wh pins s σ H Q I h
  refine isTrue_and (thn (ha pins s σ H _ I h) fun c s1 ⟨H1,I1,q1⟩=>?_)
  cases c with
  | true=>exact hb wh pins s1 σ H1 Q I1 q1
  | false=>exact ⟨H1,I1,q1⟩
theorem pw_or (ha:PT X a tA) (hb:PW X (.BoolOp .Or (b :: rest) pos) tB'):PW X (.BoolOp .Or (a :: b :: rest) pos) (tOr tA tB'):=by
  intro wh pins s σ H Q I h
  refine isTrue_or (thn (ha pins s σ H _ I h) fun c s1 ⟨H1,I1,q1⟩=>?_)
  cases c with
  | true=>exact ⟨H1,I1,q1⟩
  | false=>exact hb wh pins s1 σ H1 Q I1 q1
theorem pt_not (ha:PT X a tA):PT X (.UnaryOp .Not a pos) (tNot tA):=by
  intro pins s σ H Q I h
  exact isTrue_not (ha pins s σ H (fun c H1=>Q (!c) H1) I h)
def tAndV (ta tb:TE):TE:=fun σ H Q=>ta σ H fun x H1=>∃ c,x = .bl c∧if c = true then tb σ H1 Q else Q (.bl false) H1
def tOrV (ta tb:TE):TE:=fun σ H Q=>ta σ H fun x H1=>∃ c,x = .bl c∧if c = true then Q (.bl true) H1 else tb σ H1 Q
theorem pe_one {op} {t:TE} (h:PE X a t):PE X (.BoolOp op [a] pos) t:=fun pins s σ H Q I hw=>BoolOp_one (h pins s σ H Q I hw)
theorem pe_and (ha:PE X a ta) (hb:PE X (.BoolOp .And (b :: rest) pos) tb):PE X (.BoolOp .And (a :: b :: rest) pos) (tAndV ta tb):=by
  intro pins s σ H Q I h
  refine BoolOp_and (thn (ha pins s σ H _ I h) fun v s1 ⟨x,H1,I1,r1,q1⟩=>?_)
  obtain ⟨c,rfl,q1⟩:=q1
  cases r1
  refine wpAny_truthy_bool ?_
  cases c with
  | true=>exact hb pins s1 σ H1 Q I1 q1
  | false=>exact ⟨.bl false,H1,I1,rfl,q1⟩
theorem pe_or (ha:PE X a ta) (hb:PE X (.BoolOp .Or (b :: rest) pos) tb):PE X (.BoolOp .Or (a :: b :: rest) pos) (tOrV ta tb):=by
  intro pins s σ H Q I h
  refine BoolOp_or (thn (ha pins s σ H _ I h) fun v s1 ⟨x,H1,I1,r1,q1⟩=>?_)
  obtain ⟨c,rfl,q1⟩:=q1
  cases r1
  refine wpAny_truthy_bool ?_
  cases c with
  | false=>exact hb pins s1 σ H1 Q I1 q1
  | true=>exact ⟨.bl true,H1,I1,rfl,q1⟩
def tIf (t:TT) (ta tb:TE):TE:=fun σ H Q=>t σ H fun c H1=>if c = true then ta σ H1 Q else tb σ H1 Q
theorem pe_ifExp {c:Expr} (hc:PT X c tA) (ha:PE X a ta) (hb:PE X b tb):PE X (.IfExp c a b pos) (tIf tA ta tb):=by
  intro pins s σ H Q I h
  refine wpAny_IfExp (thn (hc pins s σ H _ I h) fun d s1 ⟨H1,I1,q1⟩=>?_)
  cases d with
  | true=>exact ha pins s1 σ H1 Q I1 q1
  | false=>exact hb pins s1 σ H1 Q I1 q1
end
def SqL (K:PySem.W.Frag) (H:Hp) (a:Addr) (xs:List V):Prop:=
  Rd H a (.lst xs) ∨
    ∃ (o:Obj) (its:Array Value) (n:Nat),K.lookup a = some o∧o.cls = .type "list"∧o.dict = none∧o.data = .seq its n∧its.size ≤ sizeLine∧Vals xs its.toList
def SqT (K:PySem.W.Frag) (H:Hp) (a:Addr) (xs:List V):Prop:=
  Rd H a (.tup xs) ∨
    ∃ (o:Obj) (its:Array Value) (n:Nat),K.lookup a = some o∧o.cls = .type "tuple"∧o.data = .seq its n∧its.size ≤ sizeLine∧Vals xs its.toList
def absV:Value→Option V
  | .none=>some .non
  | .bool b=>some (.bl b)
  | .int i _=>some (.int i)
  | .str x _=>some (.str x)
  | .bytes b _=>some (.byt b)
  | .float b _=>some (.flt b)
  | .ref a=>some (.ref a)
  | .type n=>some (.ty n)
  | _=>none
theorem RelV.abs {x:V} {u:Value} (r:RelV x u):absV u = some x:=by
  cases x with
  | non=>cases r; rfl
  | bl _=>cases r; rfl
  | int _=>obtain ⟨t,rfl⟩:=r; rfl
  | str _=>obtain ⟨t,rfl⟩:=r; rfl
  | byt _=>obtain ⟨t,rfl⟩:=r; rfl
  | flt _=>obtain ⟨t,rfl⟩:=r; rfl
  | ref _=>cases r; rfl
  | ty _=>cases r; rfl
theorem RelV.inj {x y:V} {u:Value} (r:RelV x u) (q:RelV y u):x = y:=Option.some.inj (r.abs.symm.trans q.abs)
theorem Vals.inj:∀ {xs ys:List V} {us:List Value},Vals xs us→Vals ys us→xs = ys
  | _,_,_,.nil,.nil=>rfl
  | _,_,_,.cons r t,.cons r' t'=>by rw [r.inj r',Vals.inj t t']
section
variable {X:Cx} {pins:List (Addr × Obj)} {σ:St} {H:Hp} {s:Shared} {a:Addr} {xs ys:List V}
theorem SqL.of {K:PySem.W.Frag} (h:H a = some (.lst xs)):SqL K H a xs:=.inl (.inl h)
theorem SqT.of {K:PySem.W.Frag} (h:H a = some (.tup xs)):SqT K H a xs:=.inl (.inl h)
theorem Inv.list (I:Inv X pins σ H s) (h:SqL X.K H a xs):∃ its:List Value,Vals xs its∧PlainL s.heap a its.toArray∧xs.length ≤ sizeLine:=by
  rcases h with h | ⟨o,its,n,hk,hc,hd,hs,hz,r⟩
  · obtain ⟨z,its,n,r,e⟩:=h.ok I.hok
    exact ⟨its,r,⟨_,n,e,rfl,rfl,rfl⟩,z⟩
  · refine ⟨its.toList,r,⟨o,n,I.kIn a o hk,hc,hd,by simpa using hs⟩,?_⟩
    have e:=r.length
    simp only [Array.length_toList] at e
    omega
theorem Inv.tuple (I:Inv X pins σ H s) (h:SqT X.K H a xs):∃ its:List Value,Vals xs its∧IsTup s.heap a its.toArray∧xs.length ≤ sizeLine:=by
  rcases h with h | ⟨o,its,n,hk,hc,hs,hz,r⟩
  · obtain ⟨z,its,r,p⟩:=h.ok I.hok
    exact ⟨its,r,p,z⟩
  · refine ⟨its.toList,r,⟨o,I.kIn a o hk,hc,n,by simpa using hs⟩,?_⟩
    have e:=r.length
    simp only [Array.length_toList] at e
    omega
theorem Inv.list_inj (I:Inv X pins σ H s) (h:SqL X.K H a xs) (h':SqL X.K H a ys):xs = ys:=by
  obtain ⟨its,r,⟨o,n,e,_,_,d⟩,_⟩:=I.list h
  obtain ⟨its',r',⟨o',n',e',_,_,d'⟩,_⟩:=I.list h'
  rw [e] at e'; cases e'
  rw [d] at d'
  injection d' with d1 _
  have:its = its':=by simpa using congrArg Array.toList d1
  subst this
  exact r.inj r'
end
abbrev Cx.wish (X:Cx) (E:Value→Shared→Prop):Cx:={ X with xe:=E }
abbrev Cx.nox (X:Cx):Cx:=X.wish fun _ _=>False
theorem Cx.Ok.wish {X:Cx} (ok:X.Ok) (E:Value→Shared→Prop):(X.wish E).Ok:=
  ⟨ok.mod,ok.kind,ok.glob,ok.blt,ok.above,ok.inj,ok.has,ok.cab,ok.hd,ok.frames,ok.stk,ok.exf,ok.bs,ok.bsz,ok.noex,ok.exfs,ok.funs,ok.frf⟩
theorem Cx.Ok.unwish {X:Cx} {E:Value→Shared→Prop} (ok:(X.wish E).Ok):X.Ok:=
  ⟨ok.mod,ok.kind,ok.glob,ok.blt,ok.above,ok.inj,ok.has,ok.cab,ok.hd,ok.frames,ok.stk,ok.exf,ok.bs,ok.bsz,ok.noex,ok.exfs,ok.funs,ok.frf⟩
section
variable {X:Cx} {pins:List (Addr × Obj)} {σ:St} {H:Hp} {s:Shared} {E:Value→Shared→Prop}
theorem Inv.wish (I:Inv X pins σ H s) (E:Value→Shared→Prop):Inv (X.wish E) pins σ H s:=⟨I.ok.wish E,I.os,I.bare,I.base,I.loc,I.cell,I.free,I.freeC,I.pin,I.hok,I.len⟩
theorem Inv.unwish (I:Inv (X.wish E) pins σ H s):Inv X pins σ H s:=⟨I.ok.unwish,I.os,I.bare,I.base,I.loc,I.cell,I.free,I.freeC,I.pin,I.hok,I.len⟩
theorem SP.unwish {D:Ends} {f:Flow} {s':Shared} (h:SP (X.wish E) pins D f s'):SP X pins D f s':=by
  cases f with
  | next=>obtain ⟨σ',H',I,q⟩:=h; exact ⟨σ',H',I.unwish,q⟩
  | brk=>obtain ⟨σ',H',I,q⟩:=h; exact ⟨σ',H',I.unwish,q⟩
  | cont=>obtain ⟨σ',H',I,q⟩:=h; exact ⟨σ',H',I.unwish,q⟩
  | ret u=>obtain ⟨v,σ',H',I,r,q⟩:=h; exact ⟨v,σ',H',I.unwish,r,q⟩
theorem PSs.nox {st:List Stmt} {t:TS} (h:PSs X.nox st t):PSs X st t:=fun pins s σ H D I hw=>
  wpAny_mono (h pins s σ H D (I.wish _) hw) (fun _ _ q=>q.unwish) fun _ _ z=>False.elim z
end
section
variable {X:Cx} {st:Stmt} {rest:List Stmt} {t u:TS} {e:Expr} {te:TE} {pos:Pos}
def tNext:TS:=fun D σ H=>D.nx σ H
def tSeq (t u:TS):TS:=fun D σ H=>t { D with nx:=u D } σ H
theorem pss_nil:PSs X [] tNext:=fun _ _ σ H _ I h=>wpAny_execs_nil ⟨σ,H,I,h⟩
theorem pss_cons (h1:PS X st t) (h2:PSs X rest u):PSs X (st :: rest) (tSeq t u):=by
  intro pins s σ H D I h
  refine wpAny_execs_cons (thn (h1 pins s σ H { D with nx:=u D } I h) fun f s1 q=>?_)
  cases f with
  | next=>
    obtain ⟨σ',H',I',q⟩:=q
    exact h2 pins s1 σ' H' D I' q
  | ret v=>exact q
  | brk=>exact q
  | cont=>exact q
theorem pss_one (h1:PS X st t):PSs X [st] t:=by
  intro pins s σ H D I h
  refine wpAny_execs_cons (thn (h1 pins s σ H D I h) fun f s1 q=>?_)
  cases f with
  | next=>exact wpAny_execs_nil q
  | ret v=>exact q
  | brk=>exact q
  | cont=>exact q
theorem Inv.quiet {pins:List (Addr × Obj)} {σ:St} {H:Hp} {s:Shared} (I:Inv X pins σ H s):interactive X.env = false:=by simp [interactive,I.ok.kind]
def tDrop (te:TE):TS:=fun D σ H=>te σ H fun _ H1=>D.nx σ H1
theorem ps_expr (he:PE X e te) (hs:swapsWith e none pos.line X.env = pure false:=by rfl):PS X (.Expr e pos) (tDrop te):=by
  intro pins s σ H D I h
  exact wpAny_Expr_any (thn (he pins s σ H _ I h) fun v s1 ⟨x,H1,I1,r1,q1⟩=>⟨σ,H1,I1,q1⟩) I.quiet hs
def tRet (te:TE):TS:=fun D σ H=>te σ H D.rt
theorem ps_ret (he:PE X e te):PS X (.Return (some e) pos) (tRet te):=by
  intro pins s σ H D I h
  exact wpAny_Return_some (thn (he pins s σ H _ I h) fun v s1 ⟨x,H1,I1,r1,q1⟩=>⟨x,σ,H1,I1,r1,q1⟩)
def tIfS (c:TT) (t u:TS):TS:=fun D σ H=>c σ H fun b H1=>if b = true then t D σ H1 else u D σ H1
theorem ps_if {c:Expr} {a b:List Stmt} {tc:TT} (hc:PT X c tc) (ha:PSs X a t) (hb:PSs X b u):PS X (.If c a b pos) (tIfS tc t u):=by
  intro pins s σ H D I h
  refine wpAny_If (thn (hc pins s σ H _ I h) fun d s1 ⟨H1,I1,q1⟩=>?_)
  cases d with
  | true=>exact ha pins s1 σ H1 D I1 q1
  | false=>exact hb pins s1 σ H1 D I1 q1
end
abbrev TG:=V→St→Hp→(St→Hp→Prop)→Prop
def PG (X:Cx) (target:Expr) (t:TG):Prop:=
  ∀ (pins:List (Addr × Obj)) (s:Shared) (σ:St) (H:Hp) (v:V) (u:Value) (Q:St→Hp→Prop),Inv X pins σ H s→RelV v u→t v σ H Q→
    wpAny (model X.prog X.w) X.A (assign target X.env u) (fun _ s'=>∃ σ' H',Inv X pins σ' H' s'∧Q σ' H') X.xe s
abbrev TSet:=V→V→V→Hp→(Hp→Prop)→Prop
def PSet (X:Cx) (t:TSet):Prop:=
  ∀ (pins:List (Addr × Obj)) (s:Shared) (σ:St) (H:Hp) (o i v:V) (ov iv u:Value) (Q:Hp→Prop),Inv X pins σ H s→RelV o ov→RelV i iv→RelV v u→t o i v H Q→
    wpAny (model X.prog X.w) X.A (setItem ov iv u) (fun _ s'=>∃ H',Inv X pins σ H' s'∧Q H') X.xe s
section
variable {X:Cx} {pos:Pos}
def gName (i:Nat):TG:=fun v σ H Q=>Q (σ.set i (some v)) H
theorem pg_name {i:Nat} {x:Str} (hN:X.N.Nodup) (hi:X.N[i]? = some x) (hx:Loc X.env.scope x) (hf:X.fn x = true ∨ X.env.scope.names.lookup x = some .local:=by first | exact .inl rfl | exact .inr rfl | assumption):PG X (.Name x pos) (gName i):=by
  intro pins s σ H v u Q I r h
  exact wpAny_assign_Name (store_ok I hN hi hx r (fun s' I'=>⟨_,H,I',h⟩) hf)
def gSub (to ti:TE) (t:TSet):TG:=fun v σ H Q=>to σ H fun o H1=>ti σ H1 fun i H2=>t o i v H2 fun H3=>Q σ H3
theorem pg_sub {o i:Expr} {to ti:TE} {t:TSet} (ho:PE X o to) (hi:PE X i ti) (hs:PSet X t)
    (ha:∀ v,assign (.Subscript o i pos) X.env v = (do
      let ov ← holding [v] (eval o X.env)
      let iv ← holding [v,ov] (eval i X.env)
      standAt pos
      holding [v,ov,iv] (setItem ov iv v)
      release [v,ov,iv] []):=by intro _; rfl):PG X (.Subscript o i pos) (gSub to ti t):=by
  intro pins s σ H v u Q I r h
  rw [ha]
  refine wpAny_bind (wpAny_holding (thn (ho pins s σ H _ I h) fun ov s1 ⟨x,H1,I1,r1,q1⟩=>?_))
  refine wpAny_bind (wpAny_holding (thn (hi pins s1 σ H1 _ I1 q1) fun iv s2 ⟨y,H2,I2,r2,q2⟩=>?_))
  refine wpAny_bind (wpAny_standAt (wpAny_bind (wpAny_holding (thn (hs pins s2 σ H2 x y v ov iv u _ I2 r1 r2 r q2) fun _ s3 ⟨H3,I3,q3⟩=>?_))))
  exact wpAny_release ⟨σ,H3,I3,q3⟩
def tAsg (te:TE) (g:TG):TS:=fun D σ H=>te σ H fun x H1=>g x σ H1 D.nx
theorem ps_asg {tg e:Expr} {te:TE} {g:TG} (he:PE X e te) (hg:PG X tg g) (hs:swapsWithSole [tg] e pos.line X.env = pure false:=by rfl) (hw:swappedStores [tg] e X.env = pure none:=by rfl)
    (h1:(assignEach [tg] X.env).map (·.2) = [assign tg X.env]:=by rfl):PS X (.Assign [tg] e pos) (tAsg te g):=by
  intro pins s σ H D I h
  refine wpAny_Assign_stores (thn (he pins s σ H _ I h) fun v s1 ⟨x,H1,I1,r1,q1⟩=>?_) hs hw
  rw [h1]
  exact thn (hg pins s1 σ H1 x v _ I1 r1 q1) fun _ s2 q=>q
theorem ps_set {i:Nat} {x:Str} {e:Expr} {te:TE} {pos':Pos} (hN:X.N.Nodup) (hi:X.N[i]? = some x) (hx:Loc X.env.scope x) (he:PE X e te) (hs:swapsWith e (some (.Name x pos')) pos.line X.env = pure false:=by rfl) (hf:X.fn x = true ∨ X.env.scope.names.lookup x = some .local:=by first | exact .inl rfl | exact .inr rfl | assumption) :
    PS X (.Assign [.Name x pos'] e pos) (tAsg te (gName i)):=by
  intro pins s σ H D I h
  refine wpAny_Assign_Name (thn (he pins s σ H _ I h) fun v s1 ⟨y,H1,I1,r1,q1⟩=>?_) hs
  exact store_ok I1 hN hi hx r1 (fun s2 I2=>⟨_,H1,I2,q1⟩) hf
end
section
variable {X:Cx} {pos:Pos}
def tWhile (c:TT) (tb:TS):TS:=fun D σ H=>∃ W:Nat→St→Hp→Prop,(∃ m,W m σ H)∧∀ m σ H,W m σ H→
  c σ H fun b H1=>if b = true then ∃ N:St→Hp→Prop,(∀ σ' H',N σ' H'→∃ m',m' < m∧W m' σ' H')∧tb { D with nx:=N,ct:=N,bk:=D.nx } σ H1 else D.nx σ H1
theorem ps_while {c:Expr} {body:List Stmt} {tc:TT} {tb:TS} (hp:PassesOwn (model X.prog X.w) X.A X.env X.xe) (hc:PT X c tc) (hb:PSs X body tb):PS X (.While c body [] pos) (tWhile tc tb):=by
  intro pins s σ H D I h
  obtain ⟨W,⟨m0,w0⟩,turn⟩:=h
  refine wpAny_While (codeAny_whileLoop (fun n s'=>∃ σ' H',Inv X pins σ' H' s'∧W n σ' H') ?_ m0 ⟨σ,H,I,w0⟩)
  rintro n s1 ⟨σ1,H1,I1,w1⟩
  refine wpAny_passesOwn hp (thn (hc pins s1 σ1 H1 _ I1 (turn n σ1 H1 w1)) fun b s2 ⟨H2,I2,q2⟩=>?_)
  cases b with
  | true=>
    obtain ⟨N,hN,q2⟩:=q2
    rw [if_pos rfl]
    refine wpAny_passesOwn hp (thn (hb pins s2 σ1 H2 _ I2 q2) fun f s3 q3=>?_)
    cases f with
    | next=>
      obtain ⟨σ3,H3,I3,n3⟩:=q3
      obtain ⟨m',hm,w3⟩:=hN σ3 H3 n3
      exact ⟨m',hm,σ3,H3,I3,w3⟩
    | cont=>
      obtain ⟨σ3,H3,I3,n3⟩:=q3
      obtain ⟨m',hm,w3⟩:=hN σ3 H3 n3
      exact ⟨m',hm,σ3,H3,I3,w3⟩
    | brk=>exact q3
    | ret v=>exact q3
  | false=>
    rw [if_neg Bool.false_ne_true]
    exact wpAny_execs_nil ⟨σ1,H2,I2,q2⟩
end
structure It where
  go:Nat→Hp→Prop
  yld:Nat→Hp→V→Hp→Prop
  stop:Nat→Hp→Prop
def FpOk (X:Cx) (pins:List (Addr × Obj)) (H:Hp) (b:Addr):Prop:=
  H b = none∧b ≠ X.env.locals∧b ∉ X.fs∧(b ∈ X.ex ∨ X.s₀.heap.objs.size ≤ b)∧(∀ x c,X.env.cells.lookup x = some c→c ≠ b)∧∀ p ∈ X.pn ++ pins,p.1 ≠ b
theorem Inv.fpOk {X:Cx} {pins:List (Addr × Obj)} {σ:St} {H H':Hp} {s:Shared} {b:Addr} (I:Inv X pins σ H s) (hb:s.heap.objs.size ≤ b) (hn:H' b = none):FpOk X pins H' b:=by
  refine ⟨hn,Nat.ne_of_gt (Nat.lt_of_lt_of_le I.lt hb),I.nofs hb,.inr (Nat.le_trans I.sz hb),fun x c e z=>?_,fun p hp z=>?_⟩
  · obtain ⟨v,q⟩:=I.cell x c e
    exact absurd (Nat.lt_of_lt_of_le q.lt (by rw [z]; exact hb)) (Nat.lt_irrefl _)
  · exact absurd (Nat.lt_of_lt_of_le (Heap.lt_size (I.pin p hp).1) (by rw [z]; exact hb)) (Nat.lt_irrefl _)
structure Turn (P:Program) (w:World) (K:PySem.W.Frag) (tg:Expr) (J:It) (fp:List Addr) (it:Addr) (tn:Nat→Heap→Prop):Prop where
  mem:it ∈ fp
  obj:∀ i h,tn i h→∀ b ∈ fp,∃ o,h.get? b = some o∧∀ v,o.data ≠ .cell v
  keep:∀ i h h',tn i h→(∀ b ∈ fp,∀ o,h.get? b = some o→h'.get? b = some o)→tn i h'
  item:∀ (X:Cx),X.prog = P→X.w = w→X.K = K→X.calm = true→∀ (i:Nat) (pins:List (Addr × Obj)) (s:Shared) (σ:St) (H:Hp) (E:Value→Shared→Prop),Inv X pins σ H s→(∀ b ∈ fp,FpOk X pins H b)→tn i s.heap→J.go i H→
    wpAny (model P w) X.A (pyNext (.ref it)) (fun r s1=>∃ u,r = some u∧
      wpAny (model P w) X.A (letOwnedTupleGo tg (.ref it) u) (fun _ s2=>∃ x H',Inv X pins σ H' s2∧RelV x u∧J.yld i H x H'∧tn (i + 1) s2.heap∧∀ b ∈ fp,H' b = none) E s1) E s
  done:∀ (X:Cx),X.prog = P→X.w = w→X.K = K→X.calm = true→∀ (i:Nat) (pins:List (Addr × Obj)) (s:Shared) (σ:St) (H:Hp) (E:Value→Shared→Prop),Inv X pins σ H s→(∀ b ∈ fp,FpOk X pins H b)→tn i s.heap→J.stop i H→
    wpAny (model P w) X.A (pyNext (.ref it)) (fun r s1=>r = none∧Inv X pins σ H s1) E s
  self:∀ (A:Around) (i:Nat) (s:Shared) (Q:Value→Shared→Prop) (E:Value→Shared→Prop),tn i s.heap→Q (.ref it) s→wpAny (model P w) A (pyIter (.ref it)) Q E s
abbrev TI:=St→Hp→(It→Hp→Prop)→Prop
def PIE (X:Cx) (pins:List (Addr × Obj)) (σ:St) (tg:Expr) (R:It→Hp→Prop) (itv:Value) (s2:Shared):Prop:=
  ∃ (it:Addr) (fp:List Addr) (tn:Nat→Heap→Prop) (J:It) (H':Hp),itv = .ref it∧Inv X pins σ H' s2∧Turn X.prog X.w X.K tg J fp it tn∧tn 0 s2.heap∧(∀ b ∈ fp,FpOk X pins H' b)∧R J H'
def PI (X:Cx) (tg iter:Expr) (wi:TI):Prop:=
  ∀ (pins:List (Addr × Obj)) (s:Shared) (σ:St) (H:Hp) (R:It→Hp→Prop),Inv X pins σ H s→wi σ H R→
    wpAny (model X.prog X.w) X.A (eval iter X.env) (fun v s1=>wpAny (model X.prog X.w) X.A (pyIter v) (PIE X pins σ tg R) X.xe s1) X.xe s
theorem go_of {M:Model} {A:Around} {E:Value→Shared→Prop} {s:Shared} {tg:Expr} {it:Addr} {u:Value} {o:Obj} {n:String} {vs:Array Value} {Q:Unit→Shared→Prop} (ho:s.heap.get? it = some o) (hc:o.cls = .type n) (hd:o.data = .fields vs)
    (hn : ["enumerate", "zip", "dict_itemiterator", "dict_reverseitemiterator", "odict_iterator", "itertools.zip_longest", "itertools.pairwise"].contains n = false) (hQ : Q () s) : wpAny M A (letOwnedTupleGo tg (.ref it) u) Q E s := by
  unfold letOwnedTupleGo
  cases tg <;> first
    | exact wpAny_pure hQ
    | (cases u <;> first
        | exact wpAny_pure hQ
        | (refine wpAny_bind (wpAny_load ho ?_)
           rw [hc,hd]
           show wpAny M A (if (["enumerate", "zip", "dict_itemiterator", "dict_reverseitemiterator", "odict_iterator", "itertools.zip_longest", "itertools.pairwise"].contains n && vs[0]? == some (rawInt _)) = true then _ else _) Q E s
           rw [if_neg (by intro h; rw [hn,Bool.false_and] at h; cases h)]
           exact wpAny_pure hQ))
def Itl (K:PySem.W.Frag) (a:Addr):It:=
  ⟨fun i H=>∃ xs x,SqL K H a xs∧xs[i]? = some x,fun i H x H'=>H' = H∧∀ xs,SqL K H a xs→xs[i]? = some x,fun i H=>∃ xs,SqL K H a xs∧xs.length ≤ i⟩
def Itr (lo:Int) (n:Nat):It:=⟨fun i _=>i < n,fun i H x H'=>H' = H∧x = .int (lo + i),fun i _=>n ≤ i⟩
theorem turn_list {P:Program} {w:World} {K:PySem.W.Frag} {tg:Expr} (a it:Addr):Turn P w K tg (Itl K a) [it] it (fun i h=>h.IsListIter it a i) where
  mem:=by simp
  obj:=fun i h st b hb=>by
    have e:b = it:=by simpa using hb
    subst e
    obtain ⟨o,e,c,d⟩:=st
    exact ⟨o,e,fun v z=>by rw [d] at z; cases z⟩
  keep:=fun i h h' st k=>st.at fun o e=>k it (by simp) o e
  item:=by
    intro X hP hw hK hc i pins s σ H E I hf st hg
    subst hP hw hK
    obtain ⟨xs,x,hq,hx⟩:=hg
    obtain ⟨its,rv,p,hz⟩:=I.list hq
    obtain ⟨u,hu,ru⟩:=rv.get hx
    obtain ⟨f0,f1,f2,f3,f4,f5⟩:=hf it (by simp)
    refine wpAny_pyNext_list_item st p.isList (x:=u) (by simpa using hu) fun h' st' sb=>?_
    have I1:Inv X pins σ H { s with heap:=h' }:=I.turned (t':=s.toks) (fun b o hb e=>(sb.2 b hb).trans e) f0 f1 f3 f4 f5
    obtain ⟨o,e,c,d⟩:=id st'
    exact ⟨u,rfl,go_of (s:={ s with heap:=h' }) e c d (by decide) ⟨x,H,I1,ru,⟨rfl,fun ys hy=>by rw [I.list_inj hy hq]; exact hx⟩,st',fun b hb=>(hf b hb).1⟩⟩
  done:=by
    intro X hP hw hK hc i pins s σ H E I hf st hg
    subst hP hw hK
    obtain ⟨xs,hq,hx⟩:=hg
    obtain ⟨its,rv,p,hz⟩:=I.list hq
    obtain ⟨f0,f1,f2,f3,f4,f5⟩:=hf it (by simp)
    have hl:=rv.length
    exact wpAny_pyNext_list_end (I.ok.hd hc) st p.isList (by simp; omega) fun h' eb=>⟨rfl,I.turned (t':=s.toks) (fun b o hb e=>eb b o hb e) f0 f1 f3 f4 f5⟩
  self:=fun _ _ _ _ _ st h=>wpAny_pyIter_listiter st h
theorem turn_range {P:Program} {w:World} {K:PySem.W.Frag} {tg:Expr} (it:Addr) (lo:Int) (n:Nat):Turn P w K tg (Itr lo n) [it] it (fun i h=>IsRangeIter h it (lo + (i:Nat) * 1) ((n:Int) - (i:Nat)) 1) where
  mem:=by simp
  obj:=fun i h st b hb=>by
    have e:b = it:=by simpa using hb
    subst e
    exact ⟨_,st,fun v z=>by
      have z':Data.fields _ = Data.cell v:=z
      cases z'⟩
  keep:=fun i h h' st k=>k it (by simp) _ st
  item:=by
    intro X hP hw hK hc i pins s σ H E I hf st hg
    subst hP hw hK
    obtain ⟨f0,f1,f2,f3,f4,f5⟩:=hf it (by simp)
    have W:=Walks.range (prog:=X.prog) (w:=X.w) (I.ok.hd hc) it lo 1 n
    refine W.item i s _ _ hg st fun v h' tk hv st' kk=>?_
    obtain ⟨t,rfl⟩:=hv
    have I1:Inv X pins σ H { s with heap:=h',toks:=tk }:=I.turned (fun b o hb e=>kk b o (by simpa using hb) e) f0 f1 f3 f4 f5
    refine ⟨_,rfl,go_of (s:={ s with heap:=h',toks:=tk }) (n:="range_iterator") st' rfl rfl (by decide) ⟨.int (lo + i),H,I1,⟨t,?_⟩,⟨rfl,rfl⟩,st',fun b hb=>(hf b hb).1⟩⟩
    rw [Int.mul_one]
  done:=by
    intro X hP hw hK hc i pins s σ H E I hf st hg
    subst hP hw hK
    obtain ⟨f0,f1,f2,f3,f4,f5⟩:=hf it (by simp)
    exact wpAny_pyNext_range_end (I.ok.hd hc) st (by have:n ≤ i:=hg; omega) fun h' eb=>⟨rfl,I.turned (t':=s.toks) (fun b o hb e=>eb b o hb e) f0 f1 f3 f4 f5⟩
  self:=fun _ _ _ _ _ st h=>wpAny_pyIter_rangeiter st h
section
variable {X:Cx} {tg:Expr}
def iList (K:PySem.W.Frag) (tl:TE):TI:=fun σ H R=>tl σ H fun x H1=>∃ a,x = .ref a∧(∃ xs,SqL K H1 a xs)∧R (Itl K a) H1
theorem pi_list {l:Expr} {tl:TE} (hl:PE X l tl):PI X tg l (iList X.K tl):=by
  intro pins s σ H R I h
  refine thn (hl pins s σ H _ I h) fun v s1 ⟨x,H1,I1,r1,q1⟩=>?_
  obtain ⟨a,e,⟨xs,hq⟩,q⟩:=q1
  subst e
  cases r1
  obtain ⟨its,rv,p,hz⟩:=I1.list hq
  refine wpAny_pyIter_list p.isList ?_
  refine ⟨s1.heap.objs.size,[s1.heap.objs.size],_,_,H1,rfl,I1.kept (t':=s1.toks) fun b o e=>Heap.get?_push_of_some _ e,turn_list a _,⟨_,Heap.get?_push_size _ rfl,rfl,rfl⟩,fun b hb=>?_,q⟩
  have e:b = s1.heap.objs.size:=by simpa using hb
  subst e
  exact I1.fpOk (Nat.le_refl _) (I1.hok.fresh (Nat.le_refl _))
theorem range_it {pins:List (Addr × Obj)} {σ:St} {H:Hp} {s:Shared} {R:It→Hp→Prop} {E:Value→Shared→Prop} {lo hi:Int} {t u v:Tok} {tk:Nat} (I:Inv X pins σ H s) (h1:-(2 ^ 62) ≤ lo) (h2:lo < 2 ^ 62) (h3:-(2 ^ 62) ≤ hi) (h4:hi < 2 ^ 62)
    (q:R (Itr lo (hi - lo).toNat) H):wpAny (model X.prog X.w) X.A (pyIter (.ref s.heap.objs.size)) (PIE X pins σ tg R) E { s with heap:=s.heap.push { cls:=.type "range",data:=.fields #[.int lo t,.int hi u,.int 1 v] },toks:=tk }:=by
  refine wpAny_pyIter_range (IsRange.new ..) (small_one h1 h2 h3 h4) ?_
  have I1:Inv X pins σ H { s with heap:=s.heap.push { cls:=.type "range",data:=.fields #[.int lo t,.int hi u,.int 1 v] },toks:=tk }:=I.kept fun b o e=>Heap.get?_push_of_some _ e
  refine ⟨(s.heap.push { cls := .type "range", data := .fields #[.int lo t, .int hi u, .int 1 v] }).objs.size, [(s.heap.push { cls := .type "range", data := .fields #[.int lo t, .int hi u, .int 1 v] }).objs.size], _, _, H, rfl,
    I1.kept (t':=tk) fun b o e=>Heap.get?_push_of_some _ e,turn_range _ lo (hi - lo).toNat,?_,fun b hb=>?_,q⟩
  · have e1:lo + ((0:Nat):Int) * 1 = lo:=by simp
    have e2:(((hi - lo).toNat:Nat):Int) - ((0:Nat):Int) = Builtin.Range.rangeSize lo hi 1:=by rw [rangeSize_one]; split <;> omega
    show IsRangeIter _ _ (lo + ((0:Nat):Int) * 1) ((((hi - lo).toNat:Nat):Int) - ((0:Nat):Int)) 1
    rw [e1,e2]
    exact Heap.get?_push_size _ rfl
  · have e:b = (s.heap.push { cls:=.type "range",data:=.fields #[.int lo t,.int hi u,.int 1 v] }).objs.size:=by simpa using hb
    subst e
    exact I1.fpOk (Nat.le_refl _) (I1.hok.fresh (Nat.le_refl _))
def iRng1 (ta:TA):TI:=fun σ H R=>ta σ H fun vs H1=>∃ j:Int,vs = [.int j]∧-(2 ^ 62) ≤ j∧j < 2 ^ 62∧R (Itr 0 j.toNat) H1
def iRng2 (ta:TA):TI:=fun σ H R=>ta σ H fun vs H1=>∃ i j:Int,vs = [.int i,.int j]∧(-(2 ^ 62) ≤ i∧i < 2 ^ 62∧-(2 ^ 62) ≤ j∧j < 2 ^ 62)∧R (Itr i (j - i).toNat) H1
theorem pi_range1 {a : Expr} {ta : TA} {p pos : Pos} (hg : Gl X "range") (hm : X.mg "range" = none) (ha : PA X [a] ta) (hs : starEach [a] X.env = [(false, eval a X.env)] := by rfl) : PI X tg (.Call (.Name "range" p) [a] [] pos) (iRng1 ta) := by
  intro pins s σ H R I h
  refine Call_ (ld_blt I hg hm boot_range (PyProof.Rows.callWith_type1 (thn (ha pos pins s σ H _ I h) fun us s1 ⟨vs,H1,I1,r1,q1⟩=>?_) hs rfl))
  obtain ⟨j,e,q1,q2,q⟩:=q1
  subst e
  cases r1 with
  | cons r rr=>
    cases rr
    obtain ⟨t,rfl⟩:=r
    exact call_range_1 (range_it I1 (by omega) (by omega) q1 q2 (by simpa using q))
theorem pi_range2 {a b : Expr} {ta : TA} {p pos : Pos} (hg : Gl X "range") (hm : X.mg "range" = none) (ha : PA X [a, b] ta) (hs : starEach [a, b] X.env = [(false, eval a X.env), (false, eval b X.env)] := by rfl) (hs2 : starEach [b] X.env = [(false, eval b X.env)] := by rfl) :
    PI X tg (.Call (.Name "range" p) [a,b] [] pos) (iRng2 ta):=by
  intro pins s σ H R I h
  refine Call_ (ld_blt I hg hm boot_range (PyProof.Rows.callWith_type1 (thn (ha pos pins s σ H _ I h) fun us s1 ⟨vs,H1,I1,r1,q1⟩=>?_) (by rw [hs,hs2]) (by rw [hs2]; rfl)))
  obtain ⟨i,j,e,⟨q1,q2,q3,q4⟩,q⟩:=q1
  subst e
  cases r1 with
  | cons r rr=>
    cases rr with
    | cons r' rr=>
      cases rr
      obtain ⟨t,rfl⟩:=r
      obtain ⟨t',rfl⟩:=r'
      exact call_range_2 (range_it I1 q1 q2 q3 q4 q)
def tFor (wi:TI) (g:TG) (tb:TS):TS:=fun D σ H=>wi σ H fun J H1=>∃ W:Nat→Nat→St→Hp→Prop,(∃ m,W 0 m σ H1)∧∀ i m σ H,W i m σ H→
  (J.stop i H∧D.nx σ H) ∨ (J.go i H∧∃ N:St→Hp→Prop,(∀ σ' H',N σ' H'→∃ m',m' < m∧W (i + 1) m' σ' H')∧∀ x H',J.yld i H x H'→g x σ H' fun σ2 H2=>tb { D with nx:=N,ct:=N,bk:=D.nx } σ2 H2)
def pinsAt (fp:List Addr) (h:Heap):List (Addr × Obj):=fp.filterMap fun b=>(h.get? b).map fun o=>(b,o)
theorem mem_pinsAt {fp:List Addr} {h:Heap} {b:Addr} {o:Obj} (hb:b ∈ fp) (e:h.get? b = some o):(b,o) ∈ pinsAt fp h:=List.mem_filterMap.mpr ⟨b,hb,by rw [e]; rfl⟩
theorem of_pinsAt {fp:List Addr} {h:Heap} {p:Addr × Obj} (hp:p ∈ pinsAt fp h):p.1 ∈ fp∧h.get? p.1 = some p.2:=by
  obtain ⟨b,hb,e⟩:=List.mem_filterMap.mp hp
  cases q:h.get? b with
  | none=>rw [q] at e; cases e
  | some o=>
    rw [q] at e
    have e':(b,o) = p:=Option.some.inj e
    subst e'
    exact ⟨hb,q⟩
theorem Inv.pinned {pins:List (Addr × Obj)} {σ:St} {H:Hp} {s:Shared} {fp:List Addr} (I:Inv X pins σ H s) (hf:∀ b ∈ fp,FpOk X pins H b) (ho:∀ b ∈ fp,∃ o,s.heap.get? b = some o∧∀ v,o.data ≠ .cell v):Inv X (pins ++ pinsAt fp s.heap) σ H s:=
  I.pins_of fun p hp=>(List.mem_append.mp hp).elim (fun z=>I.pin p (List.mem_append_right _ z)) fun z=>by
    obtain ⟨hb,e⟩:=of_pinsAt z
    obtain ⟨f0,f1,f2,_⟩:=hf p.1 hb
    obtain ⟨o,e',d⟩:=ho p.1 hb
    rw [e] at e'; cases e'
    exact ⟨e,f0,f1,f2,d⟩
theorem Inv.unpinned {pins pl:List (Addr × Obj)} {σ:St} {H:Hp} {s:Shared} (I:Inv X (pins ++ pl) σ H s):Inv X pins σ H s:=I.pins_of fun p hp=>I.pin p (List.mem_append_right _ (List.mem_append_left _ hp))
theorem ps_for {iter:Expr} {body:List Stmt} {wi:TI} {g:TG} {tb:TS} {pos:Pos} (hp:PassesOwn (model X.prog X.w) X.A X.env X.xe) (hc:X.calm = true) (hi:PI X tg iter wi) (hg:PG X tg g) (hb:PSs X body tb)
    (hs:∀ x,foldedSetIterable iter X.env x = pure x:=by intro _; rfl):PS X (.For tg iter body [] pos) (tFor wi g tb):=by
  intro pins s σ H D I h
  refine wpAny_For (thn (hi pins s σ H _ I h) fun v s1 h1=>thn h1 fun itv s2 h2=>?_) hs
  obtain ⟨it,fp,tn,J,H2,e,I2,T,st2,f2,W,⟨m0,w0⟩,turn⟩:=h2
  subst e
  -- what stays true of the iterator's objects through the loop
  have stat:∀ {H':Hp},(∀ b ∈ fp,H' b = none)→∀ b ∈ fp,FpOk X pins H' b:=fun hn b hb=>⟨hn b hb,(f2 b hb).2⟩
  refine codeAny_forLoop_any (fun n s'=>∃ i σ' H',Inv X pins σ' H' s'∧tn i s'.heap∧(∀ b ∈ fp,H' b = none)∧W i n σ' H') ?_ m0 ⟨0,σ,H2,I2,st2,fun b hb=>(f2 b hb).1,w0⟩
  rintro n s3 ⟨i,σ3,H3,I3,st3,fr3,w3⟩
  rcases turn i n σ3 H3 w3 with ⟨stop,qn⟩ | ⟨go,N,hN,step⟩
  · refine wpAny_passesOwn hp (thn (T.done X rfl rfl rfl hc i pins s3 σ3 H3 X.xe I3 (stat fr3) st3 stop) fun r s4 ⟨hr,I4⟩=>?_)
    subst hr
    exact wpAny_execs_nil ⟨σ3,H3,I4,qn⟩
  · refine wpAny_passesOwn hp (thn (T.item X rfl rfl rfl hc i pins s3 σ3 H3 X.xe I3 (stat fr3) st3 go) fun r s4 ⟨u,hr,h4⟩=>?_)
    subst hr
    refine wpAny_passesOwn hp (thn h4 fun _ s5 ⟨x,H5,I5,r5,y5,st5,fr5⟩=>?_)
    have I5':=I5.pinned (stat fr5) (T.obj _ _ st5)
    refine wpAny_passesOwn hp (thn (hg _ s5 σ3 H5 x u _ I5' r5 (step x H5 y5)) fun _ s6 ⟨σ6,H6,I6,q6⟩=>?_)
    refine wpAny_passesOwn hp (thn (hb _ s6 σ6 H6 _ I6 q6) fun f s7 q7=>?_)
    have again:∀ {σ7:St} {H7:Hp},Inv X (pins ++ pinsAt fp s5.heap) σ7 H7 s7→N σ7 H7→∃ m,m < n∧∃ i σ' H',Inv X pins σ' H' s7∧tn i s7.heap∧(∀ b ∈ fp,H' b = none)∧W i m σ' H':=fun {σ7 H7} I7 n7=>by
      obtain ⟨m',hm,w7⟩:=hN σ7 H7 n7
      refine ⟨m',hm,i + 1,σ7,H7,I7.unpinned,T.keep _ _ _ st5 fun b hb o e=>(I7.pin (b,o) (List.mem_append_right _ (List.mem_append_right _ (mem_pinsAt hb e)))).1,fun b hb=>?_,w7⟩
      obtain ⟨o,e,d⟩:=T.obj _ _ st5 b hb
      exact (I7.pin (b,o) (List.mem_append_right _ (List.mem_append_right _ (mem_pinsAt hb e)))).2.1
    cases f with
    | next=>obtain ⟨σ7,H7,I7,n7⟩:=q7; exact again I7 n7
    | cont=>obtain ⟨σ7,H7,I7,n7⟩:=q7; exact again I7 n7
    | brk=>obtain ⟨σ7,H7,I7,q7⟩:=q7; exact ⟨σ7,H7,I7.unpinned,q7⟩
    | ret v=>obtain ⟨x7,σ7,H7,I7,r7,q7⟩:=q7; exact ⟨x7,σ7,H7,I7.unpinned,r7,q7⟩
end
theorem for_list {K:PySem.W.Frag} {a:Addr} {xs:List V} {g:TG} {tb:TS} {D:Ends} {σ:St} {H:Hp} (Pv:Nat→St→Hp→Prop) (h0:Pv 0 σ H) (hl:∀ i σ H,i ≤ xs.length→Pv i σ H→SqL K H a xs)
    (hs:∀ i x σ H,xs[i]? = some x→Pv i σ H→g x σ H fun σ2 H2=>tb { D with nx:=Pv (i + 1),ct:=Pv (i + 1),bk:=D.nx } σ2 H2) (hd:∀ σ H,Pv xs.length σ H→D.nx σ H) :
    ∃ W:Nat→Nat→St→Hp→Prop,(∃ m,W 0 m σ H)∧∀ i m σ H,W i m σ H→
      ((Itl K a).stop i H∧D.nx σ H) ∨ ((Itl K a).go i H∧∃ N:St→Hp→Prop,(∀ σ' H',N σ' H'→∃ m',m' < m∧W (i + 1) m' σ' H')∧∀ x H',(Itl K a).yld i H x H'→g x σ H' fun σ2 H2=>tb { D with nx:=N,ct:=N,bk:=D.nx } σ2 H2):=by
  refine ⟨fun i m σ H=>m = xs.length - i∧i ≤ xs.length∧Pv i σ H,⟨xs.length,by simp,Nat.zero_le _,h0⟩,?_⟩
  rintro i m σ H ⟨rfl,hi,p⟩
  have q:=hl i σ H hi p
  by_cases hlt:i < xs.length
  · refine .inr ⟨⟨xs,xs[i],q,by simp [hlt]⟩,Pv (i + 1),fun σ' H' p'=>⟨xs.length - (i + 1),by omega,rfl,hlt,p'⟩,fun x H' y=>?_⟩
    obtain ⟨e,y⟩:=y
    subst e
    exact hs i x σ _ (y xs q) p
  · have e:i = xs.length:=by omega
    subst e
    exact .inl ⟨⟨xs,q,Nat.le_refl _⟩,hd σ H p⟩
theorem for_range {lo:Int} {n:Nat} {g:TG} {tb:TS} {D:Ends} {σ:St} {H:Hp} (Pv:Nat→St→Hp→Prop) (h0:Pv 0 σ H)
    (hs:∀ i σ H,i < n→Pv i σ H→g (.int (lo + i)) σ H fun σ2 H2=>tb { D with nx:=Pv (i + 1),ct:=Pv (i + 1),bk:=D.nx } σ2 H2) (hd:∀ σ H,Pv n σ H→D.nx σ H) :
    ∃ W:Nat→Nat→St→Hp→Prop,(∃ m,W 0 m σ H)∧∀ i m σ H,W i m σ H→
      ((Itr lo n).stop i H∧D.nx σ H) ∨ ((Itr lo n).go i H∧∃ N:St→Hp→Prop,(∀ σ' H',N σ' H'→∃ m',m' < m∧W (i + 1) m' σ' H')∧∀ x H',(Itr lo n).yld i H x H'→g x σ H' fun σ2 H2=>tb { D with nx:=N,ct:=N,bk:=D.nx } σ2 H2):=by
  refine ⟨fun i m σ H=>m = n - i∧i ≤ n∧Pv i σ H,⟨n,by simp,Nat.zero_le _,h0⟩,?_⟩
  rintro i m σ H ⟨rfl,hi,p⟩
  by_cases hlt:i < n
  · refine .inr ⟨hlt,Pv (i + 1),fun σ' H' p'=>⟨n - (i + 1),by omega,rfl,hlt,p'⟩,fun x H' y=>?_⟩
    obtain ⟨e,y⟩:=y
    subst e y
    exact hs i σ _ hlt p
  · have e:i = n:=by omega
    subst e
    exact .inl ⟨Nat.le_refl _,hd σ H p⟩
abbrev R2:=V→V→Hp→VK→Prop
def OpR (X:Cx) (f:Value→Value→Sem Value) (r:R2):Prop:=
  ∀ (pins:List (Addr × Obj)) (s:Shared) (σ:St) (H:Hp) (x y:V) (v u:Value) (Q:VK),Inv X pins σ H s→RelV x v→RelV y u→r x y H Q→
    wpAny (model X.prog X.w) X.A (f v u) (EP X pins σ Q) X.xe s
def UnR (X:Cx) (f:Value→Sem Value) (r:V→Hp→VK→Prop):Prop:=
  ∀ (pins:List (Addr × Obj)) (s:Shared) (σ:St) (H:Hp) (x:V) (v:Value) (Q:VK),Inv X pins σ H s→RelV x v→r x H Q→
    wpAny (model X.prog X.w) X.A (f v) (EP X pins σ Q) X.xe s
def CallR (X:Cx) (f:Value) (r:List V→Hp→VK→Prop):Prop:=
  ∀ (pins:List (Addr × Obj)) (s:Shared) (σ:St) (H:Hp) (xs:List V) (us:List Value) (Q:VK),Inv X pins σ H s→Vals xs us→r xs H Q→
    wpAny (model X.prog X.w) X.A (call f us) (EP X pins σ Q) X.xe s
def tOp (r:R2) (ta tb:TE):TE:=fun σ H Q=>ta σ H fun x H1=>tb σ H1 fun y H2=>r x y H2 Q
def tUn (r:V→Hp→VK→Prop) (ta:TE):TE:=fun σ H Q=>ta σ H fun x H1=>r x H1 Q
def rI (C:Int→Int→Prop) (g:Int→Int→V):R2:=fun x y H Q=>intK x fun i=>intK y fun j=>C i j∧Q (g i j) H
def rI0 (g:Int→Int→V):R2:=fun x y H Q=>intK x fun i=>intK y fun j=>Q (g i j) H
def rU (g:Int→V):V→Hp→VK→Prop:=fun x H Q=>intK x fun i=>Q (g i) H
section
variable {X:Cx} {a b c:Expr} {ta tb tc:TE} {pos:Pos}
theorem binT (ha:PE X a ta) (hb:PE X b tb) {pins:List (Addr × Obj)} {s:Shared} {σ:St} {H:Hp} {R:V→V→Hp→Prop} (I:Inv X pins σ H s)
    (h:ta σ H fun x H1=>tb σ H1 fun y H2=>R x y H2) {Q:Value→Shared→Prop} {f:Value→Value→Sem Value}
    (hf:∀ v u s2 x y H2,Inv X pins σ H2 s2→RelV x v→RelV y u→R x y H2→wpAny (model X.prog X.w) X.A (f v u) Q X.xe s2) :
    wpAny (model X.prog X.w) X.A (eval a X.env) (fun v s₁=>wpAny (model X.prog X.w) X.A (eval b X.env) (fun u s₂=>wpAny (model X.prog X.w) X.A (f v u) Q X.xe s₂) X.xe s₁) X.xe s:=by
  refine thn (ha pins s σ H _ I h) fun v s1 ⟨x,H1,I1,r1,q1⟩=>?_
  refine thn (hb pins s1 σ H1 _ I1 q1) fun u s2 ⟨y,H2,I2,r2,q2⟩=>?_
  exact hf v u s2 x y H2 I2 r1 r2 q2
theorem pe_op {op:Operator} {r:R2} (ho:OpR X (binaryOp op) r) (ha:PE X a ta) (hb:PE X b tb):PE X (.BinOp a op b pos) (tOp r ta tb):=by
  intro pins s σ H Q I h
  exact wpAny_BinOp (binT ha hb I h fun v u s2 x y H2 I2 rx ry q=>ho pins s2 σ H2 x y v u Q I2 rx ry q)
theorem pe_un {op:UnaryOp} {r:V→Hp→VK→Prop} (ho:UnR X (unaryOp op) r) (ha:PE X a ta):PE X (.UnaryOp op a pos) (tUn r ta):=by
  intro pins s σ H Q I h
  exact UnaryOp_ (thn (ha pins s σ H _ I h) fun v s1 ⟨x,H1,I1,r1,q1⟩=>ho pins s1 σ H1 x v Q I1 r1 q1)
theorem opI {f:Value→Value→Sem Value} {C:Int→Int→Prop} {g:Int→Int→Int}
    (rule:∀ (i j:Int) (t u:Tok) (s:Shared) (Q:Value→Shared→Prop) (E:Value→Shared→Prop),C i j→Q (.int (g i j) s.toks) { s with toks:=s.toks + 1 }→wpAny (model X.prog X.w) X.A (f (.int i t) (.int j u)) Q E s) :
    OpR X f (rI C fun i j=>.int (g i j)):=by
  intro pins s σ H x y v u Q I rx ry h
  obtain ⟨i,rfl,h2⟩:=intK_ex h
  obtain ⟨j,rfl,hc,q⟩:=intK_ex h2
  obtain ⟨t,rfl⟩:=rx
  obtain ⟨t',rfl⟩:=ry
  exact rule i j t t' s _ _ hc ⟨.int (g i j),H,I.tok _,⟨_,rfl⟩,q⟩
theorem opI0 {f:Value→Value→Sem Value} {g:Int→Int→Int}
    (rule:∀ (i j:Int) (t u:Tok) (s:Shared) (Q:Value→Shared→Prop) (E:Value→Shared→Prop),Q (.int (g i j) s.toks) { s with toks:=s.toks + 1 }→wpAny (model X.prog X.w) X.A (f (.int i t) (.int j u)) Q E s) :
    OpR X f (rI0 fun i j=>.int (g i j)):=by
  intro pins s σ H x y v u Q I rx ry h
  obtain ⟨i,rfl,h2⟩:=intK_ex h
  obtain ⟨j,rfl,q⟩:=intK_ex h2
  obtain ⟨t,rfl⟩:=rx
  obtain ⟨t',rfl⟩:=ry
  exact rule i j t t' s _ _ ⟨.int (g i j),H,I.tok _,⟨_,rfl⟩,q⟩
theorem opB0 {f:Value→Value→Sem Value} {g:Int→Int→Bool}
    (rule:∀ (i j:Int) (t u:Tok) (s:Shared) (Q:Value→Shared→Prop) (E:Value→Shared→Prop),Q (.bool (g i j)) s→wpAny (model X.prog X.w) X.A (f (.int i t) (.int j u)) Q E s) :
    OpR X f (rI0 fun i j=>.bl (g i j)):=by
  intro pins s σ H x y v u Q I rx ry h
  obtain ⟨i,rfl,h2⟩:=intK_ex h
  obtain ⟨j,rfl,q⟩:=intK_ex h2
  obtain ⟨t,rfl⟩:=rx
  obtain ⟨t',rfl⟩:=ry
  exact rule i j t t' s _ _ ⟨.bl (g i j),H,I,rfl,q⟩
def CDiv (i j:Int):Prop:=0 < j∧j < 1073741824
def CMul (i j:Int):Prop:=(-(2 ^ 64) < i∧i < 2 ^ 64) ∨ (-(2 ^ 64) < j∧j < 2 ^ 64)
theorem CMul.ok {i j:Int} (h:CMul i j):IntMulOk i j:=by
  rcases h with ⟨h1,h2⟩ | ⟨h1,h2⟩
  · exact .of_left (intBits_le_64 h1 h2)
  · exact .of_right (intBits_le_64 h1 h2)
theorem two_pow_nn (k:Nat):(0:Int) ≤ 2 ^ k:=by
  rw [two_pow_cast]
  exact Int.natCast_nonneg _
theorem op_add:OpR X (binaryOp .Add) (rI0 fun i j=>.int (i + j)):=opI0 fun _ _ _ _ _ _ _ q=>add_int q
theorem op_sub:OpR X (binaryOp .Sub) (rI0 fun i j=>.int (i - j)):=opI0 fun _ _ _ _ _ _ _ q=>sub_int q
theorem op_fdiv:OpR X (binaryOp .FloorDiv) (rI CDiv fun i j=>.int (i / j)):=opI fun i j _ _ _ _ _ hc q=>by
  have h1:(0:Int) < j:=hc.1
  have h2:j < 1073741824:=hc.2
  exact floordiv_int (by omega) (by rw [Int.fdiv_eq_ediv_of_nonneg i (by omega)]; exact q) (.inl (PyProof.noPylong_small (by omega)))
theorem op_mod:OpR X (binaryOp .Mod) (rI (fun _ j=>0 < j) fun i j=>.int (i % j)):=opI fun i j _ _ _ _ _ hc q=>by
  have h1:(0:Int) < j:=hc
  exact mod_int' (by omega) (by rw [Int.fmod_eq_emod_of_nonneg i (by omega)]; exact q)
theorem op_shr:OpR X (binaryOp .RShift) (rI (fun _ j=>0 ≤ j) fun i j=>.int (i / 2 ^ j.toNat)):=opI fun i j _ _ _ _ _ hc q=>
  rshift_int hc (by rw [Int.fdiv_eq_ediv_of_nonneg i (two_pow_nn _)]; exact q)
theorem unI {f:Value→Sem Value} {g:Int→Int}
    (rule:∀ (i:Int) (t:Tok) (s:Shared) (Q:Value→Shared→Prop) (E:Value→Shared→Prop),Q (.int (g i) s.toks) { s with toks:=s.toks + 1 }→wpAny (model X.prog X.w) X.A (f (.int i t)) Q E s) :
    UnR X f (rU fun i=>.int (g i)):=by
  intro pins s σ H x v Q I rx h
  obtain ⟨i,rfl,q⟩:=intK_ex h
  obtain ⟨t,rfl⟩:=rx
  exact rule i t s _ _ ⟨.int (g i),H,I.tok _,⟨_,rfl⟩,q⟩
theorem un_neg:UnR X (unaryOp .USub) (rU fun i=>.int (-i)):=unI fun _ _ _ _ _ q=>neg_int q
end
def scal:V→V→Bool
  | .non,.non=>true | .non,.int _=>true | .int _,.non=>true | .non,.bl _=>true | .bl _,.non=>true | .non,.str _=>true | .str _,.non=>true
  | .int _,.int _=>true | .bl _,.bl _=>true | .str _,.str _=>true | .byt _,.byt _=>true
  | .int _,.str _=>true | .str _,.int _=>true | .bl _,.str _=>true | .str _,.bl _=>true
  | _,_=>false
def rEq:R2:=fun x y H Q=>scal x y = true∧Q (.bl (decide (x = y))) H
def rNe:R2:=fun x y H Q=>scal x y = true∧Q (.bl (!decide (x = y))) H
theorem dec_int {i j:Int}:decide (V.int i = V.int j) = (i == j):=by
  rw [Bool.eq_iff_iff]
  simp
theorem dec_bl {i j:Bool}:decide (V.bl i = V.bl j) = (i == j):=by
  rw [Bool.eq_iff_iff]
  simp
theorem dec_str {i j:Str}:decide (V.str i = V.str j) = (i == j):=by
  rw [Bool.eq_iff_iff]
  simp
theorem dec_byt {i j:Array UInt8}:decide (V.byt i = V.byt j) = (i.toList == j.toList):=by
  rw [Bool.eq_iff_iff]
  cases i
  cases j
  simp
section
variable {X:Cx} {a b c:Expr} {ta tb tc:TE} {pos:Pos}
theorem fin_bl {pins:List (Addr × Obj)} {σ:St} {H:Hp} {s:Shared} {Q:VK} {k k':Bool} (I:Inv X pins σ H s) (q:Q (.bl k) H) (e:k = k'):EP X pins σ Q (.bool k') s:=by
  subst e
  exact ⟨.bl k,H,I,rfl,q⟩
theorem op_eq:OpR X (compareOp .Eq) rEq:=by
  intro pins s σ H x y v u Q I rx ry h
  obtain ⟨hs,q⟩:=h
  cases x with
  | non=>
    cases rx
    cases y with
    | non=>cases ry; exact PySem.EqNone.eq_none_none (fin_bl I q (by simp))
    | bl j=>cases ry; exact PySem.EqNone.eq_none_bool (fin_bl I q (by simp))
    | int j=>obtain ⟨t',rfl⟩:=ry; exact PySem.EqNone.eq_none_int (fin_bl I q (by simp))
    | str j=>obtain ⟨t',rfl⟩:=ry; exact PySem.EqNone.eq_none_str (fin_bl I q (by simp))
    | _=>exact absurd (show false = true from hs) Bool.false_ne_true
  | bl i=>
    cases rx
    cases y with
    | non=>cases ry; exact PySem.EqNone.eq_bool_none (fin_bl I q (by simp))
    | bl j=>cases ry; exact eq_bool (fin_bl I q dec_bl)
    | str j=>obtain ⟨t',rfl⟩:=ry; exact PySem.EqMixed.eq_bool_str (fin_bl I q (by simp))
    | _=>exact absurd (show false = true from hs) Bool.false_ne_true
  | int i=>
    obtain ⟨t,rfl⟩:=rx
    cases y with
    | non=>cases ry; exact PySem.EqNone.eq_int_none (fin_bl I q (by simp))
    | int j=>obtain ⟨t',rfl⟩:=ry; exact eq_int (fin_bl I q dec_int)
    | str j=>obtain ⟨t',rfl⟩:=ry; exact PySem.EqMixed.eq_int_str (fin_bl I q (by simp))
    | _=>exact absurd (show false = true from hs) Bool.false_ne_true
  | str i=>
    obtain ⟨t,rfl⟩:=rx
    cases y with
    | non=>cases ry; exact PySem.EqNone.eq_str_none (fin_bl I q (by simp))
    | bl j=>cases ry; exact PySem.EqMixed.eq_str_bool (fin_bl I q (by simp))
    | int j=>obtain ⟨t',rfl⟩:=ry; exact PySem.EqMixed.eq_str_int (fin_bl I q (by simp))
    | str j=>obtain ⟨t',rfl⟩:=ry; exact eq_str (fin_bl I q dec_str)
    | _=>exact absurd (show false = true from hs) Bool.false_ne_true
  | byt i=>
    obtain ⟨t,rfl⟩:=rx
    cases y with
    | byt j=>obtain ⟨t',rfl⟩:=ry; exact PySem.W.eq_bytes (fin_bl I q dec_byt)
    | _=>exact absurd (show false = true from hs) Bool.false_ne_true
  | _=>cases y <;> exact absurd (show false = true from hs) Bool.false_ne_true
theorem op_ne:OpR X (compareOp .NotEq) rNe:=by
  intro pins s σ H x y v u Q I rx ry h
  obtain ⟨hs,q⟩:=h
  cases x with
  | non=>
    cases rx
    cases y with
    | non=>cases ry; exact PySem.EqNone.ne_none_none (fin_bl I q (by simp))
    | bl j=>cases ry; exact PySem.EqNone.ne_none_bool (fin_bl I q (by simp))
    | int j=>obtain ⟨t',rfl⟩:=ry; exact PySem.EqNone.ne_none_int (fin_bl I q (by simp))
    | str j=>obtain ⟨t',rfl⟩:=ry; exact PySem.EqNone.ne_none_str (fin_bl I q (by simp))
    | _=>exact absurd (show false = true from hs) Bool.false_ne_true
  | bl i=>
    cases rx
    cases y with
    | non=>cases ry; exact PySem.EqNone.ne_bool_none (fin_bl I q (by simp))
    | bl j=>cases ry; exact ne_bool (fin_bl I q (congrArg not dec_bl))
    | str j=>obtain ⟨t',rfl⟩:=ry; exact PySem.EqMixed.ne_bool_str (fin_bl I q (by simp))
    | _=>exact absurd (show false = true from hs) Bool.false_ne_true
  | int i=>
    obtain ⟨t,rfl⟩:=rx
    cases y with
    | non=>cases ry; exact PySem.EqNone.ne_int_none (fin_bl I q (by simp))
    | int j=>obtain ⟨t',rfl⟩:=ry; exact ne_int (fin_bl I q (congrArg not dec_int))
    | str j=>obtain ⟨t',rfl⟩:=ry; exact PySem.EqMixed.ne_int_str (fin_bl I q (by simp))
    | _=>exact absurd (show false = true from hs) Bool.false_ne_true
  | str i=>
    obtain ⟨t,rfl⟩:=rx
    cases y with
    | non=>cases ry; exact PySem.EqNone.ne_str_none (fin_bl I q (by simp))
    | bl j=>cases ry; exact PySem.EqMixed.ne_str_bool (fin_bl I q (by simp))
    | int j=>obtain ⟨t',rfl⟩:=ry; exact PySem.EqMixed.ne_str_int (fin_bl I q (by simp))
    | str j=>obtain ⟨t',rfl⟩:=ry; exact ne_str (fin_bl I q (congrArg not dec_str))
    | _=>exact absurd (show false = true from hs) Bool.false_ne_true
  | byt i=>
    obtain ⟨t,rfl⟩:=rx
    cases y with
    | byt j=>obtain ⟨t',rfl⟩:=ry; exact PySem.W.ne_bytes (fin_bl I q (congrArg not dec_byt))
    | _=>exact absurd (show false = true from hs) Bool.false_ne_true
  | _=>cases y <;> exact absurd (show false = true from hs) Bool.false_ne_true
theorem op_lt:OpR X (compareOp .Lt) (rI0 fun i j=>.bl (decide (i < j))):=opB0 fun _ _ _ _ _ _ _ q=>lt_int q
theorem op_le:OpR X (compareOp .LtE) (rI0 fun i j=>.bl (decide (i ≤ j))):=opB0 fun _ _ _ _ _ _ _ q=>le_int q
theorem op_gt:OpR X (compareOp .Gt) (rI0 fun i j=>.bl (decide (j < i))):=opB0 fun _ _ _ _ _ _ _ q=>gt_int q
theorem op_ge:OpR X (compareOp .GtE) (rI0 fun i j=>.bl (decide (j ≤ i))):=opB0 fun _ _ _ _ _ _ _ q=>ge_int q
theorem pe_cmpR {op:CmpOp} {r:R2} (ho:OpR X (compareOp op) r) (ha:PE X a ta) (hb:PE X b tb) (hm:behindInMarks op b = false):PE X (.Compare a [op] [b] pos) (tOp r ta tb):=by
  intro pins s σ H Q I h
  exact wpAny_Compare1 (binT ha hb I h fun v u s2 x y H2 I2 rx ry q=>ho pins s2 σ H2 x y v u Q I2 rx ry q) hm
def tTest (t:TE):TT:=fun σ H Q=>t σ H fun x H'=>blK x fun k=>Q k H'
theorem pt_cmpR {op:CmpOp} {r:R2} (ho:OpR X (compareOp op) r) (ha:PE X a ta) (hb:PE X b tb) (hm:behindInMarks op b = false):PT X (.Compare a [op] [b] pos) (tTest (tOp r ta tb)):=by
  intro pins s σ H Q I h
  refine wpAny_isTrue_Compare1 (thn (ha pins s σ H _ I h) fun v s1 ⟨x,H1,I1,r1,q1⟩=>thn (hb pins s1 σ H1 _ I1 q1) fun u s2 ⟨y,H2,I2,r2,q2⟩=>
    thn (ho pins s2 σ H2 x y v u _ I2 r1 r2 q2) fun c s3 ⟨z,H3,I3,r3,q3⟩=>?_) hm
  obtain ⟨k,rfl,q3⟩:=blK_ex q3
  cases r3
  exact wpAny_truthy_bool ⟨H3,I3,q3⟩
def tChain (r r':R2) (ta tb tc:TE):TE:=fun σ H Q=>ta σ H fun x H1=>tb σ H1 fun y H2=>r x y H2 fun z H3=>∃ k,z = .bl k∧
  (if k = true then tc σ H3 fun w' H4=>r' y w' H4 Q else Q (.bl false) H3)
theorem pe_chain {op op':CmpOp} {r r':R2} (ho:OpR X (compareOp op) r) (ho':OpR X (compareOp op') r') (ha:PE X a ta) (hb:PE X b tb) (hc:PE X c tc)
    (hm:lastMarks [op,op'] [b,c] = false:=by with_unfolding_all rfl):PE X (.Compare a [op,op'] [b,c] pos) (tChain r r' ta tb tc):=by
  intro pins s σ H Q I h
  refine Compare_chain (thn (ha pins s σ H _ I h) fun v s1 ⟨x,H1,I1,r1,q1⟩=>chain_link (thn (hb pins s1 σ H1 _ I1 q1) fun u s2 ⟨y,H2,I2,r2,q2⟩=>
    thn (ho pins s2 σ H2 x y v u _ I2 r1 r2 q2) fun d s3 ⟨z,H3,I3,r3,k,e,q3⟩=>?_)) hm
  subst e
  cases r3
  refine wpAny_truthy_bool ?_
  cases k with
  | false=>exact ite_ff ⟨.bl false,H3,I3,rfl,q3⟩
  | true=>exact ite_tt (chain_last (thn (hc pins s3 σ H3 _ I3 q3) fun w' s4 ⟨z',H4,I4,r4,q4⟩=>ho' pins s4 σ H4 y z' u w' Q I4 r2 r4 q4))
theorem pt_chain {op op':CmpOp} {r r':R2} (ho:OpR X (compareOp op) r) (ho':OpR X (compareOp op') r') (ha:PE X a ta) (hb:PE X b tb) (hc:PE X c tc)
    (hm:lastMarks [op,op'] [b,c] = false:=by with_unfolding_all rfl):PT X (.Compare a [op,op'] [b,c] pos) (tTest (tChain r r' ta tb tc)):=by
  intro pins s σ H Q I h
  refine isTrue_chain (thn (ha pins s σ H _ I h) fun v s1 ⟨x,H1,I1,r1,q1⟩=>test_link (thn (hb pins s1 σ H1 _ I1 q1) fun u s2 ⟨y,H2,I2,r2,q2⟩=>
    thn (ho pins s2 σ H2 x y v u _ I2 r1 r2 q2) fun d s3 ⟨z,H3,I3,r3,k,e,q3⟩=>?_)) hm
  subst e
  cases r3
  refine wpAny_truthy_bool ?_
  cases k with
  | false=>
    exact ite_ff ⟨H3,I3,q3⟩
  | true=>
    refine ite_tt (test_last (thn (hc pins s3 σ H3 _ I3 q3) fun w' s4 ⟨z',H4,I4,r4,q4⟩=>thn (ho' pins s4 σ H4 y z' u w' _ I4 r2 r4 q4) fun d' s5 ⟨z2,H5,I5,r5,q5⟩=>?_))
    obtain ⟨k2,rfl,q5⟩:=blK_ex q5
    cases r5
    exact wpAny_truthy_bool ⟨H5,I5,q5⟩
theorem line63:(sizeLine:Nat) < 2 ^ 63:=by rw [sizeLine_eq]; decide
theorem op_add_str:OpR X (binaryOp .Add) (fun x y H Q=>∃ i j,x = .str i∧y = .str j∧i.length + j.length ≤ sizeLine∧Q (.str (i ++ j)) H):=by
  intro pins s σ H x y v u Q I rx ry h
  obtain ⟨i,j,rfl,rfl,hz,q⟩:=h
  obtain ⟨t,rfl⟩:=rx
  obtain ⟨t',rfl⟩:=ry
  exact add_str (fun t' tk=>⟨.str (i ++ j),H,I.tok _,⟨_,rfl⟩,q⟩) hz
theorem vals1 {x:V} {us:List Value} (r:Vals [x] us):∃ u,us = [u]∧RelV x u:=by
  cases r with
  | cons r1 r2=>cases r2; exact ⟨_,rfl,r1⟩
theorem vals2 {x y:V} {us:List Value} (r:Vals [x,y] us):∃ u w',us = [u,w']∧RelV x u∧RelV y w':=by
  cases r with
  | cons r1 r2=>
    cases r2 with
    | cons r3 r4=>cases r4; exact ⟨_,_,rfl,r1,r3⟩
theorem call_min2 (hc:X.calm = true):CallR X (.builtin "min") (fun xs H Q=>∃ i j,xs = [.int i,.int j]∧Q (.int (if j < i then j else i)) H):=by
  intro pins s σ H xs us Q I r h
  obtain ⟨i,j,rfl,q⟩:=h
  obtain ⟨u,w',rfl,⟨t,rfl⟩,⟨t',rfl⟩⟩:=vals2 r
  refine min_two_ints (I.ok.hd hc) fun h' tk k=>⟨_,H,I.kept k,?_,q⟩
  by_cases hj:j < i
  · rw [if_pos hj,if_pos hj]; exact ⟨_,rfl⟩
  · rw [if_neg hj,if_neg hj]; exact ⟨_,rfl⟩
theorem call_str_int:CallR X (.type "str") (fun xs H Q=>∃ i,xs = [.int i]∧i.natAbs.log2 < 1920∧Q (.str (toString i)) H):=by
  intro pins s σ H xs us Q I r h
  obtain ⟨i,rfl,hz,q⟩:=h
  obtain ⟨u,rfl,t,rfl⟩:=vals1 r
  exact PySem.P.str_of_int hz ⟨.str _,H,I.tok _,⟨_,rfl⟩,q⟩
end
structure ObjM (h:Heap) (x dx C:Addr) (mA:Str→Option Value):Prop where
  obj:h.get? x = some (PySem.W.instObj C dx)
  ns:h.Ns1 dx mA
  ne:dx ≠ x
theorem lookIn_ns {h:Heap} {dx:Addr} {mA:Str→Option Value} (n:h.Ns1 dx mA):∃ od,h.get? dx = some od∧∀ name,PySem.W.lookIn name od = some (mA name):=by
  obtain ⟨o,es,ep,ho,hd,hk,_,hm⟩:=n
  refine ⟨o,ho,fun name=>?_⟩
  have e:=hm name
  unfold nsFind findBy at e
  rw [← Array.find?_toList] at e
  unfold PySem.W.lookIn
  rw [hd]
  dsimp only
  split
  · rename_i y q
    rw [q] at e
    exact congrArg some e
  · rename_i q
    rw [q] at e
    have a:es.toList.any (·.refKey) = false:=by
      rw [List.any_eq_false]
      intro y hy
      obtain ⟨z,t,hkey⟩:=hk y (Array.mem_toList_iff.mp hy)
      simp [DictEntry.refKey,hkey]
    have a':¬ es.toList.any (·.refKey) = true:=by rw [a]; exact Bool.false_ne_true
    rw [if_neg a']
    exact congrArg some e
theorem ObjM.look {h:Heap} {x dx C:Addr} {mA:Str→Option Value} (I:ObjM h x dx C mA):∃ od,PySem.W.InstAt h x (PySem.W.instObj C dx) C (some od)∧∀ name,PySem.W.lookIn name od = some (mA name):=
  let ⟨od,ho,hl⟩:=lookIn_ns I.ns
  ⟨od,⟨I.obj,rfl,rfl,ho⟩,hl⟩
section
variable {P:Program} {w:World} {H H':Hp} {h h':Heap} {a C dx:Addr} {fs fs':List (Str × V)}
theorem ins_get (hok:HOk P w H h) (e:H a = some (.ins C dx fs)):∃ mA,ObjM h a dx C mA∧(∀ f,RelO (fs.lookup f) (mA f))∧PySem.Within mA (fs.map (·.1))∧fs.length ≤ 1000∧H dx = some (.own a):=by
  obtain ⟨d,z,ne,ob,mA,n,r,q⟩:=(show ObjOk P w H h a (.ins C dx fs) from hok a _ e)
  exact ⟨mA,⟨ob,n,ne⟩,r,q,z,d⟩
end
structure Cls (K:PySem.W.Frag) (C:Addr):Prop where
  pg:PySem.W.plainGet K C Str.empty = true
  hd:PySem.W.hasDictIn K C = true
  po:PySem.W.plainOver K C = true
  sa:PySem.W.findIn K (.ref C) "__setattr__" = some (some (.builtin "object.__setattr__"))
theorem Cls.get {K:PySem.W.Frag} {C:Addr} (c:Cls K C) (f:Str):PySem.W.plainGet K C f = true:=c.pg
def NoAttr (K:PySem.W.Frag) (C:Addr) (f:Str):Prop:=PySem.W.findIn K (.ref C) f = some none
section
variable {X:Cx} {pins:List (Addr × Obj)} {σ:St} {H:Hp} {s:Shared} {a C dx:Addr} {fs:List (Str × V)} {f:Str} {v:V} {A:Around} {E:Value→Shared→Prop}
theorem attr_of {prog:Program} {w:World} {env:Env} {e:Expr} {f:Str} {pos:Pos} {s:Shared} {Q:Value→Shared→Prop} (hb:attributeBase e f env (eval e env) = eval e env)
    (h:wpAny (model prog w) A (eval e env) (fun o s₁=>wpAny (model prog w) A (getAttr o f true) Q E s₁) E s):wpAny (model prog w) A (eval (.Attribute e f pos) env) Q E s:=
  Attribute_any_ h (by rw [arm_eval_Attribute,hb])
end
section
variable {X:Cx} {pins:List (Addr × Obj)} {σ:St} {H:Hp} {s:Shared} {A:Around} {E:Value→Shared→Prop} {Q:Value→Shared→Prop} {c:Value} {b:Bool}
inductive TyOf (K:PySem.W.Frag) (H:Hp):V→Value→Prop where
  | non:TyOf K H .non (.type "NoneType")
  | bl (x:Bool):TyOf K H (.bl x) (.type "bool")
  | int (i:Int):TyOf K H (.int i) (.type "int")
  | str (x:Str):TyOf K H (.str x) (.type "str")
  | flt (x:UInt64):TyOf K H (.flt x) (.type "float")
  | lst {a:Addr} {xs:List V} (e:H a = some (.lst xs)):TyOf K H (.ref a) (.type "list")
  | frz {a:Addr} {o:Obj} {xs:List V} (e:H a = some (.frz o (.lst xs))):TyOf K H (.ref a) (.type "list")
  | tup {a:Addr} {xs:List V} (e:H a = some (.tup xs)):TyOf K H (.ref a) (.type "tuple")
  | dK {a:Addr} {kvs:List (Key × V)} (e:H a = some (.dK kvs)):TyOf K H (.ref a) (.type "dict")
  | dT {a:Addr} {kvs:List (List Key × V)} (e:H a = some (.dT kvs)):TyOf K H (.ref a) (.type "dict")
  | ins {a C dx:Addr} {fs:List (Str × V)} (e:H a = some (.ins C dx fs)) (cl:Cls K C) (ha:PySem.W.findIn K (.ref C) "__class__" = some (some (.builtin "object.__class__")))
      (hn : PySem.W.specialIn K (.builtin "object.__class__") "__get__" = some (some (.builtin "getset_descriptor.__get__"))) (htk : PySem.W.takesIn K (.builtin "object.__class__") = some true)
      (hm:PySem.W.mroIn K C (.type "object") = some true):TyOf K H (.ref a) (.ref C)
theorem isinst_ok {x:V} {u t:Value} (I:Inv X pins σ H s) (rx:RelV x u) (ty:TyOf X.K H x t) (e:PySem.W.kitOne X.K t c = some b) (h:∀ tk,Q (.bool b) { s with toks:=tk }) :
    wpAny (model X.prog X.w) A (call (.builtin "isinstance") [u,c]) Q E s:=by
  cases ty with
  | non=>cases (show u = Value.none from rx); exact PySem.W.kia_one PySem.W.kitx_none I.kIn True.intro e (fun z=>nomatch z) h
  | bl y=>cases (show u = Value.bool y from rx); exact PySem.W.kia_one PySem.W.kitx_bool I.kIn True.intro e (fun z=>nomatch z) h
  | int i=>obtain ⟨t,q⟩:=(show ∃ t,u = Value.int i t from rx); cases q; exact PySem.W.kia_one PySem.W.kitx_int I.kIn True.intro e (fun z=>nomatch z) h
  | str y=>obtain ⟨t,q⟩:=(show ∃ t,u = Value.str y t from rx); cases q; exact PySem.W.kia_one PySem.W.kitx_str I.kIn True.intro e (fun z=>nomatch z) h
  | flt y=>obtain ⟨t,q⟩:=(show ∃ t,u = Value.float y t from rx); cases q; exact PySem.W.kia_one PySem.W.kitx_float I.kIn True.intro e (fun z=>nomatch z) h
  | @lst a xs ea=>
    cases (show u = Value.ref a from rx)
    obtain ⟨_,_,n,_,h1⟩:=(show ObjOk X.prog X.w H s.heap a (.lst xs) from I.hok a _ ea)
    exact PySem.W.kia_one PySem.W.kitx_list I.kIn ⟨_,h1,rfl⟩ e (fun z=>nomatch z) h
  | @frz a ob xs ea=>
    cases (show u = Value.ref a from rx)
    obtain ⟨_,_,_,n,_,h1⟩:=(show ObjOk X.prog X.w H s.heap a (.frz ob (.lst xs)) from I.hok a _ ea)
    exact PySem.W.kia_one PySem.W.kitx_list I.kIn ⟨_,h1,rfl⟩ e (fun z=>nomatch z) h
  | @tup a xs ea=>
    cases (show u = Value.ref a from rx)
    obtain ⟨_,_,_,p⟩:=(show ObjOk X.prog X.w H s.heap a (.tup xs) from I.hok a _ ea)
    obtain ⟨o,h1,h2,_⟩:=p
    exact PySem.W.kia_one PySem.W.kitx_tuple I.kIn ⟨o,h1,h2⟩ e (fun z=>nomatch z) h
  | @dK a kvs ea=>
    cases (show u = Value.ref a from rx)
    obtain ⟨_,_,vs,_,p⟩:=(show ObjOk X.prog X.w H s.heap a (.dK kvs) from I.hok a _ ea)
    obtain ⟨o,es,ep,h1,h2,_⟩:=p
    exact PySem.W.kia_one PySem.W.kitx_dict I.kIn ⟨o,h1,h2.1⟩ e (fun z=>nomatch z) h
  | @dT a kvs ea=>
    cases (show u = Value.ref a from rx)
    obtain ⟨_,_,xs,_,o,es,ep,h1,h2,_⟩:=(show ObjOk X.prog X.w H s.heap a (.dT kvs) from I.hok a _ ea)
    exact PySem.W.kia_one PySem.W.kitx_dict I.kIn ⟨o,h1,h2.1⟩ e (fun z=>nomatch z) h
  | @ins a C dx fs ea cl ha hn htk hm=>
    cases (show u = Value.ref a from rx)
    obtain ⟨mA,O,_⟩:=ins_get I.hok ea
    obtain ⟨od,J,_⟩:=O.look
    exact PySem.W.kia_one (PySem.W.kitx_own (cl.get _) cl.hd ha hn htk hm) I.kIn J e (fun z=>nomatch z) h
end
structure Room (k:Nat) (A:Around):Prop where
  hd:A.handled = none
  dp:A.depth + 3 * k + 5 < recursionLimit
  un:A.units + 16 * k + 200 < cLine
theorem Room.mono {j k:Nat} {A:Around} (r:Room k A) (h:j ≤ k):Room j A:=⟨r.hd,by have:=r.dp; omega,by have:=r.un; omega⟩
theorem Room.deeper {k:Nat} {A:Around} (r:Room (k + 1) A) (env:Env):Room k (A.deeper env):=
  ⟨r.hd,by have:=r.dp; show A.depth + 1 + 3 * k + 5 < _; omega,by have:=r.un; show A.units + 3 + 16 * k + 200 < _; omega⟩
theorem make_depth {A:Around} {C:Addr} {us:List Value} {kw:List (Str × Value)}:(A.under (.builtin "type.__call__" ⟨.ref C :: us,kw⟩)).depth = A.depth + 1:=by
  first | rfl | simp [Around.under,Code.weight,Code.isCreation,Code.isGuard,Code.isCaller,Code.frames,Code.isFrame,guardIds]
theorem make_units {A:Around} {C:Addr} {us:List Value} {kw:List (Str × Value)}:(A.under (.builtin "type.__call__" ⟨.ref C :: us,kw⟩)).units = A.units + 1:=by
  first | rfl | simp [Around.under,Code.cUnits,Code.frames,Code.isFrame]
theorem Room.make {k:Nat} {A:Around} (r:Room (k + 1) A) (C:Addr) (us:List Value) (kw:List (Str × Value)):Room k (A.under (.builtin "type.__call__" ⟨.ref C :: us,kw⟩)):=
  ⟨r.hd,by have:=r.dp; rw [make_depth]; omega,by have:=r.un; rw [make_units]; omega⟩
theorem Room.depth {k:Nat} {A:Around} (r:Room k A):A.depth < recursionLimit:=by have:=r.dp; omega
theorem Room.units {k:Nat} {A:Around} (r:Room k A):A.units + 64 < cLine:=by have:=r.un; omega
def tNil:TA:=fun _ H Q=>Q [] H
def tCons (ta:TE) (tr:TA):TA:=fun σ H Q=>ta σ H fun x H1=>tr σ H1 fun xs H2=>Q (x :: xs) H2
section
variable {X:Cx} {e:Expr} {es:List Expr} {te:TE} {t:TA} {pos:Pos}
theorem pa_nil:PA X [] tNil:=fun _ _ _ _ H Q I h=>Calls.spliced_nil ⟨[],H,I,.nil,h⟩
theorem pa_cons (ha:PE X e te) (hr:PA X es t) (hs:starEach (e :: es) X.env = (false,eval e X.env) :: starEach es X.env:=by rfl):PA X (e :: es) (tCons te t):=by
  intro pos pins s σ H Q I h
  rw [hs]
  show wpAny _ _ (spliced ((false,eval e X.env) :: backTo pos (starEach es X.env))) _ _ s
  refine Calls.spliced_cons (thn (ha pins s σ H _ I h) fun u s1 ⟨x,H1,I1,r1,q1⟩=>?_)
  exact thn (hr pos pins s1 σ H1 _ I1 q1) fun us s2 ⟨xs,H2,I2,r2,q2⟩=>⟨x :: xs,H2,I2,.cons r1 r2,q2⟩
def tTup (t:TA):TE:=fun σ H Q=>t σ H fun xs H1=>xs.length ≤ sizeLine∧∀ p,H1 p = none→Q (.ref p) (upd H1 p (.tup xs))
def tLst (t:TA):TE:=fun σ H Q=>t σ H fun xs H1=>xs.length ≤ sizeLine∧∀ p,H1 p = none→Q (.ref p) (upd H1 p (.lst xs))
theorem pe_tup {x1} (h:PA X es t):PE X (.Tuple es x1 pos) (tTup t):=by
  intro pins s σ H Q I hq
  refine wpAny_Tuple_spliced (thn (h pos pins s σ H _ I hq) fun us s1 ⟨xs,H1,I1,r,z,q⟩=>⟨by rw [← r.length]; exact z,?_⟩)
  have hf:H1 s1.heap.objs.size = none:=I1.hok.fresh (Nat.le_refl _)
  refine ⟨.ref s1.heap.objs.size,upd H1 s1.heap.objs.size (.tup xs),I1.laid (t':=s1.toks) (fun b u e=>Heap.get?_push_of_some _ e) (Nat.le_refl _) ?_,rfl,q _ hf⟩
  exact ⟨z,us,r,⟨_,Heap.get?_push_size _ rfl,rfl,_,rfl⟩⟩
theorem pe_lst (h:PA X es t):PE X (.List es pos) (tLst t):=by
  intro pins s σ H Q I hq
  refine wpAny_List_spliced (thn (h pos pins s σ H _ I hq) fun us s1 ⟨xs,H1,I1,r,z,q⟩=>⟨by rw [← r.length]; exact z,?_⟩)
  have hf:H1 s1.heap.objs.size = none:=I1.hok.fresh (Nat.le_refl _)
  refine ⟨.ref s1.heap.objs.size,upd H1 s1.heap.objs.size (.lst xs),I1.laid (t':=s1.toks) (fun b u e=>Heap.get?_push_of_some _ e) (Nat.le_refl _) ?_,rfl,q _ hf⟩
  exact ⟨z,us,0,r,Heap.get?_push_size _ rfl⟩
end
abbrev Sp:=List V→Hp→VK→XK→Prop
abbrev CXT:=List Env→Hp→Shared→XK→Value→Shared→Prop
structure Env0 (P:Program) (w:World) (K:PySem.W.Frag) (mg:Str→Option Value) (base:Heap) (A:Around) (outer:List Env) (s:Shared) (H:Hp):Prop where
  frames:A.frames = some outer
  mod:Mod K mg base
  bs:∀ b o,base.get? b = some o→s.heap.get? b = some o∧H b = none
  bsz:base.objs.size ≤ s.heap.objs.size
  funs:s.heap.FunFrames base outer
  frf:∀ b ∈ frs outer,H b = none
  hok:HOk P w H s.heap
  bare:AllBare s.gens
def CE (outer:List Env) (P:Program) (w:World) (H:Hp) (s:Shared) (Q:VK) (u:Value) (s':Shared):Prop:=
  ∃ v H',s'.os = s.os∧AllBare s'.gens∧Un (frs outer) [] H H' s.heap s'.heap∧HOk P w H' s'.heap∧RelV v u∧Q v H'
def CR (CX:CXT) (outer:List Env) (P:Program) (w:World) (H:Hp) (s:Shared) (Q:VK) (E:XK) (r:Result) (s':Shared):Prop:=
  match r with
  | .ok (.ret u)=>CE outer P w H s Q u s'
  | .ok _=>False
  | .error e=>CX outer H s E e s'
structure FnOk (P:Program) (w:World) (K:PySem.W.Frag) (mg:Str→Option Value) (base:Heap) (CX:CXT) (k:Nat) (f:Addr) (fd:FuncData) (ps:List Str) (sp:Sp):Prop where
  len:∀ vs H Q E,sp vs H Q E→vs.length = ps.length
  run:∀ (A:Around) (outer:List Env) (s:Shared) (H:Hp) (args:Args) (us:List Value) (vs:List V) (Q:VK) (E:XK),Room k A→Env0 P w K mg base A outer s H→BindsTo s fd args (ps.zip us)→Vals vs us→sp vs H Q E→
    codeAny (model P w) A (.call (.ref f) args) (CR CX outer P w H s Q E) s
theorem Env0.make {P:Program} {w:World} {K:PySem.W.Frag} {mg:Str→Option Value} {base:Heap} {A:Around} {outer:List Env} {s:Shared} {H:Hp} (e:Env0 P w K mg base A outer s H) (C:Addr) (us:List Value) (kw:List (Str × Value)) :
    Env0 P w K mg base (A.under (.builtin "type.__call__" ⟨.ref C :: us,kw⟩)) outer s H:=⟨by first | exact e.frames | (simpa [Around.under,Code.envs,Code.isFrame,pushEnvs] using e.frames),e.mod,e.bs,e.bsz,e.funs,e.frf,e.hok,e.bare⟩
section
variable {X:Cx} {pins:List (Addr × Obj)} {σ:St} {H:Hp} {s s':Shared}
theorem Inv.env0 (I:Inv X pins σ H s):Env0 X.prog X.w X.K X.mg X.base X.A X.stack s H:=
  ⟨I.ok.frames,I.ok.mod,I.bs,Nat.le_trans I.ok.bsz I.sz,I.stack,I.stkFree,I.hok,I.bare⟩
theorem Inv.after {Q:VK} {u:Value} (I:Inv X pins σ H s) (h:CE X.stack X.prog X.w H s Q u s'):EP X pins σ Q u s':=by
  obtain ⟨v,H',os,bare,un,hok,r,q⟩:=h
  obtain ⟨hh,g,d,t,os'⟩:=s'
  obtain rfl:os' = s.os:=os
  exact ⟨v,H',I.call (h':=hh) (g':=g) (d':=d) (t':=t) (ch:=[]) un hok bare (fun b z=>absurd z (by simp)),r,q⟩
end
def tCall (sp:Sp) (dvs:List V) (E:XK) (t:TA):TE:=fun σ H Q=>t σ H fun vs H1=>sp (vs ++ dvs) H1 Q E
def Binds (K:PySem.W.Frag) (fd:FuncData) (ps:List Str) (ds:List Value):Prop:=
  ∀ (s:Shared) (us:List Value),K.In s.heap→(us ++ ds).length = ps.length→BindsTo s fd ⟨us,[]⟩ (ps.zip (us ++ ds))
theorem Binds.all {K:PySem.W.Frag} {fd:FuncData} {ps:List Str} (h:∀ us:List Value,us.length = ps.length→bindArgs fd ⟨us,[]⟩ = pure (ps.zip us)):Binds K fd ps []:=fun s us _ hl=>by
  rw [List.append_nil] at hl ⊢
  exact .of_eq (h us hl)
def Passes (CX:CXT) (X:Cx) (E:XK):Prop:=∀ (pins:List (Addr × Obj)) (σ:St) (H:Hp) (s:Shared) (e:Value) (s':Shared),Inv X pins σ H s→CX X.stack H s E e s'→X.xe e s'
section
variable {X:Cx} {CX:CXT} {k:Nat} {f C:Addr} {fd:FuncData} {ps:List Str} {sp:Sp} {dvs:List V} {ds:List Value} {E:XK} {x m:Str} {p pos apos:Pos} {e o:Expr} {es:List Expr} {ta:TE} {t:TA}
theorem run_fn {pins:List (Addr × Obj)} {σ:St} {H:Hp} {s:Shared} {Q:VK} {us:List Value} {vs:List V} (F:FnOk X.prog X.w X.K X.mg X.base CX k f fd ps sp) (hr:Room k X.A) (hb:Binds X.K fd ps ds) (hd:Vals dvs ds) (hx:Passes CX X E)
    (I:Inv X pins σ H s) (r:Vals vs us) (h:sp (vs ++ dvs) H Q E):wpAny (model X.prog X.w) X.A (call (.ref f) us) (EP X pins σ Q) X.xe s:=by
  have r2:Vals (vs ++ dvs) (us ++ ds):=r.append hd
  have hl:(us ++ ds).length = ps.length:=by rw [← r2.length]; exact F.len _ _ _ _ h
  refine wpAny_call (codeAny_mono (F.run X.A X.stack s H ⟨us,[]⟩ (us ++ ds) (vs ++ dvs) Q E hr I.env0 (hb s us I.kIn hl) r2 h) fun r s' hq=>?_)
  cases r with
  | error e=>exact hx pins σ H s e s' I hq
  | ok fl=>
    cases fl with
    | ret u=>exact I.after hq
    | next=>exact False.elim hq
    | brk=>exact False.elim hq
    | cont=>exact False.elim hq
theorem pe_call (F:FnOk X.prog X.w X.K X.mg X.base CX k f fd ps sp) (hr:Room k X.A) (hg:Gl X x) (hm:X.mg x = some (.ref f)) (hk:PySem.W.keepIn X.K (.ref f) = true) (hb:Binds X.K fd ps ds) (hd:Vals dvs ds) (hx:Passes CX X E)
    (ha:PA X (e :: es) t) (hdb:(x == ("__debug__":Str)) = false:=by decide) (he:starEach (e :: es) X.env = (false,eval e X.env) :: starEach es X.env:=by rfl) (hpl:(backTo pos (starEach es X.env)).any (·.1) = false:=by rfl) :
    PE X (.Call (.Name x p) (e :: es) [] pos) (tCall sp dvs E t):=by
  intro pins s σ H Q I h
  refine wpAny_Call_Name_kw (ld_glob I hg hm ?_ hdb)
  refine PySem.W.callWith_K (h₀:=X.base) I.ok.mod.kin hk (thn (ha pos pins s σ H _ I h) fun us s1 ⟨vs,H1,I1,r,q⟩=>⟨I1.kIn,?_⟩) he hpl
  exact run_fn F hr hb hd hx I1 r q
end
structure FnScope (N P:List Str) (sc:Scope):Prop where
  kind:sc.kind = .function
  co:sc.isCoroutine = false
  gen:sc.isGenerator = false
  nd:N.Nodup
  pre:N.take P.length = P
  par:∀ x ∈ P,sc.names.lookup x = some .local ∨ sc.names.lookup x = some .cell
  nofree:∀ y ∈ sc.names,y.2 ≠ .free
theorem bindL_out {kindOf:Str→Option NameKind} {x:Str}:∀ {binds:List (Str × Value)} {m:Str→Option Value},(∀ v,(x,v) ∉ binds)→bindL kindOf binds m x = m x
  | [],_,_=>rfl
  | (n,v) :: r,m,h=>by
    unfold bindL
    rw [bindL_out fun w hw=>h w (List.mem_cons_of_mem _ hw)]
    split
    · have:x ≠ n:=by rintro rfl; exact h v List.mem_cons_self
      simp [this]
    · rfl
theorem bindC_out {kindOf:Str→Option NameKind} {x:Str}:∀ {binds:List (Str × Value)} {m:Str→Option Value},(∀ v,(x,v) ∉ binds)→bindC kindOf binds m x = m x
  | [],_,_=>rfl
  | (n,v) :: r,m,h=>by
    unfold bindC
    rw [bindC_out fun w hw=>h w (List.mem_cons_of_mem _ hw)]
    split
    · rfl
    · have:x ≠ n:=by rintro rfl; exact h v List.mem_cons_self
      simp [this]
theorem bindL_get {kindOf:Str→Option NameKind} {x:Str} {v:Value}:∀ {P:List Str} {vs:List Value} {i:Nat} {m:Str→Option Value},P.Nodup→P[i]? = some x→vs[i]? = some v→kindOf x = some .local→
    bindL kindOf (P.zip vs) m x = some v
  | [],_,_,_,_,h,_,_=>by simp at h
  | _ :: _,[],_,_,_,_,h,_=>by simp at h
  | p :: P,w :: vs,0,m,nd,h1,h2,hk=>by
    simp at h1 h2; subst h1; subst h2
    show bindL kindOf ((p,w) :: P.zip vs) m p = _
    unfold bindL
    rw [bindL_out fun v hv=>(List.nodup_cons.mp nd).1 (List.of_mem_zip hv).1,if_pos hk]
    simp
  | p :: P,w :: vs,i + 1,m,nd,h1,h2,hk=>by
    show bindL kindOf ((p,w) :: P.zip vs) m x = _
    unfold bindL
    exact bindL_get (i:=i) (List.nodup_cons.mp nd).2 (by simpa using h1) (by simpa using h2) hk
theorem bindC_get {kindOf:Str→Option NameKind} {x:Str} {v:Value}:∀ {P:List Str} {vs:List Value} {i:Nat} {m:Str→Option Value},P.Nodup→P[i]? = some x→vs[i]? = some v→kindOf x ≠ some .local→
    bindC kindOf (P.zip vs) m x = some v
  | [],_,_,_,_,h,_,_=>by simp at h
  | _ :: _,[],_,_,_,_,h,_=>by simp at h
  | p :: P,w :: vs,0,m,nd,h1,h2,hk=>by
    simp at h1 h2; subst h1; subst h2
    show bindC kindOf ((p,w) :: P.zip vs) m p = _
    unfold bindC
    rw [bindC_out fun v hv=>(List.nodup_cons.mp nd).1 (List.of_mem_zip hv).1,if_neg hk]
    simp
  | p :: P,w :: vs,i + 1,m,nd,h1,h2,hk=>by
    show bindC kindOf ((p,w) :: P.zip vs) m x = _
    unfold bindC
    exact bindC_get (i:=i) (List.nodup_cons.mp nd).2 (by simpa using h1) (by simpa using h2) hk
def start (N:List Str) (vs:List V):St:=vs.map some ++ List.replicate (N.length - vs.length) none
def cxOf (CX:CXT) (P:Program) (w:World) (K:PySem.W.Frag) (mg:Str→Option Value) (base:Heap) (N:List Str) (qual:Str) (scope:Scope) (f:Addr) (cd:Value) (A:Around) (outer:List Env) (s:Shared) (H:Hp) (E:XK):Cx where
  prog:=P
  w:=w
  K:=K
  mg:=mg
  base:=base
  A:=A.deeper (envOfC qual scope s.heap.objs.size f cd)
  N:=N
  s₀:=s
  H₀:=H
  env:=envOfC qual scope s.heap.objs.size f cd
  outer:=outer
  stack:=envOfC qual scope s.heap.objs.size f cd :: outer
  ex:=[]
  calm:=true
  fn:=fun _=>true
  pn:=[]
  xe:=fun e s'=>wpAny (model P w) (A.deeper (envOfC qual scope s.heap.objs.size f cd)) (leaving (envOfC qual scope s.heap.objs.size f cd) e) (fun _ s''=>CX outer H s E e s'') (fun e' s''=>CX outer H s E e' s'') s'
theorem cell_has {sc:Scope} {n:Nat} {x:Str} (h:sc.names.lookup x = some .cell):∃ c,(cellsFrom n sc.names []).lookup x = some c:=by
  have q:=PySem.W.cellsFrom_some sc.names n [] (.inl h)
  exact Option.isSome_iff_exists.mp q
theorem inv_start {CX:CXT} {P:Program} {w:World} {K:PySem.W.Frag} {mg:Str→Option Value} {base:Heap} {N ps:List Str} {qual:Str} {scope:Scope} {f:Addr} {cd:Value} {A:Around} {outer:List Env} {s s1:Shared} {H:Hp} {E:XK} {us:List Value} {vs:List V}
    (S:FnScope N ps scope) (hd:A.handled = none) (e0:Env0 P w K mg base A outer s H) (hl:vs.length = ps.length) (r:Vals vs us)
    (x:InCallC s s.heap.objs.size (bindL (envOfC qual scope s.heap.objs.size f cd).kindOf (ps.zip us) fun _=>none) (cellsFrom (s.heap.objs.size + 1) scope.names []) (bindC (envOfC qual scope s.heap.objs.size f cd).kindOf (ps.zip us) fun _=>none) s1) :
    Inv (cxOf CX P w K mg base N qual scope f cd A outer s H E) [] (start N vs) H s1:=by
  have hpl:ps.length ≤ N.length:=by have:=congrArg List.length S.pre; rw [List.length_take] at this; omega
  obtain ⟨h1,tk,rfl,hk⟩:=x.done
  have noA:∀ b:Addr,b ∉ (cxOf CX P w K mg base N qual scope f cd A outer s H E).ex:=fun b z=>absurd (show b ∈ ([]:List Addr) from z) (by simp)
  refine ⟨⟨e0.mod,S.kind,rfl,rfl,Nat.le_refl _,fun y z c h1 h2=>?_,fun y hy=>?_,fun y c _ h=>?_,fun _=>hd,Around.frames_deeper e0.frames,.inr ⟨rfl,rfl⟩,fun b z=>absurd z (noA b),e0.bs,e0.bsz,fun b _ _=>noA b,fun b z=>absurd z (noA b),e0.funs,e0.frf⟩,
    rfl,e0.bare,Un.kept hk,⟨_,x.toInCall.ns,fun i y v h1 h2 h3=>?_⟩,fun y c h=>⟨_,x.cell y c h⟩,e0.hok.fresh (Nat.le_refl _),fun y c h=>?_,fun p hp=>absurd (show p ∈ ([]:List (Addr × Obj)) from hp) (by simp),e0.hok.kept hk,?_⟩
  · exact name_of_addr x.apart (PySem.mem_of_lookup h1) (PySem.mem_of_lookup h2)
  · have hy:scope.names.lookup y = some .cell ∨ scope.names.lookup y = some .free:=hy
    rcases hy with hy | hy
    · exact cell_has hy
    · exact absurd rfl (S.nofree _ (PySem.mem_of_lookup hy))
  · exact Nat.le_of_lt (x.above y c (PySem.mem_of_lookup h))
  · have hi:i < vs.length:=by
      unfold start at h2
      by_cases hi:i < vs.length
      · exact hi
      · rw [List.getElem?_append_right (by simpa using hi)] at h2
        rw [List.getElem?_replicate] at h2
        split at h2 <;> cases h2
    have ha:vs[i]? = some v:=by
      unfold start at h2
      rw [List.getElem?_append_left (by simpa using hi),List.getElem?_map] at h2
      cases e:vs[i]? with
      | none=>rw [e] at h2; cases h2
      | some a=>rw [e] at h2; cases h2; rfl
    obtain ⟨u,hu,rv⟩:=r.get ha
    have hp:ps[i]? = some y:=by
      rw [← S.pre,List.getElem?_take_of_lt (by omega)]; exact h1
    have ndP:ps.Nodup:=by rw [← S.pre]; exact S.nd.sublist (List.take_sublist _ _)
    refine ⟨u,rv,?_⟩
    rcases S.par y (List.mem_of_getElem? hp) with k | k
    · exact .inl ⟨k,bindL_get ndP hp hu k⟩
    · obtain ⟨c,e⟩:=cell_has (n:=s.heap.objs.size + 1) k
      refine .inr ⟨.inl k,c,e,?_⟩
      have q:=x.cell y c e
      rw [bindC_get ndP hp hu (by show scope.names.lookup y ≠ _; rw [k]; decide)] at q
      exact q
  · exact e0.hok.fresh (Nat.le_of_lt (x.above y c (PySem.mem_of_lookup h)))
  · unfold start
    show _ = N.length
    rw [List.length_append,List.length_map,List.length_replicate]
    omega
theorem fn_of {CX:CXT} {P:Program} {w:World} {K:PySem.W.Frag} {mg:Str→Option Value} {base:Heap} {k:Nat} {f:Addr} {name qual:Str} {params:Arguments} {body:List Stmt} {scope:Scope} {dV kV doc pm cdv ct oc:Value} {an od:Option Addr}
    {osl:Array (Option Value)} {N ps:List Str} {sp:Sp} (lk:K.lookup f = some ⟨oc,od,.func (PySem.W.fnOf name qual params body scope dV kV doc pm an cdv ct),osl⟩) (hcd:PySem.W.codeIn K cdv qual = true) (S:FnScope N ps scope)
    (len:∀ vs H Q E,sp vs H Q E→vs.length = ps.length)
    (hbody:∀ (A:Around) (outer:List Env) (s:Shared) (H:Hp) (vs:List V) (Q:VK) (E:XK),Room k (A.deeper (envOfC qual scope s.heap.objs.size f cdv))→sp vs H Q E→
      ∃ t,PSs (cxOf CX P w K mg base N qual scope f cdv A outer s H E) body t∧t { nx:=fun _ H'=>Q .non H',rt:=Q } (start N vs) H) :
    FnOk P w K mg base CX (k + 1) f (PySem.W.fnOf name qual params body scope dV kV doc pm an cdv ct) ps sp:=by
  refine ⟨len,fun A outer s H args us vs Q E hr e0 hb r hsp=>?_⟩
  have hl:=len _ _ _ _ hsp
  have KX:K.In s.heap:=e0.mod.kin.keeps fun b o e=>(e0.bs b o e).1
  have lim:s.heap.NoLimit:=e0.mod.nolimit.keeps fun b o e=>(e0.bs b o e).1
  have hkind:∀ y ∈ ps.zip us,scope.names.lookup y.1 = some .local ∨ (scope.names.lookup y.1 = some .cell∧((cellsFrom (s.heap.objs.size + 1) scope.names []).lookup y.1).isSome = true):=fun ⟨n,v⟩ hy=>by
    rcases S.par n (List.of_mem_zip hy).1 with q | q
    · exact .inl q
    · exact .inr ⟨q,PySem.W.cellsFrom_some _ _ _ (.inl q)⟩
  refine codeAny_call_function hr.depth (KX _ _ lk) rfl S.co S.gen rfl (PySem.W.codeRec_of KX hcd) (hb _ _ _ _ ?_)
  refine wpAny_newFunctionEnv_cells S.kind hkind fun env he s1 x=>?_
  subst he
  refine ⟨lim.keeps x.toInCall.keep,codeAny_func ?_⟩
  obtain ⟨t,ht,hq⟩:=hbody A outer s H vs Q E (hr.deeper _) hsp
  have I:Inv (cxOf CX P w K mg base N qual scope f cdv A outer s H E) [] (start N vs) H s1:=inv_start S hr.hd e0 hl r x
  refine wpAny_mono (ht [] s1 (start N vs) H _ I hq) (fun fl s' hs=>?_) fun e s' hs=>hs
  have fin:∀ {σ':St} {H':Hp} {v:V} {u:Value},Inv (cxOf CX P w K mg base N qual scope f cdv A outer s H E) [] σ' H' s'→RelV v u→Q v H'→CE outer P w H s Q u s':=
    fun {σ' H' v u} J rv q=>⟨v,H',J.os,J.bare,J.base,J.hok,rv,q⟩
  cases fl with
  | ret u=>
    obtain ⟨v,σ',H',J,rv,q⟩:=hs
    exact fin J rv q
  | next=>
    obtain ⟨σ',H',J,q⟩:=hs
    exact fin (v:=V.non) (u:=Value.none) J rfl q
  | brk=>
    obtain ⟨_,_,_,q⟩:=hs
    exact False.elim q
  | cont=>
    obtain ⟨_,_,_,q⟩:=hs
    exact False.elim q
section
variable {X:Cx} {x:Str} {p pos:Pos} {e:Expr} {es:List Expr} {t:TA} {id T:String} {r:List V→Hp→VK→Prop}
def tCB (r:List V→Hp→VK→Prop) (t:TA):TE:=fun σ H Q=>t σ H fun vs H1=>r vs H1 Q
theorem pe_callB (hc : CallR X (.builtin id) r) (hg : Gl X x) (hm : X.mg x = none) (hv : bootBuiltins x = some (.builtin id)) (ha : PA X (e :: es) t) (hn : x ≠ "__name__" := by decide) (hdb : (x == ("__debug__" : Str)) = false := by decide)
    (he:starEach (e :: es) X.env = (false,eval e X.env) :: starEach es X.env:=by rfl) (hpl:(backTo pos (starEach es X.env)).any (·.1) = false:=by rfl):PE X (.Call (.Name x p) (e :: es) [] pos) (tCB r t):=by
  intro pins s σ H Q I h
  refine wpAny_Call_Name_kw (ld_blt I hg hm hv ?_ hn hdb)
  exact PyProof.Rows.callWith_builtin1 (thn (ha pos pins s σ H _ I h) fun us s1 ⟨vs,H1,I1,r1,q1⟩=>hc pins s1 σ H1 vs us Q I1 r1 q1) he hpl
theorem pe_callTy (hc : CallR X (.type T) r) (hg : Gl X x) (hm : X.mg x = none) (hv : bootBuiltins x = some (.type T)) (ha : PA X (e :: es) t) (hn : x ≠ "__name__" := by decide) (hdb : (x == ("__debug__" : Str)) = false := by decide)
    (he:starEach (e :: es) X.env = (false,eval e X.env) :: starEach es X.env:=by rfl) (hpl:(backTo pos (starEach es X.env)).any (·.1) = false:=by rfl):PE X (.Call (.Name x p) (e :: es) [] pos) (tCB r t):=by
  intro pins s σ H Q I h
  refine wpAny_Call_Name_kw (ld_blt I hg hm hv ?_ hn hdb)
  exact PyProof.Rows.callWith_type1 (thn (ha pos pins s σ H _ I h) fun us s1 ⟨vs,H1,I1,r1,q1⟩=>hc pins s1 σ H1 vs us Q I1 r1 q1) he hpl
end
end L2
namespace HT
open PySem PyProof.Rows
section
open PySem.SeqAt
open PySem.AutoSeq1 (wpAny_loadPart')
open PySem.MeetsSeq PySem.MeetsSeq2 PySem.MeetsSeq3
end
section
variable {prog:Program} {w:World} {A:Around} {E:Value→Shared→Prop} {s:Shared}
def sIx (n d:Nat):Option Int→Nat
  | none=>d
  | some v=>if v < 0 then (v + (n:Int)).toNat else min v.toNat n
theorem sIx_none (n d:Nat):sIx n d none = d:=rfl
theorem sIx_nat (n d k:Nat):sIx n d (some (k:Int)) = min k n:=by
  show (if (k:Int) < 0 then ((k:Int) + (n:Int)).toNat else min (k:Int).toNat n) = min k n
  rw [if_neg (by omega),Int.toNat_natCast]
end
end HT
namespace L2
open PySem PySem.Spec PyProof.Rows
abbrev TO:=St→Hp→(Option Int→Hp→Prop)→Prop
def PO (X:Cx) (e:Option Expr) (t:TO):Prop:=
  ∀ (pins:List (Addr × Obj)) (s:Shared) (σ:St) (H:Hp) (Q:Option Int→Hp→Prop),Inv X pins σ H s→t σ H Q→
    wpAny (model X.prog X.w) X.A (evalPart e X.env) (fun u s'=>∃ o H',Inv X pins σ H' s'∧IsPart u o∧Q o H') X.xe s
def tNoPart:TO:=fun _ H Q=>Q none H
def tPart (t:TE):TO:=fun σ H Q=>t σ H fun x H1=>∃ i,x = .int i∧Q (some i) H1
section
variable {X:Cx} {e:Expr} {te:TE} {lo hi:Option Expr} {tl th:TO} {pos p2:Pos}
theorem po_none:PO X none tNoPart:=by
  intro pins s σ H Q I h
  rw [evalPart_none]
  exact wpAny_pure ⟨none,H,I,.none,h⟩
theorem po_some (h:PE X e te):PO X (some e) (tPart te):=by
  intro pins s σ H Q I hw
  rw [evalPart_some]
  refine thn (h pins s σ H _ I hw) fun u s1 ⟨x,H1,I1,r1,q1⟩=>?_
  obtain ⟨i,rfl,q⟩:=q1
  obtain ⟨t,rfl⟩:=r1
  exact ⟨some i,H1,I1,.int i t,q⟩
def SlR (X:Cx) (r:V→Option Int→Option Int→Hp→VK→Prop):Prop:=
  ∀ (pins:List (Addr × Obj)) (s:Shared) (σ:St) (H:Hp) (x:V) (v vl vu:Value) (lo hi:Option Int) (sl:Addr) (Q:VK),Inv X pins σ H s→RelV x v→s.heap.IsSliceOf sl vl vu .none→IsPart vl lo→IsPart vu hi→r x lo hi H Q→
    ∃ T id,typeLookup (.type T) "__getitem__" = pure (some (.builtin id))∧s.TypeIs v T∧wpAny (model X.prog X.w) X.A (getItem v (.ref sl)) (EP X pins σ Q) X.xe s
def tSl (r:V→Option Int→Option Int→Hp→VK→Prop) (te:TE) (tl th:TO):TE:=fun σ H Q=>te σ H fun x H1=>tl σ H1 fun l H2=>th σ H2 fun u H3=>r x l u H3 Q
theorem pe_slice {r:V→Option Int→Option Int→Hp→VK→Prop} (hr:SlR X r) (he:PE X e te) (hl:PO X lo tl) (hu:PO X hi th):PE X (.Subscript e (.Slice lo hi none p2) pos) (tSl r te tl th):=by
  intro pins s σ H Q I h
  refine Subscript_ (thn (he pins s σ H _ I h) fun v s1 ⟨x,H1,I1,r1,q1⟩=>?_)
  refine wpAny_Slice (thn (hl pins s1 σ H1 _ I1 q1) fun vl s2 ⟨l,H2,I2,pl,q2⟩=>thn (hu pins s2 σ H2 _ I2 q2) fun vu s3 ⟨u,H3,I3,pu,q3⟩=>?_)
  rw [evalPart_none]
  refine wpAny_pure ?_
  have I4:Inv X pins σ H3 { s3 with heap:=s3.heap.push { cls:=.type "slice",data:=.fields #[vl,vu,.none] } }:=I3.kept (t':=s3.toks) fun b ob q=>Heap.get?_push_of_some _ q
  obtain ⟨T,id,hT,ht,hg⟩:=hr pins { s3 with heap:=s3.heap.push { cls:=.type "slice",data:=.fields #[vl,vu,.none] } } σ H3 x v vl vu l u s3.heap.objs.size Q I4 r1 (Heap.IsSliceOf.new ..) pl pu q3
  show wpAny (model X.prog X.w) X.A (subscriptTail e (.Slice lo hi none p2) v (.ref s3.heap.objs.size)) (EP X pins σ Q) X.xe { s3 with heap:=s3.heap.push { cls:=.type "slice",data:=.fields #[vl,vu,.none] } }
  exact tail_any (ops:=[.ref s3.heap.objs.size,v]) ht hT hg (by with_unfolding_all rfl)
def cutV (xs:List V) (lo hi:Option Int):List V:=(xs.drop (HT.sIx xs.length 0 lo)).take (HT.sIx xs.length xs.length hi - HT.sIx xs.length 0 lo)
theorem cutV_length (xs:List V) (lo hi:Option Int):(cutV xs lo hi).length ≤ xs.length:=by
  unfold cutV
  rw [List.length_take,List.length_drop]
  omega
end
def ixN (n:Nat) (i:Int):Option Nat:=if 0 ≤ i then (if i < n then some i.toNat else none) else if -(n:Int) ≤ i then some (i + n).toNat else none
def atI {α:Type} (xs:List α) (i:Int):Option α:=(ixN xs.length i).bind fun j=>xs[j]?
theorem ixN_seq {n:Nat} {i:Int} {j:Nat} (h:ixN n i = some j):seqIndex? i n = some j∧j < n∧-(n:Int) ≤ i∧i < n:=by
  unfold ixN at h
  by_cases h0:0 ≤ i
  · rw [if_pos h0] at h
    by_cases h1:i < n
    · rw [if_pos h1] at h
      have e:i.toNat = j:=Option.some.inj h
      exact ⟨by rw [seqIndex_of h0 h1,e],by omega,by omega,h1⟩
    · rw [if_neg h1] at h; cases h
  · rw [if_neg h0] at h
    by_cases h1:-(n:Int) ≤ i
    · rw [if_pos h1] at h
      have e:(i + n).toNat = j:=Option.some.inj h
      exact ⟨by rw [seqIndex_neg (by omega) h1,e],by omega,h1,by omega⟩
    · rw [if_neg h1] at h; cases h
theorem atI_get {α:Type} {xs:List α} {i:Int} {v:α} (h:atI xs i = some v):∃ j,seqIndex? i xs.length = some j∧xs[j]? = some v∧j < xs.length∧-(xs.length:Int) ≤ i∧i < xs.length:=by
  unfold atI at h
  cases e:ixN xs.length i with
  | none=>rw [e] at h; cases h
  | some j=>
    rw [e] at h
    obtain ⟨h1,h2,h3,h4⟩:=ixN_seq e
    exact ⟨j,h1,h,h2,h3,h4⟩
theorem atI_nat {α:Type} {xs:List α} {j:Nat} {v:α} (h:xs[j]? = some v):atI xs (j:Int) = some v:=by
  have hj:j < xs.length:=(List.getElem?_eq_some_iff.mp h).1
  have e:ixN xs.length (j:Int) = some j:=by
    unfold ixN
    rw [if_pos (by omega),if_pos (by omega)]; simp
  unfold atI; rw [e]; exact h
def PlainIx (b:Expr):Prop:=∀ o i,subscripted b false o i = operate [o,i] (getItem o i)
def IxR (X:Cx) (r:R2):Prop:=
  ∀ (value slice:Expr) (pins:List (Addr × Obj)) (s:Shared) (σ:St) (H:Hp) (x y:V) (v u:Value) (Q:VK),Inv X pins σ H s→RelV x v→RelV y u→r x y H Q→
    subscripted slice false v u = operate [v,u] (getItem v u)→wpAny (model X.prog X.w) X.A (subscriptTail value slice v u) (EP X pins σ Q) X.xe s
def MtR (X:Cx) (id:String) (r:V→List V→Hp→VK→Prop):Prop:=
  ∀ (pins:List (Addr × Obj)) (s:Shared) (σ:St) (H:Hp) (x:V) (xs:List V) (v:Value) (us:List Value) (Q:VK),Inv X pins σ H s→RelV x v→Vals xs us→r x xs H Q→
    wpAny (model X.prog X.w) X.A (call (.builtin id) (v :: us)) (EP X pins σ Q) X.xe s
section
variable {X:Cx} {a b:Expr} {ta tb:TE} {pos:Pos}
theorem pe_ix {r:R2} (hr:IxR X r) (ha:PE X a ta) (hb:PE X b tb) (hs:PlainIx b):PE X (.Subscript a b pos) (tOp r ta tb):=by
  intro pins s σ H Q I h
  exact Subscript_ (binT ha hb I h fun v u s2 x y H2 I2 rx ry q=>hr a b pins s2 σ H2 x y v u Q I2 rx ry q (hs _ _))
def rIxL (K:PySem.W.Frag):R2:=fun x y H Q=>∃ p xs i v,x = .ref p∧y = .int i∧SqL K H p xs∧atI xs i = some v∧Q v H
def rIxT (K:PySem.W.Frag):R2:=fun x y H Q=>∃ p xs i v,x = .ref p∧y = .int i∧SqT K H p xs∧atI xs i = some v∧Q v H
def rIxS:R2:=fun x y H Q=>∃ z i c,x = .str z∧y = .int i∧z.length ≤ sizeLine∧atI z.cps.toList i = some c∧Q (.str ⟨#[c]⟩) H
theorem ix_list:IxR X (rIxL X.K):=by
  intro value slice pins s σ H x y v u Q I rx ry h hs
  obtain ⟨p,xs,i,z,rfl,rfl,hq,he,q⟩:=h
  cases rx
  obtain ⟨t,rfl⟩:=ry
  obtain ⟨its,r,pl,hz⟩:=I.list hq
  obtain ⟨j,h1,h2,h3,h4,h5⟩:=atI_get he
  obtain ⟨w,ew,rw'⟩:=r.get h2
  have hl:=r.length
  have hn:=line63
  have fin:EP X pins σ Q w s:=⟨z,H,I,rw',q⟩
  by_cases h0:0 ≤ i
  · have hj:i.toNat = j:=by
      rw [seqIndex_of h0 h5] at h1
      exact Option.some.inj h1
    exact item_listR pl.isList h0 (by omega) (by rw [hj]; simpa using ew) fin hs
  · have hj:(i + (its.toArray.size:Int)).toNat = j:=by
      rw [seqIndex_neg (by omega) h4] at h1
      rw [List.size_toArray,← hl]
      exact Option.some.inj h1
    exact subscriptTail_builtinR (x:=w) pl.isList.typeIs slot_list_getitem.lookup
      (wpAny_getItem_list_neg (Q:=fun r s'=>r = w∧EP X pins σ Q r s') pl.isList (by omega) (by rw [List.size_toArray] <;> omega) (by omega) (by rw [hj]; simpa using ew) ⟨rfl,fin⟩) hs
theorem ix_tup:IxR X (rIxT X.K):=by
  intro value slice pins s σ H x y v u Q I rx ry h hs
  obtain ⟨p,xs,i,z,rfl,rfl,hq,he,q⟩:=h
  cases rx
  obtain ⟨t,rfl⟩:=ry
  obtain ⟨its,r,pl,hz⟩:=I.tuple hq
  obtain ⟨j,h1,h2,h3,h4,h5⟩:=atI_get he
  obtain ⟨w,ew,rw'⟩:=r.get h2
  have hl:=r.length
  have hn:=line63
  have fin:EP X pins σ Q w s:=⟨z,H,I,rw',q⟩
  exact subscriptTail_builtinR (x:=w) pl.typeIs slot_tuple_getitem.lookup
    (getItem_tuple (j:=j) (Q:=fun r s'=>r = w∧EP X pins σ Q r s') pl (by omega) (by omega) (by rw [List.size_toArray,← hl]; exact h1) (by simpa using ew) ⟨rfl,fin⟩) hs
theorem ix_str:IxR X rIxS:=by
  intro value slice pins s σ H x y v u Q I rx ry h hs
  obtain ⟨z,i,c,rfl,rfl,hz,he,q⟩:=h
  obtain ⟨t,rfl⟩:=rx
  obtain ⟨t',rfl⟩:=ry
  obtain ⟨j,h1,h2,h3,h4,h5⟩:=atI_get he
  have hl:z.cps.toList.length = z.length:=by simp [Str.length]
  rw [hl] at h1 h4 h5
  have hn:=line63
  exact tail_any (typeIs_str s z t) slot_str_getitem.lookup (getItem_str (c:=c) (by
    have e1:decide (i < -(2 ^ 63:Int)) = false:=decide_eq_false (by omega)
    have e2:decide (i ≥ 2 ^ 63) = false:=decide_eq_false (by omega)
    rw [e1,e2,Bool.or_false]) (by rw [h1]; simpa using h2) ⟨.str ⟨#[c]⟩,H,I.tok _,⟨_,rfl⟩,q⟩) hs
theorem mapSeq_set (its : List Value) (n j : Nat) (u : Value) : Obj.mapSeq (·.setIfInBounds j u) { cls := .type "list", data := .seq its.toArray n } = { cls := .type "list", data := .seq (its.set j u).toArray n } := by
  simp [Obj.mapSeq]
theorem Inv.lst {pins:List (Addr × Obj)} {σ:St} {H:Hp} {s:Shared} {p:Addr} {xs:List V} (I:Inv X pins σ H s) (h:H p = some (.lst xs)) :
    ∃ (its:List Value) (n:Nat),Vals xs its∧s.heap.get? p = some { cls:=.type "list",data:=.seq its.toArray n }∧xs.length ≤ sizeLine:=by
  obtain ⟨z,its,n,r,e⟩:=I.hok p _ h
  exact ⟨its,n,r,e,z⟩
theorem Inv.lstUpd {pins:List (Addr × Obj)} {σ:St} {H:Hp} {s:Shared} {p:Addr} {xs ys:List V} {its its':List Value} {n n':Nat} {f:Obj→Obj} (I:Inv X pins σ H s) (h:H p = some (.lst xs))
    (ho : s.heap.get? p = some { cls := .type "list", data := .seq its.toArray n }) (hf : f { cls := .type "list", data := .seq its.toArray n } = { cls := .type "list", data := .seq its'.toArray n' }) (r : Vals ys its') (hz : ys.length ≤ sizeLine) (t : Nat) :
    Inv X pins σ (upd H p (.lst ys)) { s with heap:=s.heap.update p f,toks:=t }:=by
  have e:(s.heap.update p f).get? p = some { cls:=.type "list",data:=.seq its'.toArray n' }:=by
    rw [Heap.get?_update_self f ho (by rw [hf] <;> rfl),hf]
  refine I.write (x:=p) (e:=p) (by rw [h]; trivial) (.inl rfl) (fun b u hb q=>(Heap.get?_update_other _ _ (Ne.symm hb)).trans q) ⟨_,e⟩ ?_
  exact ⟨hz,its',n',r,e⟩
def rSetL:V→V→V→Hp→(Hp→Prop)→Prop:=fun o i v H Q=>∃ p xs k j,o = .ref p∧i = .int k∧H p = some (.lst xs)∧ixN xs.length k = some j∧Q (upd H p (.lst (xs.set j v)))
theorem set_list:PSet X rSetL:=by
  intro pins s σ H o i v ov iv u Q I ro ri rv h
  obtain ⟨p,xs,k,j,rfl,rfl,hp,hj,q⟩:=h
  cases ro
  obtain ⟨t,rfl⟩:=ri
  obtain ⟨its,n,r,ho,hz⟩:=I.lst hp
  obtain ⟨h1,h2,h3,h4⟩:=ixN_seq hj
  have hl:=r.length
  have hn:=line63
  have I':Inv X pins σ (upd H p (.lst (xs.set j v))) { s with heap:=s.heap.update p (Obj.mapSeq (·.setIfInBounds j u)) }:=
    I.lstUpd hp ho (mapSeq_set its n j u) (r.set rv j) (by rw [List.length_set]; exact hz) s.toks
  by_cases h0:0 ≤ k
  · have hk:k.toNat = j:=by
      rw [seqIndex_of h0 h4] at h1
      exact Option.some.inj h1
    exact PySem.W.ki_setAt ho h0 (by omega) (by rw [List.size_toArray,← hl]; exact h4) (by rw [hk]; exact ⟨_,I',q⟩)
  · have hk:(k + (its.toArray.size:Int)).toNat = j:=by
      rw [seqIndex_neg (by omega) h3] at h1
      rw [List.size_toArray,← hl]
      exact Option.some.inj h1
    exact PySem.W.ki_setBack ho (by omega) (by rw [List.size_toArray,← hl]; exact h3) (by omega) (by rw [hk]; exact ⟨_,I',q⟩)
theorem slice_bounds (lo hi:Option Int) (n:Nat):(sliceBounds lo hi none n).1 = ((HT.sIx n 0 lo:Nat):Int)∧(sliceBounds lo hi none n).2.1 = ((HT.sIx n n hi:Nat):Int)∧(sliceBounds lo hi none n).2.2 = 1:=by
  refine ⟨?_,?_,rfl⟩
  · cases lo with
    | none=>simp [sliceBounds,HT.sIx]
    | some i=>
      simp only [sliceBounds,HT.sIx,Option.getD_none,show (1:Int) > 0 by decide,if_true]
      by_cases h:i < 0
      · simp only [h,if_true] <;> omega
      · simp only [h,if_false] <;> omega
  · cases hi with
    | none=>simp [sliceBounds,HT.sIx]
    | some i=>
      simp only [sliceBounds,HT.sIx,Option.getD_none,show (1:Int) > 0 by decide,if_true]
      by_cases h:i < 0
      · simp only [h,if_true] <;> omega
      · simp only [h,if_false] <;> omega
theorem slicePick_cut (its:List Value) (lo hi:Option Int):slicePick its.toArray lo hi none = ((its.drop (HT.sIx its.length 0 lo)).take (HT.sIx its.length its.length hi - HT.sIx its.length 0 lo)).toArray:=by
  obtain ⟨h1,h2,h3⟩:=slice_bounds lo hi its.toArray.size
  unfold slicePick
  rw [h1,h2,h3]
  simp only [sliceRange_one,pick_run,List.size_toArray] <;> rfl
def rSlL (K:PySem.W.Frag):V→Option Int→Option Int→Hp→VK→Prop:=fun x lo hi H Q=>∃ a xs,x = .ref a∧SqL K H a xs∧∀ p,H p = none→Q (.ref p) (upd H p (.lst (cutV xs lo hi)))
theorem sl_list:SlR X (rSlL X.K):=by
  intro pins s σ H x v vl vu lo hi sl Q I rx hs pl pu h
  obtain ⟨a,xs,rfl,hx,q⟩:=h
  cases rx
  obtain ⟨its,r,ht,hz⟩:=I.list hx
  have hlen:=r.length
  refine ⟨"list",_,slot_list_getitem.lookup,ht.isList.typeIs,?_⟩
  refine wpAny_getItem_list_slice ht.isList hs pl pu .none (by simp) ?_ (by rw [List.size_toArray] <;> omega)
  rw [slicePick_cut,← hlen]
  refine ⟨.ref s.heap.objs.size,_,I.laid (t':=s.toks) (o:=.lst (cutV xs lo hi)) (fun b ob q=>Heap.get?_push_of_some _ q) (Nat.le_refl _) ?_,rfl,q _ (I.hok.fresh (Nat.le_refl _))⟩
  exact ⟨Nat.le_trans (cutV_length xs lo hi) hz,_,0,(r.drop (HT.sIx xs.length 0 lo)).take (HT.sIx xs.length xs.length hi - HT.sIx xs.length 0 lo),Heap.get?_push_size _ rfl⟩
def flatV:V→Bool
  | .non=>true
  | .bl _=>true
  | .int _=>true
  | .str _=>true
  | _=>false
def eqV:V→V→Bool
  | .non,.non=>true
  | .bl a,.bl b=>a == b
  | .bl a,.int b=>(if a then 1 else 0) == b
  | .int a,.bl b=>a == (if b then 1 else 0)
  | .int a,.int b=>a == b
  | .str a,.str b=>a == b
  | _,_=>false
theorem eqAt_V {A:Around} {s:Shared} {y x:V} {u v:Value} (ry:RelV y u) (rx:RelV x v) (fy:flatV y = true) (fx:flatV x = true):SeqAt.EqAt A s u v (eqV y x):=by
  cases y with
  | non=>
    cases ry
    cases x with
    | non=>cases rx; exact SeqAt.EqAt.same _
    | bl b=>cases rx; exact SeqAt.EqAt.none_bool b
    | int b=>obtain ⟨t,rfl⟩:=rx; exact SeqAt.EqAt.none_int b t
    | str b=>obtain ⟨t,rfl⟩:=rx; exact SeqAt.EqAt.none_str b t
    | _=>exact absurd (show false = true from fx) Bool.false_ne_true
  | bl a=>
    cases ry
    cases x with
    | non=>cases rx; exact SeqAt.EqAt.bool_none a
    | bl b=>cases rx; exact SeqAt.EqAt.bool_bool a b
    | int b=>obtain ⟨t,rfl⟩:=rx; exact SeqAt.EqAt.bool_int a b t
    | str b=>obtain ⟨t,rfl⟩:=rx; exact SeqAt.EqAt.bool_str a b t
    | _=>exact absurd (show false = true from fx) Bool.false_ne_true
  | int a=>
    obtain ⟨t',rfl⟩:=ry
    cases x with
    | non=>cases rx; exact SeqAt.EqAt.int_none a t'
    | bl b=>cases rx; exact SeqAt.EqAt.int_bool a t' b
    | int b=>obtain ⟨t,rfl⟩:=rx; exact SeqAt.EqAt.int_int a t' b t
    | str b=>obtain ⟨t,rfl⟩:=rx; exact SeqAt.EqAt.int_str a t' b t
    | _=>exact absurd (show false = true from fx) Bool.false_ne_true
  | str a=>
    obtain ⟨t',rfl⟩:=ry
    cases x with
    | non=>cases rx; exact SeqAt.EqAt.str_none a t'
    | bl b=>cases rx; exact SeqAt.EqAt.str_bool a t' b
    | int b=>obtain ⟨t,rfl⟩:=rx; exact SeqAt.EqAt.str_int a t' b t
    | str b=>obtain ⟨t,rfl⟩:=rx; exact SeqAt.EqAt.str_str a t' b t
    | _=>exact absurd (show false = true from fx) Bool.false_ne_true
  | _=>exact absurd (show false = true from fy) Bool.false_ne_true
def eqU (x:V) (u:Value):Bool:=match u with
  | .none=>eqV .non x
  | .bool b=>eqV (.bl b) x
  | .int i _=>eqV (.int i) x
  | .str z _=>eqV (.str z) x
  | _=>false
theorem eqU_of {x y:V} {u:Value} (r:RelV y u) (f:flatV y = true):eqU x u = eqV y x:=by
  cases y with
  | non=>cases r; rfl
  | bl b=>cases r; rfl
  | int i=>obtain ⟨t,rfl⟩:=r; rfl
  | str z=>obtain ⟨t,rfl⟩:=r; rfl
  | _=>exact absurd (show false = true from f) Bool.false_ne_true
theorem any_eqU {x:V}:∀ {xs:List V} {us:List Value},Vals xs us→xs.all flatV = true→us.any (eqU x) = xs.any fun y=>eqV y x
  | _,_,.nil,_=>rfl
  | y :: xs,u :: us,.cons r t,f=>by
    rw [List.all_cons,Bool.and_eq_true] at f
    rw [List.any_cons,List.any_cons,eqU_of r f.1,any_eqU t f.2]
theorem mem_eqAt {A:Around} {s:Shared} {x:V} {v:Value} (rx:RelV x v) (fx:flatV x = true):∀ {xs:List V} {us:List Value},Vals xs us→xs.all flatV = true→∀ u ∈ us,SeqAt.EqAt A s u v (eqU x u)
  | _,_,.nil,_=>fun u hu=>by cases hu
  | y :: xs,u :: us,.cons r t,f=>fun u' hu=>by
    rw [List.all_cons,Bool.and_eq_true] at f
    rcases List.mem_cons.mp hu with rfl | hu
    · rw [eqU_of r f.1]; exact eqAt_V r rx f.1 fx
    · exact mem_eqAt rx fx t f.2 u' hu
def inV (x:V) (xs:List V):Bool:=xs.any fun y=>eqV y x
def rIn (K:PySem.W.Frag) (neg:Bool):R2:=fun x y H Q=>∃ p xs,y = .ref p∧(SqL K H p xs ∨ SqT K H p xs)∧flatV x = true∧xs.all flatV = true∧Q (.bl (if neg then !inV x xs else inV x xs)) H
theorem op_notIn_seq:OpR X (compareOp .NotIn) (rIn X.K true):=by
  intro pins s σ H x y v u Q I rx ry h
  obtain ⟨p,xs,rfl,hq,fx,fs,q⟩:=h
  cases ry
  rcases hq with hq | hq
  · obtain ⟨its,r,pl,hz⟩:=I.list hq
    refine SeqAt.notIn_listAt (eqU x) pl.isList (fun w hw=>mem_eqAt rx fx r fs w (by simpa using hw)) ⟨.bl _,H,I,rfl,?_⟩
    rw [show its.toArray.any (eqU x) = its.any (eqU x) by simp,any_eqU r fs]
    exact q
  · obtain ⟨its,r,pl,hz⟩:=I.tuple hq
    refine SeqAt.notIn_tupleAt (eqU x) pl (fun w hw=>mem_eqAt rx fx r fs w (by simpa using hw)) ⟨.bl _,H,I,rfl,?_⟩
    rw [show its.toArray.any (eqU x) = its.any (eqU x) by simp,any_eqU r fs]
    exact q
theorem call_len_seq:CallR X (.builtin "len") (fun xs H Q=>∃ p ys,xs = [.ref p]∧(SqL X.K H p ys ∨ SqT X.K H p ys)∧Q (.int ys.length) H):=by
  intro pins s σ H xs us Q I r h
  obtain ⟨p,ys,rfl,hq,q⟩:=h
  obtain ⟨u,rfl,rx⟩:=vals1 r
  cases rx
  have hn:=line63
  rcases hq with hq | hq
  · obtain ⟨its,r',pl,hz⟩:=I.list hq
    have hlen:=r'.length
    exact Calls.call_len_list pl.isList (by simp only [List.size_toArray] <;> omega) ⟨.int ys.length,H,I.tok _,⟨s.toks + 1,by rw [List.size_toArray,hlen]⟩,q⟩
  · obtain ⟨its,r',pl,hz⟩:=I.tuple hq
    have hlen:=r'.length
    exact len_tuple pl (by simp only [List.size_toArray] <;> omega) ⟨.int ys.length,H,I.tok _,⟨s.toks + 1,by rw [List.size_toArray,hlen]⟩,q⟩
theorem call_len_str:CallR X (.builtin "len") (fun xs H Q=>∃ z,xs = [.str z]∧z.length ≤ sizeLine∧Q (.int z.length) H):=by
  intro pins s σ H xs us Q I r h
  obtain ⟨z,rfl,hz,q⟩:=h
  obtain ⟨u,rfl,t,rfl⟩:=vals1 r
  have hn:=line63
  exact len_str (by omega) ⟨.int z.length,H,I.tok _,⟨_,rfl⟩,q⟩
theorem call_list_of:CallR X (.type "list") (fun xs H Q=>∃ p ys,xs = [.ref p]∧(SqL X.K H p ys ∨ SqT X.K H p ys)∧∀ l,H l = none→Q (.ref l) (upd H l (.lst ys))):=by
  intro pins s σ H xs us Q I r h
  obtain ⟨p,ys,rfl,hq,q⟩:=h
  obtain ⟨u,rfl,rx⟩:=vals1 r
  cases rx
  have fin:∀ (its:List Value),Vals ys its→ys.length ≤ sizeLine→∀ (h':Heap) (c':Nat),(∀ b o',s.heap.get? b = some o'→h'.get? b = some o')→
      h'.get? s.heap.objs.size = some { cls:=.type "list",dict:=none,data:=.seq its.toArray c',slots:=#[] }→EP X pins σ Q (.ref s.heap.objs.size) { s with heap:=h' }:=fun its r' hz h' c' kp e=>
    ⟨.ref s.heap.objs.size,_,I.laid (t':=s.toks) kp (Nat.le_refl _) (show ObjOk X.prog X.w _ h' _ (.lst ys) from ⟨hz,its,c',r',e⟩),rfl,q _ (I.hok.fresh (Nat.le_refl _))⟩
  rcases hq with hq | hq
  · obtain ⟨its,r',pl,hz⟩:=I.list hq
    have hlen:=r'.length
    obtain ⟨o,ho,hc,n,hd⟩:=pl.isList
    exact call_list_seq p (.inl rfl) ho hc hd (fun h' c' kp e=>fin its r' hz h' c' kp e) (by simp only [List.size_toArray] <;> omega)
  · obtain ⟨its,r',pl,hz⟩:=I.tuple hq
    have hlen:=r'.length
    obtain ⟨o,ho,hc,n,hd⟩:=pl
    exact call_list_seq p (.inr rfl) ho hc hd (fun h' c' kp e=>fin its r' hz h' c' kp e) (by simp only [List.size_toArray] <;> omega)
def tyV (K:PySem.W.Frag) (T:String) (x:V) (H:Hp):Prop:=match x with
  | .str _=>T = "str"
  | .int _=>T = "int"
  | .ref p => (T = "list" ∧ ∃ xs, SqL K H p xs) ∨ (T = "tuple" ∧ ∃ o, K.lookup p = some o ∧ o.cls = .type "tuple" ∧ o.dict = none) ∨
      (T = "dict" ∧ ((∃ kvs, H p = some (.dK kvs)) ∨ ∃ kvs, H p = some (.dT kvs))) ∨ (T = "set" ∧ ∃ S n, H p = some (.set S n))
  | _=>False
theorem tyV_is {pins:List (Addr × Obj)} {σ:St} {H:Hp} {s:Shared} {T:String} {x:V} {v:Value} (I:Inv X pins σ H s) (r:RelV x v) (ty:tyV X.K T x H) :
    s.TypeIs v T∧∀ a,v = .ref a→∃ ob,s.heap.get? a = some ob∧ob.dict = none:=by
  cases x with
  | str z=>
    obtain ⟨t,rfl⟩:=r
    cases (show T = "str" from ty)
    exact ⟨typeIs_str s z t,fun _ e=>nomatch e⟩
  | int i=>
    obtain ⟨t,rfl⟩:=r
    cases (show T = "int" from ty)
    exact ⟨typeIs_int s i t,fun _ e=>nomatch e⟩
  | ref p=>
    cases r
    rcases ty with ⟨rfl,xs,hq⟩ | ⟨rfl,o,hk,hc,hd⟩ | ⟨rfl,hk⟩ | ⟨rfl,S,n,hk⟩
    · obtain ⟨its,_,pl,_⟩:=I.list hq
      refine ⟨pl.isList.typeIs,fun a e=>?_⟩
      cases e
      obtain ⟨o,n,e,c,hd,_⟩:=pl
      exact ⟨o,e,hd⟩
    · refine ⟨⟨o,I.kIn p o hk,hc⟩,fun a e=>?_⟩
      cases e
      exact ⟨o,I.kIn _ o hk,hd⟩
    · have z:∃ o,s.heap.get? p = some o∧o.ExactDict:=by
        rcases hk with ⟨kvs,hk⟩ | ⟨kvs,hk⟩
        · obtain ⟨_,_,_,_,o,_,_,e,ex,_⟩:=I.hok p _ hk
          exact ⟨o,e,ex⟩
        · obtain ⟨_,_,_,_,o,_,_,e,ex,_⟩:=I.hok p _ hk
          exact ⟨o,e,ex⟩
      obtain ⟨o,e,ex⟩:=z
      refine ⟨⟨o,e,ex.1⟩,fun a e2=>?_⟩
      cases e2
      exact ⟨o,e,ex.2.1⟩
    · obtain ⟨o,_,_,_,e,ex,_⟩:=I.hok p _ hk
      refine ⟨⟨o,e,ex.1⟩,fun a e2=>?_⟩
      cases e2
      exact ⟨o,e,ex.2.1⟩
  | _=>exact False.elim ty
def tBM (K:PySem.W.Frag) (T:String) (r:V→List V→Hp→VK→Prop) (to:TE) (t:TA):TE:=fun σ H Q=>to σ H fun x H1=>tyV K T x H1∧t σ H1 fun xs H2=>r x xs H2 Q
variable {o e:Expr} {es:List Expr} {to:TE} {t:TA} {name:Str} {apos cpos:Pos} {T id:String} {r:V→List V→Hp→VK→Prop}
theorem pe_bm (pa:PlainAttrs T) (slot:Slot T name id) (hty:typeOf (.builtin id) = pure (.type "method_descriptor")) (hm:MtR X id r) (ho:PE X o to) (ha:PA X (e :: es) t)
    (hbase:attributeBase o name X.env (eval o X.env) = eval o X.env:=by rfl)
    (hfew:((backTo cpos (starEach (e :: es) X.env)).all (fun x=>!x.1) && (backToKw cpos (keywordEach [] X.env)).all (fun x=>x.1.isSome)
      && decide ((e :: es).length + ([]:List Keyword).length + (if ([]:List Keyword).isEmpty then 0 else 1) < 30)) = true:=by rfl)
    (hline:(apos.endLine == cpos.line) = true:=by rfl) (hs:starEach (e :: es) X.env = (false,eval e X.env) :: starEach es X.env:=by rfl) (hplain:(backTo cpos (starEach es X.env)).any (·.1) = false:=by rfl) :
    PE X (.Call (.Attribute o name apos) (e :: es) [] cpos) (tBM X.K T r to t):=by
  intro pins s σ H Q I h
  refine wpAny_Call_method_late hbase hfew hline rfl (thn (ho pins s σ H _ I h) fun v s1 ⟨x,H1,I1,r1,ty,q1⟩=>?_)
  obtain ⟨h1,h2⟩:=tyV_is I1 r1 ty
  refine ⟨T,id,pa,slot,hty,h1,h2,?_⟩
  have hA:=ha cpos pins s1 σ H1 _ I1 q1
  rw [hs] at hA ⊢
  refine Calls.callWith_builtin (by show (false || (backTo cpos (starEach es X.env)).any (·.1)) = false; rw [hplain] <;> rfl) (Calls.evalArgs_plain ?_)
  exact thn hA fun us s2 ⟨vs,H2,I2,r2,q2⟩=>hm pins s2 σ H2 x vs v us Q I2 r1 r2 q2
/- xs.append(e),list.index on a module's tuple .. are MtR facts of 06m -/
end
def MtM (X:Cx) (id:String) (r:V→List V→Hp→VK→Prop):Prop:=
  ∀ (pins:List (Addr × Obj)) (s:Shared) (σ:St) (H:Hp) (x:V) (xs:List V) (v:Value) (us:List Value) (Q:VK),Inv X pins σ H s→RelV x v→Vals xs us→r x xs H Q→
    wpAny (model X.prog X.w) X.A (call (.builtin id) (v :: us)) (EP X pins σ Q) X.xe s
theorem Vals.one:∀ {x:V} {us:List Value},Vals [x] us→∃ u,us = [u]∧RelV x u
  | _,_,.cons r .nil=>⟨_,rfl,r⟩
theorem Vals.two:∀ {x y:V} {us:List Value},Vals [x,y] us→∃ u v,us = [u,v]∧RelV x u∧RelV y v
  | _,_,_,.cons r (.cons q .nil)=>⟨_,_,rfl,r,q⟩
theorem Vals.eraseIdx:∀ {xs:List V} {us:List Value} (i:Nat),Vals xs us→Vals (xs.eraseIdx i) (us.eraseIdx i)
  | _,_,_,.nil=>.nil
  | _,_,0,.cons _ t=>t
  | _,_,i + 1,.cons r t=>.cons r (Vals.eraseIdx i t)
theorem Vals.rep {xs:List V} {us:List Value} (h:Vals xs us):∀ k:Nat,Vals (List.replicate k xs).flatten (List.replicate k us).flatten
  | 0=>.nil
  | k + 1=>by
    rw [List.replicate_succ,List.replicate_succ,List.flatten_cons,List.flatten_cons]
    exact Vals.append h (Vals.rep h k)
theorem len_erase {α:Type}:∀ (l:List α) (i:Nat),(l.eraseIdx i).length ≤ l.length
  | [],_=>Nat.le_refl _
  | _ :: _,0=>Nat.le_succ _
  | _ :: r,i + 1=>Nat.succ_le_succ (len_erase r i)
theorem foldl_rep (its:List Value):∀ (k:Nat) (acc:List Value),
    List.foldl (fun x1 x2=>x1 ++ x2) acc.toArray (List.replicate k its.toArray) = (acc ++ (List.replicate k its).flatten).toArray
  | 0,acc=>by simp
  | k + 1,acc=>by
    have e:acc.toArray ++ its.toArray = (acc ++ its).toArray:=by simp
    have e2:(acc ++ its) ++ (List.replicate k its).flatten = acc ++ (List.replicate (k + 1) its).flatten:=by
      rw [List.replicate_succ,List.flatten_cons,List.append_assoc]
    rw [← e2,← foldl_rep its k (acc ++ its),← e,List.replicate_succ,List.foldl_cons]
section
variable {X:Cx} {pins:List (Addr × Obj)} {σ:St} {H:Hp} {s:Shared} {l b:Addr} {xs ys zs:List V}
theorem Inv.lset {its its':List Value} {n:Nat} {f:Array Value→Array Value} {t':Nat} (I:Inv X pins σ H s) (hH:H l = some (.lst xs))
    (e:s.heap.get? l = some { cls:=.type "list",data:=.seq its.toArray n }) (hf:f its.toArray = its'.toArray) (hv:Vals ys its') (hz:ys.length ≤ sizeLine) :
    Inv X pins σ (upd H l (.lst ys)) { s with heap:=s.heap.update l (Obj.mapSeq f),toks:=t' }:=by
  have q:=PySem.IsL.update e f
  rw [hf] at q
  refine I.write (x:=l) (e:=l) (by rw [hH]; exact trivial) (.inl rfl) (fun b' u hb hu=>(Heap.get?_update_other s.heap (Obj.mapSeq f) (Ne.symm hb)).trans hu) ⟨_,q⟩ ?_
  exact ⟨hz,its',_,hv,q⟩
theorem Inv.lnew {its:List Value} {t':Nat} (I:Inv X pins σ H s) (hv:Vals ys its) (hz:ys.length ≤ sizeLine) :
    Inv X pins σ (upd H s.heap.objs.size (.lst ys)) { s with heap:=s.heap.push { cls:=.type "list",data:=.seq its.toArray },toks:=t' }:=
  I.laid (fun _ _ q=>Heap.get?_push_of_some _ q) (Nat.le_refl _) ⟨hz,its,0,hv,Heap.get?_push_size _ rfl⟩
theorem Inv.fresh (I:Inv X pins σ H s):H s.heap.objs.size = none:=I.hok.fresh (Nat.le_refl _)
theorem Inv.lstM (I:Inv X pins σ H s) (hH:H l = some (.lst xs)):xs.length ≤ sizeLine∧∃ (its:List Value) (n:Nat),Vals xs its∧xs.length = its.length∧s.heap.get? l = some { cls:=.type "list",data:=.seq its.toArray n }:=by
  obtain ⟨z,its,n,r,e⟩:=I.hok l _ hH
  exact ⟨z,its,n,r,r.length,e⟩
theorem notLongL {n:Nat} (h:n ≤ sizeLine):Builtin.List.listTooLong n = false:=by
  unfold Builtin.List.listTooLong
  exact decide_eq_false (by omega)
end
section
variable {X:Cx}
def rAppend:V→List V→Hp→VK→Prop:=fun x vs H Q=>∃ l xs y,x = .ref l∧vs = [y]∧H l = some (.lst xs)∧xs.length < sizeLine∧Q .non (upd H l (.lst (xs ++ [y])))
theorem mt_append:MtM X "list.append" rAppend:=by
  intro pins s σ H x vs v us Q I rx rv h
  obtain ⟨l,xs,y,rfl,rfl,hH,hz,q⟩:=h
  cases rx
  obtain ⟨u,rfl,ru⟩:=rv.one
  obtain ⟨z,its,n,r,hl,e⟩:=I.lstM hH
  refine call_meets F.slot_list_append ⟨_,e,rfl⟩ F.entry_list_append (F.args_list_append_2 _ _) (PySem.list_append l its.toArray n u (by rw [List.size_toArray]; omega)) ⟨e,?_⟩
  refine ⟨.non,_,I.lset (its':=its ++ [u]) hH e (by simp) (r.append (.cons ru .nil)) ?_,rfl,q⟩
  rw [List.length_append,List.length_singleton]
  omega
def rPopAt:V→List V→Hp→VK→Prop:=fun x vs H Q=>∃ l xs i k y,x = .ref l∧vs = [.int i]∧H l = some (.lst xs)∧-(2 ^ 63) ≤ i∧i < 2 ^ 63∧seqIndex? i xs.length = some k∧xs[k]? = some y∧Q y (upd H l (.lst (xs.eraseIdx k)))
theorem mt_popAt:MtM X "list.pop" rPopAt:=by
  intro pins s σ H x vs v us Q I rx rv h
  obtain ⟨l,xs,i,k,y,rfl,rfl,hH,h1,h2,hk,hy,q⟩:=h
  cases rx
  obtain ⟨u,rfl,ru⟩:=rv.one
  obtain ⟨t,rfl⟩:=ru
  obtain ⟨z,its,n,r,hl,e⟩:=I.lstM hH
  obtain ⟨w,hw,rw'⟩:=r.get hy
  refine call_meets F.slot_list_pop ⟨_,e,rfl⟩ F.entry_list_pop (F.args_list_pop_2 _ _)
    (MeetsSeq.list_pop_at l its.toArray n i t k w (fitsIndex_both h1 h2) (by rw [List.size_toArray,← hl]; exact hk) (by rw [← Array.getElem?_toList]; exact hw) (by rw [List.size_toArray]; omega)) ⟨e,?_⟩
  refine ⟨y,_,I.lset (its':=its.eraseIdx k) hH e ?_ (r.eraseIdx k) ?_,rw',q⟩
  · show its.toArray.eraseIdxIfInBounds k = (its.eraseIdx k).toArray
    rw [List.eraseIdxIfInBounds_toArray]
  · have:=len_erase xs k
    omega
def rCat:R2:=fun x y H Q=>∃ l b xs zs,x = .ref l∧y = .ref b∧H l = some (.lst xs)∧H b = some (.lst zs)∧xs.length + zs.length ≤ sizeLine∧∀ p,H p = none→Q (.ref p) (upd H p (.lst (xs ++ zs)))
theorem op_cat:OpR X (binaryOp .Add) rCat:=by
  intro pins s σ H x y v u Q I rx ry h
  obtain ⟨l,b,xs,zs,rfl,rfl,hH,hB,hz,q⟩:=h
  cases rx
  cases ry
  obtain ⟨z,its,n,r,hl,e⟩:=I.lstM hH
  obtain ⟨z2,its2,n2,r2,hl2,e2⟩:=I.lstM hB
  refine PySem.P.add_list e e2 ?_ (by rw [List.size_toArray,List.size_toArray]; omega)
  have ea:its.toArray ++ its2.toArray = (its ++ its2).toArray:=by simp
  rw [ea]
  exact ⟨.ref _,_,I.lnew (t':=s.toks) (r.append r2) (by rw [List.length_append]; omega),rfl,q _ I.fresh⟩
def rRep:R2:=fun x y H Q=>∃ l k xs,x = .ref l∧y = .int k∧H l = some (.lst xs)∧-(2 ^ 63) ≤ k∧k < 2 ^ 63∧xs.length * k.toNat ≤ sizeLine∧
  ∀ p,H p = none→Q (.ref p) (upd H p (.lst (List.replicate k.toNat xs).flatten))
theorem len_rep {α:Type} (xs:List α) (k:Nat):(List.replicate k xs).flatten.length = k * xs.length:=by
  induction k with
  | zero=>simp
  | succ k ih=>rw [List.replicate_succ,List.flatten_cons,List.length_append,ih,Nat.succ_mul,Nat.add_comm]
theorem op_rep:OpR X (binaryOp .Mult) rRep:=by
  intro pins s σ H x y v u Q I rx ry h
  obtain ⟨l,k,xs,rfl,rfl,hH,h1,h2,hz,q⟩:=h
  cases rx
  obtain ⟨t,rfl⟩:=ry
  obtain ⟨z,its,n,r,hl,e⟩:=I.lstM hH
  have hlen:its.toArray.size * k.toNat ≤ sizeLine:=by rw [List.size_toArray,← hl]; exact hz
  have hcap:¬ its.toArray.size * k.toNat > (2 ^ 63 - 1) / 8:=by
    have:(sizeLine:Nat) ≤ (2 ^ 63 - 1) / 8:=by decide
    omega
  have hfit:¬ (!Builtin.List.listFitsIndex k) = true:=by
    rw [fitsIndex_both h1 h2]
    exact Bool.false_ne_true
  have hlong:¬ Builtin.List.listTooLong (its.toArray.size * k.toNat) = true:=by
    rw [notLongL hlen]
    exact Bool.false_ne_true
  have hnew:List.foldl (fun x1 x2=>x1 ++ x2) #[] (List.replicate (if its.toArray.isEmpty = true then 0 else k.toNat) its.toArray) = (List.replicate k.toNat its).flatten.toArray:=by
    have f0:∀ m:Nat,List.foldl (fun x1 x2=>x1 ++ x2) #[] (List.replicate m its.toArray) = (List.replicate m its).flatten.toArray:=fun m=>by
      have:=foldl_rep its m []
      rw [List.nil_append] at this
      exact this
    rw [f0]
    cases its with
    | nil=>simp
    | cons a r'=>rw [if_neg (by simp)]
  refine wpAny_binaryOp_repeat_ref (T := "list") (U := "int") (by decide) ⟨_, e, rfl⟩ (fun s' => typeIs_int s' k t) noFill_list_mul F.fills_int_mul F.slot_int_rmul repeat_list F.slot_int_index.lookup
    (call_meets F.slot_int_rmul (typeIs_int s k t) F.entry_int_rmul (F.args_int_rmul_2 _ _) (int___rmul___int_list k t l its.toArray n)
      ⟨e,rfl,⟨_,e,rfl⟩,call_meets F.slot_list_mul ⟨_,e,rfl⟩ F.entry_list_mul (F.args_list_mul_2 _ _) (AutoListH.list___mul___list_int_3 l its.toArray n k t hfit hcap hlong) ⟨e,?_⟩⟩)
  rw [hnew]
  exact ⟨.ref _,_,I.lnew (t':=s.toks) (r.rep k.toNat) (by rw [len_rep,Nat.mul_comm]; exact hz),rfl,q _ I.fresh⟩
end
end L2
namespace Att
open PySem PySem.W PySem.Calls PyProof.Rows
theorem ints_of_wellAll {P:Params} {h:Heap}:∀ (ns:List Int) (vs:List Value),WellAll P h vs (ns.map WData.int)→IntsAre vs ns:=by
  intro ns
  induction ns with
  | nil=>
    intro vs w
    rw [List.map_nil] at w
    cases w
    exact .nil
  | cons n ns ih=>
    intro vs w
    rw [List.map_cons] at w
    cases w with
    | cons a b=>
      cases a
      exact .cons _ _ (ih _ b)
theorem script_of {l:OpenLaw} {n:Nat} (hn:l.most = some n) {P:Params} {h:Heap} {args:List WData} {vals:List Value}
    (hpre:l.row.toRowW.claim.pre args = true) (hwl:WellAll P h vals args) :
    ∃ a vs ns,vals = [Value.ref a]∧args = [WData.list (ns.map WData.int)]∧h.get? a = some { cls:=.type "list",data:=.seq vs.toArray }∧IntsAre vs ns∧ns.length ≤ n:=by
  have hsh:WShape.hasAll [] args [.list .int] = true:=(pre_splitW hpre).1
  have hc:l.pre.holds [] { args:=args } = true:=(pre_splitW hpre).2
  obtain ⟨d,r,rfl,h1,h2⟩:=hasAllW_cons hsh
  obtain rfl:=hasAllW_nil h2
  obtain ⟨xs,rfl,h3⟩:=hasW_list h1
  obtain ⟨ns,rfl⟩:=items_int h3
  have hlen:ns.length ≤ n:=by
    unfold OpenLaw.pre at hc
    have h4:(WTm.not (.lt (.lit (.int (n:Int))) (.len (.arg 0)))).holds [] { args:=[.list (ns.map .int)] } = true:=by
      have h4:=(holds_andW hc).1
      rw [hn] at h4
      exact h4
    have h5:=condW_of h4 (w_not (w_lt w_lit (w_len_list (w_arg rfl))))
    rw [List.length_map] at h5
    refine Nat.le_of_not_lt fun q=>?_
    have q':(n:Int) < ((ns.length:Nat):Int):=by omega
    first
      | (rw [decide_eq_true q'] at h5; exact absurd h5 (by decide))
      | (simp at h5; omega)
  cases hwl with
  | cons w1 w2=>
    cases w2
    cases w1 with
    | list ho hall=>exact ⟨_,_,ns,rfl,rfl,ho,ints_of_wellAll ns _ hall,hlen⟩
theorem post_true (l:OpenLaw) (args:List WData):l.row.toRowW.claim.post args (.bool true) args = true:=
  postW_of (r:=l.row.toRowW) (X:=(true == true))
    (show WShape.has [] (.bool true) .bool = true by first | rfl | decide | simp [WShape.has,WShape.arms,WShape.armsAll])
    (show (WTm.eq .res (.lit (.bool true))).value [] { args:=args,res:=some (.bool true),after:=args } = some (.bool (true == true)) from w_eq_bool (w_res rfl) w_lit) rfl
theorem attach_call {l:OpenLaw} {n:Nat} {q:Program} {loose:List Str} {XP:(Str→Option Value)→Heap→Prop} {YP:World→Heap→Prop} {d:DefRec}
    (hn:l.most = some n) (hdf:d.params.defaults = [])
    (call:∀ (w:World) (s₀ s₁:Shared) (mg mb:Str→Option Value) (fa:Addr) (o:Obj) (pm cd doc:Value) (a:Addr) (vs:List Value) (ns:List Int),
      Ground q loose [] XP w s₀ mg mb s₁.heap→YP w s₁.heap→
      s₁.heap.get? fa = some o→o.data = .func (docDef d.name d.params d.body d.scope pm cd doc)→s₁.heap.CodeRec cd d.name→mg d.name = some (.ref fa)→
      s₁.heap.get? a = some { cls:=.type "list",data:=.seq vs.toArray }→IntsAre vs ns→ns.length ≤ n→s₁.gens = #[]→
      codeAny (model l.prog w) callerA (.call (.ref fa) ⟨[.ref a],[]⟩) (fun r s'=>r = .ok (.ret (.bool true))∧OldK s₁.heap s'.heap∧s'.os = s₁.os∧AllBare s'.gens) s₁) :
    WalkO q loose XP YP l.row.toRowW d [] (fun f vs=>PySem.call f vs):=by
  intro w s₀ s₁ mg mb G Y fa o pm cd doc dV kV ho hd hcd hD hmg hg args vals as hpre hlay hrd hwl hlo
  obtain rfl:dV = .none:=Dflts.none hD hdf
  obtain rfl:kV = .none:=Dflts.noKw hD
  obtain ⟨a,vs,ns,rfl,rfl,hobj,hints,hlen⟩:=script_of hn hpre hwl
  refine enter_call (codeAny_mono (call w s₀ s₁ mg mb fa o pm cd doc a vs ns G Y ho (fd_plain hd) hcd hmg hobj hints hlen hg) fun r s' hq=>?_)
  obtain ⟨rfl,h2,h3,h4⟩:=hq
  exact ⟨.inl ⟨.bool true,.bool true,[],rfl,fun _=>rfl,.bool true,post_true l _,fun _=>⟨List.Pairwise.nil,fun _ hm=>(nomatch hm)⟩⟩,h2,h3,h4⟩
end Att
namespace L2
open PySem PySem.Spec PyProof.Rows
theorem vals_ints:∀ {vs:List Value} {ns:List Int},IntsAre vs ns→Vals (ns.map V.int) vs
  | _,_,.nil=>.nil
  | _,_,.cons n t h=>.cons ⟨t,rfl⟩ (vals_ints h)
def Only (H:Hp):Prop:=∀ b,H b = none ∨ ∃ o xs,H b = some (.frz o (.lst xs))
theorem law_call {P:Program} {w:World} {K:PySem.W.Frag} {mg mb:Str→Option Value} {CX:CXT} {k:Nat} {fa a:Addr} {fd:FuncData} {x:Str} {sp:Sp} {s₁:Shared} {vs:List Value} {ns:List Int}
    (KX:K.In s₁.heap) (hns:s₁.heap.Ns mainGlobals mg) (hb:s₁.heap.Ns builtinsNs mb) (hbb:∀ x:Str,x ≠ "__name__"→mb x = bootBuiltins x) (hlim:s₁.heap.NoLimit) (hg:s₁.gens = #[])
    (ha:s₁.heap.get? a = some { cls:=.type "list",data:=.seq vs.toArray }) (hi:IntsAre vs ns) (hl:ns.length ≤ sizeLine) (hr:Room k callerA)
    (F:∀ base:Heap,K.In base→base.Ns mainGlobals mg→FnOk P w K mg base CX k fa fd [x] sp) (hbind:∀ (s:Shared) (u:Value),BindsTo s fd ⟨[u],[]⟩ [(x,u)])
    (hsp:∀ H:Hp,Only H→SqL K H a (ns.map V.int)→sp [.ref a] H (fun v _=>v = .bl true) fun _ _ _=>False)
    (hCX:∀ H e s',CX [] H s₁ (fun _ _ _=>False) e s'→False) :
    codeAny (model P w) callerA (.call (.ref fa) ⟨[.ref a],[]⟩) (fun r s'=>r = .ok (.ret (.bool true))∧OldK s₁.heap s'.heap∧s'.os = s₁.os∧AllBare s'.gens) s₁:=by
  have rv:=vals_ints hi
  have lenV:=hi.length
  -- from an abstract heap in which nothing but the script may be tracked
  have core:∀ H:Hp,Only H→SqL K H a (ns.map V.int)→HOk P w H s₁.heap→(∀ b,H b ≠ none→b = a)→(H a ≠ none→K.lookup a = none)→
      codeAny (model P w) callerA (.call (.ref fa) ⟨[.ref a],[]⟩) (fun r s'=>r = .ok (.ret (.bool true))∧OldK s₁.heap s'.heap∧s'.os = s₁.os∧AllBare s'.gens) s₁:=by
    intro H hO hS hok hA hK
    have base_of:∀ {b:Addr} {o:Obj},s₁.heap.get? b = some o→H b = none→(hidT s₁.heap H).get? b = some o:=fun e n=>hidT_get e n
    have noA:∀ {b:Addr} {o:Obj} {es:Array DictEntry} {ep:Nat},s₁.heap.get? b = some o→o.data = .dict es ep→H b = none:=fun {b o es ep} e d=>by
      cases q:H b with
      | none=>rfl
      | some u=>
        have e':b = a:=hA b (by rw [q]; simp)
        subst e'
        rw [ha] at e; cases e
        have d':Data.seq vs.toArray _ = Data.dict es ep:=d
        cases d'
    have nsK:∀ {b:Addr} {m:Str→Option Value},s₁.heap.Ns b m→(hidT s₁.heap H).Ns b m:=fun {b m} ⟨o,es,ep,e,d,r⟩=>⟨o,es,ep,base_of e (noA e d),d,r⟩
    have hKb:K.In (hidT s₁.heap H):=fun b o e=>base_of (KX b o e) (by
      cases q:H b with
      | none=>rfl
      | some u=>
        have e':b = a:=hA b (by rw [q]; simp)
        subst e'
        rw [hK (by rw [q]; simp)] at e; cases e)
    have hM:Mod K mg (hidT s₁.heap H):=⟨hKb,nsK hns,⟨mb,nsK hb,hbb⟩,let ⟨mc,h1,h2⟩:=hlim; ⟨mc,nsK h1,h2⟩⟩
    have e0:Env0 P w K mg (hidT s₁.heap H) callerA [] s₁ H:=⟨rfl,hM,fun b o e=>of_hidT e,Nat.le_of_eq (hidT_size _ _),trivial,fun b hb=>absurd (show b ∈ ([]:List Addr) from hb) (by simp),hok,.of_eq hg⟩
    refine codeAny_mono ((F _ hKb (nsK hns)).run callerA [] s₁ H ⟨[.ref a],[]⟩ [.ref a] [.ref a] _ _ hr e0 (hbind s₁ (.ref a)) (.cons rfl .nil) (hsp H hO hS)) fun r s' h=>?_
    cases r with
    | error e=>exact (hCX H e s' h).elim
    | ok fl=>
      cases fl with
      | next=>exact False.elim h
      | brk=>exact False.elim h
      | cont=>exact False.elim h
      | ret u=>
        obtain ⟨v,H',os,bare,un,hok',r',q⟩:=h
        have q':v = .bl true:=q
        subst q'
        obtain rfl:u = Value.bool true:=r'
        refine ⟨rfl,OldK.of_keep fun b o e=>?_,os,bare⟩
        cases q:H b with
        | none=>exact un.keep b o e q (by intro z; exact absurd (show b ∈ ([]:List Addr) from z) (by simp)) (by simp)
        | some u=>
          rcases hO b with z | ⟨ob,xs,z⟩
          · rw [q] at z; cases z
          · have z2:=un.frzs b ob _ z
            obtain ⟨e1,_⟩:=hok b _ z
            obtain ⟨e2,_⟩:=hok' b _ z2
            rw [e] at e1; cases e1
            exact e2
  cases hk:K.lookup a with
  | some o=>
    -- the script is one of the module's own objects
    have e:=KX a o hk
    rw [ha] at e
    cases e
    refine core (fun _=>none) (fun _=>.inl rfl) (.inr ⟨_,vs.toArray,_,hk,rfl,rfl,rfl,by rw [List.size_toArray,lenV]; exact hl,by simpa using rv⟩) (fun b u z=>by have z':(none:Option HO) = some u:=z; cases z') (fun b z=>absurd rfl z) fun z=>absurd rfl z
  | none=>
    refine core (fun b => if b = a then some (.frz { cls := .type "list", data := .seq vs.toArray } (.lst (ns.map V.int))) else none) (fun b => ?_) (.inl (.inr ⟨{ cls := .type "list", data := .seq vs.toArray }, if_pos rfl⟩)) (fun b u z => ?_) (fun b z => ?_) fun _ => hk
    · by_cases hb:b = a
      · exact .inr ⟨_,_,if_pos hb⟩
      · exact .inl (if_neg hb)
    · by_cases hb:b = a
      · have z':=(if_pos hb).symm.trans z
        cases z'
        subst hb
        exact ⟨ha,by rw [List.length_map]; exact hl,vs,_,rv,ha⟩
      · have z':=(if_neg hb).symm.trans z
        cases z'
    · by_cases hb:b = a
      · exact hb
      · exact absurd (if_neg hb) z
abbrev KOf {K:PySem.W.Frag} {h:Heap} (_:K.In h):PySem.W.Frag:=K
theorem walk_of {l:PySem.W.OpenLaw} {n k:Nat} {q:Program} {loose:List Str} {XP:(Str→Option Value)→Heap→Prop} {YP:World→Heap→Prop} {d:DefRec} {K:Params→PySem.W.Frag} {CX:World→CXT} {sp:World→Sp} {x:Str}
    (hn:l.most = some n) (hn2:n ≤ sizeLine) (hdf:d.params.defaults = []) (hr:Room k callerA)
    (hY:∀ (w:World) (h:Heap),YP w h→(K w.params).In h)
    (F:∀ (w:World) (mg:Str→Option Value) (fa:Addr) (h:Heap),(K w.params).In h→h.Ns mainGlobals mg→mg d.name = some (.ref fa)→
      ∃ fd:FuncData,(∀ (s:Shared) (u:Value),BindsTo s fd ⟨[u],[]⟩ [(x,u)])∧
        ∀ base:Heap,(K w.params).In base→base.Ns mainGlobals mg→FnOk l.prog w (K w.params) mg base (CX w) k fa fd [x] (sp w))
    (hsp:∀ (w:World) (H:Hp) (a:Addr) (ns:List Int),ns.length ≤ n→Only H→SqL (K w.params) H a (ns.map V.int)→sp w [.ref a] H (fun v _=>v = .bl true) fun _ _ _=>False)
    (hCX:∀ (w:World) (H:Hp) (s:Shared) (e:Value) (s':Shared),CX w [] H s (fun _ _ _=>False) e s'→False) :
    PySem.W.WalkO q loose XP YP l.row.toRowW d [] (fun f vs=>PySem.call f vs):=by
  refine Att.attach_call hn hdf fun w s₀ s₁ mg mb fa o pm cd doc a vs ns G Y ho hd hcd hmg hobj hints hlen hg=>?_
  have KX:=hY w _ Y
  obtain ⟨fd,hb,hF⟩:=F w mg fa _ KX G.T.g hmg
  exact law_call KX G.T.g G.T.b G.T.builtins G.T.nolimit hg hobj hints (Nat.le_trans hlen hn2) hr hF hb (fun H hO hS=>hsp w H a ns hlen hO hS) fun H e s'=>hCX w H s₁ e s'
end L2
/- THE LAST THEOREM (shape; LID,My.* are yours):
   My.Adr: a structure of the addresses that your layer names (classes,functions); My.Txt K t: a structure (Prop) of the equations over K;
   My.txt_mk : {K} {implicit addresses ..} (e1 : nsIn K mainGlobals "law" = some (some (.ref f))) (e2 : K.lookup f = some ⟨oc, od, .func (fnOf "law" "law" params body scope dV kV doc pm an cdv ct), sl⟩) (e3 : codeIn K cdv "law" = true) .. : ∃ t, My.Txt K t
set_option maxRecDepth 100000 in
set_option maxHeartbeats 0 in
theorem PySem.Challenge.cw_LID_holds : PySem.Challenge.rw_LID.Holds := by
  w_on; o_law; k_head; (case hw=>w_witness2)
  k_fill
  refine L2.walk_of (l:=PySem.Challenge.rw_LID) (n:=63) (k:=40) (x:="script") (CX:=fun w=>..) (sp:=fun _=>My.sp_law) rfl (by decide) rfl ⟨rfl,by decide,by decide⟩ (fun w h Y=>PySem.W.kIn_of Y) ?F ?S ?C
  case F=>
    intro w mg fa h KX G hmg
    have T:∃ t,My.Txt (L2.KOf KX) t:=by
      dsimp only [L2.KOf]                          -- K must stand as «<heap const> w.params» for k_is
      refine' My.txt_mk ?e1 ?e2 ?e3 ..
      (case e1=>PySem.W.k_is)                    -- in the order: a name -> its address -> its object -> its parts
      (case e2=>PySem.W.k_is)
      ..
    obtain ⟨t,T⟩:=T
    have e0:=hmg.symm.trans (PySem.W.mg_of KX G T.law)
    cases e0                                       -- fa is the law's own address
    exact ⟨_,fun s u=>.of_eq rfl,fun base kb nb=>My.law_fn T kb nb⟩     -- if «.of_eq rfl» comes too early: refine' ⟨_,?b,fun base kb nb=>My.law_fn T kb nb⟩; exact fun s u=>.of_eq rfl
  case S=>exact fun w H a ns hl hO hS=>..
  case C=>exact ..
(the tactic k_is has no namespace: write k_is) -/
namespace L2
open PySem PySem.Spec PyProof.Rows
def inClass (s:Stmt) (j:Nat):Stmt:=match s with
  | .ClassDef _ _ _ body _ _ _ _ _ _ _=>body.getD j (.Pass ⟨0,0,0,0⟩)
  | _=>.Pass ⟨0,0,0,0⟩
def defArgs (s:Stmt):Arguments:=match s with
  | .FunctionDef _ a _ _ _ _ _ _ _ _=>a
  | _=>{ posonlyargs:=[],args:=[],vararg:=none,kwonlyargs:=[],kw_defaults:=[],kwarg:=none,defaults:=[] }
def defBody (s:Stmt):List Stmt:=match s with
  | .FunctionDef _ _ b _ _ _ _ _ _ _=>b
  | _=>[]
def defScope (s:Stmt):Scope:=match s with
  | .FunctionDef _ _ _ _ _ _ sc _ _ _=>sc
  | _=>{ kind:=.function,names:=[],isGenerator:=false,isCoroutine:=false }
abbrev CX0:CXT:=fun _ _ _ _ _ _=>False
abbrev E0:XK:=fun _ _ _=>False
theorem pass0 {X:Cx}:Passes CX0 X E0:=fun _ _ _ _ _ _ _ h=>h.elim
structure Fun (K:PySem.W.Frag) (x qual:Str) (st:Stmt) (f:Addr) (fd:FuncData):Prop where
  ex:∃ (oc:Value) (od:Option Addr) (kV doc pm:Value) (an:Option Addr) (cdv ct:Value) (osl:Array (Option Value)),
    fd = PySem.W.fnOf x qual (defArgs st) (defBody st) (defScope st) .none kV doc pm an cdv ct∧K.lookup f = some ⟨oc,od,.func fd,osl⟩∧PySem.W.codeIn K cdv qual = true
  kp:PySem.W.keepIn K (.ref f) = true
section
variable {P:Program} {w:World} {K:PySem.W.Frag} {mg:Str→Option Value} {base:Heap}
theorem Fun.ok {x qual:Str} {st:Stmt} {f:Addr} {fd:FuncData} {N ps:List Str} {k:Nat} {sp:Sp} (F:Fun K x qual st f fd) (S:FnScope N ps (defScope st)) (len:∀ vs H Q E,sp vs H Q E→vs.length = ps.length)
    (hbody:∀ (cdv:Value) (A:Around) (outer:List Env) (s:Shared) (H:Hp) (vs:List V) (Q:VK) (E:XK),Room k (A.deeper (envOfC qual (defScope st) s.heap.objs.size f cdv))→sp vs H Q E→
      ∃ t,PSs (cxOf CX0 P w K mg base N qual (defScope st) f cdv A outer s H E).nox (defBody st) t∧t { nx:=fun _ H'=>Q .non H',rt:=Q } (start N vs) H):FnOk P w K mg base CX0 (k + 1) f fd ps sp:=by
  obtain ⟨oc,od,kV,doc,pm,an,cdv,ct,osl,rfl,lk,hcd⟩:=F.ex
  refine fn_of lk hcd S len fun A outer s H vs Q E hr hsp=>?_
  obtain ⟨t,h,q⟩:=hbody cdv A outer s H vs Q E hr hsp
  exact ⟨t,h.nox,q⟩
theorem Fun.binds {x qual:Str} {st:Stmt} {f:Addr} {fd:FuncData} {ps:List Str} (F:Fun K x qual st f fd)
    (h:∀ (kV doc pm:Value) (an:Option Addr) (cdv ct:Value) (us:List Value),us.length = ps.length→bindArgs (PySem.W.fnOf x qual (defArgs st) (defBody st) (defScope st) .none kV doc pm an cdv ct) ⟨us,[]⟩ = pure (ps.zip us)):Binds K fd ps []:=by
  obtain ⟨oc,od,kV,doc,pm,an,cdv,ct,osl,rfl,lk,hcd⟩:=F.ex
  exact .all (h kV doc pm an cdv ct)
theorem fun_mk {x qual:Str} {st:Stmt} {f:Addr} {oc:Value} {od an:Option Addr} {osl:Array (Option Value)} {kV doc pm cdv ct:Value} (l:K.lookup f = some ⟨oc,od,.func (PySem.W.fnOf x qual (defArgs st) (defBody st) (defScope st) .none kV doc pm an cdv ct),osl⟩)
    (c:PySem.W.codeIn K cdv qual = true) (k:PySem.W.keepIn K (.ref f) = true):Fun K x qual st f (PySem.W.fnOf x qual (defArgs st) (defBody st) (defScope st) .none kV doc pm an cdv ct):=⟨⟨oc,od,kV,doc,pm,an,cdv,ct,osl,rfl,l,c⟩,k⟩
end
def Same (H H':Hp):Prop:=∀ b o,H b = some o→H' b = some o
theorem Same.refl (H:Hp):Same H H:=fun _ _ h=>h
theorem Same.trans {H H1 H2:Hp} (a:Same H H1) (b:Same H1 H2):Same H H2:=fun c o h=>b c o (a c o h)
theorem Same.seq {K:PySem.W.Frag} {H H':Hp} {a:Addr} {xs:List V} (e:Same H H') (h:SqL K H a xs):SqL K H' a xs:=by
  rcases h with (h | ⟨o,h⟩) | h
  · exact .inl (.inl (e _ _ h))
  · exact .inl (.inr ⟨o,e _ _ h⟩)
  · exact .inr h
theorem compLoop_any {prog:Program} {w:World} {A:Around} {R:Result→Shared→Prop} {s:Shared} {elt target iter:Expr} {ifs:List Expr} {scope:Scope} {pos:Pos} {it acc:Value} {env:Env} (I:Nat→Shared→Prop)
    (turn:∀ n s,I n s→wpAny (model prog w) A (pyNext it) (fun r s₁=>match r with
      | none=>R (.ok .next) s₁
      | some v=>wpAny (model prog w) A (letOwnedTupleGo target it v) (fun _ s₁'=>wpAny (model prog w) A (assign target env v) (fun _ s₂=>
          wpAny (model prog w) A (forIn ifs true fun c r=>if r = true then do let ok ← isTrue c env (eval c env); pure (ForInStep.yield ok) else pure (ForInStep.yield r)) (fun ok s₃=>
            if ok = true then wpAny (model prog w) A (eval elt env) (fun x s₄=>
              wpAny (model prog w) A (call (.builtin "list.append") [acc,x]) (fun _ s₅=>∃ m,m < n∧I m s₅) (fun _ _=>False) s₄) (fun _ _=>False) s₃
            else ∃ m,m < n∧I m s₃) (fun _ _=>False) s₂) (fun _ _=>False) s₁') (fun _ _=>False) s₁) (fun _ _=>False) s)
    (n:Nat) (h:I n s) :
    codeAny (model prog w) A (.compLoop (.ListComp elt [⟨target,iter,ifs,0⟩] scope pos) 0 it acc env) R s:=by
  refine codeAny_loop rfl I (fun n s hI=>?_) n h
  show wpAny _ A ((compTurn (.ListComp elt [⟨target,iter,ifs,0⟩] scope pos) 0 it acc env).onRaise (fun x=>do noteFrame x env; theTreesLotGoes x)) _ _ s
  refine wpAny_noted ?_
  rw [compTurn_list]
  refine wpAny_bind (wpAny_standAt (wpAny_bind (wpAny_mono (turn n s hI) (fun r s₁ h₁=>?_) fun _ _ h'=>h'.elim)))
  cases r with
  | none=>exact wpAny_pure h₁
  | some v=>
    refine wpAny_bind (wpAny_mono h₁ (fun _ s₁' h₁'=>?_) fun _ _ h'=>h'.elim)
    refine wpAny_bind (wpAny_mono h₁' (fun _ s₂ h₂=>wpAny_bind (wpAny_mono h₂ (fun ok s₃ h₃=>?_) fun _ _ h'=>h'.elim)) fun _ _ h'=>h'.elim)
    cases ok with
    | false=>exact wpAny_pure ⟨rfl,h₃⟩
    | true=>
      exact wpAny_bind (wpAny_bind (wpAny_mono h₃ (fun x s₄ h₄=>wpAny_bind (wpAny_mono h₄ (fun _ s₅ h₅=>wpAny_pure (wpAny_pure ⟨rfl,h₅⟩)) fun _ _ h'=>h'.elim)) fun _ _ h'=>h'.elim))
def PTs (X:Cx) (ifs:List Expr) (t:TT):Prop:=
  ∀ (pins:List (Addr × Obj)) (s:Shared) (σ:St) (H:Hp) (Q:Bool→Hp→Prop),Inv X pins σ H s→t σ H Q→
    wpAny (model X.prog X.w) X.A (forIn ifs true fun c r=>if r = true then do let ok ← isTrue c X.env (eval c X.env); pure (ForInStep.yield ok) else pure (ForInStep.yield r)) (TP X pins σ Q) X.xe s
def tYes:TT:=fun _ H Q=>Q true H
theorem pts_nil {X:Cx}:PTs X [] tYes:=fun _ _ _ H _ I h=>wpAny_tests_nil ⟨H,I,h⟩
theorem pts_one {X:Cx} {c:Expr} {t:TT} (h:PT X c t):PTs X [c] t:=fun pins s σ H Q I hw=>wpAny_tests_one (h pins s σ H Q I hw)
theorem closure_ex {env:Env}:∀ (names:List (Str × NameKind)) (acc:List (Str × Addr)),(∀ y ∈ names,y.2 = .free→∃ c,env.cells.lookup y.1 = some c)→(∀ y ∈ acc,env.cells.lookup y.1 = some y.2)→
    ∃ cl:List (Str × Addr),(forIn (m:=Sem) names acc fun (x:Str × NameKind) cs=>if (x.2 == NameKind.free) = true then (do let a ← cellOf env x.1; pure (ForInStep.yield ((x.1,a) :: cs))) else pure (ForInStep.yield cs)) = pure cl∧
      (∀ y ∈ cl,env.cells.lookup y.1 = some y.2)∧(∀ y ∈ acc,y ∈ cl)∧∀ y ∈ names,y.2 = .free→∃ c,(y.1,c) ∈ cl
  | [],acc,_,ha=>⟨acc,rfl,ha,fun _ h=>h,fun _ h=>nomatch h⟩
  | (n,k) :: r,acc,hf,ha=>by
    by_cases hk:k = .free
    · subst hk
      obtain ⟨c,hc⟩:=hf (n,.free) List.mem_cons_self rfl
      obtain ⟨cl,e,h1,h2,h3⟩:=closure_ex r ((n,c) :: acc) (fun y hy=>hf y (List.mem_cons_of_mem _ hy)) (fun y hy=>by
        rcases List.mem_cons.mp hy with rfl | hy
        · exact hc
        · exact ha y hy)
      refine ⟨cl,?_,h1,fun y hy=>h2 y (List.mem_cons_of_mem _ hy),fun y hy hk=>?_⟩
      · rw [List.forIn_cons]
        have e1:cellOf env n = pure c:=by unfold cellOf; rw [hc]
        simp only [beq_self_eq_true,if_true,e1]
        exact e
      · rcases List.mem_cons.mp hy with rfl | hy
        · exact ⟨c,h2 _ List.mem_cons_self⟩
        · exact h3 y hy hk
    · have hb:(k == NameKind.free) = false:=by simpa using hk
      obtain ⟨cl,e,h1,h2,h3⟩:=closure_ex r acc (fun y hy=>hf y (List.mem_cons_of_mem _ hy)) ha
      refine ⟨cl,?_,h1,h2,fun y hy hk'=>?_⟩
      · rw [List.forIn_cons]
        simp only [hb,Bool.false_eq_true,if_false]
        exact e
      · rcases List.mem_cons.mp hy with rfl | hy
        · exact absurd hk' hk
        · exact h3 y hy hk'
theorem closureFor_ex {env:Env} {scope:Scope} (hf:∀ y ∈ scope.names,y.2 = .free→∃ c,env.cells.lookup y.1 = some c) :
    ∃ cl:List (Str × Addr),closureFor scope env = pure cl∧(∀ y ∈ cl,env.cells.lookup y.1 = some y.2)∧∀ y ∈ scope.names,y.2 = .free→∃ c,(y.1,c) ∈ cl:=by
  obtain ⟨cl,e,h1,_,h3⟩:=closure_ex scope.names [] hf (fun _ h=>nomatch h)
  refine ⟨cl,?_,h1,h3⟩
  unfold closureFor
  simp only [bind_pure]
  exact e
abbrev cxComp (X:Cx) (scope:Scope) (cl:List (Str × Addr)) (C:Addr) (N:List Str) (s₀:Shared) (H₀:Hp) (ex:List Addr):Cx where
  prog:=X.prog
  w:=X.w
  K:=X.K
  mg:=X.mg
  base:=X.base
  A:=X.A
  N:=N
  s₀:=s₀
  H₀:=H₀
  env:=compEnvC scope cl C X.env
  outer:=X.stack
  stack:=X.stack
  ex:=ex
  fn:=fun _=>false
  calm:=X.calm
  pn:=[]
  xe:=fun _ _=>False
theorem lookup_mem {α β:Type} [BEq α] [LawfulBEq α] {l:List (α × β)} {x:α} {y:β} (h:l.lookup x = some y):(x,y) ∈ l:=by
  induction l with
  | nil=>cases h
  | cons p r ih=>
    obtain ⟨a,b⟩:=p
    rw [List.lookup_cons] at h
    cases e:(x == a) with
    | true=>rw [e] at h; cases h; rw [eq_of_beq e]; exact List.mem_cons_self
    | false=>rw [e] at h; exact List.mem_cons_of_mem _ (ih h)
theorem mem_lookup {α β:Type} [BEq α] [LawfulBEq α] {l:List (α × β)} {x:α} {y:β} (h:(x,y) ∈ l):∃ z,l.lookup x = some z:=by
  induction l with
  | nil=>cases h
  | cons p r ih=>
    obtain ⟨a,b⟩:=p
    rw [List.lookup_cons]
    cases e:(x == a) with
    | true=>exact ⟨_,rfl⟩
    | false=>
      rcases List.mem_cons.mp h with q | q
      · cases q; simp at e
      · exact ih q
theorem relabel_mem {scope:Scope} {env:Env} {y:Str} {k:NameKind} (h:(y,k) ∈ (relabel scope env).names):(y,k) ∈ scope.names ∨ (k = .cell∧(y,NameKind.free) ∈ scope.names):=by
  unfold relabel at h
  obtain ⟨⟨n,k'⟩,hm,e⟩:=List.mem_map.mp h
  dsimp only at e
  split at e
  · rename_i hc
    cases e
    have:k' = .free:=by
      have:=hc
      simp only [Bool.and_eq_true,beq_iff_eq] at this
      exact this.1.1
    subst this
    exact .inr ⟨rfl,hm⟩
  · cases e; exact .inl hm
theorem lookup_relabel_free {env:Env}:∀ {names:List (Str × NameKind)} {x:Str},names.lookup x = some .free→
    (names.map fun (n,k)=>if (k == NameKind.free && env.scope.kind == .function && env.kindOf n == some .cell) then (n,NameKind.cell) else (n,k)).lookup x = some .cell ∨
    (names.map fun (n,k)=>if (k == NameKind.free && env.scope.kind == .function && env.kindOf n == some .cell) then (n,NameKind.cell) else (n,k)).lookup x = some .free
  | [],_,h=>by simp at h
  | (n,k) :: r,x,h=>by
    have ih:=@lookup_relabel_free env r x
    show List.lookup x ((if (k == NameKind.free && env.scope.kind == .function && env.kindOf n == some .cell) = true then (n,NameKind.cell) else (n,k)) :: _) = _ ∨ List.lookup x ((if (k == NameKind.free && env.scope.kind == .function && env.kindOf n == some .cell) = true then (n,NameKind.cell) else (n,k)) :: _) = _
    cases hx:x == n with
    | true=>
      simp only [List.lookup_cons,hx] at h
      cases h
      by_cases hc:(NameKind.free == NameKind.free && env.scope.kind == .function && env.kindOf n == some .cell) = true
      · rw [if_pos hc]; simp [List.lookup_cons,hx]
      · rw [if_neg hc]; simp [List.lookup_cons,hx]
    | false=>
      simp only [List.lookup_cons,hx] at h
      by_cases hc:(k == NameKind.free && env.scope.kind == .function && env.kindOf n == some .cell) = true
      · rw [if_pos hc]; simp only [List.lookup_cons,hx]; exact ih h
      · rw [if_neg hc]; simp only [List.lookup_cons,hx]; exact ih h
def compSt (fs:List Nat) (σ:St):St:=fs.map fun j=>(σ[j]?).join
def tComp (wi:TI) (fs:List Nat) (tt:TT) (te:TE):TE:=fun σ H Q=>wi σ H fun J H1=>∃ W:Nat→Nat→List V→Hp→Prop,(∃ m,W 0 m [] H1)∧∀ i m ys H,W i m ys H→ys.length ≤ sizeLine∧
  ((J.stop i H∧∀ p,H p = none→Q (.ref p) (upd H p (.lst ys))) ∨
   (J.go i H∧ys.length < sizeLine∧∀ x H',J.yld i H x H'→tt (some x :: compSt fs σ) H' fun b H2=>if b = true then te (some x :: compSt fs σ) H2 fun y H3=>∃ m',m' < m∧W (i + 1) m' (ys ++ [y]) H3 else ∃ m',m' < m∧W (i + 1) m' ys H2))
section
variable {X:Cx}
theorem comp_block {elt iter:Expr} {x:Str} {px pos:Pos} {ifs:List Expr} {scope:Scope} {fs:List (Str × Nat)} {tt:TT} {te:TE}
    {pins:List (Addr × Obj)} {σ:St} {H2:Hp} {s2:Shared} {it:Addr} {fp:List Addr} {tn:Nat→Heap→Prop} {J:It} {cl:List (Str × Addr)} {E:Value→Shared→Prop}
    {P:Value→Addr→Result→Shared→Prop}
    (hc:X.calm = true) (hkind:scope.kind = .function) (hcell:∀ y ∈ scope.names,y.2 ≠ .cell) (hx:scope.names.lookup x = some .local)
    (hnd:(x :: fs.map (·.1)).Nodup) (hfs:∀ f ∈ fs,X.N[f.2]? = some f.1∧(X.env.kindOf f.1 = some .cell ∨ X.env.kindOf f.1 = some .free)∧scope.names.lookup f.1 = some .free)
    (hb:∀ (cl:List (Str × Addr)) (C:Addr) (s₀:Shared) (H₀:Hp) (ex:List Addr),PTs (cxComp X scope cl C (x :: fs.map (·.1)) s₀ H₀ ex) ifs tt∧PE (cxComp X scope cl C (x :: fs.map (·.1)) s₀ H₀ ex) elt te)
    (hcl1:∀ y ∈ cl,X.env.cells.lookup y.1 = some y.2) (hcl2:∀ y ∈ scope.names,y.2 = .free→∃ c,(y.1,c) ∈ cl)
    (I2:Inv X pins σ H2 s2) (T:Turn X.prog X.w X.K (.Name x px) J fp it tn) (st2:tn 0 s2.heap) (f2:∀ b ∈ fp,FpOk X pins H2 b)
    (W:Nat→Nat→List V→Hp→Prop) (Qe:Hp→List V→Prop) (w0:∃ m,W 0 m [] H2)
    (turn:∀ i m ys H,W i m ys H→ys.length ≤ sizeLine∧
      ((J.stop i H∧Qe H ys) ∨
       (J.go i H∧ys.length < sizeLine∧∀ x H',J.yld i H x H'→tt (some x :: compSt (fs.map (·.2)) σ) H' fun b H2=>if b = true then te (some x :: compSt (fs.map (·.2)) σ) H2 fun y H3=>∃ m',m' < m∧W (i + 1) m' (ys ++ [y]) H3 else ∃ m',m' < m∧W (i + 1) m' ys H2)))
    (hP:∀ (D C:Addr) (H':Hp) (s':Shared) (ys:List V) (its:List Value) (m:Str→Option Value),s2.heap.objs.size ≤ C→s2.heap.get? D = none→s2.heap.get? C = none→D ≠ C→H' D = none→H' C = none→s'.heap.Ns C m→s'.heap.PlainList D its.toArray→Vals ys its→ys.length ≤ sizeLine→Qe H' ys→
      Un (frs X.stack) fp H2 H' s2.heap s'.heap→HOk X.prog X.w H' s'.heap→AllBare s'.gens→s'.os = s2.os→P (.ref D) C (.ok .next) s') :
    wpAny (model X.prog X.w) X.A (newList []) (fun acc s₃=>wpAny (model X.prog X.w) X.A (newFunctionEnv scope X.env.globals cl [] X.env.qual none .none (some X.env)) (fun cenv s₄=>
      codeAny (model X.prog X.w) X.A (.compStart (.ListComp elt [⟨.Name x px,iter,ifs,0⟩] scope pos) 0 (.ref it) acc { cenv with scope:=relabel scope X.env }) (P acc cenv.locals) s₄) E s₃) E s2:=by
  refine wpAny_newObj_type (wpAny_newFunctionEnv hcell (by intro y hy; simp at hy) (fun h₁ hns₁ hsb₁=>?_) hkind)
  dsimp only at hns₁ hsb₁ ⊢
  generalize hH2:s2.heap.push { cls:=.type "list",dict:=none,data:=.seq ([]:List Value).toArray } = HH at hns₁ hsb₁ ⊢
  have hC:HH.objs.size = s2.heap.objs.size + 1:=by rw [← hH2,Heap.size_push]
  generalize eD:s2.heap.objs.size = D at *
  generalize eC:HH.objs.size = C at *
  have hDC:D ≠ C:=by rw [hC]; exact Nat.ne_of_lt (Nat.lt_succ_self _)
  have fresh:∀ a,D ≤ a→s2.heap.get? a = none:=fun a ha=>Heap.get?_none_of_le (by rw [eD]; exact ha)
  have hD0:s2.heap.get? D = none:=fresh D (Nat.le_refl _)
  have hC0:s2.heap.get? C = none:=fresh C (by rw [hC]; exact Nat.le_succ _)
  have old:∀ b o,s2.heap.get? b = some o→h₁.get? b = some o:=fun b o e=>hsb₁.extBut b o (fun z=>by rw [z,hC0] at e; cases e) (Heap.get?_push_of_some _ (hH2 ▸ Heap.get?_push_of_some _ e))
  have hacc:h₁.PlainList D #[]:=⟨0,hsb₁.extBut _ _ hDC (Heap.get?_push_of_some _ (hH2 ▸ (eD ▸ Heap.get?_push_size _ rfl)))⟩
  have HD:H2 D = none:=I2.hok.fresh (by rw [eD]; exact Nat.le_refl _)
  have HC:H2 C = none:=I2.hok.fresh (by rw [eD,hC]; exact Nat.le_succ _)
  -- the block's context
  let Y:Cx:=cxComp X scope cl C (x :: fs.map (·.1)) s2 H2 fp
  have lk:∀ y c,cl.lookup y = some c→X.env.cells.lookup y = some c:=fun y c e=>hcl1 (y,c) (lookup_mem e)
  have yok:Y.Ok:=by
    refine ⟨I2.ok.mod,hkind,I2.ok.glob,I2.ok.blt,?_,fun y z c h1 h2=>I2.ok.inj y z c (lk y c h1) (lk z c h2),fun y hy=>?_,fun _ _ h _=>absurd h Bool.false_ne_true,I2.ok.hd,I2.ok.frames,.inl rfl,fun b hb=>?_,I2.bs,?_,fun b o e hb=>?_,fun b hb hz=>?_,I2.stack,I2.stkFree⟩
    · show s2.heap.objs.size ≤ C
      rw [eD,hC]; exact Nat.le_succ _
    · have hy':(relabel scope X.env).names.lookup y = some .cell ∨ (relabel scope X.env).names.lookup y = some .free:=hy
      have hm:(y,NameKind.free) ∈ scope.names:=by
        rcases hy' with e | e
        · rcases relabel_mem (lookup_mem e) with q | ⟨_,q⟩
          · exact absurd rfl (hcell _ q)
          · exact q
        · rcases relabel_mem (lookup_mem e) with q | ⟨q,_⟩
          · exact q
          · cases q
      obtain ⟨c,q⟩:=hcl2 _ hm rfl
      exact mem_lookup q
    · obtain ⟨f0,f1,f3,f4,f5,f6⟩:=f2 b hb
      refine ⟨fun z=>?_,fun y c e=>f5 y c (lk y c e)⟩
      obtain ⟨o,ho,_⟩:=T.obj _ _ st2 b hb
      have z':b = C:=z
      rw [z',hC0] at ho; cases ho
    · exact Nat.le_trans I2.ok.bsz I2.sz
    · obtain ⟨f0,f1,f3,f4,f5,f6⟩:=f2 b hb
      rcases f4 with z | z
      · exact I2.ok.noex b o e z
      · exact absurd (Nat.lt_of_lt_of_le (Heap.lt_size e) (Nat.le_trans I2.ok.bsz z)) (Nat.lt_irrefl _)
    · obtain ⟨f0,f1,f3,f4,f5,f6⟩:=f2 b hb
      rcases List.mem_cons.mp (I2.stkSub b hz) with z | z
      · exact f1 z
      · exact f3 z
  let τ:St:=none :: compSt (fs.map (·.2)) σ
  have hτ:τ.length = (x :: fs.map (·.1)).length:=by simp [τ,compSt]
  obtain ⟨mL,hnL,hlL⟩:=id I2.loc
  have yI:Inv Y [] τ H2 { s2 with heap:=h₁,toks:=s2.toks + ([]:List (Str × Value)).length }:=by
    refine ⟨yok,rfl,I2.bare,Un.kept old,⟨_,hns₁,fun i y v e1 e2 e3=>?_⟩,fun y c e=>?_,HC,fun y c e=>I2.freeC y c (lk y c e),(fun p hp=>nomatch hp),I2.hok.kept old,hτ⟩
    · cases i with
      | zero=>simp [τ] at e2
      | succ i=>
        have e1':(fs.map (·.1))[i]? = some y:=e1
        have e2':(compSt (fs.map (·.2)) σ)[i]? = some (some v):=by simpa [τ] using e2
        rw [List.getElem?_map] at e1'
        cases q:fs[i]? with
        | none=>rw [q] at e1'; cases e1'
        | some f=>
          rw [q] at e1'
          have ey:f.1 = y:=Option.some.inj e1'
          obtain ⟨g1,g2,g3⟩:=hfs f (List.mem_of_getElem? q)
          have e2'':(σ[f.2]?).join = some v:=by
            unfold compSt at e2'
            rw [List.getElem?_map,List.getElem?_map,q] at e2'
            exact Option.some.inj e2'
          have e2c:σ[f.2]? = some (some v):=by
            cases r:σ[f.2]? with
            | none=>rw [r] at e2''; cases e2''
            | some o=>rw [r] at e2''; have e2'':o = some v:=e2''; rw [e2'']
          have vis:Vis X.env.scope f.1:=by
            rcases g2 with g | g
            · exact .inr (.inl g)
            · exact .inr (.inr g)
          obtain ⟨u,ru,lu⟩:=hlL f.2 f.1 v g1 e2c vis
          refine ⟨u,ru,?_⟩
          have lu':∃ c,X.env.cells.lookup f.1 = some c∧s2.heap.IsCell c (some u):=by
            rcases lu with ⟨k,_⟩ | ⟨_,c,e,z⟩
            · rcases g2 with g | g
              · rw [k] at g; cases g
              · rw [k] at g; cases g
            · exact ⟨c,e,z⟩
          obtain ⟨c,hc1,hc2⟩:=lu'
          obtain ⟨c',hm⟩:=hcl2 _ (lookup_mem g3) rfl
          have hm':=hcl1 _ hm
          obtain ⟨c2,hl2⟩:=mem_lookup hm
          have:=lk _ _ hl2
          rw [hc1] at this; cases this
          obtain ⟨oc,ho,hdt⟩:=hc2
          refine .inr ⟨?_,c,by rw [← ey]; exact hl2,oc,old c oc ho,hdt⟩
          rw [← ey]
          exact lookup_relabel_free g3
    · obtain ⟨v,oc,ho,hdt⟩:=I2.cell y c (lk y c e)
      exact ⟨v,oc,old c oc ho,hdt⟩
  have hx':Y.env.scope.names.lookup x = some .local:=lookup_relabel_local hx
  have fpD:∀ b ∈ fp,b ≠ D:=fun b hb z=>by
    obtain ⟨o,ho,_⟩:=T.obj _ _ st2 b hb
    rw [z,hD0] at ho; cases ho
  have stD:D ∉ frs X.stack:=fun hz=>by
    rcases List.mem_cons.mp (I2.stkSub D hz) with z | z
    · have:=I2.lt; rw [eD,← z] at this; exact absurd this (Nat.lt_irrefl _)
    · exact I2.nofs (by rw [eD]; exact Nat.le_refl _) z
  have cellD:∀ y c,cl.lookup y = some c→c ≠ D:=fun y c e z=>by
    obtain ⟨v,oc,ho,_⟩:=I2.cell y c (lk y c e)
    rw [z,hD0] at ho; cases ho
  have stat:∀ {H':Hp} {oD:Obj},(∀ b ∈ fp,H' b = none)→∀ b ∈ fp,FpOk Y [(D,oD)] H' b:=fun hn b hb=>by
    refine ⟨hn b hb,(yok.exf b hb).1,yok.exfs b hb,.inl hb,(yok.exf b hb).2,fun p hp z=>?_⟩
    have hp':p ∈ [(D,_)]:=hp
    rw [List.mem_singleton.mp hp'] at z
    exact fpD b hb z.symm
  obtain ⟨m0,w0⟩:=w0
  have loop:∀ s₃:Shared,s₃ = { s2 with heap:=h₁,toks:=s2.toks + ([]:List (Str × Value)).length }→
      codeAny (model X.prog X.w) X.A (.compLoop (.ListComp elt [⟨.Name x px,iter,ifs,0⟩] scope pos) 0 (.ref it) (.ref D) (compEnvC scope cl C X.env)) (P (.ref D) C) s₃:=by
    rintro s₃ rfl
    refine compLoop_any (fun n s'=>∃ i ys its H',Inv Y [] τ H' s'∧tn i s'.heap∧(∀ b ∈ fp,H' b = none)∧H' D = none∧s'.heap.PlainList D (List.toArray its)∧Vals ys its∧W i n ys H') ?_ m0
      ⟨0,[],[],H2,yI,T.keep _ _ _ st2 (fun b _ o e=>old b o e),fun b hb=>(f2 b hb).1,HD,hacc,.nil,w0⟩
    rintro n s3 ⟨i,ys,its,H3,I3,st3,fr3,hD3,⟨n0,hoD⟩,rv3,w3⟩
    obtain ⟨hz,ht⟩:=turn i n ys H3 w3
    have I3':Inv Y [(D,{ cls:=.type "list",data:=.seq its.toArray n0 })] τ H3 s3:=I3.pins_of fun p hp=>by
      rw [List.mem_singleton.mp hp]
      exact ⟨hoD,hD3,hDC,stD,fun v z=>by cases z⟩
    rcases ht with ⟨stop,q⟩ | ⟨go,hz',step⟩
    · refine thn (T.done Y rfl rfl rfl hc i _ s3 τ H3 _ I3' (stat fr3) st3 stop) fun r s4 ⟨hr,I4⟩=>?_
      subst hr
      obtain ⟨m,hn,_⟩:=I4.loc
      exact hP D C H3 s4 ys its m (by rw [hC]; exact Nat.le_succ _) hD0 hC0 hDC hD3 I4.free hn ⟨n0,(I4.pin (D,_) (List.mem_append_right _ List.mem_cons_self)).1⟩ rv3 hz q I4.base I4.hok I4.bare I4.os
    · refine thn (T.item Y rfl rfl rfl hc i _ s3 τ H3 _ I3' (stat fr3) st3 go) fun r s4 ⟨u,hr,h4⟩=>?_
      subst hr
      refine thn h4 fun _ s5 ⟨x',H5,I5,r5,y5,st5,fr5⟩=>?_
      have I5':=I5.pinned (fp:=fp) (stat fr5) (T.obj _ _ st5)
      refine thn (pg_name (X:=Y) (i:=0) (pos:=px) hnd rfl (.inl hx') (.inr hx') _ s5 τ H5 x' u (fun σ' H'=>σ' = some x' :: compSt (fs.map (·.2)) σ∧H' = H5) I5' r5 ⟨rfl,rfl⟩) fun _ s6 ⟨σ6,H6,I6,e6,e6'⟩=>?_
      subst e6 e6'
      have back:∀ {σ':St} {H':Hp} {s':Shared},Inv Y ([(D,{ cls:=.type "list",data:=.seq its.toArray n0 })] ++ pinsAt fp s5.heap) (some x' :: compSt (fs.map (·.2)) σ) H' s'→
          Inv Y [] τ H' s'∧tn (i + 1) s'.heap∧(∀ b ∈ fp,H' b = none)∧H' D = none∧s'.heap.PlainList D its.toArray:=fun {σ' H' s'} J'=>by
        refine ⟨(J'.pins_of (pins':=[]) (fun p hp=>absurd hp (by simp))).weak rfl fun j v e=>?_,T.keep _ _ _ st5 fun b hb o e=>(J'.pin (b,o) (List.mem_append_right _ (List.mem_append_right _ (mem_pinsAt hb e)))).1,fun b hb=>?_,?_,n0,?_⟩
        · cases j with
          | zero=>cases e
          | succ j=>exact e
        · obtain ⟨o,e,d⟩:=T.obj _ _ st5 b hb
          exact (J'.pin (b,o) (List.mem_append_right _ (List.mem_append_right _ (mem_pinsAt hb e)))).2.1
        · exact (J'.pin (D,_) (List.mem_append_right _ (List.mem_append_left _ List.mem_cons_self))).2.1
        · exact (J'.pin (D,_) (List.mem_append_right _ (List.mem_append_left _ List.mem_cons_self))).1
      refine thn ((hb cl C s2 H2 fp).1 _ s6 _ _ _ I6 (step x' H6 y5)) fun ok s7 ⟨H7,I7,q7⟩=>?_
      cases ok with
      | false=>
        obtain ⟨m',hm,w7⟩:=q7
        obtain ⟨a1,a2,a3,a4,a5⟩:=back (σ':=τ) I7
        exact ⟨m',hm,i + 1,ys,its,H7,a1,a2,a3,a4,a5,rv3,w7⟩
      | true=>
        refine thn ((hb cl C s2 H2 fp).2 _ s7 _ _ _ I7 q7) fun y s8 ⟨yv,H8,I8,ry,m',hm,w8⟩=>?_
        obtain ⟨a1,a2,a3,a4,a5⟩:=back (σ':=τ) I8
        have hlen:=rv3.length
        refine wpAny_list_append_plain (hsz:=by rw [List.size_toArray,← hlen]; exact hz) a5 fun h' hl' hs'=>?_
        refine ⟨m',hm,i + 1,ys ++ [yv],its ++ [y],H8,a1.turned (t':=s8.toks) (it:=D) (fun b o hb e=>hs'.extBut b o hb e) a4 hDC (.inr (by show s2.heap.objs.size ≤ D; rw [eD]; exact Nat.le_refl _)) (fun y c e=>cellD y c e) (fun p hp=>absurd (show p ∈ ([]:List (Addr × Obj)) from hp) (by simp)),T.keep _ _ _ a2 fun b hb o e=>hs'.extBut b o (fpD b hb) e,a3,a4,by simpa using hl',rv3.append (.cons ry .nil),w8⟩
  exact codeAny_compStart_list (loop _ rfl) (T.self X.A 0 _ _ _ (T.keep _ _ _ st2 (fun b _ o e=>old b o e)) (loop _ rfl))
theorem comp_after {pins:List (Addr × Obj)} {σ:St} {H2 H':Hp} {s2 s':Shared} {fp:List Addr} {D C:Addr} {ys:List V} {its:List Value} {h':Heap} {tk:Nat} (I2:Inv X pins σ H2 s2) (f2:∀ b ∈ fp,FpOk X pins H2 b)
    (hD:s2.heap.get? D = none) (hC:s2.heap.get? C = none) (hDC:D ≠ C) (HD:H' D = none) (HC:H' C = none) (pl:s'.heap.PlainList D its.toArray) (rv:Vals ys its) (hz:ys.length ≤ sizeLine)
    (u:Un (frs X.stack) fp H2 H' s2.heap s'.heap) (hok:HOk X.prog X.w H' s'.heap) (hg:AllBare s'.gens) (ho:s'.os = s2.os) (hs:Heap.SameBut C s'.heap h') :
    Inv X pins σ (upd H' D (.lst ys)) { s' with heap:=h',toks:=tk }:=by
  have kC:∀ b o,b ≠ C→s'.heap.get? b = some o→h'.get? b = some o:=fun b o hb e=>hs.extBut b o hb e
  have neC:∀ b o,s2.heap.get? b = some o→b ≠ C:=fun b o e z=>by rw [z,hC] at e; cases e
  have neD:∀ b o,s2.heap.get? b = some o→b ≠ D:=fun b o e z=>by rw [z,hD] at e; cases e
  have trD:∀ b o,H' b = some o→b ≠ D:=fun b o e z=>by rw [z,HD] at e; cases e
  refine I2.call' (ch:=fp) ho ⟨fun b o e n hb hx=>kC b o (neC b o e) (u.keep b o e n hb hx),fun b o e n hb hx=>?_,fun b o e n hx=>?_,fun b o e hx=>?_,fun b xs e=>?_,fun b o w e=>?_,fun b ps e=>?_⟩ (fun b o e=>?_) hg fun b hb=>?_
  · obtain ⟨sl,q⟩:=u.slot b o e n hb hx
    exact ⟨sl,kC b _ (neC b o e) q⟩
  · rw [upd_ne (neD b o e)]; exact u.free b o e n hx
  · obtain ⟨o',q⟩:=u.there b o e hx
    exact ⟨o',kC b _ (neC b o e) q⟩
  · have q:=u.tups b xs e
    rw [upd_ne (trD b _ q)]; exact q
  · have q:=u.frzs b o w e
    rw [upd_ne (trD b _ q)]; exact q
  · obtain ⟨more,q⟩:=u.tbls b ps e
    exact ⟨more,by rw [upd_ne (trD b _ q)]; exact q⟩
  · by_cases hb:b = D
    · subst hb
      rw [upd_same] at e
      cases e
      obtain ⟨n,q⟩:=pl
      exact ⟨hz,its,n,rv,kC b _ hDC q⟩
    · rw [upd_ne hb] at e
      refine (hok b o e).stay (fun c v hc q=>kC c v (fun z=>?_) q) (fun c q=>by rw [upd_ne (trD c _ q)]; exact q) fun c xs q=>by rw [upd_ne (trD c _ q)]; exact q
      rcases hc with hc | hc
      · rw [hc] at z; rw [z,HC] at e; cases e
      · rw [z,HC] at hc; cases hc
  · obtain ⟨f0,f1,f3,f4,f5,f6⟩:=f2 b hb
    exact ⟨f4,f1,f5,f6⟩
theorem pe_comp {elt iter:Expr} {x:Str} {px pos:Pos} {ifs:List Expr} {scope:Scope} (fs:List (Str × Nat)) {wi:TI} {tt:TT} {te:TE}
    (hc:X.calm = true) (hkind:scope.kind = .function) (hcell:∀ y ∈ scope.names,y.2 ≠ .cell) (hnames:∀ y ∈ scope.names,y.2 = .local→scope.names.lookup y.1 = some .local)
    (hfree:∀ y ∈ scope.names,y.2 = .free→X.env.kindOf y.1 = some .cell ∨ X.env.kindOf y.1 = some .free) (hx:scope.names.lookup x = some .local)
    (hnd:(x :: fs.map (·.1)).Nodup) (hfs:∀ f ∈ fs,X.N[f.2]? = some f.1∧(X.env.kindOf f.1 = some .cell ∨ X.env.kindOf f.1 = some .free)∧scope.names.lookup f.1 = some .free)
    (hi:PI X (.Name x px) iter wi)
    (hb:∀ (cl:List (Str × Addr)) (C:Addr) (s₀:Shared) (H₀:Hp) (ex:List Addr),PTs (cxComp X scope cl C (x :: fs.map (·.1)) s₀ H₀ ex) ifs tt∧PE (cxComp X scope cl C (x :: fs.map (·.1)) s₀ H₀ ex) elt te)
    (hs:∀ x,foldedSetIterable iter X.env x = pure x:=by intro _; rfl) :
    PE X (.ListComp elt [⟨.Name x px,iter,ifs,0⟩] scope pos) (tComp wi (fs.map (·.2)) tt te):=by
  intro pins s σ H Q I h
  obtain ⟨cl,hclos,hcl1,hcl2⟩:=closureFor_ex (env:=X.env) (scope:=scope) fun y hy hk=>I.ok.has y.1 (hfree y hy hk)
  rw [eval_ListComp]
  refine wpAny_comprehension_free (use:=none) rfl hs hclos hkind hnames (thn (hi pins s σ H _ I h) fun v s1 h1=>thn h1 fun itv s2 h2=>?_)
  obtain ⟨it,fp,tn,J,H2,e,I2,T,st2,f2,W,w0,turn⟩:=h2
  subst e
  refine comp_block (pins:=pins) hc hkind hcell hx hnd hfs hb hcl1 hcl2 I2 T st2 f2 W (fun H ys=>∀ p,H p = none→Q (.ref p) (upd H p (.lst ys))) w0 turn ?_
  intro D C H' s' ys its m hCs hD hC hDC HD HC hn pl rv hz q u hok hg ho
  exact ⟨m,hn,fun h' hs'=>⟨.ref D,_,comp_after (tk:=s'.toks) I2 f2 hD hC hDC HD HC pl rv hz u hok hg ho hs',rfl,q D HD⟩⟩
def tCompSet (i:Nat) (wi:TI) (fs:List Nat) (tt:TT) (te:TE):TS:=fun D σ H=>tComp wi fs tt te σ H fun v H1=>D.nx (σ.set i (some v)) H1
theorem ps_comp {i:Nat} {y:Str} {py spos:Pos} {elt iter:Expr} {x:Str} {px pos:Pos} {ifs:List Expr} {scope:Scope} (fs:List (Str × Nat)) {wi:TI} {tt:TT} {te:TE}
    (hN:X.N.Nodup) (hy:X.N[i]? = some y) (hyl:X.env.scope.names.lookup y = some .local)
    (hc:X.calm = true) (hkind:scope.kind = .function) (hcell:∀ y ∈ scope.names,y.2 ≠ .cell) (hnames:∀ y ∈ scope.names,y.2 = .local→scope.names.lookup y.1 = some .local)
    (hfree:∀ y ∈ scope.names,y.2 = .free→X.env.kindOf y.1 = some .cell ∨ X.env.kindOf y.1 = some .free) (hx:scope.names.lookup x = some .local)
    (hnd:(x :: fs.map (·.1)).Nodup) (hfs:∀ f ∈ fs,X.N[f.2]? = some f.1∧(X.env.kindOf f.1 = some .cell ∨ X.env.kindOf f.1 = some .free)∧scope.names.lookup f.1 = some .free)
    (hi:PI X (.Name x px) iter wi)
    (hb:∀ (cl:List (Str × Addr)) (C:Addr) (s₀:Shared) (H₀:Hp) (ex:List Addr),PTs (cxComp X scope cl C (x :: fs.map (·.1)) s₀ H₀ ex) ifs tt∧PE (cxComp X scope cl C (x :: fs.map (·.1)) s₀ H₀ ex) elt te)
    (hsw:swapsWith (.ListComp elt [⟨.Name x px,iter,ifs,0⟩] scope pos) (some (.Name y py)) spos.line X.env = pure true)
    (hs:∀ x,foldedSetIterable iter X.env x = pure x:=by intro _; rfl) :
    PS X (.Assign [.Name y py] (.ListComp elt [⟨.Name x px,iter,ifs,0⟩] scope pos) spos) (tCompSet i wi (fs.map (·.2)) tt te):=by
  intro pins s σ H D' I h
  obtain ⟨cl,hclos,hcl1,hcl2⟩:=closureFor_ex (env:=X.env) (scope:=scope) fun y hy hk=>I.ok.has y.1 (hfree y hy hk)
  rw [exec_Assign_Name_used _ _ _ _ hsw]
  refine wpAny_bind (wpAny_standAt (wpAny_bind ?_))
  show wpAny _ X.A (do let _ ← comprehension (.ListComp elt [⟨.Name x px,iter,ifs,0⟩] scope pos) scope X.env _ (newList []) false (eval iter X.env) (some (assign (.Name y py) X.env))) _ _ s
  refine wpAny_bind (wpAny_mono (wpAny_comprehension_free (use:=some (assign (.Name y py) X.env)) (Q:=fun _ s'=>SP X pins D' .next s') rfl hs hclos hkind hnames
    (thn (hi pins s σ H _ I h) fun v s1 h1=>thn h1 fun itv s2 h2=>?_)) (fun _ s' hq=>wpAny_pure (wpAny_pure hq)) fun _ _ e=>e)
  obtain ⟨it,fp,tn,J,H2,e,I2,T,st2,f2,W,w0,turn⟩:=h2
  subst e
  refine comp_block (pins:=pins) hc hkind hcell hx hnd hfs hb hcl1 hcl2 I2 T st2 f2 W (fun H ys=>∀ p,H p = none→D'.nx (σ.set i (some (.ref p))) (upd H p (.lst ys))) w0 turn ?_
  intro D C H' s' ys its m hCs hD hC hDC HD HC hn pl rv hz q u hok hg ho
  show wpAny _ X.A (assign (.Name y py) X.env (.ref D)) _ _ _
  -- store,with the block's frame still there
  have J:=comp_after (tk:=s'.toks) I2 f2 hD hC hDC HD HC pl rv hz u hok hg ho (Heap.SameBut.refl C s'.heap)
  refine wpAny_assign_Name (store_ok2 J hN hy (.inl hyl) (v:=.ref D) (u:=.ref D) rfl (fun s3 J3 ⟨a,sb,ha⟩=>?_) (.inr hyl))
  have exL:∃ o,s2.heap.get? X.env.locals = some o:=let ⟨_,⟨o,_,_,e,_⟩,_⟩:=I2.loc; ⟨o,e⟩
  have cellC:∀ z c,X.env.cells.lookup z = some c→c ≠ C:=fun z c e q=>by
    obtain ⟨v,oc,ho,_⟩:=I2.cell z c e
    rw [q,hC] at ho; cases ho
  have aC:a ≠ C:=by
    rcases ha with z | z
    · obtain ⟨o,e⟩:=exL
      intro q
      rw [← z,q,hC] at e; cases e
    · exact cellC y a z
  have LC:C ≠ X.env.locals:=fun q=>by
    obtain ⟨o,e⟩:=exL
    rw [← q,hC] at e; cases e
  refine ⟨m,hn.sameBut sb (Ne.symm aC),fun h' hs'=>?_⟩
  exact ⟨_,_,J3.turned (t':=s3.toks) (it:=C) (fun b o hb e=>hs'.extBut b o hb e) (by rw [upd_ne (Ne.symm hDC)]; exact HC) LC (.inr (Nat.le_trans I2.sz hCs)) cellC (fun p hp z=>by
    have:=(I2.pin p hp).1
    rw [z,hC] at this; cases this),q D HD⟩
end
end L2
namespace L2
open PySem PySem.Spec PyProof.Rows PySem.Builtin.Str
def txt (l:List Nat):Str:=⟨l.toArray⟩
theorem txt_codes (x:Str):txt x.cps.toList = x:=by cases x; simp [txt]
theorem codes_txt (l:List Nat):(txt l).cps.toList = l:=by simp [txt]
theorem txt_len (l:List Nat):(txt l).length = l.length:=by simp [txt,Str.length]
theorem txt_inj {a b:List Nat}:txt a = txt b ↔ a = b:=⟨fun h=>by simpa [txt] using h,fun h=>by rw [h]⟩
theorem txt_app (a b:List Nat):txt a ++ txt b = txt (a ++ b):=by
  show Str.mk (a.toArray ++ b.toArray) = _
  simp [txt]
def cutL (xs:List Nat) (lo hi:Option Int):List Nat:=(xs.drop (HT.sIx xs.length 0 lo)).take (HT.sIx xs.length xs.length hi - HT.sIx xs.length 0 lo)
theorem clip_str (v:Option Int) (n d:Nat):(match v with | none=>((d:Nat):Int) | some i=>(if (1:Int) > 0 then max 0 (min (if i < 0 then i + (n:Int) else i) (n:Int)) else max (-1) (min (if i < 0 then i + (n:Int) else i) ((n:Int) - 1)))) = ((HT.sIx n d v:Nat):Int):=by
  cases v with
  | none=>rfl
  | some i=>
    show (if (1:Int) > 0 then max 0 (min (if i < 0 then i + (n:Int) else i) (n:Int)) else _) = (((if i < 0 then (i + (n:Int)).toNat else min i.toNat n):Nat):Int)
    rw [if_pos (by decide)]
    by_cases h:i < 0
    · rw [if_pos h,if_pos h]; omega
    · rw [if_neg h,if_neg h]; omega
theorem sIx_le (n d:Nat) (v:Option Int) (h:d ≤ n):HT.sIx n d v ≤ n:=by
  cases v with
  | none=>exact h
  | some i=>
    show (if i < 0 then (i + (n:Int)).toNat else min i.toNat n) ≤ n
    split <;> omega
theorem slice_txt (l:List Nat) (lo hi:Option Int):Txt.slice (txt l) lo hi = txt (cutL l lo hi):=by
  have e:strSliceIndices lo hi 1 (txt l).length = (List.range (HT.sIx l.length l.length hi - HT.sIx l.length 0 lo)).map (HT.sIx l.length 0 lo + ·):=by
    rw [txt_len]
    unfold strSliceIndices
    simp only [if_pos (show (1:Int) > 0 by decide)]
    have e1:=clip_str lo l.length 0
    have e2:=clip_str hi l.length l.length
    simp only [if_pos (show (1:Int) > 0 by decide)] at e1 e2
    have e1':((0:Nat):Int) = 0:=rfl
    rw [e1'] at e1
    have key:∀ a b a' b':Int,a = a'→b = b'→sliceRange a b 1 = sliceRange a' b' 1:=fun a b a' b' h1 h2=>by rw [h1,h2]
    exact Eq.trans (key _ _ _ _ e1 e2) (sliceRange_one _ _)
  unfold Txt.slice
  rw [e]
  have e3:(((List.range (HT.sIx l.length l.length hi - HT.sIx l.length 0 lo)).map (HT.sIx l.length 0 lo + ·)).filterMap ((txt l).cps[·]?)) = cutL l lo hi:=by
    rw [pick_run,codes_txt]; rfl
  rw [e3]
  split
  · rename_i hc
    have hc':HT.sIx l.length l.length hi - HT.sIx l.length 0 lo = l.length:=by
      rw [txt_len] at hc
      simpa using hc
    have h1:=sIx_le l.length l.length hi (Nat.le_refl _)
    have h0:HT.sIx l.length 0 lo = 0 ∨ l.length = 0:=by omega
    unfold cutL
    rw [hc']
    rcases h0 with h0 | h0
    · rw [h0]; simp
    · have:l = []:=List.length_eq_zero_iff.mp h0
      subst this; simp
  · rfl
section
variable {X:Cx}
def rSlS:V→Option Int→Option Int→Hp→VK→Prop:=fun x lo hi H Q=>∃ l,x = .str (txt l)∧l.length ≤ sizeLine∧Q (.str (txt (cutL l lo hi))) H
theorem isSlice_of {h:Heap} {sl:Addr} {vl vu:Value} {lo hi:Option Int} (hs:h.IsSliceOf sl vl vu .none) (pl:IsPart vl lo) (pu:IsPart vu hi) :
    ∃ (l u:Option (Int × Tok)),h.IsSlice sl l u none∧l.map (·.1) = lo∧u.map (·.1) = hi:=by
  obtain ⟨o,ho,hc,hd⟩:=hs
  cases pl with
  | none=>
    cases pu with
    | none=>exact ⟨none,none,⟨o,ho,hc,hd⟩,rfl,rfl⟩
    | int j u=>exact ⟨none,some (j,u),⟨o,ho,hc,hd⟩,rfl,rfl⟩
  | int i t=>
    cases pu with
    | none=>exact ⟨some (i,t),none,⟨o,ho,hc,hd⟩,rfl,rfl⟩
    | int j u=>exact ⟨some (i,t),some (j,u),⟨o,ho,hc,hd⟩,rfl,rfl⟩
theorem sl_str:SlR X rSlS:=by
  intro pins s σ H x v vl vu lo hi sl Q I rx hs pl pu h
  obtain ⟨l,rfl,hz,q⟩:=h
  obtain ⟨t,rfl⟩:=rx
  obtain ⟨l',u',hS,rfl,rfl⟩:=isSlice_of hs pl pu
  refine ⟨"str",_,F.slot_str_getitem.lookup,typeIs_str _ _ _,wpAny_getItem_str_slice hS rfl ?_⟩
  have key:∀ t' k,EP X pins σ Q (.str (Txt.slice (txt l) (l'.map (·.1)) (u'.map (·.1))) t') { s with toks:=k }:=fun t' k=>⟨.str (txt (cutL l _ _)),H,I.tok _,⟨t',by rw [slice_txt]⟩,q⟩
  have e:sliceMade (txt l) t l' u' none = (if ((1:Int) == 1 && (strSliceIndices (l'.map (·.1)) (u'.map (·.1)) 1 (txt l).length).length == (txt l).length) = true then Made.val (.str (txt l) t) else Made.str ⟨((strSliceIndices (l'.map (·.1)) (u'.map (·.1)) 1 (txt l).length).filterMap ((txt l).cps[·]?)).toArray⟩):=rfl
  rw [e]
  exact post_val_or_str ⟨Nat.le_trans (Txt.slice_le _ _ _) (by rw [txt_len]; exact hz),key⟩
def rEnds:V→List V→Hp→VK→Prop:=fun x vs H Q=>∃ l m,x = .str (txt l)∧vs = [.str (txt m)]∧Q (.bl (decide (m.length ≤ l.length) && (l.drop (l.length - m.length) == m))) H
theorem ends_eq (l m:List Nat):Txt.endswith (txt l) (txt m) = (decide (m.length ≤ l.length) && (l.drop (l.length - m.length) == m)):=by
  unfold Txt.endswith
  rw [txt_len,txt_len]
  by_cases h:m.length ≤ l.length
  · rw [decide_eq_true h,decide_eq_true (show 0 + m.length ≤ l.length by omega)]
    simp only [Bool.true_and]
    unfold subAt
    rw [txt_len]
    have e:(txt l).cps.extract (l.length - m.length) (l.length - m.length + m.length) = (l.drop (l.length - m.length)).toArray:=by
      simp only [txt,List.extract_toArray,List.extract_eq_take_drop]
      congr 1
      rw [List.take_of_length_le]
      rw [List.length_drop]; omega
    rw [e]
    show ((l.drop (l.length - m.length)).toArray == m.toArray) = _
    rw [Bool.eq_iff_iff]; simp
  · rw [decide_eq_false h,decide_eq_false (show ¬ 0 + m.length ≤ l.length by omega)]
    simp
theorem mt_endswith:MtR X "str.endswith" rEnds:=by
  intro pins s σ H x vs v us Q I rx rv h
  obtain ⟨l,m,rfl,rfl,q⟩:=h
  obtain ⟨t,rfl⟩:=rx
  obtain ⟨u,rfl,t',rfl⟩:=rv.one
  refine call_gives F.slot_str_endswith (typeIs_str _ _ _) F.entry_str_endswith (F.args_str_endswith_2 _ _) (gives_str_endswith _ _ t t') ?_
  refine ⟨.bl _,H,I,?_,q⟩
  rw [← ends_eq]; rfl
theorem op_in1:OpR X (compareOp .In) (fun x y H Q=>∃ c l,x = .str (txt [c])∧y = .str (txt l)∧Q (.bl (decide (c ∈ l))) H):=by
  intro pins s σ H x y v u Q I rx ry h
  obtain ⟨c,l,rfl,rfl,q⟩:=h
  obtain ⟨t,rfl⟩:=rx
  obtain ⟨t',rfl⟩:=ry
  refine in_str (fin_bl I q ?_)
  have:=StrLaws.found_one (txt l) c
  rw [codes_txt] at this
  exact this.symm
theorem op_notin1:OpR X (compareOp .NotIn) (fun x y H Q=>∃ c l,x = .str (txt [c])∧y = .str (txt l)∧Q (.bl (!decide (c ∈ l))) H):=by
  intro pins s σ H x y v u Q I rx ry h
  obtain ⟨c,l,rfl,rfl,q⟩:=h
  obtain ⟨t,rfl⟩:=rx
  obtain ⟨t',rfl⟩:=ry
  refine notIn_str (fin_bl I q ?_)
  have:=StrLaws.found_one (txt l) c
  rw [codes_txt] at this
  exact (congrArg not this).symm
theorem op_ltS:OpR X (compareOp .Lt) (fun x y H Q=>∃ i j,x = .str (txt i)∧y = .str (txt j)∧Q (.bl (decide (i < j))) H):=by
  intro pins s σ H x y v u Q I rx ry h
  obtain ⟨i,j,rfl,rfl,q⟩:=h
  obtain ⟨t,rfl⟩:=rx
  obtain ⟨t',rfl⟩:=ry
  exact lt_str (fin_bl I q (by rw [codes_txt,codes_txt]))
theorem op_leS:OpR X (compareOp .LtE) (fun x y H Q=>∃ i j,x = .str (txt i)∧y = .str (txt j)∧Q (.bl (!decide (j < i))) H):=by
  intro pins s σ H x y v u Q I rx ry h
  obtain ⟨i,j,rfl,rfl,q⟩:=h
  obtain ⟨t,rfl⟩:=rx
  obtain ⟨t',rfl⟩:=ry
  exact PySem.P.le_str (fin_bl I q (by rw [codes_txt,codes_txt]))
theorem op_addS:OpR X (binaryOp .Add) (fun x y H Q=>∃ i j,x = .str (txt i)∧y = .str (txt j)∧i.length + j.length ≤ sizeLine∧Q (.str (txt (i ++ j))) H):=by
  intro pins s σ H x y v u Q I rx ry h
  obtain ⟨i,j,rfl,rfl,hz,q⟩:=h
  exact op_add_str pins s σ H _ _ v u Q I rx ry ⟨_,_,rfl,rfl,by rw [txt_len,txt_len]; exact hz,by rw [txt_app]; exact q⟩
theorem ix_strL:IxR X (fun x y H Q=>∃ (l:List Nat) (i:Nat) (c:Nat),x = .str (txt l)∧y = .int i∧l.length ≤ sizeLine∧l[i]? = some c∧Q (.str (txt [c])) H):=by
  intro pins s σ H value slice x y v u Q I rx ry h hs
  obtain ⟨l,i,c,rfl,rfl,hz,e,q⟩:=h
  exact ix_str pins s σ H value slice _ _ v u Q I rx ry ⟨_,_,c,rfl,rfl,by rw [txt_len]; exact hz,by rw [codes_txt]; exact atI_nat e,q⟩ hs
theorem call_lenS:CallR X (.builtin "len") (fun xs H Q=>∃ z,xs = [.str (txt z)]∧z.length ≤ sizeLine∧Q (.int z.length) H):=by
  intro pins s σ H xs us Q I r h
  obtain ⟨z,rfl,hz,q⟩:=h
  exact call_len_str pins s σ H _ us Q I r ⟨_,rfl,by rw [txt_len]; exact hz,by rw [txt_len]; exact q⟩
end
end L2
namespace L2
open PySem PySem.Spec PyProof.Rows PySem.Builtin.Str
def joinL (sep:List Nat):List (List Nat)→List Nat
  | []=>[]
  | y :: r=>r.foldl (fun acc p=>acc ++ sep ++ p) y
theorem foldl_cps (sep:List Nat):∀ (r:List (List Nat)) (y:List Nat),((r.map txt).foldl (fun acc p=>acc ++ (txt sep).cps ++ p.cps) y.toArray) = (r.foldl (fun acc p=>acc ++ sep ++ p) y).toArray
  | [],y=>rfl
  | a :: r,y=>by
    rw [List.map_cons,List.foldl_cons,List.foldl_cons,← foldl_cps sep r (y ++ sep ++ a)]
    congr 1
    simp [txt]
theorem join_txt (sep:List Nat) (ys:List (List Nat)):Txt.join (txt sep) (ys.map txt) = txt (joinL sep ys):=by
  cases ys with
  | nil=>rfl
  | cons y r=>
    show (⟨_⟩:Str) = _
    have:=foldl_cps sep r y
    show (⟨(((y :: r).map txt).drop 1).foldl (fun acc p=>acc ++ (txt sep).cps ++ p.cps) (((y :: r).map txt).headD Str.empty).cps⟩:Str) = _
    simp only [List.map_cons,List.drop_one,List.tail_cons,List.headD_cons]
    have e:(txt y).cps = y.toArray:=rfl
    rw [e,this]; rfl
theorem foldl_nilsep:∀ (r:List (List Nat)) (y:List Nat),r.foldl (fun acc p=>acc ++ [] ++ p) y = y ++ r.flatten
  | [],y=>by simp
  | a :: r,y=>by rw [List.foldl_cons,foldl_nilsep r]; simp
theorem joinL_nil (ys:List (List Nat)):joinL [] ys = ys.flatten:=by
  cases ys with
  | nil=>rfl
  | cons y r=>show r.foldl (fun acc p=>acc ++ [] ++ p) y = _; rw [foldl_nilsep]; rfl
theorem strsAre_of:∀ {ys:List Str} {us:List Value},Vals (ys.map V.str) us→StrsAre us ys
  | [],_,.nil=>.nil
  | y :: ys,_,.cons ⟨t,e⟩ r=>by subst e; exact .cons y t (strsAre_of r)
theorem vals_strs:∀ {us:List Value} {ys:List Str},StrsAre us ys→Vals (ys.map V.str) us
  | _,_,.nil=>.nil
  | _,_,.cons y t r=>.cons ⟨t,rfl⟩ (vals_strs r)
def strV (l:List Nat):V:=.str (txt l)
theorem map_strV (ys:List (List Nat)):ys.map strV = (ys.map txt).map V.str:=by rw [List.map_map]; rfl
section
variable {X:Cx}
def rJoin (K:PySem.W.Frag):V→List V→Hp→VK→Prop:=fun x vs H Q=>∃ sep p ys,x = .str (txt sep)∧vs = [.ref p]∧SqL K H p (ys.map strV)∧(ys.map (·.length)).sum + ys.length * sep.length ≤ 16777216∧Q (.str (txt (joinL sep ys))) H
theorem mt_join:MtR X "str.join" (rJoin X.K):=by
  intro pins s σ H x vs v us Q I rx rv h
  obtain ⟨sep,p,ys,rfl,rfl,hx,hz,q⟩:=h
  obtain ⟨t,rfl⟩:=rx
  obtain ⟨u,rfl,ru⟩:=rv.one
  cases ru
  obtain ⟨its,r,pl,hl⟩:=I.list hx
  rw [map_strV] at r
  refine join_list pl.isList (ys:=ys.map txt) (by simpa using strsAre_of r) ?_ fun t' k=>⟨.str (txt (joinL sep ys)),H,I.tok _,⟨t',by rw [join_txt]⟩,q⟩
  rw [List.map_map,List.length_map,txt_len]
  have:((fun x=>x.length) ∘ txt:List Nat→Nat) = fun l=>l.length:=by funext l; exact txt_len l
  rw [this]; exact hz
def Its (l:List Nat):It:=⟨fun i _=>i < l.length,fun i H x H'=>H' = H∧∃ c,l[i]? = some c∧x = .str (txt [c]),fun i _=>l.length ≤ i⟩
theorem strTy (x:Str):strIterType x = "str_ascii_iterator" ∨ strIterType x = "str_iterator":=by
  unfold strIterType
  split
  · exact .inl rfl
  · exact .inr rfl
theorem walks_str {prog:Program} {w:World} {A:Around} (hh:A.handled = none) (I:Addr) (x:Str) (t:Tok):Walks prog w A I [I] [I] x.cps.size (SignAt x) (fun i h=>h.IsStrIter I (strIterType x) x t i):=by
  rcases strTy x with e | e
  · rw [e]; exact Walks.strAscii hh I x t
  · rw [e]; exact Walks.strWide hh I x t
theorem turn_str {P:Program} {w:World} {K:PySem.W.Frag} {tg:Expr} (it:Addr) (l:List Nat) (t:Tok):Turn P w K tg (Its l) [it] it (fun i h=>h.IsStrIter it (strIterType (txt l)) (txt l) t i) where
  mem:=by simp
  obj:=fun i h st b hb=>by
    have e:b = it:=by simpa using hb
    subst e
    obtain ⟨o,e,c,d⟩:=st
    exact ⟨o,e,fun v z=>by rw [d] at z; cases z⟩
  keep:=fun i h h' st k=>let ⟨o,ho,r⟩:=st; ⟨o,k it (by simp) o ho,r⟩
  item:=by
    intro X hP hw hK hc i pins s σ H E I hf st hg
    subst hP hw hK
    obtain ⟨f0,f1,f2,f3,f4,f5⟩:=hf it (by simp)
    have W:=walks_str (prog:=X.prog) (w:=X.w) (I.ok.hd hc) it (txt l) t
    have hg':i < (txt l).cps.size:=by have:i < l.length:=hg; simpa [txt] using this
    refine W.item i s _ _ hg' st fun v h' tk hv st' kk=>?_
    obtain ⟨c,u,hc',rfl⟩:=hv
    have I1:Inv X pins σ H { s with heap:=h',toks:=tk }:=I.turned (fun b o hb e=>kk b o (by simpa using hb) e) f0 f1 f3 f4 f5
    obtain ⟨o,e,cc,d⟩:=id st'
    have hn : ["enumerate", "zip", "dict_itemiterator", "dict_reverseitemiterator", "odict_iterator", "itertools.zip_longest", "itertools.pairwise"].contains (strIterType (txt l)) = false := by
      rcases strTy (txt l) with e | e <;> (rw [e]; decide)
    exact ⟨_,rfl,go_of (s:={ s with heap:=h',toks:=tk }) e cc d hn ⟨.str (txt [c]),H,I1,⟨u,rfl⟩,⟨rfl,c,by simpa [txt] using hc',rfl⟩,st',fun b hb=>(hf b hb).1⟩⟩
  done:=by
    intro X hP hw hK hc i pins s σ H E I hf st hg
    subst hP hw hK
    obtain ⟨f0,f1,f2,f3,f4,f5⟩:=hf it (by simp)
    have hg':l.length ≤ i:=hg
    obtain ⟨o,e,cc,d⟩:=id st
    have fin:∀ h',Heap.ExtBut it s.heap h'→(none:Option Value) = none∧Inv X pins σ H { s with heap:=h' }:=fun h' eb=>⟨rfl,I.turned (t':=s.toks) (fun b o hb e=>eb b o hb e) f0 f1 f3 f4 f5⟩
    have hx:(txt l).cps[i]? = none:=by simpa [txt] using hg'
    rcases strTy (txt l) with e | e
    · rw [e] at st
      exact wpAny_pyNext_ascii_end (I.ok.hd hc) st hx fin
    · rw [e] at st
      exact wpAny_pyNext_wide_end (I.ok.hd hc) st hx fin
  self:=fun _ _ _ _ _ st h=>by
    rcases strTy (txt l) with e | e
    · rw [e] at st; exact wpAny_pyIter_striter_ascii st h
    · rw [e] at st; exact wpAny_pyIter_striter_wide st h
def iStr (tl:TE):TI:=fun σ H R=>tl σ H fun x H1=>∃ l,x = .str (txt l)∧R (Its l) H1
theorem pi_str {tg l:Expr} {tl:TE} (hl:PE X l tl):PI X tg l (iStr tl):=by
  intro pins s σ H R I h
  refine thn (hl pins s σ H _ I h) fun v s1 ⟨x,H1,I1,r1,q1⟩=>?_
  obtain ⟨l',e,q⟩:=q1
  subst e
  obtain ⟨t,rfl⟩:=r1
  refine wpAny_pyIter_strU ?_
  refine ⟨s1.heap.objs.size,[s1.heap.objs.size],_,_,H1,rfl,I1.kept (t':=s1.toks) fun b o e=>Heap.get?_push_of_some _ e,turn_str _ l' t,⟨_,Heap.get?_push_size _ rfl,rfl,rfl⟩,fun b hb=>?_,q⟩
  have e:b = s1.heap.objs.size:=by simpa using hb
  subst e
  exact I1.fpOk (Nat.le_refl _) (I1.hok.fresh (Nat.le_refl _))
theorem ltCps_txt (a b:List Nat):ltCps a b = decide (a < b):=by
  first | exact ltCps_eq a b | (rw [ltCps_eq])
theorem rising_pw:∀ (r:List (List Nat)) (p:List Nat),risingS (txt p) (r.map txt) = true→(p :: r).Pairwise (· ≤ ·)
  | [],p,_=>List.pairwise_singleton _ _
  | x :: r,p,h=>by
    rw [List.map_cons] at h
    unfold risingS at h
    rw [Bool.and_eq_true,codes_txt,codes_txt,ltCps_txt] at h
    have h1:p ≤ x:=by
      have:=h.1
      simp only [Bool.not_eq_true',decide_eq_false_iff_not] at this
      exact List.not_lt.mp this
    have ih:=rising_pw r x h.2
    refine List.pairwise_cons.mpr ⟨fun y hy=>?_,ih⟩
    rcases List.mem_cons.mp hy with e | hy
    · rw [e]; exact h1
    · exact List.le_trans h1 ((List.pairwise_cons.mp ih).1 y hy)
theorem sortedS_pw (l:List (List Nat)) (h:sortedS (l.map txt) = true):l.Pairwise (· ≤ ·):=by
  cases l with
  | nil=>exact .nil
  | cons x r=>exact rising_pw r x h
theorem call_sortedS:CallR X (.builtin "sorted") (fun xs H Q=>∃ p,∃ ys:List (List Nat),xs = [.ref p]∧SqL X.K H p (ys.map strV)∧ys.length < 64∧∀ l,∀ zs:List (List Nat),H l = none→zs.Perm ys→zs.Pairwise (· ≤ ·)→Q (.ref l) (upd H l (.lst (zs.map strV)))):=by
  intro pins s σ H xs us Q I r h
  obtain ⟨p,ys,rfl,hx,hz,q⟩:=h
  obtain ⟨u,rfl,ru⟩:=vals1 r
  cases ru
  obtain ⟨its,rv,pl,hl⟩:=I.list hx
  have hlen:=rv.length
  rw [map_strV] at rv
  refine sorted_strs pl.isList (strsAre_of rv) (by rw [← hlen,List.length_map]; exact hz) fun out ss' a1 a2 a3=>?_
  obtain ⟨e,he⟩:=sortedAll_at s.heap its out
  have ez:ss' = (ss'.map fun x=>x.cps.toList).map txt:=by
    rw [List.map_map]
    have:(txt ∘ fun (x:Str)=>x.cps.toList) = id:=by funext x; exact txt_codes x
    rw [this,List.map_id]
  have hp:(ss'.map fun x=>x.cps.toList).Perm ys:=by
    have:=a2.map (fun x:Str=>x.cps.toList)
    rw [List.map_map] at this
    have e2:((fun x:Str=>x.cps.toList) ∘ txt) = id:=by funext l; exact codes_txt l
    rw [e2,List.map_id] at this
    exact this
  rw [ez] at a3
  have hv:Vals ((ss'.map fun x=>x.cps.toList).map strV) out.toList:=by rw [map_strV,← ez]; exact vals_strs a1
  refine ⟨.ref (s.heap.objs.size + 1),_,I.laid (t':=s.toks) (a:=s.heap.objs.size + 1) (o:=.lst ((ss'.map fun x=>x.cps.toList).map strV)) (fun b o q=>sortedAll_old q) (Nat.le_succ _) ⟨?_,out.toList,e,hv,by simpa [seqObj] using he⟩,rfl,q _ _ (I.hok.fresh (Nat.le_succ _)) hp (sortedS_pw _ a3)⟩
  have h64:=hp.length_eq
  rw [List.length_map,h64,sizeLine_eq]
  omega
theorem reads_strs {h:Heap}:∀ {us:List Value} {ys:List Str},StrsAre us ys→ReadsAll h us (ys.map PyData.str) []
  | _,_,.nil=>.nil
  | _,_,.cons y t r=>.cons (as:=[]) (bs:=[]) (.str y t) (reads_strs r)
theorem canLay_strs:∀ ys:List Str,(∀ y ∈ ys,PyData.strOk y = true)→PyData.canLayAll0 (ys.map PyData.str) = true
  | [],_=>rfl
  | y :: r,h=>by simp [PyData.canLayAll0,PyData.canLay0,h y List.mem_cons_self,canLay_strs r fun z hz=>h z (List.mem_cons_of_mem _ hz)]
theorem depth_strs:∀ ys:List Str,PyData.depthAll (ys.map PyData.str) = 0
  | []=>rfl
  | _ :: r=>by simp [PyData.depthAll,PyData.depth,depth_strs r]
theorem shaped_strs (ys:List Str) (h:∀ y ∈ ys,PyData.strOk y = true):SeqAt.shaped (.list (ys.map PyData.str)) = true:=by
  simp [SeqAt.shaped,PyData.canLay0,PyData.depth,canLay_strs ys h,depth_strs]
theorem eqv_strs:∀ xs ys:List Str,PyData.eqvAll (xs.map PyData.str) (ys.map PyData.str) = decide (xs = ys)
  | [],[]=>by simp [PyData.eqvAll]
  | [],_ :: _=>by simp [PyData.eqvAll]
  | _ :: _,[]=>by simp [PyData.eqvAll]
  | a :: r,b :: t=>by
    simp only [List.map_cons,PyData.eqvAll,PyData.eqv,eqv_strs r t]
    by_cases h:a = b <;> by_cases h':r = t <;> simp [h,h']
theorem txts_inj {a b:List (List Nat)}:a.map txt = b.map txt ↔ a = b:=⟨fun h=>by
    have:=congrArg (List.map fun x:Str=>x.cps.toList) h
    rw [List.map_map,List.map_map] at this
    have e2:((fun x:Str=>x.cps.toList) ∘ txt) = id:=by funext l; exact codes_txt l
    rwa [e2,List.map_id,List.map_id] at this,fun h=>by rw [h]⟩
theorem op_neLS (hu:X.A.units + 64 < cLine):OpR X (compareOp .NotEq) (fun x y H Q=>∃ a b,∃ xs ys:List (List Nat),x = .ref a∧y = .ref b∧SqL X.K H a (xs.map strV)∧SqL X.K H b (ys.map strV)∧(∀ y ∈ xs,PyData.strOk (txt y) = true)∧(∀ y ∈ ys,PyData.strOk (txt y) = true)∧Q (.bl (!decide (xs = ys))) H):=by
  intro pins s σ H x y v u Q I rx ry h
  obtain ⟨a,b,xs,ys,rfl,rfl,ha,hb,ox,oy,q⟩:=h
  cases rx
  cases ry
  obtain ⟨ia,ra,pa,_⟩:=I.list ha
  obtain ⟨ib,rb,pb,_⟩:=I.list hb
  obtain ⟨oa,na,ea,ca,_,da⟩:=pa
  obtain ⟨ob,nb,eb,cb,_,db⟩:=pb
  rw [map_strV] at ra rb
  refine ne_dataH (Reads.list ea ca da (reads_strs (by simpa using strsAre_of ra))) (Reads.list eb cb db (reads_strs (by simpa using strsAre_of rb))) (shaped_strs (xs.map txt) (by simpa using ox)) (shaped_strs (ys.map txt) (by simpa using oy)) hu (fin_bl I q ?_)
  simp only [PyData.eqv,eqv_strs]
  congr 1
  exact decide_eq_decide.mpr txts_inj.symm
theorem op_eqLS (hu:X.A.units + 64 < cLine):OpR X (compareOp .Eq) (fun x y H Q=>∃ a b,∃ xs ys:List (List Nat),x = .ref a∧y = .ref b∧SqL X.K H a (xs.map strV)∧SqL X.K H b (ys.map strV)∧(∀ y ∈ xs,PyData.strOk (txt y) = true)∧(∀ y ∈ ys,PyData.strOk (txt y) = true)∧Q (.bl (decide (xs = ys))) H):=by
  intro pins s σ H x y v u Q I rx ry h
  obtain ⟨a,b,xs,ys,rfl,rfl,ha,hb,ox,oy,q⟩:=h
  cases rx
  cases ry
  obtain ⟨ia,ra,pa,_⟩:=I.list ha
  obtain ⟨ib,rb,pb,_⟩:=I.list hb
  obtain ⟨oa,na,ea,ca,_,da⟩:=pa
  obtain ⟨ob,nb,eb,cb,_,db⟩:=pb
  rw [map_strV] at ra rb
  refine eq_dataH (Reads.list ea ca da (reads_strs (by simpa using strsAre_of ra))) (Reads.list eb cb db (reads_strs (by simpa using strsAre_of rb))) (shaped_strs (xs.map txt) (by simpa using ox)) (shaped_strs (ys.map txt) (by simpa using oy)) hu (fin_bl I q ?_)
  simp only [PyData.eqv,eqv_strs]
  exact decide_eq_decide.mpr txts_inj.symm
end
end L2
namespace L2
open PySem PySem.Spec PyProof.Rows PySem.Builtin.Str
section
variable {X:Cx}
structure CompOk (X:Cx) (scope:Scope) (x:Str) (fs:List (Str × Nat)):Prop where
  kind:scope.kind = .function
  cell:∀ y ∈ scope.names,y.2 ≠ .cell
  names:∀ y ∈ scope.names,y.2 = .local→scope.names.lookup y.1 = some .local
  free:∀ y ∈ scope.names,y.2 = .free→X.env.kindOf y.1 = some .cell ∨ X.env.kindOf y.1 = some .free
  hx:scope.names.lookup x = some .local
  nd:(x :: fs.map (·.1)).Nodup
  fs:∀ f ∈ fs,X.N[f.2]? = some f.1∧(X.env.kindOf f.1 = some .cell ∨ X.env.kindOf f.1 = some .free)∧scope.names.lookup f.1 = some .free
def compLook (names:List (Str × NameKind)) (outer:List (Str × NameKind)) (N:List Str) (x:Str) (fs:List (Str × Nat)):Bool:=
  (names.all fun y=>y.2 != .cell) && (names.all fun y=>y.2 != .local || names.lookup y.1 == some .local) &&
  (names.all fun y=>y.2 != .free || outer.lookup y.1 == some .cell || outer.lookup y.1 == some .free) && (names.lookup x == some .local) &&
  decide ((x :: fs.map (·.1)).Nodup) && (fs.all fun f=>decide (N[f.2]? = some f.1) && (outer.lookup f.1 == some .cell || outer.lookup f.1 == some .free) && names.lookup f.1 == some .free)
theorem compOk_of {scope:Scope} {x:Str} {fs:List (Str × Nat)} (hk:scope.kind = .function) (h:compLook scope.names X.env.scope.names X.N x fs = true):CompOk X scope x fs:=by
  unfold compLook at h
  simp only [Bool.and_eq_true,List.all_eq_true,decide_eq_true_eq,Bool.or_eq_true,bne_iff_ne,beq_iff_eq] at h
  obtain ⟨⟨⟨⟨⟨h1,h2⟩,h3⟩,h4⟩,h5⟩,h6⟩:=h
  refine ⟨hk,fun y hy=>h1 y hy,fun y hy e=>?_,fun y hy e=>?_,h4,h5,fun f hf=>?_⟩
  · rcases h2 y hy with z | z
    · exact absurd e z
    · exact z
  · rcases h3 y hy with (z | z) | z
    · exact absurd e z
    · exact .inl z
    · exact .inr z
  · obtain ⟨⟨a,b⟩,c⟩:=h6 f hf
    exact ⟨a,b,c⟩
theorem pe_compB {elt iter:Expr} {x:Str} {px pos:Pos} {ifs:List Expr} {scope:Scope} (fs:List (Str × Nat)) {wi:TI} {tt:TT} {te:TE} (hc:X.calm = true)
    (hi:PI X (.Name x px) iter wi)
    (hb:∀ (cl:List (Str × Addr)) (C:Addr) (s₀:Shared) (H₀:Hp) (ex:List Addr),PTs (cxComp X scope cl C (x :: fs.map (·.1)) s₀ H₀ ex) ifs tt∧PE (cxComp X scope cl C (x :: fs.map (·.1)) s₀ H₀ ex) elt te)
    (hk:scope.kind = .function:=by rfl) (hl:compLook scope.names X.env.scope.names X.N x fs = true:=by kernel_rfl)
    (hs:∀ x,foldedSetIterable iter X.env x = pure x:=by intro _; rfl) :
    PE X (.ListComp elt [⟨.Name x px,iter,ifs,0⟩] scope pos) (tComp wi (fs.map (·.2)) tt te):=
  let O:=compOk_of (X:=X) hk hl
  pe_comp fs hc O.kind O.cell O.names O.free O.hx O.nd O.fs hi hb hs
theorem ps_compB {i:Nat} {y:Str} {py spos:Pos} {elt iter:Expr} {x:Str} {px pos:Pos} {ifs:List Expr} {scope:Scope} (fs:List (Str × Nat)) {wi:TI} {tt:TT} {te:TE}
    (hN:X.N.Nodup) (hy:X.N[i]? = some y) (hyl:X.env.scope.names.lookup y = some .local) (hc:X.calm = true)
    (hi:PI X (.Name x px) iter wi)
    (hb:∀ (cl:List (Str × Addr)) (C:Addr) (s₀:Shared) (H₀:Hp) (ex:List Addr),PTs (cxComp X scope cl C (x :: fs.map (·.1)) s₀ H₀ ex) ifs tt∧PE (cxComp X scope cl C (x :: fs.map (·.1)) s₀ H₀ ex) elt te)
    (hk:scope.kind = .function:=by rfl) (hl:compLook scope.names X.env.scope.names X.N x fs = true:=by kernel_rfl)
    (hsw:swapsWith (.ListComp elt [⟨.Name x px,iter,ifs,0⟩] scope pos) (some (.Name y py)) spos.line X.env = pure true:=by rfl)
    (hs:∀ x,foldedSetIterable iter X.env x = pure x:=by intro _; rfl) :
    PS X (.Assign [.Name y py] (.ListComp elt [⟨.Name x px,iter,ifs,0⟩] scope pos) spos) (tCompSet i wi (fs.map (·.2)) tt te):=
  let O:=compOk_of (X:=X) hk hl
  ps_comp fs hN hy hyl hc O.kind O.cell O.names O.free O.hx O.nd O.fs hi hb hsw hs
theorem comp_range {lo:Int} {n:Nat} {σ:St} {fs:List Nat} {tt:TT} {te:TE} {H:Hp} {Q:VK} (Pv:Nat→List V→Hp→Prop) (h0:Pv 0 [] H) (hl:∀ i ys H,i ≤ n→Pv i ys H→ys.length ≤ i) (hn:n ≤ sizeLine)
    (hs:∀ i ys H,i < n→Pv i ys H→∀ R:List V→Hp→Prop,(∀ ys' H',Pv (i + 1) ys' H'→R ys' H')→tt (some (.int (lo + i)) :: compSt fs σ) H fun b H2=>if b = true then te (some (.int (lo + i)) :: compSt fs σ) H2 fun y H3=>R (ys ++ [y]) H3 else R ys H2)
    (hd:∀ ys H,Pv n ys H→∀ p,H p = none→Q (.ref p) (upd H p (.lst ys))) :
    ∃ W:Nat→Nat→List V→Hp→Prop,(∃ m,W 0 m [] H)∧∀ i m ys H,W i m ys H→ys.length ≤ sizeLine∧
      (((Itr lo n).stop i H∧∀ p,H p = none→Q (.ref p) (upd H p (.lst ys))) ∨
       ((Itr lo n).go i H∧ys.length < sizeLine∧∀ x H',(Itr lo n).yld i H x H'→tt (some x :: compSt fs σ) H' fun b H2=>if b = true then te (some x :: compSt fs σ) H2 fun y H3=>∃ m',m' < m∧W (i + 1) m' (ys ++ [y]) H3 else ∃ m',m' < m∧W (i + 1) m' ys H2)):=by
  refine ⟨fun i m ys H=>m = n - i∧i ≤ n∧Pv i ys H,⟨n,by simp,Nat.zero_le _,h0⟩,?_⟩
  rintro i m ys H ⟨rfl,hi,p⟩
  have hle:=hl i ys H hi p
  refine ⟨by omega,?_⟩
  by_cases hlt:i < n
  · refine .inr ⟨hlt,by omega,fun x H' y=>?_⟩
    obtain ⟨e,y⟩:=y
    subst e y
    exact hs i ys _ hlt p (fun ys' H'=>∃ m',m' < n - i∧m' = n - (i + 1)∧i + 1 ≤ n∧Pv (i + 1) ys' H') fun ys' H' q=>⟨n - (i + 1),by omega,rfl,hlt,q⟩
  · have e:i = n:=by omega
    subst e
    exact .inl ⟨Nat.le_refl _,hd ys H p⟩
theorem comp_str {l:List Nat} {σ:St} {fs:List Nat} {tt:TT} {te:TE} {H:Hp} {Q:VK} (Pv:Nat→List V→Hp→Prop) (h0:Pv 0 [] H) (hl:∀ i ys H,i ≤ l.length→Pv i ys H→ys.length ≤ i) (hn:l.length ≤ sizeLine)
    (hs:∀ i c ys H,l[i]? = some c→Pv i ys H→∀ R:List V→Hp→Prop,(∀ ys' H',Pv (i + 1) ys' H'→R ys' H')→tt (some (.str (txt [c])) :: compSt fs σ) H fun b H2=>if b = true then te (some (.str (txt [c])) :: compSt fs σ) H2 fun y H3=>R (ys ++ [y]) H3 else R ys H2)
    (hd:∀ ys H,Pv l.length ys H→∀ p,H p = none→Q (.ref p) (upd H p (.lst ys))) :
    ∃ W:Nat→Nat→List V→Hp→Prop,(∃ m,W 0 m [] H)∧∀ i m ys H,W i m ys H→ys.length ≤ sizeLine∧
      (((Its l).stop i H∧∀ p,H p = none→Q (.ref p) (upd H p (.lst ys))) ∨
       ((Its l).go i H∧ys.length < sizeLine∧∀ x H',(Its l).yld i H x H'→tt (some x :: compSt fs σ) H' fun b H2=>if b = true then te (some x :: compSt fs σ) H2 fun y H3=>∃ m',m' < m∧W (i + 1) m' (ys ++ [y]) H3 else ∃ m',m' < m∧W (i + 1) m' ys H2)):=by
  refine ⟨fun i m ys H=>m = l.length - i∧i ≤ l.length∧Pv i ys H,⟨l.length,by simp,Nat.zero_le _,h0⟩,?_⟩
  rintro i m ys H ⟨rfl,hi,p⟩
  have hle:=hl i ys H hi p
  refine ⟨by omega,?_⟩
  by_cases hlt:i < l.length
  · refine .inr ⟨hlt,by omega,fun x H' y=>?_⟩
    obtain ⟨e,c,hc,y⟩:=y
    subst e y
    exact hs i c ys _ hc p (fun ys' H'=>∃ m',m' < l.length - i∧m' = l.length - (i + 1)∧i + 1 ≤ l.length∧Pv (i + 1) ys' H') fun ys' H' q=>⟨l.length - (i + 1),by omega,rfl,hlt,q⟩
  · have e:i = l.length:=by omega
    subst e
    exact .inl ⟨Nat.le_refl _,hd ys H p⟩
theorem for_str {l:List Nat} {g:TG} {tb:TS} {D:Ends} {σ:St} {H:Hp} (Pv:Nat→St→Hp→Prop) (h0:Pv 0 σ H)
    (hs:∀ i c σ H,l[i]? = some c→Pv i σ H→g (.str (txt [c])) σ H fun σ2 H2=>tb { D with nx:=Pv (i + 1),ct:=Pv (i + 1),bk:=D.nx } σ2 H2) (hd:∀ σ H,Pv l.length σ H→D.nx σ H) :
    ∃ W:Nat→Nat→St→Hp→Prop,(∃ m,W 0 m σ H)∧∀ i m σ H,W i m σ H→
      ((Its l).stop i H∧D.nx σ H) ∨ ((Its l).go i H∧∃ N:St→Hp→Prop,(∀ σ' H',N σ' H'→∃ m',m' < m∧W (i + 1) m' σ' H')∧∀ x H',(Its l).yld i H x H'→g x σ H' fun σ2 H2=>tb { D with nx:=N,ct:=N,bk:=D.nx } σ2 H2):=by
  refine ⟨fun i m σ H=>m = l.length - i∧i ≤ l.length∧Pv i σ H,⟨l.length,by simp,Nat.zero_le _,h0⟩,?_⟩
  rintro i m σ H ⟨rfl,hi,p⟩
  by_cases hlt:i < l.length
  · refine .inr ⟨hlt,Pv (i + 1),fun σ' H' p'=>⟨l.length - (i + 1),by omega,rfl,hlt,p'⟩,fun x H' y=>?_⟩
    obtain ⟨e,c,hc,y⟩:=y
    subst e y
    exact hs i c σ _ hc p
  · have e:i = l.length:=by omega
    subst e
    exact .inl ⟨Nat.le_refl _,hd σ H p⟩
theorem pe_txt {x:Str} {l:List Nat} {j pos} (h:x = txt l):PE X (.Constant (.str x) j pos) (tC (.str (txt l))):=by subst h; exact pe_str
end
def ABC:List Nat:=(List.range 26).map (97 + ·)
theorem small_eq:("abcdefghijklmnopqrstuvwxyz":Str) = txt ABC:=by decide +kernel
theorem abc_len:ABC.length = 26:=by decide
theorem abc_at {i:Nat} (h:i < 26):ABC[i]? = some (97 + i):=by
  unfold ABC
  rw [List.getElem?_map,List.getElem?_range h]; rfl
abbrev rAddI:R2:=rI0 fun i j=>.int (i + j)
abbrev rSubI:R2:=rI0 fun i j=>.int (i - j)
abbrev rDivI:R2:=rI CDiv fun i j=>.int (i / j)
abbrev rModI:R2:=rI (fun _ j=>0 < j) fun i j=>.int (i % j)
abbrev rShrI:R2:=rI (fun _ j=>0 ≤ j) fun i j=>.int (i / 2 ^ j.toNat)
abbrev rNegI:V→Hp→VK→Prop:=rU fun i=>.int (-i)
abbrev rLtI:R2:=rI0 fun i j=>.bl (decide (i < j))
abbrev rLeI:R2:=rI0 fun i j=>.bl (decide (i ≤ j))
abbrev rGtI:R2:=rI0 fun i j=>.bl (decide (j < i))
abbrev rGeI:R2:=rI0 fun i j=>.bl (decide (j ≤ i))
def CMulB (i j:Int):Prop:=CMul i j ∨ (Builtin.Int.intBits i ≤ 2 ^ 20∧Builtin.Int.intBits j ≤ 2 ^ 20)
theorem CMulB.l {i j:Int} (h1:-(2 ^ 64) < i) (h2:i < 2 ^ 64):CMulB i j:=.inl (.inl ⟨h1,h2⟩)
theorem CMulB.r {i j:Int} (h1:-(2 ^ 64) < j) (h2:j < 2 ^ 64):CMulB i j:=.inl (.inr ⟨h1,h2⟩)
abbrev rMulI:R2:=rI CMulB fun i j=>.int (i * j)
abbrev rAddS:R2:=fun x y H Q=>∃ i j,x = .str (txt i)∧y = .str (txt j)∧i.length + j.length ≤ sizeLine∧Q (.str (txt (i ++ j))) H
abbrev rIxStr:R2:=fun x y H Q=>∃ (l:List Nat) (i:Nat) (c:Nat),x = .str (txt l)∧y = .int i∧l.length ≤ sizeLine∧l[i]? = some c∧Q (.str (txt [c])) H
abbrev rIn1:R2:=fun x y H Q=>∃ c l,x = .str (txt [c])∧y = .str (txt l)∧Q (.bl (decide (c ∈ l))) H
abbrev rNotIn1:R2:=fun x y H Q=>∃ c l,x = .str (txt [c])∧y = .str (txt l)∧Q (.bl (!decide (c ∈ l))) H
abbrev rLtS:R2:=fun x y H Q=>∃ i j,x = .str (txt i)∧y = .str (txt j)∧Q (.bl (decide (i < j))) H
abbrev rLeS:R2:=fun x y H Q=>∃ i j,x = .str (txt i)∧y = .str (txt j)∧Q (.bl (!decide (j < i))) H
abbrev rLenS:List V→Hp→VK→Prop:=fun xs H Q=>∃ z,xs = [.str (txt z)]∧z.length ≤ sizeLine∧Q (.int z.length) H
abbrev rLenL (K:PySem.W.Frag):List V→Hp→VK→Prop:=fun xs H Q=>∃ p ys,xs = [.ref p]∧(SqL K H p ys ∨ SqT K H p ys)∧Q (.int ys.length) H
abbrev rMin2:List V→Hp→VK→Prop:=fun xs H Q=>∃ i j,xs = [.int i,.int j]∧Q (.int (if j < i then j else i)) H
abbrev rStrI:List V→Hp→VK→Prop:=fun xs H Q=>∃ i,xs = [.int i]∧i.natAbs.log2 < 1920∧Q (.str (toString i)) H
abbrev rListOf (K:PySem.W.Frag):List V→Hp→VK→Prop:=fun xs H Q=>∃ p ys,xs = [.ref p]∧(SqL K H p ys ∨ SqT K H p ys)∧∀ l,H l = none→Q (.ref l) (upd H l (.lst ys))
abbrev rSortedS (K:PySem.W.Frag):List V→Hp→VK→Prop:=fun xs H Q=>∃ p,∃ ys:List (List Nat),xs = [.ref p]∧SqL K H p (ys.map strV)∧ys.length < 64∧∀ l,∀ zs:List (List Nat),H l = none→zs.Perm ys→zs.Pairwise (· ≤ ·)→Q (.ref l) (upd H l (.lst (zs.map strV)))
abbrev rNeLS (K:PySem.W.Frag):R2:=fun x y H Q=>∃ a b,∃ xs ys:List (List Nat),x = .ref a∧y = .ref b∧SqL K H a (xs.map strV)∧SqL K H b (ys.map strV)∧(∀ y ∈ xs,PyData.strOk (txt y) = true)∧(∀ y ∈ ys,PyData.strOk (txt y) = true)∧Q (.bl (!decide (xs = ys))) H
abbrev rEqLS (K:PySem.W.Frag):R2:=fun x y H Q=>∃ a b,∃ xs ys:List (List Nat),x = .ref a∧y = .ref b∧SqL K H a (xs.map strV)∧SqL K H b (ys.map strV)∧(∀ y ∈ xs,PyData.strOk (txt y) = true)∧(∀ y ∈ ys,PyData.strOk (txt y) = true)∧Q (.bl (decide (xs = ys))) H
section
variable {X:Cx}
theorem op_mulB:OpR X (binaryOp .Mult) rMulI:=opI fun _ _ _ _ _ _ _ hc q=>mul_int q (by
  rcases hc with h | h
  · exact h.ok
  · exact IntMulOk.of_bits h.1 h.2)
theorem pe_gstr {x y:Str} {l:List Nat} {pos:Pos} (hg:Gl X x) (hm:∃ t,X.mg x = some (.str y t)) (e:y = txt l) (hd:(x == ("__debug__":Str)) = false:=by decide):PE X (.Name x pos) (tC (.str (txt l))):=by
  obtain ⟨t,hm⟩:=hm
  subst e
  exact pe_glob hg hm ⟨t,rfl⟩ hd
end
theorem SqL.here {K:PySem.W.Frag} {H:Hp} {p:Addr} {xs:List V}:SqL K (upd H p (.lst xs)) p xs:=.inl (.inl upd_same)
theorem Same.new {H H':Hp} {p:Addr} {o:HO} (s:Same H H') (hp:H' p = none):Same H (upd H' p o):=fun b q e=>by
  have:=s b q e
  rw [upd_ne (ne_of_none this hp)]; exact this
theorem Same.up (H:Hp) {p:Addr} {o:HO} (hp:H p = none):Same H (upd H p o):=(Same.refl H).new hp
theorem atI_int {α:Type} {xs:List α} {i:Int} {v:α} (h0:0 ≤ i) (h:xs[i.toNat]? = some v):atI xs i = some v:=by
  obtain ⟨n,rfl⟩:=Int.eq_ofNat_of_zero_le h0
  exact atI_nat (by simpa using h)
theorem for_r1 {ta:TA} {g:TG} {tb:TS} {D:Ends} {σ:St} {H:Hp} {j:Int} (ha:∀ Q:List V→Hp→Prop,Q [.int j] H→ta σ H Q) (hlo:-(2 ^ 62) ≤ j) (hhi:j < 2 ^ 62)
    (Pv:Nat→St→Hp→Prop) (h0:Pv 0 σ H) (hs:∀ (i:Nat) σ H,(i:Int) < j→Pv i σ H→g (.int i) σ H fun σ2 H2=>tb { D with nx:=Pv (i + 1),ct:=Pv (i + 1),bk:=D.nx } σ2 H2)
    (hd:∀ σ H,Pv j.toNat σ H→D.nx σ H):tFor (iRng1 ta) g tb D σ H:=by
  refine ha _ ⟨j,rfl,hlo,hhi,?_⟩
  refine for_range (lo:=0) (n:=j.toNat) Pv h0 (fun i σ H hi p=>?_) hd
  rw [Int.zero_add]
  exact hs i σ H (by omega) p
theorem for_r2 {ta:TA} {g:TG} {tb:TS} {D:Ends} {σ:St} {H:Hp} {l j:Int} (ha:∀ Q:List V→Hp→Prop,Q [.int l,.int j] H→ta σ H Q) (hl0:-(2 ^ 62) ≤ l) (hl1:l < 2 ^ 62) (hlo:-(2 ^ 62) ≤ j) (hhi:j < 2 ^ 62)
    (Pv:Nat→St→Hp→Prop) (h0:Pv 0 σ H) (hs:∀ (i:Nat) σ H,l + (i:Int) < j→Pv i σ H→g (.int (l + i)) σ H fun σ2 H2=>tb { D with nx:=Pv (i + 1),ct:=Pv (i + 1),bk:=D.nx } σ2 H2)
    (hd:∀ σ H,Pv (j - l).toNat σ H→D.nx σ H):tFor (iRng2 ta) g tb D σ H:=by
  refine ha _ ⟨l,j,rfl,⟨hl0,hl1,hlo,hhi⟩,?_⟩
  exact for_range (lo:=l) (n:=(j - l).toNat) Pv h0 (fun i σ H hi p=>hs i σ H (by omega) p) hd
theorem for_l {K:PySem.W.Frag} {tl:TE} {g:TG} {tb:TS} {D:Ends} {σ:St} {H:Hp} {a:Addr} {xs:List V} (ha:∀ Q:VK,Q (.ref a) H→tl σ H Q) (hx:SqL K H a xs)
    (Pv:Nat→St→Hp→Prop) (h0:Pv 0 σ H) (hl:∀ i σ H,i ≤ xs.length→Pv i σ H→SqL K H a xs)
    (hs:∀ i x σ H,xs[i]? = some x→Pv i σ H→g x σ H fun σ2 H2=>tb { D with nx:=Pv (i + 1),ct:=Pv (i + 1),bk:=D.nx } σ2 H2) (hd:∀ σ H,Pv xs.length σ H→D.nx σ H) :
    tFor (iList K tl) g tb D σ H:=ha _ ⟨a,rfl,⟨xs,hx⟩,for_list (K:=K) Pv h0 hl hs hd⟩
theorem for_s {tl:TE} {g:TG} {tb:TS} {D:Ends} {σ:St} {H:Hp} {l:List Nat} (ha:∀ Q:VK,Q (.str (txt l)) H→tl σ H Q)
    (Pv:Nat→St→Hp→Prop) (h0:Pv 0 σ H) (hs:∀ i c σ H,l[i]? = some c→Pv i σ H→g (.str (txt [c])) σ H fun σ2 H2=>tb { D with nx:=Pv (i + 1),ct:=Pv (i + 1),bk:=D.nx } σ2 H2)
    (hd:∀ σ H,Pv l.length σ H→D.nx σ H):tFor (iStr tl) g tb D σ H:=ha _ ⟨l,rfl,for_str Pv h0 hs hd⟩
theorem comp_r1 {ta:TA} {fs:List Nat} {tt:TT} {te:TE} {σ:St} {H:Hp} {Q:VK} {j:Int} (ha:∀ Q:List V→Hp→Prop,Q [.int j] H→ta σ H Q) (hlo:-(2 ^ 62) ≤ j) (hhi:j < 2 ^ 62) (hn:j.toNat ≤ sizeLine)
    (Pv:Nat→List V→Hp→Prop) (h0:Pv 0 [] H) (hl:∀ i ys H,i ≤ j.toNat→Pv i ys H→ys.length ≤ i)
    (hs:∀ (i:Nat) ys H,(i:Int) < j→Pv i ys H→∀ R:List V→Hp→Prop,(∀ ys' H',Pv (i + 1) ys' H'→R ys' H')→tt (some (.int i) :: compSt fs σ) H fun b H2=>if b = true then te (some (.int i) :: compSt fs σ) H2 fun y H3=>R (ys ++ [y]) H3 else R ys H2)
    (hd:∀ ys H,Pv j.toNat ys H→∀ p,H p = none→Q (.ref p) (upd H p (.lst ys))):tComp (iRng1 ta) fs tt te σ H Q:=by
  refine ha _ ⟨j,rfl,hlo,hhi,?_⟩
  refine comp_range (lo:=0) (n:=j.toNat) Pv h0 hl hn (fun i ys H hi p=>?_) hd
  rw [Int.zero_add]
  exact hs i ys H (by omega) p
theorem comp_s {tl:TE} {fs:List Nat} {tt:TT} {te:TE} {σ:St} {H:Hp} {Q:VK} {l:List Nat} (ha:∀ Q:VK,Q (.str (txt l)) H→tl σ H Q) (hn:l.length ≤ sizeLine)
    (Pv:Nat→List V→Hp→Prop) (h0:Pv 0 [] H) (hl:∀ i ys H,i ≤ l.length→Pv i ys H→ys.length ≤ i)
    (hs:∀ i c ys H,l[i]? = some c→Pv i ys H→∀ R:List V→Hp→Prop,(∀ ys' H',Pv (i + 1) ys' H'→R ys' H')→tt (some (.str (txt [c])) :: compSt fs σ) H fun b H2=>if b = true then te (some (.str (txt [c])) :: compSt fs σ) H2 fun y H3=>R (ys ++ [y]) H3 else R ys H2)
    (hd:∀ ys H,Pv l.length ys H→∀ p,H p = none→Q (.ref p) (upd H p (.lst ys))):tComp (iStr tl) fs tt te σ H Q:=ha _ ⟨l,rfl,comp_str Pv h0 hl hn hs hd⟩
theorem lenL_go {K:PySem.W.Frag} {H:Hp} {a:Addr} {xs:List V} {Q:VK} (hS:SqL K H a xs) (q:Q (.int xs.length) H):rLenL K [.ref a] H Q:=⟨a,xs,rfl,.inl hS,q⟩
theorem lenI_go {K:PySem.W.Frag} {H:Hp} {a:Addr} {ns:List Int} {Q:VK} (hS:SqL K H a (ns.map V.int)) (q:Q (.int ns.length) H):rLenL K [.ref a] H Q:=⟨a,_,rfl,.inl hS,by rw [List.length_map]; exact q⟩
theorem lenS_go {H:Hp} {l:List Nat} {Q:VK} (hz:l.length ≤ 100000) (q:Q (.int l.length) H):rLenS [.str (txt l)] H Q:=⟨l,rfl,Nat.le_trans hz (by decide),q⟩
theorem ixI_go {K:PySem.W.Frag} {H:Hp} {a:Addr} {ns:List Int} {i:Int} {Q:VK} (hS:SqL K H a (ns.map V.int)) (h0:0 ≤ i) (h1:i < ns.length) (q:∀ z,z ∈ ns→ns[i.toNat]? = some z→Q (.int z) H):rIxL K (.ref a) (.int i) H Q:=by
  obtain ⟨n,rfl⟩:=Int.eq_ofNat_of_zero_le h0
  have hn:n < ns.length:=by omega
  have e:ns[n]? = some ns[n]:=List.getElem?_eq_getElem hn
  exact ⟨a,_,(n:Int),.int ns[n],rfl,rfl,hS,atI_nat (by rw [List.getElem?_map,e]; rfl),q _ (List.getElem_mem hn) (by simpa using e)⟩
theorem ixL_go {K:PySem.W.Frag} {H:Hp} {a:Addr} {xs:List V} {i:Int} {v:V} {Q:VK} (hS:SqL K H a xs) (h0:0 ≤ i) (h:xs[i.toNat]? = some v) (q:Q v H):rIxL K (.ref a) (.int i) H Q:=
  ⟨a,xs,i,v,rfl,rfl,hS,atI_int h0 h,q⟩
theorem ixT_go {K:PySem.W.Frag} {H:Hp} {a:Addr} {xs:List V} {i:Int} {v:V} {Q:VK} (hS:SqT K H a xs) (h0:0 ≤ i) (h:xs[i.toNat]? = some v) (q:Q v H):rIxT K (.ref a) (.int i) H Q:=
  ⟨a,xs,i,v,rfl,rfl,hS,atI_int h0 h,q⟩
theorem ixS_go {H:Hp} {l:List Nat} {i:Int} {c:Nat} {Q:VK} (hz:l.length ≤ 100000) (h0:0 ≤ i) (h:l[i.toNat]? = some c) (q:Q (.str (txt [c])) H):rIxStr (.str (txt l)) (.int i) H Q:=by
  obtain ⟨n,rfl⟩:=Int.eq_ofNat_of_zero_le h0
  exact ⟨l,n,c,rfl,rfl,Nat.le_trans hz (by decide),by simpa using h,q⟩
theorem addS_go {H:Hp} {l m:List Nat} {Q:VK} (hz:l.length + m.length ≤ 100000) (q:Q (.str (txt (l ++ m))) H):rAddS (.str (txt l)) (.str (txt m)) H Q:=⟨l,m,rfl,rfl,Nat.le_trans hz (by decide),q⟩
theorem mulB_l {i j:Int} (h1:-18446744073709551616 < i) (h2:i < 18446744073709551616):CMulB i j:=.l (by omega) (by omega)
theorem mulB_r {i j:Int} (h1:-18446744073709551616 < j) (h2:j < 18446744073709551616):CMulB i j:=.r (by omega) (by omega)
theorem cdiv {i j:Int} (h1:0 < j) (h2:j < 1073741824):CDiv i j:=⟨h1,h2⟩
theorem cat_go {H:Hp} {a b:Addr} {xs ys:List V} {Q:VK} (h1:H a = some (.lst xs)) (h2:H b = some (.lst ys)) (hz:xs.length + ys.length ≤ 100000) (q:∀ p,H p = none→Q (.ref p) (upd H p (.lst (xs ++ ys)))):rCat (.ref a) (.ref b) H Q:=
  ⟨a,b,xs,ys,rfl,rfl,h1,h2,Nat.le_trans hz (by decide),q⟩
theorem append_go {H:Hp} {l:Addr} {xs:List V} {y:V} {Q:VK} (h:H l = some (.lst xs)) (hz:xs.length < 100000) (q:Q .non (upd H l (.lst (xs ++ [y])))):rAppend (.ref l) [y] H Q:=
  ⟨l,xs,y,rfl,rfl,h,Nat.lt_of_lt_of_le hz (by decide),q⟩
theorem slS_go {H:Hp} {l:List Nat} {lo hi:Option Int} {Q:VK} (hz:l.length ≤ 100000) (q:Q (.str (txt (cutL l lo hi))) H):rSlS (.str (txt l)) lo hi H Q:=⟨l,rfl,Nat.le_trans hz (by decide),q⟩
theorem cutL_to {l:List Nat} {k:Int} (h0:0 ≤ k) (h1:k ≤ l.length):cutL l none (some k) = l.take k.toNat:=by
  obtain ⟨n,rfl⟩:=Int.eq_ofNat_of_zero_le h0
  unfold cutL
  rw [HT.sIx_none,HT.sIx_nat,List.drop_zero,Nat.sub_zero]
  congr 1; simp; omega
theorem while_of {c:TT} {tb:TS} {D:Ends} {σ:St} {H:Hp} (Pv:Nat→St→Hp→Prop) (m0:Nat) (h0:Pv m0 σ H)
    (hs:∀ m σ H,Pv m σ H→∀ R:Bool→Hp→Prop,(∀ H1,tb { D with nx:=fun σ' H'=>∃ m',m' < m∧Pv m' σ' H',ct:=fun σ' H'=>∃ m',m' < m∧Pv m' σ' H',bk:=D.nx } σ H1→R true H1)→(∀ H1,D.nx σ H1→R false H1)→c σ H R):tWhile c tb D σ H:=by
  refine ⟨Pv,⟨m0,h0⟩,fun m σ H p=>?_⟩
  refine hs m σ H p _ (fun H1 h=>?_) (fun H1 h=>?_)
  · exact ⟨_,fun σ' H' h=>h,h⟩
  · exact h
structure QE (X:Cx) (e:Expr) (t:TE):Prop where p:PE X e t
structure QT (X:Cx) (e:Expr) (t:TT):Prop where p:PT X e t
structure QW (X:Cx) (e:Expr) (t:TT):Prop where p:PW X e t
structure QA (X:Cx) (es:List Expr) (t:TA):Prop where p:PA X es t
structure QS (X:Cx) (st:Stmt) (t:TS):Prop where p:PS X st t
structure QSs (X:Cx) (st:List Stmt) (t:TS):Prop where p:PSs X st t
structure QG (X:Cx) (tg:Expr) (t:TG):Prop where p:PG X tg t
structure QI (X:Cx) (tg iter:Expr) (t:TI):Prop where p:PI X tg iter t
structure QO (X:Cx) (e:Option Expr) (t:TO):Prop where p:PO X e t
structure QTs (X:Cx) (ifs:List Expr) (t:TT):Prop where p:PTs X ifs t
section
variable {X:Cx} {e o a b iter tg:Expr} {es:List Expr} {te to ta tb:TE} {t u:TA} {x:Str} {p pos pos':Pos}
theorem kv (i:Nat) (hN:X.N[i]? = some x:=by kernel_rfl) (hv:X.env.scope.names.lookup x = some .local:=by kernel_rfl) (hd:(x == ("__debug__":Str)) = false:=by kernel_rfl)
    (hcd:(x == ("__classdict__":Str)) = false:=by kernel_rfl):QE X (.Name x pos) (tVar i):=⟨pe_var hN (.inl hv) hd hcd⟩
theorem kvc (i:Nat) (hN:X.N[i]? = some x:=by kernel_rfl) (hv:X.env.scope.names.lookup x = some .cell:=by kernel_rfl) (hd:(x == ("__debug__":Str)) = false:=by kernel_rfl)
    (hcd:(x == ("__classdict__":Str)) = false:=by kernel_rfl):QE X (.Name x pos) (tVar i):=⟨pe_var hN (.inr (.inl hv)) hd hcd⟩
theorem ke_int {i:Int} {j:Nat}:QE X (.Constant (.int i) j pos) (tC (.int i)):=⟨pe_int⟩
theorem ke_bl {c:Bool} {j:Nat}:QE X (.Constant (.bool c) j pos) (tC (.bl c)):=⟨pe_bl⟩
theorem ke_non {j:Nat}:QE X (.Constant .none j pos) (tC .non):=⟨pe_non⟩
theorem ke_txt {y:Str} {l:List Nat} {j:Nat} (h:y = txt l:=by kernel_rfl):QE X (.Constant (.str y) j pos) (tC (.str (txt l))):=⟨pe_txt h⟩
theorem ka_nil:QA X [] tNil:=⟨pa_nil⟩
theorem ka_cons (ha:QE X e te) (hr:QA X es t) (hs:starEach (e :: es) X.env = (false,eval e X.env) :: starEach es X.env:=by kernel_rfl):QA X (e :: es) (tCons te t):=⟨pa_cons ha.p hr.p hs⟩
theorem ke_gstr {y:Str} {l:List Nat} (hm:∃ t,X.mg x = some (.str y t)) (e:y = txt l) (hg:X.env.kindOf x = some .globalImplicit:=by kernel_rfl) (hd:(x == ("__debug__":Str)) = false:=by kernel_rfl):QE X (.Name x pos) (tC (.str (txt l))):=⟨pe_gstr hg hm e hd⟩
theorem ke_call {CX:CXT} {k:Nat} {f:Addr} {fd:FuncData} {ps:List Str} {sp:Sp} {E:XK} (F:FnOk X.prog X.w X.K X.mg X.base CX k f fd ps sp) (hr:Room k X.A) (hm:X.mg x = some (.ref f)) (hk:PySem.W.keepIn X.K (.ref f) = true) (hb:Binds X.K fd ps []) (hx:Passes CX X E)
    (ha:QA X (e :: es) t) (hg:X.env.kindOf x = some .globalImplicit:=by kernel_rfl) (hdb:(x == ("__debug__":Str)) = false:=by kernel_rfl) (he:starEach (e :: es) X.env = (false,eval e X.env) :: starEach es X.env:=by kernel_rfl) (hpl:(backTo pos (starEach es X.env)).any (·.1) = false:=by kernel_rfl) :
    QE X (.Call (.Name x p) (e :: es) [] pos) (tCall sp [] E t):=⟨pe_call F hr hg hm hk hb .nil hx ha.p hdb he hpl⟩
theorem ke_callB {id:String} {r:List V→Hp→VK→Prop} (hc:CallR X (.builtin id) r) (hm:X.mg x = none) (hv:bootBuiltins x = some (.builtin id)) (ha:QA X (e :: es) t)
    (hg : X.env.kindOf x = some .globalImplicit := by kernel_rfl) (hn : decide (x = "__name__") = false := by kernel_rfl) (hdb : (x == ("__debug__" : Str)) = false := by kernel_rfl)
    (he:starEach (e :: es) X.env = (false,eval e X.env) :: starEach es X.env:=by kernel_rfl) (hpl:(backTo pos (starEach es X.env)).any (·.1) = false:=by kernel_rfl) :
    QE X (.Call (.Name x p) (e :: es) [] pos) (tCB r t):=⟨pe_callB hc hg hm hv ha.p (of_decide_eq_false hn) hdb he hpl⟩
theorem ke_callTy {T:String} {r:List V→Hp→VK→Prop} (hc:CallR X (.type T) r) (hm:X.mg x = none) (hv:bootBuiltins x = some (.type T)) (ha:QA X (e :: es) t)
    (hg : X.env.kindOf x = some .globalImplicit := by kernel_rfl) (hn : decide (x = "__name__") = false := by kernel_rfl) (hdb : (x == ("__debug__" : Str)) = false := by kernel_rfl)
    (he:starEach (e :: es) X.env = (false,eval e X.env) :: starEach es X.env:=by kernel_rfl) (hpl:(backTo pos (starEach es X.env)).any (·.1) = false:=by kernel_rfl) :
    QE X (.Call (.Name x p) (e :: es) [] pos) (tCB r t):=⟨pe_callTy hc hg hm hv ha.p (of_decide_eq_false hn) hdb he hpl⟩
theorem ke_op {op:Operator} {r:R2} (ho:OpR X (binaryOp op) r) (ha:QE X a ta) (hb:QE X b tb):QE X (.BinOp a op b pos) (tOp r ta tb):=⟨pe_op ho ha.p hb.p⟩
theorem ke_un {op:UnaryOp} {r:V→Hp→VK→Prop} (ho:UnR X (unaryOp op) r) (ha:QE X a ta):QE X (.UnaryOp op a pos) (tUn r ta):=⟨pe_un ho ha.p⟩
theorem ke_one {op} {t:TE} (h:QE X a t):QE X (.BoolOp op [a] pos) t:=⟨pe_one h.p⟩
theorem ke_and {rest:List Expr} (ha:QE X a ta) (hb:QE X (.BoolOp .And (b :: rest) pos) tb):QE X (.BoolOp .And (a :: b :: rest) pos) (tAndV ta tb):=⟨pe_and ha.p hb.p⟩
theorem ke_or {rest:List Expr} (ha:QE X a ta) (hb:QE X (.BoolOp .Or (b :: rest) pos) tb):QE X (.BoolOp .Or (a :: b :: rest) pos) (tOrV ta tb):=⟨pe_or ha.p hb.p⟩
theorem ke_ifExp {c:Expr} {tc:TT} (hc:QT X c tc) (ha:QE X a ta) (hb:QE X b tb):QE X (.IfExp c a b pos) (tIf tc ta tb):=⟨pe_ifExp hc.p ha.p hb.p⟩
theorem ke_lst (h:QA X es t):QE X (.List es pos) (tLst t):=⟨pe_lst h.p⟩
theorem ke_tup {x1} (h:QA X es t):QE X (.Tuple es x1 pos) (tTup t):=⟨pe_tup h.p⟩
theorem ko_none:QO X none tNoPart:=⟨po_none⟩
theorem ko_some (h:QE X e te):QO X (some e) (tPart te):=⟨po_some h.p⟩
theorem ke_slice {p2:Pos} {lo hi:Option Expr} {tl th:TO} {r:V→Option Int→Option Int→Hp→VK→Prop} (hr:SlR X r) (he:QE X e te) (hl:QO X lo tl) (hu:QO X hi th):QE X (.Subscript e (.Slice lo hi none p2) pos) (tSl r te tl th):=⟨pe_slice hr he.p hl.p hu.p⟩
theorem ke_ix {r:R2} (hr:IxR X r) (ha:QE X a ta) (hb:QE X b tb) (hs:∀ o i,subscripted b false o i = operate [o,i] (getItem o i):=by intro _ _; kernel_rfl):QE X (.Subscript a b pos) (tOp r ta tb):=⟨pe_ix hr ha.p hb.p hs⟩
variable {name:Str} {apos cpos:Pos} {T id:String} {r:V→List V→Hp→VK→Prop}
theorem ke_bm (pa:PlainAttrs T) (slot:Slot T name id) (hty:typeOf (.builtin id) = pure (.type "method_descriptor")) (hm:MtR X id r) (ho:QE X o to) (ha:QA X (e :: es) t)
    (hbase:attributeBase o name X.env (eval o X.env) = eval o X.env:=by kernel_rfl)
    (hfew:((backTo cpos (starEach (e :: es) X.env)).all (fun x=>!x.1) && (backToKw cpos (keywordEach [] X.env)).all (fun x=>x.1.isSome)
      && decide ((e :: es).length + ([]:List Keyword).length + (if ([]:List Keyword).isEmpty then 0 else 1) < 30)) = true:=by kernel_rfl)
    (hline:(apos.endLine == cpos.line) = true:=by kernel_rfl) (hs:starEach (e :: es) X.env = (false,eval e X.env) :: starEach es X.env:=by kernel_rfl) (hplain:(backTo cpos (starEach es X.env)).any (·.1) = false:=by kernel_rfl) :
    QE X (.Call (.Attribute o name apos) (e :: es) [] cpos) (tBM X.K T r to t):=⟨pe_bm pa slot hty hm ho.p ha.p hbase hfew hline hs hplain⟩
theorem kt_val (h:QE X e te) (he:∀ whole,isTrue e X.env whole = (do let v ← whole; standAt e.pos; holding [v] (truthy v)):=by intro _; kernel_rfl):QT X e (tB te):=⟨pt_val h.p he⟩
theorem kt_cmp {op:CmpOp} {r:R2} (ho:OpR X (compareOp op) r) (ha:QE X a ta) (hb:QE X b tb) (hm:behindInMarks op b = false:=by kernel_rfl):QT X (.Compare a [op] [b] pos) (tTest (tOp r ta tb)):=⟨pt_cmpR ho ha.p hb.p hm⟩
theorem ke_cmp {op:CmpOp} {r:R2} (ho:OpR X (compareOp op) r) (ha:QE X a ta) (hb:QE X b tb) (hm:behindInMarks op b = false:=by kernel_rfl):QE X (.Compare a [op] [b] pos) (tOp r ta tb):=⟨pe_cmpR ho ha.p hb.p hm⟩
theorem kt_isN {j:Nat} {pos'':Pos} (ha:QE X e te):QT X (.Compare e [.Is] [.Constant .none j pos''] pos) (tB (tIsN te)):=⟨pt_cmp (pc_isN ha.p) (nobehind _ (by decide) (by decide))⟩
theorem kt_notN {j:Nat} {pos'':Pos} (ha:QE X e te):QT X (.Compare e [.IsNot] [.Constant .none j pos''] pos) (tB (tNotN te)):=⟨pt_cmp (pc_notN ha.p) (nobehind _ (by decide) (by decide))⟩
variable {tA tB':TT} {rest:List Expr}
theorem kt_not (ha:QT X a tA):QT X (.UnaryOp .Not a pos) (tNot tA):=⟨pt_not ha.p⟩
theorem kw_and1 (ha:QT X a tA):QW X (.BoolOp .And [a] pos) tA:=⟨pw_and1 ha.p⟩
theorem kw_or1 (ha:QT X a tA):QW X (.BoolOp .Or [a] pos) tA:=⟨pw_or1 ha.p⟩
theorem kw_and (ha:QT X a tA) (hb:QW X (.BoolOp .And (b :: rest) pos) tB'):QW X (.BoolOp .And (a :: b :: rest) pos) (tAnd tA tB'):=⟨pw_and ha.p hb.p⟩
theorem kw_or (ha:QT X a tA) (hb:QW X (.BoolOp .Or (b :: rest) pos) tB'):QW X (.BoolOp .Or (a :: b :: rest) pos) (tOr tA tB'):=⟨pw_or ha.p hb.p⟩
theorem kt_w (h:QW X e tA):QT X e tA:=⟨h.p.pt⟩
theorem kts_nil:QTs X [] tYes:=⟨pts_nil⟩
theorem kts_one {c:Expr} {t:TT} (h:QT X c t):QTs X [c] t:=⟨pts_one h.p⟩
theorem ki_range1 {ta : TA} (hm : X.mg "range" = none) (ha : QA X [a] ta) (hg : X.env.kindOf "range" = some .globalImplicit := by kernel_rfl) (hs : starEach [a] X.env = [(false, eval a X.env)] := by kernel_rfl) : QI X tg (.Call (.Name "range" p) [a] [] pos) (iRng1 ta) := ⟨pi_range1 hg hm ha.p hs⟩
theorem ki_range2 {ta : TA} (hm : X.mg "range" = none) (ha : QA X [a, b] ta) (hg : X.env.kindOf "range" = some .globalImplicit := by kernel_rfl) (hs : starEach [a, b] X.env = [(false, eval a X.env), (false, eval b X.env)] := by kernel_rfl) (hs2 : starEach [b] X.env = [(false, eval b X.env)] := by kernel_rfl) : QI X tg (.Call (.Name "range" p) [a, b] [] pos) (iRng2 ta) := ⟨pi_range2 hg hm ha.p hs hs2⟩
theorem ki_list {tl:TE} (hl:QE X a tl):QI X tg a (iList X.K tl):=⟨pi_list hl.p⟩
theorem ki_str {tl:TE} (hl:QE X a tl):QI X tg a (iStr tl):=⟨pi_str hl.p⟩
theorem ke_comp {elt:Expr} {px:Pos} {ifs:List Expr} {scope:Scope} (fs:List (Str × Nat)) {wi:TI} {tt:TT} {te:TE}
    (hi:QI X (.Name x px) iter wi)
    (hb:∀ (cl:List (Str × Addr)) (C:Addr) (s₀:Shared) (H₀:Hp) (ex:List Addr),QTs (cxComp X scope cl C (x :: fs.map (·.1)) s₀ H₀ ex) ifs tt∧QE (cxComp X scope cl C (x :: fs.map (·.1)) s₀ H₀ ex) elt te)
    (hc:X.calm = true:=by kernel_rfl) (hk:scope.kind = .function:=by kernel_rfl) (hl:compLook scope.names X.env.scope.names X.N x fs = true:=by kernel_rfl)
    (hs:∀ x,foldedSetIterable iter X.env x = pure x:=by intro _; kernel_rfl) :
    QE X (.ListComp elt [⟨.Name x px,iter,ifs,0⟩] scope pos) (tComp wi (fs.map (·.2)) tt te):=⟨pe_compB fs hc hi.p (fun cl C s₀ H₀ ex=>⟨(hb cl C s₀ H₀ ex).1.p,(hb cl C s₀ H₀ ex).2.p⟩) hk hl hs⟩
theorem ks_comp {i:Nat} {y:Str} {py spos:Pos} {elt:Expr} {px:Pos} {ifs:List Expr} {scope:Scope} (fs:List (Str × Nat)) {wi:TI} {tt:TT} {te:TE}
    (hN:X.N.Nodup) (hi:QI X (.Name x px) iter wi)
    (hb:∀ (cl:List (Str × Addr)) (C:Addr) (s₀:Shared) (H₀:Hp) (ex:List Addr),QTs (cxComp X scope cl C (x :: fs.map (·.1)) s₀ H₀ ex) ifs tt∧QE (cxComp X scope cl C (x :: fs.map (·.1)) s₀ H₀ ex) elt te)
    (hy:X.N[i]? = some y:=by kernel_rfl) (hyl:X.env.scope.names.lookup y = some .local:=by kernel_rfl) (hc:X.calm = true:=by kernel_rfl)
    (hk:scope.kind = .function:=by kernel_rfl) (hl:compLook scope.names X.env.scope.names X.N x fs = true:=by kernel_rfl)
    (hsw:swapsWith (.ListComp elt [⟨.Name x px,iter,ifs,0⟩] scope pos) (some (.Name y py)) spos.line X.env = pure true:=by kernel_rfl)
    (hs:∀ x,foldedSetIterable iter X.env x = pure x:=by intro _; kernel_rfl) :
    QS X (.Assign [.Name y py] (.ListComp elt [⟨.Name x px,iter,ifs,0⟩] scope pos) spos) (tCompSet i wi (fs.map (·.2)) tt te):=⟨ps_compB fs hN hy hyl hc hi.p (fun cl C s₀ H₀ ex=>⟨(hb cl C s₀ H₀ ex).1.p,(hb cl C s₀ H₀ ex).2.p⟩) hk hl hsw hs⟩
variable {st:Stmt} {sts:List Stmt} {t1 t2:TS}
theorem kss_nil:QSs X [] tNext:=⟨pss_nil⟩
theorem kss_cons (h1:QS X st t1) (h2:QSs X sts t2):QSs X (st :: sts) (tSeq t1 t2):=⟨pss_cons h1.p h2.p⟩
theorem kss_one (h1:QS X st t1):QSs X [st] t1:=⟨pss_one h1.p⟩
theorem ks_set {i:Nat} (hN:X.N.Nodup) (he:QE X e te) (hi:X.N[i]? = some x:=by kernel_rfl) (hx:X.env.scope.names.lookup x = some .local:=by kernel_rfl) (hs:swapsWith e (some (.Name x pos')) pos.line X.env = pure false:=by kernel_rfl) :
    QS X (.Assign [.Name x pos'] e pos) (tAsg te (gName i)):=⟨ps_set hN hi (.inl hx) he.p hs (.inr hx)⟩
theorem ks_setc {i:Nat} (hN:X.N.Nodup) (he:QE X e te) (hi:X.N[i]? = some x:=by kernel_rfl) (hx:X.env.scope.names.lookup x = some .cell:=by kernel_rfl) (hs:swapsWith e (some (.Name x pos')) pos.line X.env = pure false:=by kernel_rfl) (hf:X.fn x = true:=by kernel_rfl) :
    QS X (.Assign [.Name x pos'] e pos) (tAsg te (gName i)):=⟨ps_set hN hi (.inr hx) he.p hs (.inl hf)⟩
theorem ks_expr (he:QE X e te) (hs:swapsWith e none pos.line X.env = pure false:=by kernel_rfl):QS X (.Expr e pos) (tDrop te):=⟨ps_expr he.p hs⟩
theorem ks_ret (he:QE X e te):QS X (.Return (some e) pos) (tRet te):=⟨ps_ret he.p⟩
theorem ks_if {c:Expr} {l1 l2:List Stmt} {tc:TT} (hc:QT X c tc) (ha:QSs X l1 t1) (hb:QSs X l2 t2):QS X (.If c l1 l2 pos) (tIfS tc t1 t2):=⟨ps_if hc.p ha.p hb.p⟩
theorem ks_while {c:Expr} {body:List Stmt} {tc:TT} (hc:QT X c tc) (hb:QSs X body t1) (hp:PassesOwn (model X.prog X.w) X.A X.env X.xe:=by exact PassesOwn.never):QS X (.While c body [] pos) (tWhile tc t1):=⟨ps_while hp hc.p hb.p⟩
theorem kg_name {i:Nat} (hN:X.N.Nodup) (hi:X.N[i]? = some x:=by kernel_rfl) (hx:X.env.scope.names.lookup x = some .local:=by kernel_rfl):QG X (.Name x pos) (gName i):=⟨pg_name hN hi (.inl hx) (.inr hx)⟩
theorem kg_namec {i:Nat} (hN:X.N.Nodup) (hi:X.N[i]? = some x:=by kernel_rfl) (hx:X.env.scope.names.lookup x = some .cell:=by kernel_rfl) (hf:X.fn x = true:=by kernel_rfl):QG X (.Name x pos) (gName i):=⟨pg_name hN hi (.inr hx) (.inl hf)⟩
theorem ks_for {body:List Stmt} {wi:TI} {g:TG} {tb:TS} (hi:QI X tg iter wi) (hg:QG X tg g) (hb:QSs X body tb) (hp:PassesOwn (model X.prog X.w) X.A X.env X.xe:=by exact PassesOwn.never) (hc:X.calm = true:=by kernel_rfl) (hs:∀ x,foldedSetIterable iter X.env x = pure x:=by intro _; kernel_rfl):QS X (.For tg iter body [] pos) (tFor wi g tb):=⟨ps_for hp hc hi.p hg.p hb.p hs⟩
theorem ks_asg {g:TG} (he:QE X e te) (hg:QG X tg g) (hs:swapsWithSole [tg] e pos.line X.env = pure false:=by kernel_rfl) (hw:swappedStores [tg] e X.env = pure none:=by kernel_rfl)
    (h1:(assignEach [tg] X.env).map (·.2) = [assign tg X.env]:=by kernel_rfl):QS X (.Assign [tg] e pos) (tAsg te g):=⟨ps_asg he.p hg.p hs hw h1⟩
theorem kg_sub {i:Expr} {ti:TE} {t:TSet} (ho:QE X o to) (hi:QE X i ti) (hs:PSet X t)
    (ha:∀ v,assign (.Subscript o i pos) X.env v = (do
      let ov ← holding [v] (eval o X.env)
      let iv ← holding [v,ov] (eval i X.env)
      standAt pos
      holding [v,ov,iv] (setItem ov iv v)
      release [v,ov,iv] []):=by intro _; kernel_rfl):QG X (.Subscript o i pos) (gSub to ti t):=⟨pg_sub ho.p hi.p hs ha⟩
end
theorem Fun.okQ {P:Program} {w:World} {K:PySem.W.Frag} {mg:Str→Option Value} {base:Heap} {x qual:Str} {st:Stmt} {f:Addr} {fd:FuncData} {N ps:List Str} {k:Nat} {sp:Sp} (F:Fun K x qual st f fd) (S:FnScope N ps (defScope st)) {rd:TS} (len:∀ vs H Q E,sp vs H Q E→vs.length = ps.length)
    (hb:∀ (cdv:Value) (A:Around) (outer:List Env) (s:Shared) (H:Hp) (E:XK),Room k (A.deeper (envOfC qual (defScope st) s.heap.objs.size f cdv))→QSs (cxOf CX0 P w K mg base N qual (defScope st) f cdv A outer s H E).nox (defBody st) rd)
    (hq:∀ (vs:List V) (H:Hp) (Q:VK) (E:XK),sp vs H Q E→rd { nx:=fun _ H'=>Q .non H',rt:=Q } (start N vs) H):FnOk P w K mg base CX0 (k + 1) f fd ps sp:=
  F.ok S len fun cdv A outer s H vs Q E hr h=>⟨rd,(hb cdv A outer s H E hr).p,hq vs H Q E h⟩
section
variable {X:Cx}
abbrev rAllB (K:PySem.W.Frag):List V→Hp→VK→Prop:=fun xs H Q=>∃ p,∃ bs:List Bool,xs = [.ref p]∧SqL K H p (bs.map V.bl)∧Q (.bl (bs.all id)) H
theorem all_range {bs:List Bool}:(List.range bs.length).all (fun i=>bs.getD i true) = bs.all id:=by
  rw [Bool.eq_iff_iff,List.all_eq_true,List.all_eq_true]
  constructor
  · intro h b hb
    obtain ⟨i,hi,rfl⟩:=List.getElem_of_mem hb
    have:=h i (List.mem_range.mpr hi)
    simpa [List.getD_eq_getElem?_getD,hi] using this
  · intro h i hi
    have hi':=List.mem_range.mp hi
    have:=h bs[i] (List.getElem_mem hi')
    simpa [List.getD_eq_getElem?_getD,hi'] using this
theorem call_allB (hc:X.calm = true):CallR X (.builtin "all") (rAllB X.K):=by
  intro pins s σ H xs us Q I r h
  obtain ⟨p,bs,rfl,hS,q⟩:=h
  obtain ⟨u,rfl,ru⟩:=vals1 r
  obtain rfl:u = Value.ref p:=ru
  obtain ⟨its,rv,pl,hz⟩:=I.list hS
  have hlen:its.length = bs.length:=by rw [← rv.length,List.length_map]
  refine call_all_walk (wpAny_pyIter_list pl.isList ?_)
  have hne:p ≠ s.heap.objs.size:=Nat.ne_of_lt (by obtain ⟨o,e,_⟩:=pl.isList; exact Heap.lt_size e)
  refine ⟨s.heap.objs.size,_,_,_,_,_,fun i=>bs.getD i true,rfl,Walks.list (A:=X.A.in1) (show X.A.in1.handled = none from I.ok.hd hc) s.heap.objs.size p hne its.toArray,⟨⟨_,Heap.get?_push_size _ rfl,rfl,rfl⟩,pl.isList.at fun o e=>Heap.get?_push_of_some _ e⟩,?_,fun h' tk hk=>?_⟩
  · intro i v s' Q' E' hv hq
    have hv':its[i]? = some v:=by simpa using hv
    have hi:i < bs.length:=by rw [← hlen]; exact (List.getElem?_eq_some_iff.mp hv').1
    obtain ⟨u',hu',ru'⟩:=rv.get (i:=i) (x:=.bl bs[i]) (by rw [List.getElem?_map,List.getElem?_eq_getElem hi]; rfl)
    rw [hv'] at hu'
    cases hu'
    obtain rfl:v = Value.bool bs[i]:=ru'
    refine wpAny_truthy_bool ?_
    have e:bs.getD i true = bs[i]:=by simp [List.getD_eq_getElem?_getD,hi]
    rw [← e]; exact hq
  · have e:(List.range its.toArray.size).all (fun i=>bs.getD i true) = bs.all id:=by
      rw [List.size_toArray,hlen]; exact all_range
    refine ⟨.bl _,H,I.kept (t':=tk) fun b o eb=>hk b o ?_ (Heap.get?_push_of_some _ eb),rfl,by rw [e]; exact q⟩
    intro hb
    have:b = s.heap.objs.size:=by simpa using hb
    subst this
    exact absurd (Heap.lt_size eb) (Nat.lt_irrefl _)
def isTy (t T:String):Option Bool:=if (Value.type t == Value.type T) = true then some true else if PySem.W.kitMeta T = true then (fastBuiltinMro t).map (·.contains (.type T)) else none
theorem isTy_kit {K:PySem.W.Frag} {t T:String} {b:Bool} (h:isTy t T = some b):PySem.W.kitOne K (.type t) (.type T) = some b:=h
theorem isTy_int_int:isTy "int" "int" = some true:=by kernel_rfl
theorem isTy_tuple_tuple:isTy "tuple" "tuple" = some true:=by kernel_rfl
def rIsi (K:PySem.W.Frag) (T:String):V→Hp→VK→Prop:=fun x H Q=>∃ t b,TyOf K H x (.type t)∧isTy t T = some b∧Q (.bl b) H
def tIsi (K:PySem.W.Frag) (T:String) (ta:TE):TE:=fun σ H Q=>ta σ H fun x H1=>rIsi K T x H1 Q
theorem ke_isi {e:Expr} {te:TE} {y z:Str} {T:String} {p p2 pos:Pos} (hm:X.mg y = none) (hv:bootBuiltins y = some (.builtin "isinstance")) (hm2:X.mg z = none) (hv2:bootBuiltins z = some (.type T)) (he:QE X e te)
    (hg : X.env.kindOf y = some .globalImplicit := by kernel_rfl) (hn : decide (y = "__name__") = false := by kernel_rfl) (hdb : (y == ("__debug__" : Str)) = false := by kernel_rfl)
    (hg2 : X.env.kindOf z = some .globalImplicit := by kernel_rfl) (hn2 : decide (z = "__name__") = false := by kernel_rfl) (hdb2 : (z == ("__debug__" : Str)) = false := by kernel_rfl)
    (hs1:starEach [e,.Name z p2] X.env = (false,eval e X.env) :: starEach [.Name z p2] X.env:=by kernel_rfl) (hs2:starEach [.Name z p2] X.env = (false,eval (.Name z p2) X.env) :: starEach [] X.env:=by kernel_rfl)
    (hpl:(backTo pos (starEach [.Name z p2] X.env)).any (·.1) = false:=by kernel_rfl) :
    QE X (.Call (.Name y p) [e,.Name z p2] [] pos) (tIsi X.K T te):=by
  have hR:CallR X (.builtin "isinstance") (fun xs H Q=>∃ x,xs = [x,.ty T]∧rIsi X.K T x H Q):=by
    intro pins s σ H xs us Q I r h
    obtain ⟨x,rfl,t,b,ty,hk,q⟩:=h
    obtain ⟨u,w',rfl,ru,rw'⟩:=vals2 r
    obtain rfl:w' = Value.type T:=rw'
    exact isinst_ok I ru ty (isTy_kit hk) fun tk=>⟨.bl b,H,I.tok tk,rfl,q⟩
  have hP:=pe_callB (x:=y) (p:=p) (pos:=pos) hR hg hm hv (pa_cons he.p (pa_cons (pe_bltn (v:=.ty T) hg2 hm2 hv2 rfl (of_decide_eq_false hn2) hdb2) pa_nil hs2) hs1) (of_decide_eq_false hn) hdb hs1 hpl
  refine ⟨fun pins s σ H Q I h=>hP pins s σ H Q I ?_⟩
  show te σ H fun x H1=>_
  exact (show (te σ H fun x H1=>rIsi X.K T x H1 Q)→te σ H (fun x H1=>∃ x',[x,V.ty T] = [x',.ty T]∧rIsi X.K T x' H1 Q) from fun q=>by
    have e:(fun x H1=>∃ x',[x,V.ty T] = [x',.ty T]∧rIsi X.K T x' H1 Q) = fun x H1=>rIsi X.K T x H1 Q:=by
      funext x H1
      refine propext ⟨fun ⟨x',e,q⟩=>?_,fun q=>⟨x,rfl,q⟩⟩
      cases e; exact q
    rw [e]; exact q) h
end
end L2
namespace DictK
open PySem PyProof.Rows
def Kd {α:Type}:Sem α→Prop
  | .pure _=>True
  | .raise _=>True
  | .unsupported _=>True
  | .finish _=>True
  | .rule _ k=>Kd (k ())
  | .at _ k=>Kd (k ())
  | .load _ _ k=>∀ o,Kd (k o)
  | .update _ _ f k=>(∀ o,(f o).dict = o.dict∧(o.isFreed = false→(f o).isFreed = false))∧Kd (k ())
  | .alloc _ k=>∀ a,Kd (k a)
  | .loadIfAlive _ k=>∀ o,Kd (k o)
  | .point _ k=>Kd (k ())
  | .register _ _=>True
  | .fresh k=>∀ t,Kd (k t)
  | .ask k=>∀ x,Kd (k x)
  | .choose _ _ k=>∀ n,Kd (k n)
  | .os _ _ k=>∀ r,Kd (k r)
  | .call ..=>False
  | .handled _ k=>∀ v,Kd (k v)
  | .newGen _ k=>∀ g,Kd (k g)
  | .genState _ k=>∀ x,Kd (k x)
  | .resume ..=>False
  | .yield ..=>True
  | .stack k=>∀ l,Kd (k l)
  | .fork ..=>True
  | .thread k=>∀ n,Kd (k n)
  | .await ..=>True
def Kept (h h':Heap):Prop:=∀ b o,h.get? b = some o→∃ o',h'.get? b = some o'∧o'.dict = o.dict
theorem Kept.refl (h:Heap):Kept h h:=fun b o e=>⟨o,e,rfl⟩
theorem Kept.trans {h₁ h₂ h₃:Heap} (x:Kept h₁ h₂) (y:Kept h₂ h₃):Kept h₁ h₃:=fun b o e=>by
  obtain ⟨o1,e1,d1⟩:=x b o e
  obtain ⟨o2,e2,d2⟩:=y b o1 e1
  exact ⟨o2,e2,d2.trans d1⟩
theorem Kept.push {h₀ h:Heap} (x:Kept h₀ h) (u:Obj):Kept h₀ (h.push u):=fun b o e=>by
  obtain ⟨o1,e1,d1⟩:=x b o e
  exact ⟨o1,Heap.get?_push_of_some u e1,d1⟩
theorem Kept.update {h₀ h:Heap} (x:Kept h₀ h) {a:Addr} {f:Obj→Obj} (hf:∀ o,(f o).dict = o.dict∧(o.isFreed = false→(f o).isFreed = false)):Kept h₀ (h.update a f):=fun b o e=>by
  obtain ⟨o1,e1,d1⟩:=x b o e
  by_cases z:a = b
  · subst z
    exact ⟨f o1,Heap.get?_update_self f e1 ((hf o1).2 (Heap.get?_some_iff.mp e1).2),((hf o1).1).trans d1⟩
  · exact ⟨o1,(Heap.get?_update_other h f z).trans e1,d1⟩
theorem kd_wp {α:Type} (M:Model) (Γ:Ctx) (h₀:Heap) (t:Sem α) {Q:α→Pos→Shared→Prop} {E:Value→Pos→Shared→Prop} (p:Pos) (s:Shared) (hk:Kd t) (h0:Kept h₀ s.heap) (h:Sem.wp M Γ t Q E p s) :
    Sem.wp M Γ t (fun a p' s'=>Q a p' s'∧Kept h₀ s'.heap) E p s:=by
  revert hk h0 h
  induction t generalizing p s with
  | pure x=>exact fun _ h0 h=>⟨h,h0⟩
  | raise v=>exact fun _ _ h=>h
  | unsupported | finish | yield | fork | await | register=>exact fun _ _ h=>h
  | rule _ k ih | «at» _ k ih | point _ k ih=>exact fun hk h0 h=>ih _ _ _ hk h0 h
  | loadIfAlive _ k ih | fresh k ih | ask k ih | os _ _ k ih | handled _ k ih | newGen _ k ih | stack k ih | thread k ih=>exact fun hk h0 h=>ih _ _ _ (hk _) h0 h
  | alloc o k ih=>exact fun hk h0 h=>ih _ _ _ (hk _) (h0.push o) h
  | load a _ k ih | genState a k ih=>exact fun hk h0 ⟨o,ho,h⟩=>⟨o,ho,ih _ _ _ (hk _) h0 h⟩
  | update a _ f k ih=>exact fun hk h0 ⟨ha,h⟩=>⟨ha,ih _ _ _ hk.2 (h0.update hk.1) h⟩
  | choose _ _ k ih=>exact fun hk h0 ⟨ha,h⟩=>⟨ha,ih _ _ _ (hk _) h0 h⟩
  | call c h g l k ih=>exact fun hk=>hk.elim
  | resume g r l k ih=>exact fun hk=>hk.elim
theorem kd_any {α:Type} {M:Model} {A:Around} {t:Sem α} {Q:α→Shared→Prop} {E:Value→Shared→Prop} {s:Shared} (hk:Kd t) (h:wpAny M A t Q E s):wpAny M A t (fun a s'=>Q a s'∧Kept s.heap s'.heap) E s:=
  fun Γ p hΓ=>kd_wp M Γ s.heap t p s hk (Kept.refl _) (h Γ p hΓ)
theorem kd_bind {α β:Type} {f:α→Sem β} (hf:∀ a,Kd (f a)):∀ {m:Sem α},Kd m→Kd (m >>= f):=by
  intro m
  show Kd m→Kd (m.bind f)
  induction m with
  | pure x=>exact fun _=>hf x
  | raise v=>exact fun _=>trivial
  | unsupported | finish | yield | fork | await | register=>exact fun _=>trivial
  | rule _ k ih | «at» _ k ih | point _ k ih=>exact fun h=>ih _ h
  | loadIfAlive _ k ih | fresh k ih | ask k ih | os _ _ k ih | handled _ k ih | newGen _ k ih | stack k ih | thread k ih | alloc _ k ih | load a _ k ih | genState a k ih | choose _ _ k ih=>exact fun h x=>ih x (h x)
  | update a _ f k ih=>exact fun h=>⟨h.1,ih _ h.2⟩
  | call c h g l k ih=>exact fun h=>h.elim
  | resume g r l k ih=>exact fun h=>h.elim
theorem kd_pure {α:Type} (a:α):Kd (pure a:Sem α):=trivial
theorem kd_uns {α:Type} (w:String):Kd (unsupported w:Sem α):=trivial
theorem kd_load (a:Addr):Kd (load a):=fun _=>trivial
theorem kd_fieldsOf (v:Value):Kd (fieldsOf v):=by
  unfold fieldsOf
  split
  · refine kd_bind (fun o=>?_) (kd_load _)
    split <;> trivial
  · trivial
theorem kd_field (v:Value) (i:Nat):Kd (field v i):=by
  unfold field
  refine kd_bind (fun o=>?_) (kd_fieldsOf v)
  split <;> trivial
theorem map_dict (f:Array Value→Array Value) (o:Obj):(Obj.mapFields f o).dict = o.dict∧(o.isFreed = false→(Obj.mapFields f o).isFreed = false):=by
  obtain ⟨c,d,dt,sl⟩:=o
  cases dt <;> exact ⟨rfl,fun h=>h⟩
theorem kd_setField (v:Value) (i:Nat) (x:Value):Kd (setField v i x):=by
  unfold setField
  split
  · unfold updateField
    refine kd_bind (fun o=>?_) (kd_load _)
    split
    · split
      · exact ⟨map_dict _,trivial⟩
      · trivial
    · trivial
  · trivial
theorem kd_stack:Kd stack:=fun _=>trivial
theorem kd_setFlight (e:Value) (fr:Option Addr):Kd (setFlight e fr):=by
  unfold setFlight
  refine kd_bind (fun tb=>?_) (kd_field e 1)
  split
  · exact kd_setField _ _ _
  · trivial
theorem kd_behind (env:Env) (outer:List Env):Kd (behindIsImport env outer):=by
  unfold behindIsImport
  split
  · trivial
  · split
    · trivial
    · exact kd_bind (fun _=>kd_pure _) (kd_field _ _)
theorem kd_keptBack (env:Env) (i:Bool) (outer:List Env):Kd (keptBack env i outer):=by
  cases outer with
  | nil=>
    unfold keptBack
    dsimp only
    by_cases h:(env.scope.isGenerator || env.scope.isCoroutine) = true
    · rw [if_pos h]; exact kd_pure _
    · rw [if_neg h]
      refine kd_bind (fun _=>kd_pure _) ?_
      unfold underTheClaimsCaller
      exact kd_bind (fun _=>kd_pure _) kd_stack
  | cons c r=>exact trivial
theorem free_slots {o:Obj} {sl:Array (Option Value)} (h:o.isFreed = false):({ o with slots:=sl }:Obj).isFreed = false:=by
  obtain ⟨c,d,dt,s0⟩:=o
  cases dt <;> exact h
theorem kd_ready:∀ l:List Env,Kd (readyFrames l)
  | []=>trivial
  | env :: outer=>by
    unfold readyFrames
    split
    · refine kd_bind (fun o=>?_) (kd_load _)
      split
      · trivial
      · refine kd_bind (fun i=>?_) (kd_behind env outer)
        refine kd_bind (fun b=>?_) (kd_keptBack env i outer)
        refine kd_bind (fun _=>kd_ready outer) ?_
        exact ⟨fun o=>⟨rfl,fun h=>free_slots h⟩,trivial⟩
    · trivial
theorem kd_frameOf (env:Env):Kd (PySem.frameOf env):=by
  unfold PySem.frameOf
  refine kd_bind (fun l=>kd_bind (fun f=>?_) ?_) ?_
  · split <;> trivial
  · generalize List.dropWhile _ l = m
    cases m with
    | nil=>trivial
    | cons e r=>
      unfold frameObject
      exact kd_bind (fun _=>kd_pure _) (kd_ready _)
  · unfold frameEnvs
    exact kd_bind (fun _=>kd_pure _) kd_stack
theorem kd_entry (f:Addr) (b:Bool):Kd (entryPlaceOf f b):=by
  unfold entryPlaceOf
  refine kd_bind (fun l=>?_) kd_stack
  split <;> trivial
theorem kd_newEntry (a b c d e:Value) (l:List Value):Kd (EntryCells.newEntry a b c d e l):=by
  unfold EntryCells.newEntry newFields newObj
  dsimp only
  have h:∀ dt,Kd (newObjAsIs (.type "traceback") dt):=fun dt=>by
    unfold newObjAsIs
    exact kd_bind (fun a=>kd_pure _) fun _=>trivial
  generalize (if l.isEmpty = true then List.replicate 6 Value.none else l) = m
  by_cases z:([a,b,c,d,e] ++ m).toArray.size > sizeLine + 2
  · rw [if_pos z]
    exact kd_bind (fun _=>h _) (kd_uns _)
  · rw [if_neg z]
    exact h _
theorem kd_note (e:Value) (env:Env):Kd (noteFrame e env):=by
  unfold noteFrame
  split
  · refine kd_bind (fun head=>?_) (kd_field e 1)
    have last:∀ f,Kd (do setField e 1 (← EntryCells.newEntry head (← PySem.frameOf env) .none (rawInt f) .none (← entryPlaceOf f (head != .none)))):=fun f=>
      kd_bind (fun a=>kd_bind (fun b=>kd_bind (fun c=>kd_setField _ _ _) (kd_newEntry _ _ _ _ _ _)) (kd_entry _ _)) (kd_frameOf env)
    split
    · refine kd_bind (fun x=>?_) (kd_field head 3)
      split
      · trivial
      · exact kd_bind (fun _=>last _) (kd_setField _ _ _)
    · exact last _
  · trivial
theorem kd_leaving (env:Env) (e:Value):Kd (leaving env e):=by
  unfold leaving
  exact kd_bind (fun _=>kd_setFlight e none) (kd_note e env)
end DictK
namespace CtxK
open PySem PyProof.Rows
def cx2 (o:Obj):Option Value:=match o.data with
  | .fields vs=>vs[2]?
  | _=>none
def Kd {α:Type}:Sem α→Prop
  | .pure _=>True
  | .raise _=>True
  | .unsupported _=>True
  | .finish _=>True
  | .rule _ k=>Kd (k ())
  | .at _ k=>Kd (k ())
  | .load _ _ k=>∀ o,Kd (k o)
  | .update _ _ f k=>(∀ o,cx2 (f o) = cx2 o∧(o.isFreed = false→(f o).isFreed = false))∧Kd (k ())
  | .alloc _ k=>∀ a,Kd (k a)
  | .loadIfAlive _ k=>∀ o,Kd (k o)
  | .point _ k=>Kd (k ())
  | .register _ _=>True
  | .fresh k=>∀ t,Kd (k t)
  | .ask k=>∀ x,Kd (k x)
  | .choose _ _ k=>∀ n,Kd (k n)
  | .os _ _ k=>∀ r,Kd (k r)
  | .call ..=>False
  | .handled _ k=>∀ v,Kd (k v)
  | .newGen _ k=>∀ g,Kd (k g)
  | .genState _ k=>∀ x,Kd (k x)
  | .resume ..=>False
  | .yield ..=>True
  | .stack k=>∀ l,Kd (k l)
  | .fork ..=>True
  | .thread k=>∀ n,Kd (k n)
  | .await ..=>True
def Kept (h h':Heap):Prop:=∀ b o,h.get? b = some o→∃ o',h'.get? b = some o'∧cx2 o' = cx2 o
theorem Kept.refl (h:Heap):Kept h h:=fun b o e=>⟨o,e,rfl⟩
theorem Kept.trans {h₁ h₂ h₃:Heap} (x:Kept h₁ h₂) (y:Kept h₂ h₃):Kept h₁ h₃:=fun b o e=>by
  obtain ⟨o1,e1,d1⟩:=x b o e
  obtain ⟨o2,e2,d2⟩:=y b o1 e1
  exact ⟨o2,e2,d2.trans d1⟩
theorem Kept.push {h₀ h:Heap} (x:Kept h₀ h) (u:Obj):Kept h₀ (h.push u):=fun b o e=>by
  obtain ⟨o1,e1,d1⟩:=x b o e
  exact ⟨o1,Heap.get?_push_of_some u e1,d1⟩
theorem Kept.update {h₀ h:Heap} (x:Kept h₀ h) {a:Addr} {f:Obj→Obj} (hf:∀ o,cx2 (f o) = cx2 o∧(o.isFreed = false→(f o).isFreed = false)):Kept h₀ (h.update a f):=fun b o e=>by
  obtain ⟨o1,e1,d1⟩:=x b o e
  by_cases z:a = b
  · subst z
    exact ⟨f o1,Heap.get?_update_self f e1 ((hf o1).2 (Heap.get?_some_iff.mp e1).2),((hf o1).1).trans d1⟩
  · exact ⟨o1,(Heap.get?_update_other h f z).trans e1,d1⟩
theorem kd_wp {α:Type} (M:Model) (Γ:Ctx) (h₀:Heap) (t:Sem α) {Q:α→Pos→Shared→Prop} {E:Value→Pos→Shared→Prop} (p:Pos) (s:Shared) (hk:Kd t) (h0:Kept h₀ s.heap) (h:Sem.wp M Γ t Q E p s) :
    Sem.wp M Γ t (fun a p' s'=>Q a p' s'∧Kept h₀ s'.heap) E p s:=by
  revert hk h0 h
  induction t generalizing p s with
  | pure x=>exact fun _ h0 h=>⟨h,h0⟩
  | raise v=>exact fun _ _ h=>h
  | unsupported | finish | yield | fork | await | register=>exact fun _ _ h=>h
  | rule _ k ih | «at» _ k ih | point _ k ih=>exact fun hk h0 h=>ih _ _ _ hk h0 h
  | loadIfAlive _ k ih | fresh k ih | ask k ih | os _ _ k ih | handled _ k ih | newGen _ k ih | stack k ih | thread k ih=>exact fun hk h0 h=>ih _ _ _ (hk _) h0 h
  | alloc o k ih=>exact fun hk h0 h=>ih _ _ _ (hk _) (h0.push o) h
  | load a _ k ih | genState a k ih=>exact fun hk h0 ⟨o,ho,h⟩=>⟨o,ho,ih _ _ _ (hk _) h0 h⟩
  | update a _ f k ih=>exact fun hk h0 ⟨ha,h⟩=>⟨ha,ih _ _ _ hk.2 (h0.update hk.1) h⟩
  | choose _ _ k ih=>exact fun hk h0 ⟨ha,h⟩=>⟨ha,ih _ _ _ (hk _) h0 h⟩
  | call c h g l k ih=>exact fun hk=>hk.elim
  | resume g r l k ih=>exact fun hk=>hk.elim
theorem kd_any {α:Type} {M:Model} {A:Around} {t:Sem α} {Q:α→Shared→Prop} {E:Value→Shared→Prop} {s:Shared} (hk:Kd t) (h:wpAny M A t Q E s):wpAny M A t (fun a s'=>Q a s'∧Kept s.heap s'.heap) E s:=
  fun Γ p hΓ=>kd_wp M Γ s.heap t p s hk (Kept.refl _) (h Γ p hΓ)
theorem kd_bind {α β:Type} {f:α→Sem β} (hf:∀ a,Kd (f a)):∀ {m:Sem α},Kd m→Kd (m >>= f):=by
  intro m
  show Kd m→Kd (m.bind f)
  induction m with
  | pure x=>exact fun _=>hf x
  | raise v=>exact fun _=>trivial
  | unsupported | finish | yield | fork | await | register=>exact fun _=>trivial
  | rule _ k ih | «at» _ k ih | point _ k ih=>exact fun h=>ih _ h
  | loadIfAlive _ k ih | fresh k ih | ask k ih | os _ _ k ih | handled _ k ih | newGen _ k ih | stack k ih | thread k ih | alloc _ k ih | load a _ k ih | genState a k ih | choose _ _ k ih=>exact fun h x=>ih x (h x)
  | update a _ f k ih=>exact fun h=>⟨h.1,ih _ h.2⟩
  | call c h g l k ih=>exact fun h=>h.elim
  | resume g r l k ih=>exact fun h=>h.elim
theorem kd_pure {α:Type} (a:α):Kd (pure a:Sem α):=trivial
theorem kd_uns {α:Type} (w:String):Kd (unsupported w:Sem α):=trivial
theorem kd_load (a:Addr):Kd (load a):=fun _=>trivial
theorem kd_fieldsOf (v:Value):Kd (fieldsOf v):=by
  unfold fieldsOf
  split
  · refine kd_bind (fun o=>?_) (kd_load _)
    split <;> trivial
  · trivial
theorem kd_field (v:Value) (i:Nat):Kd (field v i):=by
  unfold field
  refine kd_bind (fun o=>?_) (kd_fieldsOf v)
  split <;> trivial
theorem map_cx2 {i:Nat} (hi:i ≠ 2) (x:Value) (o:Obj):cx2 (Obj.mapFields (fun vs=>vs.set! i x) o) = cx2 o∧(o.isFreed = false→(Obj.mapFields (fun vs=>vs.set! i x) o).isFreed = false):=by
  obtain ⟨c,d,dt,sl⟩:=o
  cases dt with
  | fields vs=>exact ⟨by show (vs.set! i x)[2]? = vs[2]?; rw [Array.set!_eq_setIfInBounds,Array.getElem?_setIfInBounds_ne hi],fun h=>h⟩
  | _=>exact ⟨rfl,fun h=>h⟩
theorem kd_setField (v:Value) (i:Nat) (x:Value) (hi:i ≠ 2:=by decide):Kd (setField v i x):=by
  unfold setField
  split
  · unfold updateField
    refine kd_bind (fun o=>?_) (kd_load _)
    split
    · split
      · exact ⟨map_cx2 hi x,trivial⟩
      · trivial
    · trivial
  · trivial
theorem kd_stack:Kd stack:=fun _=>trivial
theorem kd_setFlight (e:Value) (fr:Option Addr):Kd (setFlight e fr):=by
  unfold setFlight
  refine kd_bind (fun tb=>?_) (kd_field e 1)
  split
  · exact kd_setField _ _ _
  · trivial
theorem kd_behind (env:Env) (outer:List Env):Kd (behindIsImport env outer):=by
  unfold behindIsImport
  split
  · trivial
  · split
    · trivial
    · exact kd_bind (fun _=>kd_pure _) (kd_field _ _)
theorem kd_keptBack (env:Env) (i:Bool) (outer:List Env):Kd (keptBack env i outer):=by
  cases outer with
  | nil=>
    unfold keptBack
    dsimp only
    by_cases h:(env.scope.isGenerator || env.scope.isCoroutine) = true
    · rw [if_pos h]; exact kd_pure _
    · rw [if_neg h]
      refine kd_bind (fun _=>kd_pure _) ?_
      unfold underTheClaimsCaller
      exact kd_bind (fun _=>kd_pure _) kd_stack
  | cons c r=>exact trivial
theorem free_slots {o:Obj} {sl:Array (Option Value)} (h:o.isFreed = false):({ o with slots:=sl }:Obj).isFreed = false:=by
  obtain ⟨c,d,dt,s0⟩:=o
  cases dt <;> exact h
theorem kd_ready:∀ l:List Env,Kd (readyFrames l)
  | []=>trivial
  | env :: outer=>by
    unfold readyFrames
    split
    · refine kd_bind (fun o=>?_) (kd_load _)
      split
      · trivial
      · refine kd_bind (fun i=>?_) (kd_behind env outer)
        refine kd_bind (fun b=>?_) (kd_keptBack env i outer)
        refine kd_bind (fun _=>kd_ready outer) ?_
        exact ⟨fun o=>⟨rfl,fun h=>free_slots h⟩,trivial⟩
    · trivial
theorem kd_frameOf (env:Env):Kd (PySem.frameOf env):=by
  unfold PySem.frameOf
  refine kd_bind (fun l=>kd_bind (fun f=>?_) ?_) ?_
  · split <;> trivial
  · generalize List.dropWhile _ l = m
    cases m with
    | nil=>trivial
    | cons e r=>
      unfold frameObject
      exact kd_bind (fun _=>kd_pure _) (kd_ready _)
  · unfold frameEnvs
    exact kd_bind (fun _=>kd_pure _) kd_stack
theorem kd_entry (f:Addr) (b:Bool):Kd (entryPlaceOf f b):=by
  unfold entryPlaceOf
  refine kd_bind (fun l=>?_) kd_stack
  split <;> trivial
theorem kd_newEntry (a b c d e:Value) (l:List Value):Kd (EntryCells.newEntry a b c d e l):=by
  unfold EntryCells.newEntry newFields newObj
  dsimp only
  have h:∀ dt,Kd (newObjAsIs (.type "traceback") dt):=fun dt=>by
    unfold newObjAsIs
    exact kd_bind (fun a=>kd_pure _) fun _=>trivial
  generalize (if l.isEmpty = true then List.replicate 6 Value.none else l) = m
  by_cases z:([a,b,c,d,e] ++ m).toArray.size > sizeLine + 2
  · rw [if_pos z]
    exact kd_bind (fun _=>h _) (kd_uns _)
  · rw [if_neg z]
    exact h _
theorem kd_note (e:Value) (env:Env):Kd (noteFrame e env):=by
  unfold noteFrame
  split
  · refine kd_bind (fun head=>?_) (kd_field e 1)
    have last:∀ f,Kd (do setField e 1 (← EntryCells.newEntry head (← PySem.frameOf env) .none (rawInt f) .none (← entryPlaceOf f (head != .none)))):=fun f=>
      kd_bind (fun a=>kd_bind (fun b=>kd_bind (fun c=>kd_setField _ _ _) (kd_newEntry _ _ _ _ _ _)) (kd_entry _ _)) (kd_frameOf env)
    split
    · refine kd_bind (fun x=>?_) (kd_field head 3)
      split
      · trivial
      · exact kd_bind (fun _=>last _) (kd_setField _ _ _)
    · exact last _
  · trivial
theorem kd_leaving (env:Env) (e:Value):Kd (leaving env e):=by
  unfold leaving
  exact kd_bind (fun _=>kd_setFlight e none) (kd_note e env)
end CtxK
namespace L2
open PySem PySem.Spec PyProof.Rows
structure UnB (fs:List Addr) (H H':Hp) (h B h':Heap):Prop where
  keep:∀ b o,h.get? b = some o→H b = none→b ∉ fs→B.get? b = some o
  slot:∀ b o,h.get? b = some o→H b = none→b ∈ fs→∃ sl,h'.get? b = some { o with slots:=sl }
  free:∀ b o,h.get? b = some o→H b = none→H' b = none
  there:∀ b o,h.get? b = some o→b ∉ fs→∃ o',B.get? b = some o'
  tups:∀ b xs,H b = some (.tup xs)→H' b = some (.tup xs)
  frzs:∀ b o u,H b = some (.frz o u)→H' b = some (.frz o u)
  tbls:∀ b ps,H b = some (.tbl ps)→∃ more,H' b = some (.tbl (ps ++ more))
def DictIs (h:Heap) (e:Addr) (dd:Option Addr):Prop:=∃ o,h.get? e = some o∧o.dict = dd
theorem DictIs.kept {h h':Heap} {e:Addr} {dd:Option Addr} (x:DictIs h e dd) (k:DictK.Kept h h'):DictIs h' e dd:=let ⟨o,a,b⟩:=x; let ⟨o',c,d⟩:=k e o a; ⟨o',c,d.trans b⟩
def CxN (h:Heap) (e:Addr):Prop:=∃ o,h.get? e = some o∧CtxK.cx2 o = some .none
theorem CxN.kept {h h':Heap} {e:Addr} (x:CxN h e) (k:CtxK.Kept h h'):CxN h' e:=let ⟨o,a,b⟩:=x; let ⟨o',c,d⟩:=k e o a; ⟨o',c,d.trans b⟩
def CX1 (P:Program) (w:World):CXT:=fun outer H s E e s'=>∃ (ea:Addr) (cls:Value) (t:Addr) (H':Hp) (B:Heap) (dd:Option Addr),e = .ref ea∧s'.os = s.os∧AllBare s'.gens∧
  Heap.FlyingW B outer ea cls (.ref t) s'.heap∧HOk P w H' B∧UnB (frs outer) H H' s.heap B s'.heap∧DictIs s'.heap ea dd∧(dd = none→CxN s'.heap ea)∧E cls dd H'
theorem frs_none {base h:Heap} {l:List Env} (f:h.FunFrames base l) {b:Addr} (hb:b ∈ frs l):base.get? b = none∧∃ o,h.get? b = some o∧∀ vs,o.data ≠ .fields vs:=f.mem hb
section
variable {P:Program} {w:World} {K:PySem.W.Frag} {mg:Str→Option Value} {base:Heap} {N:List Str} {qual:Str} {scope:Scope} {f:Addr} {cd:Value} {A:Around} {outer:List Env} {s:Shared} {H:Hp} {E:XK}
theorem made_def {pins:List (Addr × Obj)} {σ:St} {H2:Hp} {s2:Shared} {h':Heap} {e:Addr} {cls:Value} {vs:List Value} (I:Inv (cxOf (CX1 P w) P w K mg base N qual scope f cd A outer s H E) pins σ H2 s2)
    (hx:Heap.MadeExcOf s2.heap h' e cls vs) (q:E cls none H2):(cxOf (CX1 P w) P w K mg base N qual scope f cd A outer s H E).xe (.ref e) { s2 with heap:=h' }:=by
  generalize eF:frs (cxOf (CX1 P w) P w K mg base N qual scope f cd A outer s H E).stack = F
  have hin:∀ env ∈ (cxOf (CX1 P w) P w K mg base N qual scope f cd A outer s H E).stack,∀ b,env.frame = some b→b ∈ F:=fun env he b hb=>by rw [← eF]; exact List.mem_filterMap.mpr ⟨env,he,hb⟩
  have neL:∀ b o,s.heap.get? b = some o→b ≠ s.heap.objs.size:=fun b o e=>Nat.ne_of_lt (Heap.lt_size e)
  have nF:∀ b o,s.heap.get? b = some o→b ∉ frs outer→b ∉ F:=fun b o e hb z=>by
    rw [← eF] at z
    rcases List.mem_cons.mp (I.stkSub b z) with y | y
    · exact neL b o e y
    · exact hb y
  have gB:∀ b o,s2.heap.get? b = some o→b ∉ F→(PySem.W.hideAll s2.heap F).get? b = some o:=fun b o e hb=>PySem.W.hideAll_get _ e hb
  show wpAny _ _ (leaving _ (.ref e)) _ _ _
  refine wpAny_mono (CtxK.kd_any (CtxK.kd_leaving _ _) (DictK.kd_any (DictK.kd_leaving _ _) (wpAny_leaves_madeW (Q:=fun _ s3=>∃ h2 t,s3 = { s2 with heap:=h2 }∧Heap.FlyingW (PySem.W.hideAll s2.heap F) outer e cls (.ref t) h2∧h'.UpToSlots h2) (base:=PySem.W.hideAll s2.heap F) (h:=s2.heap) I.ok.frames rfl (fun b o q=>PySem.W.of_hideAll _ q) (PySem.W.funFrames_hide I.stack hin) hx fun h2 t hfl htup hn hsm=>⟨h2,t,rfl,hfl,hsm⟩))) (fun _ s3 q3=>?_) fun _ _ z=>z
  obtain ⟨⟨⟨h2,t,e3,hfl,hsm⟩,kp⟩,kc⟩:=q3
  subst e3
  obtain ⟨t9,at9,_,_⟩:=hx.there
  refine ⟨e,cls,t,H2,PySem.W.hideAll s2.heap F,none,rfl,I.os,I.bare,hfl,fun a o ea=>(I.hok a o ea).stay (fun b u hb eu=>gB b u eu fun z=>?_) (fun c q=>q) (fun c xs q=>q),⟨fun b o eb n hb=>?_,fun b o eb n hb=>?_,fun b o eb n=>?_,fun b o eb hb=>?_,I.base.tups,I.base.frzs,I.base.tbls⟩,DictIs.kept ⟨_,at9,rfl⟩ kp,fun _=>CxN.kept ⟨_,at9,rfl⟩ kc,q⟩
  · have hf:=I.stkFree b (by rw [eF]; exact z)
    rcases hb with rfl | hb
    · rw [hf] at ea; cases ea
    · rw [hf] at hb; cases hb
  · exact gB b o (I.base.keep b o eb n hb (List.not_mem_nil)) (nF b o eb hb)
  · obtain ⟨sl,e1⟩:=I.base.slot b o eb n hb (List.not_mem_nil)
    obtain ⟨_,o2,e2,d2⟩:=frs_none I.stack (List.mem_cons_of_mem _ hb:b ∈ s.heap.objs.size :: frs outer)
    rw [e1] at e2
    cases e2
    obtain ⟨sl',e3⟩:=hsm b _ (hx.keeps _ _ e1) d2
    exact ⟨sl',e3⟩
  · exact I.base.free b o eb n (List.not_mem_nil)
  · obtain ⟨o',e1⟩:=I.base.there b o eb (List.not_mem_nil)
    exact ⟨o',gB b o' e1 (nF b o eb hb)⟩
theorem pass_def:Passes (CX1 P w) (cxOf (CX1 P w) P w K mg base N qual scope f cd A outer s H E) E:=by
  rintro pins σ H1 s1 e s2 I ⟨ea,cls,t,H2,B,dd,rfl,hos,hg,hfl,hok,ub,dI,cI,q⟩
  have neL:∀ b o,s.heap.get? b = some o→b ≠ s.heap.objs.size:=fun b o e=>Nat.ne_of_lt (Heap.lt_size e)
  have nF:∀ b o,s.heap.get? b = some o→b ∉ frs outer→b ∉ frs (cxOf (CX1 P w) P w K mg base N qual scope f cd A outer s H E).stack:=fun b o e hb z=>by
    rcases List.mem_cons.mp (I.stkSub b z) with y | y
    · exact neL b o e y
    · exact hb y
  have yF:∀ b,b ∈ frs outer→b ∈ frs (cxOf (CX1 P w) P w K mg base N qual scope f cd A outer s H E).stack:=fun b hb=>(List.mem_cons_of_mem _ hb:b ∈ s.heap.objs.size :: frs outer)
  show wpAny _ _ (leaving _ (.ref ea)) _ _ _
  refine wpAny_mono (CtxK.kd_any (CtxK.kd_leaving _ _) (DictK.kd_any (DictK.kd_leaving _ _) (wpAny_leaves_onW (Q:=fun _ s3=>∃ h3,s3 = { s2 with heap:=h3 }∧Heap.FlyingW B outer ea cls (.ref t) h3∧s2.heap.UpToSlots h3) I.ok.frames rfl hfl fun h3 hfl3 hsm=>⟨h3,rfl,hfl3,hsm⟩))) (fun _ s3 q3=>?_) fun _ _ z=>z
  obtain ⟨⟨⟨h3,e3,hfl3,hsm⟩,kp⟩,kc⟩:=q3
  subst e3
  refine ⟨ea,cls,t,H2,B,dd,rfl,hos.trans I.os,hg,hfl3,hok,⟨fun b o eb n hb=>?_,fun b o eb n hb=>?_,fun b o eb n=>?_,fun b o eb hb=>?_,fun b xs e=>ub.tups b xs (I.base.tups b xs e),fun b o u e=>ub.frzs b o u (I.base.frzs b o u e),fun b ps e=>?_⟩,dI.kept kp,fun z=>(cI z).kept kc,q⟩
  · exact ub.keep b o (I.base.keep b o eb n hb (List.not_mem_nil)) (I.base.free b o eb n (List.not_mem_nil)) (nF b o eb hb)
  · obtain ⟨sl,e1⟩:=I.base.slot b o eb n hb (List.not_mem_nil)
    obtain ⟨sl',e2⟩:=ub.slot b _ e1 (I.base.free b o eb n (List.not_mem_nil)) (yF b hb)
    obtain ⟨_,o2,e3,d3⟩:=frs_none hfl.2.2.1 (yF b hb)
    rw [e2] at e3
    cases e3
    obtain ⟨sl2,e4⟩:=hsm b _ e2 d3
    exact ⟨sl2,e4⟩
  · obtain ⟨o',e1⟩:=I.base.there b o eb (List.not_mem_nil)
    exact ub.free b o' e1 (I.base.free b o eb n (List.not_mem_nil))
  · obtain ⟨o',e1⟩:=I.base.there b o eb (List.not_mem_nil)
    exact ub.there b o' e1 (nF b o eb hb)
  · obtain ⟨m1,e1⟩:=I.base.tbls b ps e
    obtain ⟨m2,e2⟩:=ub.tbls b _ e1
    exact ⟨m1 ++ m2,by rw [e2,Array.append_assoc]⟩
end
theorem exc_obj {K:PySem.W.Frag} {h:Heap} {C:Addr} {bmB:List Value} {newId:String} (X:K.In h) (q:PySem.W.excIn K C bmB newId = true) :
    ∃ bm N nm qn bs hdct sn sub ab col dd k0 k1 k2 k3 k5 mN,h.get? C = some (excClassObj nm qn C N bs bm hdct sn sub ab col dd k0 k1 k2 k3 k5 newId)∧h.Ns N mN∧mN "__init__" = none∧OwnTail h bmB bm:=by
  unfold PySem.W.excIn at q
  split at q
  next dd cd sl look=>
    split at q
    next C1 tl a0 a1 a2 a3 nid a5 e1 e2=>
      simp only [Bool.and_eq_true,beq_iff_eq,Bool.not_eq_true'] at q
      obtain ⟨⟨⟨⟨⟨q1,q2⟩,q3⟩,q4⟩,q5⟩,q6⟩:=q
      subst q1 q2
      cases cd
      dsimp only at e1 q3 q5 q6
      subst e1 q3
      have e3:sl = #[a0,a1,a2,a3,some (.builtin nid),a5]:=by
        cases sl
        dsimp only at e2
        rw [e2]
      subst e3
      exact ⟨tl,_,_,_,_,_,_,_,_,_,_,_,_,_,_,_,_,X _ _ look,.of_isNs (PySem.W.isNs_of_in X q5),PySem.W.nsMap_none_of_in X q5 q6,PySem.W.tail_of_in X q4⟩
    next=>cases q
  next=>cases q
def tRaise (cls:Value) (E:XK) (ta:TA):TS:=fun _ σ H=>ta σ H fun vs H1=>vs.length ≤ 8∧E cls none H1
section
variable {X:Cx}
theorem ps_raise {x:Str} {e:Expr} {es:List Expr} {ta:TA} {C:Addr} {B newId initId:String} {bmB:List Value} {E:XK} {np cpos pos:Pos} (FB:ExcBaseFacts B newId initId bmB) (hC:PySem.W.excIn X.K C bmB newId = true)
    (hg:Gl X x) (hm:X.mg x = some (.ref C)) (hc:X.calm = true) (ha:PA X (e :: es) ta)
    (hx:∀ (pins:List (Addr × Obj)) (σ:St) (H2:Hp) (s2:Shared) (h':Heap) (ea:Addr) (vs:List Value),Inv X pins σ H2 s2→Heap.MadeExcOf s2.heap h' ea (.ref C) vs→E (.ref C) none H2→X.xe (.ref ea) { s2 with heap:=h' })
    (hdb:(x == ("__debug__":Str)) = false) (he:starEach (e :: es) X.env = (false,eval e X.env) :: starEach es X.env) (hpl:(backTo cpos (starEach es X.env)).any (·.1) = false) :
    PS X (.Raise (some (.Call (.Name x np) (e :: es) [] cpos)) none pos) (tRaise (.ref C) E ta):=by
  intro pins s σ H D I h
  obtain ⟨bm,N,nm,qn,bs,hdct,sn,sub,ab,col,dd,k0,k1,k2,k3,k5,mN,hO,hN,hni,TL⟩:=exc_obj I.mod.kin hC
  refine wpAny_Raise_call_subT (C:=C) (nm:=nm) (q:=qn) (N:=N) (bs:=bs) (bm:=bm) (hdct:=hdct) (sn:=sn) (sub:=sub) (ab:=ab) (col:=col) (dd:=dd) (k0:=k0) (k1:=k1) (k2:=k2) (k3:=k3) (k5:=k5)
    FB (mN:=mN) (TL.hasType FB.hasBase) (I.ok.hd hc) (by rw [he]; show (false || (backTo cpos (starEach es X.env)).any (·.1)) = false; rw [hpl]; rfl) hni (ld_glob I hg hm ⟨rfl,?_⟩ hdb)
  have hA:=ha cpos pins s σ H _ I h
  rw [he] at hA ⊢
  refine Calls.evalArgs_plain (thn hA fun us s2 ⟨vs,H2,I2,r2,hz,q2⟩=>⟨rfl,?_,I2.bk _ _ hO,hN.keeps I2.bk,TL.keeps I2.bk,fun h' ea hmade=>hx pins σ H2 s2 h' ea us I2 hmade q2⟩)
  show us.length ≤ sizeLine
  rw [← r2.length]
  exact Nat.le_trans hz (by decide)
end
theorem exc_mro {K:PySem.W.Frag} {h:Heap} {C:Addr} {bmB:List Value} {newId:String} (X:K.In h) (q:PySem.W.excIn K C bmB newId = true) :
    ∃ bm N nm qn bs hdct sn sub ab col dd k0 k1 k2 k3 k5,h.get? C = some (excClassObj nm qn C N bs bm hdct sn sub ab col dd k0 k1 k2 k3 k5 newId)∧OwnTail h bmB bm∧∀ v r,PySem.W.mroIn K C v = some r→(Value.ref C :: bm).contains v = r:=by
  obtain ⟨bm,N,nm,qn,bs,hdct,sn,sub,ab,col,dd,k0,k1,k2,k3,k5,mN,hO,hN,hni,TL⟩:=exc_obj X q
  refine ⟨bm,N,nm,qn,bs,hdct,sn,sub,ab,col,dd,k0,k1,k2,k3,k5,hO,TL,fun v r e=>?_⟩
  unfold PySem.W.mroIn PySem.W.clsIn at e
  split at e
  next c d cd sl look=>
    have e2:=X _ _ look
    rw [hO] at e2
    cases e2
    simpa using e
  next=>cases e
theorem matches_own {M:Model} {A:Around} {E:Value→Shared→Prop} {h:Heap} {g:Array GenState} {d:Drawn} {t:Nat} {os:OsState} {e C D:Addr} {oe:Obj} {Q:Bool→Shared→Prop}
    {nm q nm' q':Str} {N N':Addr} {bs bm bs' bm':List Value} {hdct hdct':Bool} {sn sn':List Str} {sub sub':List Value} {ab ab':Bool} {col col':Option Bool} {dd dd':Option Addr} {k0 k1 k2 k3 k5 l0 l1 l2 l3 l5:Option Value} {newId newId':String}
    (hC:h.get? C = some (excClassObj nm q C N bs bm hdct sn sub ab col dd k0 k1 k2 k3 k5 newId)) (hD:h.get? D = some (excClassObj nm' q' D N' bs' bm' hdct' sn' sub' ab' col' dd' l0 l1 l2 l3 l5 newId')) (he:h.get? e = some oe) (hcls:oe.cls = .ref C)
    (hbase:bm'.contains (.type "BaseException") = true) (hs:(Value.ref C :: bm).contains (.ref D) = true) (hq:Q true ⟨h,g,d,t,os⟩):wpAny M A (excMatches (.ref e) (.ref D)) Q E ⟨h,g,d,t,os⟩:=by
  have hcB:(Value.ref D :: bm').contains (.type "BaseException") = true:=by rw [List.contains_cons,hbase,Bool.or_true]
  have nt:=tc_notTuple
  unfold excMatches
  repeat (first | (with_reducible refine wpAny_loadPart_at he ?_; rw [hcls]) | with_reducible refine wpAny_loadPart_at hD ?_ | (with_reducible refine wpAny_isSubtype_exc hD ?_; rw [hcB]) | (with_reducible refine wpAny_isSubtype_exc hC ?_; rw [hs]) | wp_step)
  exact hq
structure ExcSub (K:PySem.W.Frag) (C D:Addr):Prop where
  c:∃ bmB newId,PySem.W.excIn K C bmB newId = true
  d:∃ bmB newId,PySem.W.excIn K D bmB newId = true∧bmB.contains (.type "BaseException") = true
  s:PySem.W.mroIn K C (.ref D) = some true
def PassesX (X:Cx) (Φ:St→XK→Prop):Prop:=∀ (pins:List (Addr × Obj)) (σ:St) (H:Hp) (s:Shared) (E:XK) (e:Value) (s':Shared),Inv X pins σ H s→Φ σ E→CX1 X.prog X.w X.stack H s E e s'→X.xe e s'
def tCallX (sp:Sp) (Φ:St→XK→Prop) (t:TA):TE:=fun σ H Q=>t σ H fun vs H1=>∃ E,Φ σ E∧sp vs H1 Q E
section
variable {X:Cx} {e:Expr} {es:List Expr} {t:TA} {x:Str} {p pos:Pos}
theorem pe_callX {Φ:St→XK→Prop} {k:Nat} {f:Addr} {fd:FuncData} {ps:List Str} {sp:Sp} (F:FnOk X.prog X.w X.K X.mg X.base (CX1 X.prog X.w) k f fd ps sp) (hr:Room k X.A) (hg:Gl X x) (hm:X.mg x = some (.ref f)) (hk:PySem.W.keepIn X.K (.ref f) = true) (hb:Binds X.K fd ps []) (hx:PassesX X Φ)
    (ha:PA X (e :: es) t) (hdb:(x == ("__debug__":Str)) = false) (he:starEach (e :: es) X.env = (false,eval e X.env) :: starEach es X.env) (hpl:(backTo pos (starEach es X.env)).any (·.1) = false) :
    PE X (.Call (.Name x p) (e :: es) [] pos) (tCallX sp Φ t):=by
  intro pins s σ H Q I h
  refine wpAny_Call_Name_kw (ld_glob I hg hm ?_ hdb)
  refine PySem.W.callWith_K (h₀:=X.base) I.ok.mod.kin hk (thn (ha pos pins s σ H _ I h) fun us s1 ⟨vs,H1,I1,r,q⟩=>⟨I1.kIn,?_⟩) he hpl
  obtain ⟨E,hΦ,q⟩:=q
  have hl:us.length = ps.length:=by rw [← r.length]; exact F.len _ _ _ _ q
  have hb2:=hb s1 us I1.kIn (by rw [List.append_nil]; exact hl)
  rw [List.append_nil] at hb2
  refine wpAny_call (codeAny_mono (F.run X.A X.stack s1 H1 ⟨us,[]⟩ us vs Q E hr I1.env0 hb2 r q) fun r s' hq=>?_)
  cases r with
  | error e=>exact hx pins σ H1 s1 E e s' I1 hΦ hq
  | ok fl=>
    cases fl with
    | ret u=>exact I1.after hq
    | next=>exact False.elim hq
    | brk=>exact False.elim hq
    | cont=>exact False.elim hq
end
theorem HOk.untracked {P:Program} {w:World} {H:Hp} {B:Heap} {a:Addr} (hok:HOk P w H B) (hno:B.get? a = none):H a = none:=by
  cases e2:H a with
  | none=>rfl
  | some o=>
    have hlt:=hok a o e2
    exfalso
    cases o with
    | lst xs=>obtain ⟨_,_,_,_,z⟩:=hlt; rw [hno] at z; cases z
    | tup xs=>obtain ⟨_,_,_,z⟩:=hlt; obtain ⟨_,z,_⟩:=z; rw [hno] at z; cases z
    | dK kvs=>obtain ⟨_,_,_,_,_,_,_,z,_⟩:=hlt; rw [hno] at z; cases z
    | dT kvs=>obtain ⟨_,_,_,_,_,_,_,z,_⟩:=hlt; rw [hno] at z; cases z
    | set S n=>obtain ⟨_,_,_,_,z,_⟩:=hlt; rw [hno] at z; cases z
    | ins C dx fs=>obtain ⟨_,_,_,z,_⟩:=hlt; rw [hno] at z; cases z
    | own y=>obtain ⟨_,z⟩:=hlt; rw [hno] at z; cases z
    | xd fs=>obtain ⟨_,⟨_,_,_,z,_⟩,_⟩:=hlt; rw [hno] at z; cases z
    | rng lo hi=>obtain ⟨_,_,_,z⟩:=hlt; rw [hno] at z; cases z
    | frz ob u=>obtain ⟨z,_⟩:=hlt; rw [hno] at z; cases z
    | tbl ps=>have z:B.get? a = some _:=hlt; rw [hno] at z; cases z
    | met f y=>have z:B.get? a = some _:=hlt; rw [hno] at z; cases z
    | ext φ=>obtain ⟨_,⟨_,z⟩,_⟩:=hlt; rw [hno] at z; cases z
abbrev Cx.hand (X:Cx) (ea:Addr):Cx:={ X with A:=X.A.mark (some (.ref ea)),calm:=false,xe:=fun _ _=>False }
abbrev Cx.tried (X:Cx) (xe:Value→Shared→Prop) (pn:List (Addr × Obj)):Cx:={ X with xe:=xe,pn:=pn }
section
variable {X:Cx} {pins:List (Addr × Obj)} {σ:St} {H:Hp} {s:Shared}
theorem Inv.hand (I:Inv X pins σ H s) (ea:Addr):Inv (X.hand ea) pins σ H s:=
  ⟨⟨I.ok.mod,I.ok.kind,I.ok.glob,I.ok.blt,I.ok.above,I.ok.inj,I.ok.has,I.ok.cab,fun h=>(nomatch (show false = true from h)),I.ok.frames,I.ok.stk,I.ok.exf,I.ok.bs,I.ok.bsz,I.ok.noex,I.ok.exfs,I.ok.funs,I.ok.frf⟩,I.os,I.bare,I.base,I.loc,I.cell,I.free,I.freeC,I.pin,I.hok,I.len⟩
theorem Inv.unhand {ea:Addr} (ok:X.Ok) (I:Inv (X.hand ea) pins σ H s):Inv X pins σ H s:=⟨ok,I.os,I.bare,I.base,I.loc,I.cell,I.free,I.freeC,I.pin,I.hok,I.len⟩
theorem Inv.tried (I:Inv X pins σ H s) (xe:Value→Shared→Prop):Inv (X.tried xe (X.pn ++ pins)) [] σ H s:=
  ⟨⟨I.ok.mod,I.ok.kind,I.ok.glob,I.ok.blt,I.ok.above,I.ok.inj,I.ok.has,I.ok.cab,I.ok.hd,I.ok.frames,I.ok.stk,I.ok.exf,I.ok.bs,I.ok.bsz,I.ok.noex,I.ok.exfs,I.ok.funs,I.ok.frf⟩,I.os,I.bare,I.base,I.loc,I.cell,I.free,I.freeC,fun p hp=>I.pin p (by simpa using hp),I.hok,I.len⟩
theorem Inv.untried {xe:Value→Shared→Prop} {pins':List (Addr × Obj)} (ok:X.Ok) (I:Inv (X.tried xe (X.pn ++ pins)) pins' σ H s):Inv X pins σ H s:=
  ⟨ok,I.os,I.bare,I.base,I.loc,I.cell,I.free,I.freeC,fun p hp=>I.pin p (List.mem_append_left _ hp),I.hok,I.len⟩
theorem landed_inv {e:Addr} {cls a0:Value} {H':Hp} {B h6:Heap} {s':Shared} (I:Inv X pins σ H s) (hos:s'.os = s.os) (hg:AllBare s'.gens) (hok:HOk X.prog X.w H' B) (ub:UnB (frs X.stack) H H' s.heap B s'.heap)
    (hfl0:Heap.FlyingW B X.stack e cls a0 s'.heap) (hfl:Heap.FlyingW B X.stack e cls a0 h6) (hsm:s'.heap.UpToSlots h6):Inv X pins σ H' { s' with heap:=h6 }:=by
  refine I.call' (s':={ s' with heap:=h6 }) (ch:=[]) hos ⟨fun b o eb n hb _=>hfl.1 _ _ (ub.keep b o eb n hb),fun b o eb n hb _=>?_,fun b o eb n _=>ub.free b o eb n,fun b o eb _=>?_,ub.tups,ub.frzs,ub.tbls⟩ (hok.kept fun b u e=>hfl.1 b u e) hg (fun b hb=>absurd hb List.not_mem_nil)
  · obtain ⟨sl,e1⟩:=ub.slot b o eb n hb
    obtain ⟨_,o2,e3,d3⟩:=frs_none hfl0.2.2.1 hb
    rw [e1] at e3
    cases e3
    obtain ⟨sl2,e4⟩:=hsm b _ e1 d3
    exact ⟨sl2,e4⟩
  · by_cases hb:b ∈ frs X.stack
    · obtain ⟨_,o2,e3,_⟩:=frs_none hfl.2.2.1 hb
      exact ⟨o2,e3⟩
    · obtain ⟨o',e1⟩:=ub.there b o eb hb
      exact ⟨o',hfl.1 _ _ e1⟩
theorem caught_by {x:Str} {D e:Addr} {a0:Value} {b₀:Stmt} {suite:List Stmt} {name:Option Str} {np hpos:Pos} {H':Hp} {B:Heap} {s':Shared} {C:Addr} {Q:Flow→Shared→Prop} {E:Value→Shared→Prop}
    (hg:Gl X x) (hm:X.mg x = some (.ref D)) (hdb:(x == ("__debug__":Str)) = false) (hst:X.stack = X.env :: X.outer) (hfr:X.env.frame = some X.env.locals)
    (I:Inv X pins σ H s) (hos:s'.os = s.os) (hgen:AllBare s'.gens) (hok:HOk X.prog X.w H' B) (ub:UnB (frs X.stack) H H' s.heap B s'.heap) (hfl:Heap.FlyingW B X.stack e (.ref C) a0 s'.heap) (hs:ExcSub X.K C D)
    (k:∀ h6,Heap.FlyingW B X.stack e (.ref C) a0 h6→s'.heap.UpToSlots h6→DictK.Kept s'.heap h6→CtxK.Kept s'.heap h6→
      codeAny (model X.prog X.w) (X.A.mark (some (.ref e))) (.handlers (.ref e) [.ExceptHandler none name (b₀ :: suite) hpos] X.env) (fun r s₂=>match r with
          | .ok f=>(match name with
            | none=>Q f s₂
            | some n=>wpAny (model X.prog X.w) X.A (do bindName X.env n .none; unbindBehindTheSuite X.env n hpos) (fun _ s₃=>Q f s₃) E s₂)
          | .error x=>cameBackBy (model X.prog X.w) X.A X.env E x s₂) { s' with heap:=h6 }) :
    wpAny (model X.prog X.w) X.A (noteFrame (.ref e) X.env) (fun _ s₂=>wpAny (model X.prog X.w) X.A (setFlight (.ref e) none) (fun _ s₃=>
      wpAny (model X.prog X.w) X.A (handleBy (.ref e) X.env [.ExceptHandler (some (.Name x np)) name (b₀ :: suite) hpos]) Q E s₃) E s₂) E s':=by
  have hfl':=hfl
  rw [hst] at hfl'
  refine wpAny_mono (CtxK.kd_any (CtxK.kd_note _ _) (DictK.kd_any (DictK.kd_note _ _) (wpAny_looks_onW (Q:=fun _ s4=>∃ h4,s4 = { s' with heap:=h4 }∧Heap.HeldW B (X.env :: X.outer) e (.ref C) a0 X.env.locals h4∧s'.heap.UpToSlots h4) (L:=X.env.locals) (by rw [I.ok.frames,hst]) hfr hfl' fun h4 hh4 sm4=>⟨h4,rfl,hh4,sm4⟩))) (fun _ s4 q4=>?_) fun _ _ z=>z
  obtain ⟨⟨⟨h4,e4,hh4,sm4⟩,kp4⟩,kc4⟩:=q4
  subst e4
  refine wpAny_mono (CtxK.kd_any (CtxK.kd_setFlight _ _) (DictK.kd_any (DictK.kd_setFlight _ _) (wpAny_landsW (Q:=fun _ s5=>∃ h5,s5 = { s' with heap:=h5 }∧Heap.FlyingW B (X.env :: X.outer) e (.ref C) a0 h5∧h4.UpToSlots h5) hh4 fun h5 hf5 sm5=>⟨h5,rfl,hf5,sm5⟩))) (fun _ s5 q5=>?_) fun _ _ z=>z
  obtain ⟨⟨⟨h5,e5,hf5,sm5⟩,kp5⟩,kc5⟩:=q5
  subst e5
  have hf5':=hf5
  rw [← hst] at hf5'
  have I5:=landed_inv I hos hgen hok ub hfl hf5' (sm4.trans sm5)
  refine wpAny_handleBy_cons (codeAny_handlers_test ?_) (by intro z; cases z)
  have I5h:=I5.hand e
  refine ld_glob I5h hg hm ?_ hdb
  obtain ⟨⟨bmB,nid,c1⟩,⟨bmD,nid',c2,c3⟩,c4⟩:=hs
  obtain ⟨bm,N,nm,qn,bs,hdct,sn,sub,ab,col,dd,k0,k1,k2,k3,k5,oC,TC,mC⟩:=exc_mro I5.kIn c1
  obtain ⟨bm',N',nm',qn',bs',hdct',sn',sub',ab',col',dd',l0,l1,l2,l3,l5,oD,TD,mD⟩:=exc_mro I5.kIn c2
  obtain ⟨ob,hob,hobc⟩:=hf5.there
  obtain ⟨hp,gn,dr,tk,os⟩:=s'
  refine matches_own oC oD hob hobc (TD.hasType c3) (mC _ _ c4) ?_
  exact k h5 hf5' (sm4.trans sm5) (kp4.trans kp5) (kc4.trans kc5)
end
mutual
inductive Dat (K:PySem.W.Frag) (H:Hp):V→PyData→Prop where
  | non:Dat K H .non .none
  | bl (b:Bool):Dat K H (.bl b) (.bool b)
  | int (i:Int):Dat K H (.int i) (.int i)
  | str (x:Str):Dat K H (.str x) (.str x)
  | lst {a:Addr} {xs:List V} {ds:List PyData} (h:SqL K H a xs) (t:DatAll K H xs ds):Dat K H (.ref a) (.list ds)
  | tup {a:Addr} {xs:List V} {ds:List PyData} (h:SqT K H a xs) (t:DatAll K H xs ds):Dat K H (.ref a) (.tuple ds)
inductive DatAll (K:PySem.W.Frag) (H:Hp):List V→List PyData→Prop where
  | nil:DatAll K H [] []
  | cons {x:V} {xs:List V} {d:PyData} {ds:List PyData} (h:Dat K H x d) (t:DatAll K H xs ds):DatAll K H (x :: xs) (d :: ds)
end
section
variable {X:Cx} {pins:List (Addr × Obj)} {σ:St} {H:Hp} {s:Shared}
mutual
theorem Inv.dat (I:Inv X pins σ H s):∀ {x:V} {d:PyData} {u:Value},Dat X.K H x d→RelV x u→∃ as,Reads s.heap u d as
  | _,_,_,.non,r=>by cases (show _ = Value.none from r); exact ⟨_,.none⟩
  | _,_,_,.bl b,r=>by cases (show _ = Value.bool b from r); exact ⟨_,.bool b⟩
  | _,_,_,.int i,r=>by obtain ⟨t,rfl⟩:=(show ∃ t,_ = Value.int i t from r); exact ⟨_,.int i t⟩
  | _,_,_,.str x,r=>by obtain ⟨t,rfl⟩:=(show ∃ t,_ = Value.str x t from r); exact ⟨_,.str x t⟩
  | _,_,_,.lst (a:=a) h t,r=>by
    cases (show _ = Value.ref a from r)
    obtain ⟨its,rv,⟨o,n,e,c,_,d⟩,_⟩:=I.list h
    obtain ⟨as,z⟩:=Inv.datAll I t rv
    exact ⟨_,.list e c d (by simpa using z)⟩
  | _,_,_,.tup (a:=a) h t,r=>by
    cases (show _ = Value.ref a from r)
    obtain ⟨its,rv,⟨o,e,c,n,d⟩,_⟩:=I.tuple h
    obtain ⟨as,z⟩:=Inv.datAll I t rv
    exact ⟨_,.tuple e c d (by simpa using z)⟩
theorem Inv.datAll (I:Inv X pins σ H s):∀ {xs:List V} {ds:List PyData} {us:List Value},DatAll X.K H xs ds→Vals xs us→∃ as,ReadsAll s.heap us ds as
  | _,_,_,.nil,.nil=>⟨_,.nil⟩
  | _,_,_,.cons h t,.cons r rr=>by
    obtain ⟨as,z⟩:=Inv.dat I h r
    obtain ⟨bs,z'⟩:=Inv.datAll I t rr
    exact ⟨_,.cons z z'⟩
end
end
abbrev rEqD (K:PySem.W.Frag):R2:=fun x y H Q=>∃ da db,Dat K H x da∧Dat K H y db∧SeqAt.shaped da = true∧SeqAt.shaped db = true∧Q (.bl (PyData.eqv da db)) H
abbrev rNeD (K:PySem.W.Frag):R2:=fun x y H Q=>∃ da db,Dat K H x da∧Dat K H y db∧SeqAt.shaped da = true∧SeqAt.shaped db = true∧Q (.bl (!PyData.eqv da db)) H
section
variable {X:Cx}
theorem op_eqD (hu:X.A.units + 64 < cLine):OpR X (compareOp .Eq) (rEqD X.K):=by
  intro pins s σ H x y v u Q I rx ry h
  obtain ⟨da,db,h1,h2,s1,s2,q⟩:=h
  obtain ⟨as,z1⟩:=I.dat h1 rx
  obtain ⟨bs,z2⟩:=I.dat h2 ry
  exact eq_dataH z1 z2 s1 s2 hu ⟨.bl _,H,I,rfl,q⟩
theorem op_neD (hu:X.A.units + 64 < cLine):OpR X (compareOp .NotEq) (rNeD X.K):=by
  intro pins s σ H x y v u Q I rx ry h
  obtain ⟨da,db,h1,h2,s1,s2,q⟩:=h
  obtain ⟨as,z1⟩:=I.dat h1 rx
  obtain ⟨bs,z2⟩:=I.dat h2 ry
  exact ne_dataH z1 z2 s1 s2 hu ⟨.bl _,H,I,rfl,q⟩
end
theorem PS.nox {X:Cx} {st:Stmt} {t:TS} (h:PS X.nox st t):PS X st t:=fun pins s σ H D I hw=>
  wpAny_mono (h pins s σ H D (I.wish _) hw) (fun _ _ q=>q.unwish) fun _ _ z=>z.elim
section
variable {X:Cx} {e:Expr} {es:List Expr} {t:TA} {x:Str} {p pos np cpos hpos:Pos}
theorem ks_nox {st:Stmt} {t:TS} (h:QS X.nox st t):QS X st t:=⟨PS.nox h.p⟩
theorem ke_callX {Φ:St→XK→Prop} {k:Nat} {f:Addr} {fd:FuncData} {ps:List Str} {sp:Sp} (F:FnOk X.prog X.w X.K X.mg X.base (CX1 X.prog X.w) k f fd ps sp) (hr:Room k X.A) (hm:X.mg x = some (.ref f)) (hk:PySem.W.keepIn X.K (.ref f) = true) (hb:Binds X.K fd ps []) (hx:PassesX X Φ)
    (ha:QA X (e :: es) t) (hg:X.env.kindOf x = some .globalImplicit:=by kernel_rfl) (hdb:(x == ("__debug__":Str)) = false:=by kernel_rfl) (he:starEach (e :: es) X.env = (false,eval e X.env) :: starEach es X.env:=by kernel_rfl) (hpl:(backTo pos (starEach es X.env)).any (·.1) = false:=by kernel_rfl) :
    QE X (.Call (.Name x p) (e :: es) [] pos) (tCallX sp Φ t):=⟨pe_callX F hr hg hm hk hb hx ha.p hdb he hpl⟩
theorem ks_raise {C:Addr} {B newId initId:String} {bmB:List Value} {E:XK} (FB:ExcBaseFacts B newId initId bmB) (hC:PySem.W.excIn X.K C bmB newId = true) (hm:X.mg x = some (.ref C)) (ha:QA X (e :: es) t)
    (hx:∀ (pins:List (Addr × Obj)) (σ:St) (H2:Hp) (s2:Shared) (h':Heap) (ea:Addr) (vs:List Value),Inv X pins σ H2 s2→Heap.MadeExcOf s2.heap h' ea (.ref C) vs→E (.ref C) none H2→X.xe (.ref ea) { s2 with heap:=h' })
    (hg:X.env.kindOf x = some .globalImplicit:=by kernel_rfl) (hc:X.calm = true:=by kernel_rfl)
    (hdb:(x == ("__debug__":Str)) = false:=by kernel_rfl) (he:starEach (e :: es) X.env = (false,eval e X.env) :: starEach es X.env:=by kernel_rfl) (hpl:(backTo cpos (starEach es X.env)).any (·.1) = false:=by kernel_rfl) :
    QS X (.Raise (some (.Call (.Name x np) (e :: es) [] cpos)) none pos) (tRaise (.ref C) E t):=⟨ps_raise FB hC hg hm hc ha.p hx hdb he hpl⟩
end
theorem Fun.okX {P:Program} {w:World} {K:PySem.W.Frag} {mg:Str→Option Value} {base:Heap} {x qual:Str} {st:Stmt} {f:Addr} {fd:FuncData} {N ps:List Str} {k:Nat} {sp:Sp} (F:Fun K x qual st f fd) (S:FnScope N ps (defScope st)) {rd:XK→TS} (len:∀ vs H Q E,sp vs H Q E→vs.length = ps.length)
    (hb:∀ (cdv:Value) (A:Around) (outer:List Env) (s:Shared) (H:Hp) (E:XK),Room k (A.deeper (envOfC qual (defScope st) s.heap.objs.size f cdv))→QSs (cxOf (CX1 P w) P w K mg base N qual (defScope st) f cdv A outer s H E) (defBody st) (rd E))
    (hq:∀ (vs:List V) (H:Hp) (Q:VK) (E:XK),sp vs H Q E→rd E { nx:=fun _ H'=>Q .non H',rt:=Q } (start N vs) H):FnOk P w K mg base (CX1 P w) (k + 1) f fd ps sp:=by
  obtain ⟨oc,od,kV,doc,pm,an,cdv,ct,osl,rfl,lk,hcd⟩:=F.ex
  exact fn_of lk hcd S len fun A outer s H vs Q E hr hsp=>⟨rd E,(hb cdv A outer s H E hr).p,hq vs H Q E hsp⟩
end L2
namespace L2
open PySem PySem.Spec PyProof.Rows PySem.Builtin.Str
def excO (ea C:Addr):HO:=.ext fun h=>∃ o,h.get? ea = some o∧o.cls = .ref C
section
variable {X:Cx} {pins:List (Addr × Obj)} {σ:St} {H:Hp} {s:Shared}
theorem landed_invE {e C:Addr} {a0:Value} {H':Hp} {B h6:Heap} {s':Shared} (I:Inv X pins σ H s) (hos:s'.os = s.os) (hg:AllBare s'.gens) (hok:HOk X.prog X.w H' B) (ub:UnB (frs X.stack) H H' s.heap B s'.heap)
    (hfl0:Heap.FlyingW B X.stack e (.ref C) a0 s'.heap) (hfl:Heap.FlyingW B X.stack e (.ref C) a0 h6) (hsm:s'.heap.UpToSlots h6):Inv X pins σ (upd H' e (excO e C)) { s' with heap:=h6 }:=by
  have hn:=hok.untracked hfl.2.1
  have ne:∀ b o,s.heap.get? b = some o→b ≠ e:=fun b o eb z=>by
    subst z
    by_cases hb:b ∈ frs X.stack
    · obtain ⟨_,o2,e3,d3⟩:=frs_none hfl.2.2.1 hb
      obtain ⟨oe,vs,e4,_,d4,_⟩:=hfl.first
      rw [e3] at e4
      cases e4
      exact d3 _ d4
    · obtain ⟨o',e1⟩:=ub.there b o eb hb
      rw [hfl.2.1] at e1; cases e1
  refine I.call' (s':={ s' with heap:=h6 }) (ch:=[]) hos ⟨fun b o eb n hb _=>hfl.1 _ _ (ub.keep b o eb n hb),fun b o eb n hb _=>?_,fun b o eb n _=>by rw [upd_ne (ne b o eb)]; exact ub.free b o eb n,fun b o eb _=>?_,fun b xs q=>?_,fun b o u q=>?_,fun b ps q=>?_⟩ (fun b o eb=>?_) hg (fun b hb=>absurd hb List.not_mem_nil)
  · obtain ⟨sl,e1⟩:=ub.slot b o eb n hb
    obtain ⟨_,o2,e3,d3⟩:=frs_none hfl0.2.2.1 hb
    rw [e1] at e3
    cases e3
    obtain ⟨sl2,e4⟩:=hsm b _ e1 d3
    exact ⟨sl2,e4⟩
  · by_cases hb:b ∈ frs X.stack
    · obtain ⟨_,o2,e3,_⟩:=frs_none hfl.2.2.1 hb
      exact ⟨o2,e3⟩
    · obtain ⟨o',e1⟩:=ub.there b o eb hb
      exact ⟨o',hfl.1 _ _ e1⟩
  · have q2:=ub.tups b xs q
    rw [upd_ne (ne_of_none q2 hn)]; exact q2
  · have q2:=ub.frzs b o u q
    rw [upd_ne (ne_of_none q2 hn)]; exact q2
  · obtain ⟨more,q2⟩:=ub.tbls b ps q
    exact ⟨more,by rw [upd_ne (ne_of_none q2 hn)]; exact q2⟩
  · by_cases hb:b = e
    · subst hb
      rw [upd_same] at eb
      cases eb
      obtain ⟨oe,vs,e4,c4,d4,_⟩:=hfl.first
      exact ⟨⟨oe,e4,c4⟩,⟨oe,e4⟩,fun h1 h2 ⟨o,q1,q2⟩ k=>⟨o,k o q1,q2⟩⟩
    · rw [upd_ne hb] at eb
      refine (hok b o eb).stay (fun c v _ q=>hfl.1 c v q) (fun c q=>by rw [upd_ne (ne_of_none q hn)]; exact q) fun c xs q=>by rw [upd_ne (ne_of_none q hn)]; exact q
theorem Inv.gone {i:Nat} {n:Str} {h':Heap} {v:Option Value} {m:Str→Option Value} {tk:Nat} (I:Inv X pins σ H s) (hN:X.N.Nodup) (hi:X.N[i]? = some n) (hn:s.heap.Ns X.env.locals m)
    (hl:∀ (j:Nat) (x:Str) (w:V),X.N[j]? = some x→σ[j]? = some (some w)→Vis X.env.scope x→∃ u,RelV w u∧Look X.env s.heap m x u)
    (hn':h'.Ns X.env.locals (fun x=>if x = n then v else m x)) (hs:Heap.SameBut X.env.locals s.heap h'):Inv X pins (σ.set i none) H { s with heap:=h',toks:=tk }:=by
  have cne:=I.cne
  have hiσ:i < σ.length:=by rw [I.len]; exact (List.getElem?_eq_some_iff.mp hi).1
  refine ⟨I.ok,I.os,I.bare,⟨fun b o e n hb hx=>?_,fun b o e n hb hx=>?_,I.base.free,fun b o e hx=>?_,I.base.tups,I.base.frzs,I.base.tbls⟩,⟨_,hn',fun j y v' e1 e2 e3=>?_⟩,fun y c e=>?_,I.free,I.freeC,fun p hp=>?_,fun b ob e=>?_,by simpa using I.len⟩
  · exact (hs.2 b (Nat.ne_of_lt (Nat.lt_of_lt_of_le (Heap.lt_size e) I.ok.above))).trans (I.base.keep b o e n hb hx)
  · obtain ⟨sl,e1⟩:=I.base.slot b o e n hb hx
    exact ⟨sl,(hs.2 b (Nat.ne_of_lt (Nat.lt_of_lt_of_le (Heap.lt_size e) I.ok.above))).trans e1⟩
  · obtain ⟨o',e1⟩:=I.base.there b o e hx
    exact ⟨o',(hs.2 b (Nat.ne_of_lt (Nat.lt_of_lt_of_le (Heap.lt_size e) I.ok.above))).trans e1⟩
  · by_cases hj:j = i
    · subst hj
      rw [List.getElem?_set_self hiσ] at e2
      cases e2
    · rw [List.getElem?_set_ne (Ne.symm hj)] at e2
      obtain ⟨u',r',q⟩:=hl j y v' e1 e2 e3
      refine ⟨u',r',?_⟩
      rcases q with ⟨k,e⟩ | ⟨k,c,e,z⟩
      · refine .inl ⟨k,?_⟩
        have:y ≠ n:=fun e=>hj (nodup_ix hN e1 (e ▸ hi))
        simp [this,e]
      · exact .inr ⟨k,c,e,z.sameBut hs (cne y c e)⟩
  · obtain ⟨w',z⟩:=I.cell y c e
    exact ⟨w',z.sameBut hs (cne y c e)⟩
  · obtain ⟨e,n,ne,nf,d⟩:=I.pin p hp
    exact ⟨(hs.2 p.1 ne).trans e,n,ne,nf,d⟩
  · refine (I.hok b ob e).stay (fun c w' hc q=>(hs.2 c ?_).trans q) (fun _ q=>q) fun _ _ q=>q
    rintro rfl
    rcases hc with rfl | hc
    · rw [I.free] at e; cases e
    · rw [I.free] at hc; cases hc
end
end L2
namespace MM
def Ls (K:Nat) (m:List Nat):Prop:=∀ c ∈ m,97 ≤ c∧c < 97 + K
def Na (m:List Nat):Prop:=∀ c,m.getLast? = some c→c ≠ 97
structure Mark (K:Nat) (m:List Nat):Prop where
  ls:Ls K m
  na:Na m
  ne:m ≠ []
theorem Ls.nil (K:Nat):Ls K []:=fun _ h=>nomatch h
theorem Ls.app {K:Nat} {a b:List Nat} (h:Ls K a) (h':Ls K b):Ls K (a ++ b):=fun c hc=>(List.mem_append.mp hc).elim (h c) (h' c)
theorem Na.app {a b:List Nat} (h:Na b) (hb:b ≠ []):Na (a ++ b):=fun c hc=>by
  rw [List.getLast?_append] at hc
  cases e:b.getLast? with
  | none=>exact absurd (List.getLast?_eq_none_iff.mp e) hb
  | some d=>rw [e] at hc; exact h c (by rw [e]; exact hc)
theorem Na.one {c:Nat} (h:c ≠ 97):Na [c]:=fun d hd=>by simp at hd; omega
end MM
namespace MM
end MM
local macro_rules | `(tactic| and_intros)=>`(tactic| simp only [L2.tCompSet,L2.tRaise,L2.tIsi,L2.tSeq,L2.tAsg,L2.gName,L2.tOp,L2.tUn,L2.tVar,L2.varK_some,L2.blK_bl,L2.intK_int,L2.tC,L2.tTest,L2.tB,L2.tIf,L2.tIfS,L2.tAnd,L2.tOr,L2.tNot,L2.tAndV,L2.tOrV,L2.tRet,L2.tNext,L2.tDrop,L2.tCB,L2.tCons,L2.tNil,L2.tBM,L2.tCall,L2.tLst,L2.tTup,L2.tSl,L2.tPart,L2.tNoPart,L2.tIsN,L2.tNotN,L2.tYes,L2.rI0,L2.rI,L2.rU,L2.rEq,L2.rNe,L2.start,L2.compSt,List.map_cons,List.map_nil,List.length_cons,List.length_nil,List.replicate_succ,List.replicate_zero,List.cons_append,List.nil_append,List.append_nil,List.getElem?_cons_zero,List.getElem?_cons_succ,List.set_cons_zero,List.set_cons_succ,Option.some.injEq,Option.join_some,L2.V.int.injEq,L2.V.str.injEq,L2.V.bl.injEq,L2.V.ref.injEq,L2.txt_inj,exists_eq_left',exists_eq_left,exists_and_left,and_true,true_and,decide_eq_true_eq,reduceCtorEq,decide_false,decide_true,Bool.not_false,Bool.not_true,if_true,if_false,Bool.false_eq_true,Nat.reduceAdd,Nat.reduceSub,Bool.not_eq_true',decide_eq_false_iff_not,not_true_eq_false,not_false_eq_true])
local macro_rules | `(tactic| simp? [$t,*])=>`(tactic| simp only [$t,*,L2.tCompSet,L2.tRaise,L2.tIsi,L2.tSeq,L2.tAsg,L2.gName,L2.tOp,L2.tUn,L2.tVar,L2.varK_some,L2.blK_bl,L2.intK_int,L2.tC,L2.tTest,L2.tB,L2.tIf,L2.tIfS,L2.tAnd,L2.tOr,L2.tNot,L2.tAndV,L2.tOrV,L2.tRet,L2.tNext,L2.tDrop,L2.tCB,L2.tCons,L2.tNil,L2.tBM,L2.tCall,L2.tLst,L2.tTup,L2.tSl,L2.tPart,L2.tNoPart,L2.tIsN,L2.tNotN,L2.tYes,L2.rI0,L2.rI,L2.rU,L2.rEq,L2.rNe,L2.start,L2.compSt,List.map_cons,List.map_nil,List.length_cons,List.length_nil,List.replicate_succ,List.replicate_zero,List.cons_append,List.nil_append,List.append_nil,List.getElem?_cons_zero,List.getElem?_cons_succ,List.set_cons_zero,List.set_cons_succ,Option.some.injEq,Option.join_some,L2.V.int.injEq,L2.V.str.injEq,L2.V.bl.injEq,L2.V.ref.injEq,L2.txt_inj,exists_eq_left',exists_eq_left,exists_and_left,and_true,true_and,decide_eq_true_eq,reduceCtorEq,decide_false,decide_true,Bool.not_false,Bool.not_true,if_true,if_false,Bool.false_eq_true,Nat.reduceAdd,Nat.reduceSub,Bool.not_eq_true',decide_eq_false_iff_not,not_true_eq_false,not_false_eq_true])
namespace L2
open PySem PySem.Spec PyProof.Rows MM
inductive spDraw (K:PySem.W.Frag):List V→Hp→VK→XK→Prop
  | mk {H:Hp} {Q:VK} {E₀:XK} (a:Addr) (ns:List Int) (k m:Int):SqL K H a (ns.map V.int)→ns.length ≤ 63→0 ≤ k→k < 1048576→0 < m→(∀ r:Int,0 ≤ r→r < m→Q (.int r) H)→spDraw K [.ref a,.int k,.int m] H Q E₀
def rdDraw (K:PySem.W.Frag):TS:=
    tSeq (tAsg (tIf (tTest (tOp rGtI (tCB (rLenL K) (tCons (tVar 0) tNil)) (tC (.int 0)))) (tOp (rIxL K) (tVar 0) (tOp rModI (tVar 1) (tCB (rLenL K) (tCons (tVar 0) tNil)))) (tC (.int 0))) (gName 3))
      (tSeq (tIfS (tAnd (tTest (tOp rGtI (tCB (rLenL K) (tCons (tVar 0) tNil)) (tC (.int 0)))) (tTest (tOp rEq (tOp rModI (tOp (rIxL K) (tVar 0) (tC (.int 0))) (tC (.int 2))) (tC (.int 1))))) (tRet (tOp rModI (tOp rModI (tOp rShrI (tVar 3) (tOp rAddI (tOp rMulI (tC (.int 20)) (tOp rDivI (tVar 1) (tCB (rLenL K) (tCons (tVar 0) tNil)))) (tC (.int 1)))) (tC (.int 1048576))) (tVar 2))) (tNext))
      (tSeq (tAsg (tOp rAddI (tOp rAddI (tOp rModI (tVar 3) (tC (.int 1000003))) (tOp rMulI (tOp rMulI (tC (.int 31)) (tVar 1)) (tVar 1))) (tC (.int 1))) (gName 4))
      (tRet (tOp rModI (tOp rModI (tOp rMulI (tOp rModI (tOp rMulI (tVar 4) (tC (.int 48271))) (tC (.int 999983))) (tC (.int 7919))) (tC (.int 524287))) (tVar 2)))))
theorem draw_end {i k m:Int} {Q:Int→Prop} (h0:0 ≤ k) (h1:k < 1048576) (h2:0 < m) (q:∀ r:Int,0 ≤ r→r < m→Q r) :
    (0:Int) < 1000003∧CMulB 31 k∧CMulB (31 * k) k∧CMulB (i % 1000003 + 31 * k * k + 1) 48271∧(0:Int) < 999983∧CMulB ((i % 1000003 + 31 * k * k + 1) * 48271 % 999983) 7919∧(0:Int) < 524287∧0 < m∧
      Q ((i % 1000003 + 31 * k * k + 1) * 48271 % 999983 * 7919 % 524287 % m):=
  ⟨by decide,mulB_l (by decide) (by decide),mulB_r (by omega) (by omega),mulB_r (by decide) (by decide),by decide,mulB_r (by decide) (by decide),by decide,h2,q _ (Int.emod_nonneg _ (by omega)) (Int.emod_lt_of_pos _ h2)⟩
theorem draw_shr {i k m:Int} {x:Int} {Q:Int→Prop} (h0:0 ≤ k) (hx:0 < x) (hx2:x ≤ 63) (h2:0 < m) (q:∀ r:Int,0 ≤ r→r < m→Q r) :
    CDiv k x∧CMulB 20 (k / x)∧0 ≤ 20 * (k / x) + 1∧(0:Int) < 1048576∧0 < m∧Q (i / 2 ^ (20 * (k / x) + 1).toNat % 1048576 % m):=by
  have e:0 ≤ k / x:=Int.ediv_nonneg h0 (by omega)
  exact ⟨cdiv hx (by omega),mulB_l (by decide) (by decide),by omega,by decide,h2,q _ (Int.emod_nonneg _ (by omega)) (Int.emod_lt_of_pos _ h2)⟩
theorem read_draw {K:PySem.W.Frag} {N:List Str} {vs:List V} {H:Hp} {Q:VK} {E:XK} (hN:N.length = 5) (h:spDraw K vs H Q E):rdDraw K { nx:=fun _ H'=>Q .non H',rt:=Q } (L2.start N vs) H:=by
  obtain ⟨a,ns,k,m,hS,hl,h0,h1,h2,q⟩:=h
  unfold rdDraw L2.start
  rw [hN]
  and_intros
  refine lenI_go hS (kK ?_)
  by_cases hn:(0:Int) < (ns.length:Int)
  · rw [if_pos hn]
    refine lenI_go hS (kK ⟨hn,ixI_go hS (Int.emod_nonneg _ (by omega)) (Int.emod_lt_of_pos _ hn) fun z _ _=>?_⟩)
    refine lenI_go hS (kK ?_)
    rw [if_pos hn]
    refine ixI_go hS (by decide) hn fun z0 _ _=>(kK ⟨by decide,rfl,?_⟩)
    split
    · refine lenI_go hS (kK ?_)
      have:=draw_shr (i:=z) (Q:=fun r=>Q (.int r) H) h0 hn (by omega) h2 q
      exact ⟨this.1,this.2.1,kK this.2.2⟩
    · exact (kK (draw_end (Q:=fun r=>Q (.int r) H) h0 h1 h2 q))
  · rw [if_neg hn]
    refine lenI_go hS (kK ?_)
    rw [if_neg hn]
    exact draw_end (Q:=fun r=>Q (.int r) H) h0 h1 h2 q
theorem flat_ones (l:List Nat):(l.map fun c=>[c]).flatten = l:=by
  induction l with
  | nil=>rfl
  | cons c l ih=>rw [List.map_cons,List.flatten_cons,ih]; rfl
theorem sum_ones (l:List Nat):((l.map fun c=>[c]).map (·.length)).sum = l.length:=by
  induction l with
  | nil=>rfl
  | cons c l ih=>simp only [List.map_cons,List.sum_cons,ih,List.length_cons,List.length_nil]; omega
def oV:Option (List Nat)→V
  | none=>.non
  | some l=>.str (txt l)
def markB (L:Nat) (l:List Nat):Bool:=!decide (l = []) && !decide (l.getLast? = some 97) && l.all fun c=>decide (97 ≤ c∧c < 97 + L)
theorem markB_iff {L:Nat} {l:List Nat}:markB L l = true ↔ Mark L l:=by
  unfold markB
  simp only [Bool.and_eq_true,Bool.not_eq_true',decide_eq_false_iff_not,List.all_eq_true,decide_eq_true_eq]
  constructor
  · rintro ⟨⟨h1,h2⟩,h3⟩
    exact ⟨h3,fun c hc e=>h2 (by rw [hc,e]),h1⟩
  · rintro ⟨h1,h2,h3⟩
    exact ⟨⟨h3,fun e=>h2 97 e rfl⟩,h1⟩
theorem ends_a (l:List Nat):(decide ([97].length ≤ l.length) && (l.drop (l.length - [97].length) == [97])) = decide (l.getLast? = some 97):=by
  rw [Bool.eq_iff_iff]
  simp only [Bool.and_eq_true,decide_eq_true_eq,beq_iff_eq,List.length_cons,List.length_nil]
  constructor
  · rintro ⟨h1,h2⟩
    have:l = l.take (l.length - 1) ++ [97]:=by
      have e:=List.take_append_drop (l.length - 1) l
      rw [show l.length - (0 + 1) = l.length - 1 by omega] at h2
      rw [h2] at e; exact e.symm
    rw [this]; simp
  · intro h
    obtain ⟨r,rfl⟩:=List.getLast?_eq_some_iff.mp h
    simp
theorem mem_abc {c L:Nat} (hL:L ≤ 26):c ∈ ABC.take L ↔ 97 ≤ c∧c < 97 + L:=by
  have e:ABC.take L = (List.range L).map (97 + ·):=by
    unfold ABC
    rw [← List.map_take,List.take_range,Nat.min_eq_left hL]
  rw [e,List.mem_map]
  constructor
  · rintro ⟨i,hi,rfl⟩; have:=List.mem_range.mp hi; omega
  · rintro ⟨h1,h2⟩; exact ⟨c - 97,List.mem_range.mpr (by omega),by omega⟩
def spIsMark:Sp:=fun vs H Q _=>∃ (L:Nat) (l:List Nat),vs = [.int L,.str (txt l)]∧L ≤ 26∧l.length ≤ 100000∧∀ H',Same H H'→Q (.bl (markB L l)) H'
def rdIsMark (K:PySem.W.Frag):TS:=
    tSeq (tIfS (tOr (tTest (tOp rEq (tVar 1) (tC (.str (txt []))))) (tB (tBM K "str" rEnds (tVar 1) (tCons (tC (.str (txt [97]))) tNil)))) (tRet (tC (.bl false))) (tNext))
      (tRet (tCB (rAllB K) (tCons (tComp (iStr (tVar 1)) [0] tYes (tOp rIn1 (tVar 0) (tSl rSlS (tC (.str (txt ABC))) tNoPart (tPart (tVar 1))))) tNil)))
theorem read_isMark {K:PySem.W.Frag} {N:List Str} {vs:List V} {H:Hp} {Q:VK} {E:XK} (hN:N.length = 2) (h:spIsMark vs H Q E):rdIsMark K { nx:=fun _ H'=>Q .non H',rt:=Q } (L2.start N vs) H:=by
  obtain ⟨L,l,rfl,hL,hz,q⟩:=h
  unfold rdIsMark L2.start
  rw [hN]
  and_intros
  refine ⟨rfl,?_⟩
  split
  · rename_i e
    subst e
    exact q H (Same.refl _)
  · rename_i hne
    refine ⟨rfl,l,[97],rfl,rfl,?_⟩
    rw [ends_a]
    refine (bK ?_)
    by_cases he:l.getLast? = some 97
    · rw [decide_eq_true he,if_pos rfl]
      have:markB L l = false:=by unfold markB; rw [decide_eq_true he]; simp
      rw [this] at q
      exact q H (Same.refl _)
    · rw [decide_eq_false he,if_neg (by decide)]
      refine comp_s (l:=l) (fun Q h=>h) (Nat.le_trans hz (by decide)) (fun i ys H'=>H' = H∧ys = ((l.take i).map fun c=>decide (97 ≤ c∧c < 97 + L)).map V.bl) ⟨rfl,rfl⟩
        (fun i ys H' _ p=>by rw [p.2,List.length_map,List.length_map,List.length_take]; omega) ?_ ?_
      · rintro i c ys H' hc ⟨rfl,rfl⟩ R hR
        and_intros
        refine slS_go (by rw [abc_len]; decide) ?_
        rw [cutL_to (by omega) (by rw [abc_len]; omega),Int.toNat_natCast]
        refine ⟨c,_,rfl,rfl,hR _ _ ⟨rfl,?_⟩⟩
        rw [List.take_succ,hc,List.map_append,List.map_append]
        simp only [mem_abc hL]
        rfl
      · rintro ys H' ⟨rfl,rfl⟩ p hp
        refine ⟨p,(l.map fun c=>decide (97 ≤ c∧c < 97 + L)),rfl,?_,?_⟩
        · rw [List.take_length]; exact SqL.here
        · have e:(l.map fun c=>decide (97 ≤ c∧c < 97 + L)).all id = markB L l:=by
            unfold markB
            rw [decide_eq_false hne,decide_eq_false he,List.all_map]; rfl
          rw [e]
          exact q _ (Same.up _ hp)
theorem Same.set {H H':Hp} {p:Addr} {o:HO} (s:Same H H') (hp:H p = none):Same H (upd H' p o):=fun b q e=>by
  have:=s b q e
  rw [upd_ne (ne_of_none e hp)]; exact this
theorem some_at {α:Type} {l:List α} {i:Nat} (h:i < l.length):∃ c,l[i]? = some c:=⟨l[i],List.getElem?_eq_getElem h⟩
end L2
namespace MM
end MM
namespace L2
open PySem PySem.Spec PyProof.Rows MM
end L2
namespace MM
end MM
namespace MM
end MM
namespace L2
open PySem PySem.Spec PyProof.Rows
open MM
end L2
namespace L2
open PySem PySem.Spec PyProof.Rows
variable {X:Cx}
open MM
end L2
namespace L2
open PySem PySem.Spec PyProof.Rows
theorem seq_any {A C:TS} {D:Ends} {σ:St} {H:Hp} (h:∀ c:St→Hp→Prop,(∀ σ' H',C D σ' H'→c σ' H')→A { D with nx:=c } σ H):tSeq A C D σ H:=h _ fun _ _ z=>z
theorem seq_set {te:TE} {i:Nat} {C:TS} {D:Ends} {σ:St} {H:Hp} (h:∀ c:V→Hp→Prop,(∀ x H1,C D (σ.set i (some x)) H1→c x H1)→te σ H c):tSeq (tAsg te (gName i)) C D σ H:=h _ fun _ _ z=>z
theorem slTo_go {H:Hp} {l:List Nat} {i:Int} {Q:VK} (hz:l.length ≤ 100000) (h0:0 ≤ i) (h1:i ≤ l.length) (q:Q (.str (txt (l.take i.toNat))) H):rSlS (.str (txt l)) none (some i) H Q:=
  slS_go hz (by rw [cutL_to h0 (by omega)]; exact q)
theorem comp_lst {K:PySem.W.Frag} {a:Addr} {xs:List V} {σ:St} {fs:List Nat} {tt:TT} {te:TE} {H:Hp} {Q:VK} (Pv:Nat→List V→Hp→Prop) (h0:Pv 0 [] H) (hl:∀ i ys H,i ≤ xs.length→Pv i ys H→SqL K H a xs∧ys.length ≤ i) (hn:xs.length ≤ sizeLine)
    (hs:∀ i x ys H,xs[i]? = some x→Pv i ys H→∀ R:List V→Hp→Prop,(∀ ys' H',Pv (i + 1) ys' H'→R ys' H')→tt (some x :: compSt fs σ) H fun b H2=>if b = true then te (some x :: compSt fs σ) H2 fun y H3=>R (ys ++ [y]) H3 else R ys H2)
    (hd:∀ ys H,Pv xs.length ys H→∀ p,H p = none→Q (.ref p) (upd H p (.lst ys))) :
    ∃ W:Nat→Nat→List V→Hp→Prop,(∃ m,W 0 m [] H)∧∀ i m ys H,W i m ys H→ys.length ≤ sizeLine∧
      (((Itl K a).stop i H∧∀ p,H p = none→Q (.ref p) (upd H p (.lst ys))) ∨
       ((Itl K a).go i H∧ys.length < sizeLine∧∀ x H',(Itl K a).yld i H x H'→tt (some x :: compSt fs σ) H' fun b H2=>if b = true then te (some x :: compSt fs σ) H2 fun y H3=>∃ m',m' < m∧W (i + 1) m' (ys ++ [y]) H3 else ∃ m',m' < m∧W (i + 1) m' ys H2)):=by
  refine ⟨fun i m ys H=>m = xs.length - i∧i ≤ xs.length∧Pv i ys H,⟨xs.length,by simp,Nat.zero_le _,h0⟩,?_⟩
  rintro i m ys H ⟨rfl,hi,p⟩
  obtain ⟨hq,hle⟩:=hl i ys H hi p
  refine ⟨by omega,?_⟩
  by_cases hlt:i < xs.length
  · refine .inr ⟨⟨xs,xs[i],hq,by simp [hlt]⟩,by omega,fun x H' y=>?_⟩
    obtain ⟨e,y⟩:=y
    subst e
    exact hs i x ys _ (y xs hq) p (fun ys' H'=>∃ m',m' < xs.length - i∧m' = xs.length - (i + 1)∧i + 1 ≤ xs.length∧Pv (i + 1) ys' H') fun ys' H' q=>⟨xs.length - (i + 1),by omega,rfl,hlt,q⟩
  · have e:i = xs.length:=by omega
    subst e
    exact .inl ⟨⟨xs,hq,Nat.le_refl _⟩,hd ys H p⟩
theorem comp_l {K:PySem.W.Frag} {tl:TE} {a:Addr} {xs:List V} {σ:St} {fs:List Nat} {tt:TT} {te:TE} {H:Hp} {Q:VK} (ha:∀ Q:VK,Q (.ref a) H→tl σ H Q) (hq:SqL K H a xs) (Pv:Nat→List V→Hp→Prop) (h0:Pv 0 [] H) (hl:∀ i ys H,i ≤ xs.length→Pv i ys H→SqL K H a xs∧ys.length ≤ i) (hn:xs.length ≤ sizeLine)
    (hs:∀ i x ys H,xs[i]? = some x→Pv i ys H→∀ R:List V→Hp→Prop,(∀ ys' H',Pv (i + 1) ys' H'→R ys' H')→tt (some x :: compSt fs σ) H fun b H2=>if b = true then te (some x :: compSt fs σ) H2 fun y H3=>R (ys ++ [y]) H3 else R ys H2)
    (hd:∀ ys H,Pv xs.length ys H→∀ p,H p = none→Q (.ref p) (upd H p (.lst ys))):tComp (iList K tl) fs tt te σ H Q:=ha _ ⟨a,rfl,⟨xs,hq⟩,comp_lst Pv h0 hl hn hs hd⟩
open MM
end L2
namespace Asc
open PySem PyProof.Rows
end Asc
namespace L2
open PySem PySem.Spec PyProof.Rows
open MM
end L2
namespace L2
open PySem PySem.Spec PyProof.Rows
open MM
def Prs (H:Hp):List V→List (V × V)→Prop
  | [],[]=>True
  | x :: xs,p :: ps=>(∃ t,x = .ref t∧H t = some (.tup [p.1,p.2]))∧Prs H xs ps
  | _,_=>False
theorem Prs.keep {H H':Hp} (k:∀ t ys,H t = some (.tup ys)→H' t = some (.tup ys)):∀ {xs:List V} {ps:List (V × V)},Prs H xs ps→Prs H' xs ps
  | [],[],_=>trivial
  | [],_ :: _,h=>h.elim
  | _ :: _,[],h=>h.elim
  | _ :: _,_ :: _,⟨⟨t,e,h⟩,r⟩=>⟨⟨t,e,k t _ h⟩,Prs.keep k r⟩
theorem Prs.same {H H':Hp} {xs:List V} {ps:List (V × V)} (h:Prs H xs ps) (s:Same H H'):Prs H' xs ps:=h.keep fun t ys e=>s t _ e
theorem Prs.app {H:Hp}:∀ {xs:List V} {ps:List (V × V)} {ys:List V} {qs:List (V × V)},Prs H xs ps→Prs H ys qs→Prs H (xs ++ ys) (ps ++ qs)
  | [],[],_,_,_,h=>h
  | [],_ :: _,_,_,h,_=>h.elim
  | _ :: _,[],_,_,h,_=>h.elim
  | _ :: _,_ :: _,_,_,⟨a,r⟩,h=>⟨a,Prs.app r h⟩
theorem Prs.len {H:Hp}:∀ {xs:List V} {ps:List (V × V)},Prs H xs ps→xs.length = ps.length
  | [],[],_=>rfl
  | [],_ :: _,h=>h.elim
  | _ :: _,[],h=>h.elim
  | _ :: _,_ :: _,⟨_,r⟩=>by rw [List.length_cons,List.length_cons,Prs.len r]
theorem Prs.get {H:Hp}:∀ {xs:List V} {ps:List (V × V)} {i:Nat} {x:V},Prs H xs ps→xs[i]? = some x→∃ p t,ps[i]? = some p∧x = .ref t∧H t = some (.tup [p.1,p.2])
  | [],_,_,_,_,e=>by simp at e
  | _ :: _,[],_,_,h,_=>h.elim
  | _ :: _,p :: _,0,_,⟨⟨t,e1,h⟩,_⟩,e=>by
    have:_ = _:=Option.some.inj e
    subst this
    exact ⟨p,t,rfl,e1,h⟩
  | _ :: _,_ :: _,i + 1,_,⟨_,r⟩,e=>by
    obtain ⟨p,t,a,b,c⟩:=Prs.get r (i:=i) (by simpa using e)
    exact ⟨p,t,by simpa using a,b,c⟩
def flatD:V→PyData
  | .bl b=>.bool b
  | .int i=>.int i
  | .str x=>.str x
  | _=>.none
inductive OkV:V→Prop where
  | non:OkV .non
  | bl (b:Bool):OkV (.bl b)
  | str {l:List Nat} (h:PyData.strOk (txt l) = true):OkV (.str (txt l))
theorem OkV.dat {K:PySem.W.Frag} {H:Hp} {v:V} (h:OkV v):Dat K H v (flatD v):=by
  cases h with
  | non=>exact .non
  | bl b=>exact .bl b
  | str h=>exact .str _
def pairD (ps:List (V × V)):List PyData:=ps.map fun p=>.tuple [flatD p.1,flatD p.2]
theorem Prs.dat {K:PySem.W.Frag} {H:Hp}:∀ {xs:List V} {ps:List (V × V)},Prs H xs ps→(∀ p ∈ ps,OkV p.1∧OkV p.2)→DatAll K H xs (pairD ps)
  | [],[],_,_=>.nil
  | [],_ :: _,h,_=>h.elim
  | _ :: _,[],h,_=>h.elim
  | _ :: _,p :: _,⟨⟨t,e,h⟩,r⟩,ok=>by
    subst e
    have o:=ok p List.mem_cons_self
    exact .cons (.tup (SqT.of h) (.cons o.1.dat (.cons o.2.dat .nil))) (Prs.dat r fun q hq=>ok q (List.mem_cons_of_mem _ hq))
theorem lay_flat {v:V} (h:OkV v):PyData.canLay0 (flatD v) = true∧PyData.depth (flatD v) = 0:=by
  cases h with
  | non=>exact ⟨by simp [flatD,PyData.canLay0],by simp [flatD,PyData.depth]⟩
  | bl b=>exact ⟨by simp [flatD,PyData.canLay0],by simp [flatD,PyData.depth]⟩
  | str h=>exact ⟨by simp [flatD,PyData.canLay0,h],by simp [flatD,PyData.depth]⟩
theorem lay_pairs:∀ {ps:List (V × V)},(∀ p ∈ ps,OkV p.1∧OkV p.2)→PyData.canLayAll0 (pairD ps) = true∧PyData.depthAll (pairD ps) ≤ 1
  | [],_=>⟨by simp [pairD,PyData.canLayAll0],by simp [pairD,PyData.depthAll]⟩
  | p :: ps,ok=>by
    obtain ⟨a,b⟩:=lay_pairs fun q hq=>ok q (List.mem_cons_of_mem _ hq)
    obtain ⟨o1,o2⟩:=ok p List.mem_cons_self
    obtain ⟨c1,d1⟩:=lay_flat o1
    obtain ⟨c2,d2⟩:=lay_flat o2
    have e:pairD (p :: ps) = .tuple [flatD p.1,flatD p.2] :: pairD ps:=rfl
    rw [e]
    refine ⟨by simp [PyData.canLayAll0,PyData.canLay0,c1,c2,a],?_⟩
    simp only [PyData.depthAll,PyData.depth,d1,d2]
    omega
def stand (ks:List (List Nat × Bool)):Nat:=(ks.filter fun k=>k.2).length
theorem keep_list {H:Hp} {t r:Addr} {o:HO} {ys zs:List V} (ht:H t = none) (hr:H r = some (.lst ys)):∀ u xs,H u = some (.tup xs)→(upd (upd H t o) r (.lst zs)) u = some (.tup xs):=fun u xs e=>by
  rw [upd_ne (fun z=>by subst z; rw [hr] at e; cases e),upd_ne (fun z=>by subst z; rw [ht] at e; cases e)]
  exact e
theorem drop_get {α:Type} {l:List α} {i:Nat} {x:α} (h:l[i]? = some x):l.drop i = x :: l.drop (i + 1):=by
  obtain ⟨h1,h2⟩:=List.getElem?_eq_some_iff.mp h
  rw [List.drop_eq_getElem_cons h1,h2]
theorem inV_strs (x:List Nat) (xs:List (List Nat)):inV (.str (txt x)) (xs.map strV) = decide (x ∈ xs):=by
  unfold inV
  rw [List.any_map,Bool.eq_iff_iff,List.any_eq_true,decide_eq_true_eq]
  constructor
  · rintro ⟨y,hy,e⟩
    have:y = x:=by simpa [eqV,strV,txt_inj] using e
    rw [← this]; exact hy
  · intro h
    exact ⟨x,h,by simp [eqV,strV]⟩
theorem flat_strs (xs:List (List Nat)):(xs.map strV).all flatV = true:=by
  rw [List.all_map,List.all_eq_true]
  intro x _
  rfl
theorem lt_of_sorted {zs:List (List Nat)} (h:zs.Pairwise (· ≤ ·)) (n:zs.Nodup):zs.Pairwise (· < ·):=by
  have:=List.Pairwise.and h n
  refine this.imp fun {a b} hab=>?_
  by_cases z:a < b
  · exact z
  · exact absurd (List.le_antisymm hab.1 (List.not_lt.mp z)) hab.2
end L2
namespace MaxD
open PySem PyProof.Rows
end MaxD
namespace L2
open PySem PySem.Spec PyProof.Rows
section
variable {X:Cx} {e o value d:Expr} {es:List Expr} {f x m:Str} {pos pos' p apos kp:Pos} {ta tv td:TE} {t:TA}
theorem ke_gint {n:Int} (hm:∃ t,X.mg x = some (.int n t)) (hg:X.env.kindOf x = some .globalImplicit:=by kernel_rfl) (hd:(x == ("__debug__":Str)) = false:=by kernel_rfl):QE X (.Name x pos) (tC (.int n)):=by
  obtain ⟨t,hm⟩:=hm
  exact ⟨pe_glob (v:=.int n) hg hm ⟨t,rfl⟩ hd⟩
variable {CX:CXT} {k:Nat} {g C:Addr} {fd:FuncData} {ps:List Str} {sp:Sp} {E:XK}
end
section
variable {X:Cx}
def rInsert:V→List V→Hp→VK→Prop:=fun x vs H Q=>∃ l xs,∃ i:Nat,∃ y,x = .ref l∧vs = [.int i,y]∧H l = some (.lst xs)∧i ≤ xs.length∧xs.length < 100000∧Q .non (upd H l (.lst (xs.take i ++ y :: xs.drop i)))
theorem mt_insert:MtM X "list.insert" rInsert:=by
  intro pins s σ H x vs v us Q I rx rv h
  obtain ⟨l,xs,i,y,rfl,rfl,hH,hi,hz,q⟩:=h
  cases rx
  obtain ⟨u,w',rfl,⟨t,rfl⟩,rw'⟩:=rv.two
  obtain ⟨z,its,n,r,hl,e⟩:=I.lstM hH
  have hs:sizeLine = 16777216:=sizeLine_eq
  obtain ⟨j,hj⟩:∃ j:Int,j = (i:Int):=⟨_,rfl⟩
  rw [← hj]
  have hsz:its.toArray.size ≤ sizeLine:=by rw [List.size_toArray]; omega
  have hfit:¬ (!Builtin.List.listFitsIndex j) = true:=by
    have h1:-9223372036854775808 ≤ j:=by omega
    have h2:j < 9223372036854775808:=by omega
    unfold Builtin.List.listFitsIndex
    rw [show (2 ^ 63:Int) = 9223372036854775808 from rfl,decide_eq_true h1,decide_eq_true h2]
    decide
  refine call_meets F.slot_list_insert ⟨_,e,rfl⟩ F.entry_list_insert (F.args_list_insert_3 _ _ _) (AutoSeq1.list_insert_list_int_val_1 l its.toArray n j t w' hfit hsz) ⟨e,?_⟩
  refine ⟨.non,_,I.lset (its':=its.take i ++ w' :: its.drop i) hH e ?_ ((r.take i).append (.cons rw' (r.drop i))) ?_,rfl,q⟩
  · have hk:(if j < 0 then (j + (its.toArray.size:Int)).toNat else min j.toNat its.toArray.size) = i:=by
      rw [if_neg (by omega),hj,Int.toNat_natCast,List.size_toArray]
      omega
    show (its.toArray.extract 0 (if j < 0 then _ else _)).push w' ++ its.toArray.extract (if j < 0 then _ else _) = _
    rw [hk]
    apply Array.toList_inj.mp
    simp
    exact List.take_of_length_le (by rw [List.length_drop]; exact Nat.le_refl _)
  · rw [List.length_append,List.length_cons,List.length_take,List.length_drop]
    omega
end
open MM
def Keeps (F:List Addr) (H H':Hp):Prop:=∀ b o,H b = some o→b ∉ F→H' b = some o
theorem Same.keeps {H H':Hp} (s:Same H H') (F:List Addr):Keeps F H H':=fun b o e _=>s b o e
theorem Keeps.trans {F:List Addr} {H H1 H2:Hp} (a:Keeps F H H1) (b:Keeps F H1 H2):Keeps F H H2:=fun x o e n=>b x o (a x o e n) n
theorem Keeps.upd {F:List Addr} {H H':Hp} {p:Addr} {o:HO} (a:Keeps F H H') (h:p ∈ F ∨ H' p = none):Keeps F H (upd H' p o):=fun x q e n=>by
  have:=a x q e n
  rw [upd_ne (fun z => by subst z; rcases h with h | h
                          · exact n h
                          · rw [this] at h; cases h)]
  exact this
def spAskL (c:Addr):Sp:=fun vs H Q E=>∃ (L h:Int),vs = [.int L,.int h]∧((2 ≤ L∧L ≤ 26∧1 ≤ h∧h < L)→Q .non H)∧(¬ (2 ≤ L∧L ≤ 26∧1 ≤ h∧h < L)→E (.ref c) none H)
def rdAskL (c:Addr) (E:XK) (m1 m2:List Nat):TS:=
    tSeq (tIfS (tOr (tTest (tOp rLtI (tVar 0) (tC (.int 2)))) (tTest (tOp rGtI (tVar 0) (tCB rLenS (tCons (tC (.str (txt ABC))) tNil))))) (tRaise (.ref c) E (tCons (tC (.str (txt m1))) tNil)) (tNext))
      (tIfS (tOr (tTest (tOp rLtI (tVar 1) (tC (.int 1)))) (tTest (tOp rGeI (tVar 1) (tVar 0)))) (tRaise (.ref c) E (tCons (tC (.str (txt m2))) tNil)) (tNext))
theorem read_askL {c:Addr} {m1 m2:List Nat} {N:List Str} {vs:List V} {H:Hp} {Q:VK} {E:XK} (hN:N.length = 2) (h:spAskL c vs H Q E):rdAskL c E m1 m2 { nx:=fun _ H'=>Q .non H',rt:=Q } (L2.start N vs) H:=by
  obtain ⟨L,h,rfl,q1,q2⟩:=h
  unfold rdAskL L2.start
  rw [hN]
  and_intros
  by_cases h1:L < 2
  · rw [if_pos h1]
    exact ⟨by decide,q2 (by omega)⟩
  · rw [if_neg h1]
    refine lenS_go (by rw [abc_len]; decide) (kK ?_)
    rw [abc_len]
    by_cases h2:((26:Nat):Int) < L
    · rw [if_pos h2]
      exact ⟨by decide,q2 (by omega)⟩
    · rw [if_neg h2]
      by_cases h3:h < 1
      · rw [if_pos h3]
        exact ⟨by decide,q2 (by omega)⟩
      · rw [if_neg h3]
        by_cases h4:L ≤ h
        · rw [if_pos h4]
          exact ⟨by decide,q2 (by omega)⟩
        · rw [if_neg h4]
          exact q1 (by omega)
def SIGNS:List Nat:=[97,98,99,100,101,102,103,104,105,106,107,108,109,110,111,112,113,114,115,116,117,118,119,120,121,122,48,49,50,51,52,53,54,55,56,57]
def Thing (t:List Nat):Prop:=t ≠ []∧t.length ≤ 12∧∀ c ∈ t,c ∈ SIGNS
def spIsThing:Sp:=fun vs H Q _=>∃ t:List Nat,vs = [.str (txt t)]∧t.length ≤ 100000∧∀ H' b,Same H H'→(b = true ↔ Thing t)→Q (.bl b) H'
def rdIsThing (K:PySem.W.Frag):TS:=
    tSeq (tIfS (tOr (tTest (tOp rEq (tVar 0) (tC (.str (txt []))))) (tTest (tOp rGtI (tCB rLenS (tCons (tVar 0) tNil)) (tC (.int 12))))) (tRet (tC (.bl false))) (tNext))
      (tRet (tCB (rAllB K) (tCons (tComp (iStr (tVar 0)) [] tYes (tOp rIn1 (tVar 0) (tC (.str (txt SIGNS))))) tNil)))
theorem read_isThing {K:PySem.W.Frag} {N:List Str} {vs:List V} {H:Hp} {Q:VK} {E:XK} (hN:N.length = 1) (h:spIsThing vs H Q E):rdIsThing K { nx:=fun _ H'=>Q .non H',rt:=Q } (L2.start N vs) H:=by
  obtain ⟨t,rfl,hz,q⟩:=h
  unfold rdIsThing L2.start
  rw [hN]
  and_intros
  refine ⟨rfl,?_⟩
  by_cases h1:t = []
  · rw [if_pos h1]
    exact q _ _ (Same.refl _) ⟨(fun z=>nomatch z),fun z=>absurd h1 z.1⟩
  · rw [if_neg h1]
    refine lenS_go hz (kK ?_)
    by_cases h2:(12:Int) < (t.length:Int)
    · rw [if_pos h2]
      exact q _ _ (Same.refl _) ⟨(fun z=>nomatch z),fun z=>by have:=z.2.1; omega⟩
    · rw [if_neg h2]
      refine comp_s (l:=t) (fun Q h=>h) (Nat.le_trans (show t.length ≤ 100000 by omega) (by decide)) (fun i ys H'=>H' = H∧ys = ((t.take i).map fun c=>decide (c ∈ SIGNS)).map V.bl) ⟨rfl,rfl⟩
        (fun i ys H' _ p=>by rw [p.2,List.length_map,List.length_map,List.length_take]; omega) ?_ ?_
      · rintro i c ys H' hc ⟨rfl,rfl⟩ R hR
        and_intros
        refine ⟨c,_,rfl,rfl,hR _ _ ⟨rfl,?_⟩⟩
        rw [List.take_succ,hc,List.map_append,List.map_append]
        rfl
      · rintro ys H' ⟨rfl,rfl⟩ p hp
        rw [List.take_length]
        refine ⟨p,_,rfl,SqL.here,q _ _ (Same.up _ hp) ?_⟩
        rw [List.all_map,List.all_eq_true]
        constructor
        · intro z
          exact ⟨h1,by omega,fun c hc=>by simpa using z c hc⟩
        · rintro ⟨_,_,z⟩ c hc
          simpa using z c hc
theorem strOk_small {l:List Nat} (h:∀ c ∈ l,c < 200):PyData.strOk (txt l) = true:=by
  unfold PyData.strOk txt
  simp only [Array.all_eq_true_iff_forall_mem,List.mem_toArray,decide_eq_true_eq]
  intro c hc; have:=h c hc; omega
theorem strOk_mark {L:Nat} (hL:L ≤ 26) {m:List Nat} (h:Ls L m):PyData.strOk (txt m) = true:=strOk_small fun c hc=>by have:=h c hc; omega
theorem signs_small:∀ c ∈ SIGNS,c < 200:=by decide
theorem strOk_thing {t:List Nat} (h:Thing t):PyData.strOk (txt t) = true:=strOk_small fun c hc=>signs_small c (h.2.2 c hc)
theorem same_keep {H0 H H':Hp} {F:List Addr} (s:Same H0 H) (k:Keeps F H H') (h:∀ a ∈ F,H0 a = none):Same H0 H':=fun b o e=>k b o (s b o e) (fun z=>by rw [h b z] at e; cases e)
end L2
namespace L2
open PySem PySem.Spec PyProof.Rows
theorem ex1 {α:Type} {us:List α} (hl:us.length = 1):∃ a0,us = [a0]:=by
  match us,hl with
  | [_],_=>exact ⟨_,rfl⟩
theorem ex2 {α:Type} {us:List α} (hl:us.length = 2):∃ a0 a1,us = [a0,a1]:=by
  match us,hl with
  | [_,_],_=>exact ⟨_,_,rfl⟩
theorem ex3 {α:Type} {us:List α} (hl:us.length = 3):∃ a0 a1 a2,us = [a0,a1,a2]:=by
  match us,hl with
  | [_,_,_],_=>exact ⟨_,_,_,rfl⟩
theorem ex4 {α:Type} {us:List α} (hl:us.length = 4):∃ a0 a1 a2 a3,us = [a0,a1,a2,a3]:=by
  match us,hl with
  | [_,_,_,_],_=>exact ⟨_,_,_,_,rfl⟩
open MM
def thingB (t:List Nat):Bool:=!t.isEmpty && decide (t.length ≤ 12) && t.all fun c=>decide (c ∈ SIGNS)
end L2
set_option maxHeartbeats 1000000
namespace L2
open PySem PySem.Spec PyProof.Rows
abbrev rIxLast:R2:=fun x y H Q=>∃ (l:List Nat) (c:Nat),x = .str (txt l)∧y = .int (-1)∧l.length ≤ sizeLine∧l.getLast? = some c∧Q (.str (txt [c])) H
theorem atI_end {α:Type} {xs:List α} {v:α} (h:xs.getLast? = some v):atI xs (-1) = some v:=by
  have hl:0 < xs.length:=by
    cases xs with
    | nil=>simp at h
    | cons a r=>simp
  unfold atI ixN
  rw [if_neg (by decide),if_pos (by omega)]
  rw [List.getLast?_eq_getElem?] at h
  show xs[(-1 + (xs.length:Int)).toNat]? = some v
  rw [show (-1 + (xs.length:Int)).toNat = xs.length - 1 by omega]
  exact h
section
variable {X:Cx}
theorem ix_last:IxR X rIxLast:=by
  intro value slice pins s σ H x y v u Q I rx ry h hs
  obtain ⟨l,c,rfl,rfl,hz,e,q⟩:=h
  exact ix_str value slice pins s σ H _ _ v u Q I rx ry ⟨_,_,c,rfl,rfl,by rw [txt_len]; exact hz,by rw [codes_txt]; exact atI_end e,q⟩ hs
end
theorem ixLast_go {K:PySem.W.Frag} {H:Hp} {a:Addr} {xs:List V} {v:V} {Q:VK} (hS:SqL K H a xs) (h:xs.getLast? = some v) (q:Q v H):rIxL K (.ref a) (.int (-1)) H Q:=⟨a,xs,_,v,rfl,rfl,hS,atI_end h,q⟩
end L2
set_option maxHeartbeats 1000000
namespace L2
section
open PySem PySem.Spec PyProof.Rows Builtin Builtin.ObjectAttr Builtin.Getset_descriptor
structure ExcK (K:PySem.W.Frag) (C:Addr):Prop where
  ga:PySem.W.findIn K (.ref C) "__getattribute__" = some (some (.builtin "BaseException.__getattribute__"))
  gt:PySem.W.findIn K (.ref C) "__getattr__" = some none
  cl:PySem.W.findIn K (.ref C) "__class__" = some (some (.builtin "object.__class__"))
  mo:PySem.W.mroIn K C (.type "object") = some true
  mb:PySem.W.mroIn K C (.type "BaseException") = some true
section
variable {prog:Program} {w:World} {A:Around} {E:Value→Shared→Prop} {K:PySem.W.Frag} {x C:Addr} {o:Obj}
theorem exc_ty {M:Model} {h:Heap} (hx:h.get? x = some o) (hc:o.cls = .ref C):PySem.W.Looks M h (typeOf (.ref x)) (.ref C):=hc ▸ (PySem.W.Looks.ld hx).andThen .now
theorem exc_get {R:Result→Shared→Prop} {tp:Value} {s:Shared} (X:K.In s.heap) (hx:s.heap.get? x = some o) (hc:o.cls = .ref C) (hm:PySem.W.mroIn K C (.type "object") = some true)
    (q:R (.ok (.ret (.ref C))) s):codeAny (model prog w) A (.call (.builtin "getset_descriptor.__get__") ⟨[.builtin "object.__class__",.ref x,tp],[]⟩) R s:=by
  obtain ⟨hh,g,dr,t,os⟩:=s
  have T0:=exc_ty (M:=model prog w) hx hc
  have T1:=PySem.W.looks_mroIn (M:=model prog w) X hm
  refine codeAny_call_builtin PySem.W.KF.slot_gs.plain PySem.W.KF.entry_gs (PySem.W.KF.slot_gs.check _ _ _ _ _ _ _ _ PySem.W.KF.type_class (PySem.W.KF.args_gs _ _ _) ?_)
  unfold Builtin.«getset_descriptor.__get__» descrGet; rw [PySem.W.dga_obj]; refine wpAny_bind (wpAny_pure ?_); unfold descrGetter descrCheckInstance descrNameAndClass isInstance; simp only [PySem.W.KF.owner_class]
  repeat lk
  refine ⟨Code.quiet_builtin _ (by decide +kernel),codeAny_builtin PySem.W.KF.entry_class ?_⟩; unfold Builtin.«object.__class__» shownTypeOf
  repeat lk
  exact q
theorem exc_entry {tk:Tok} {Q:Fin→Shared→Prop} {s:Shared} (hk:ExcK K C) (X:K.In s.heap) (hx:s.heap.get? x = some o) (hc:o.cls = .ref C) (q:Q (.done (.ret (.ref C))) s) :
    wpAny (model prog w) A (Builtin.«object.__getattribute__» ⟨[.ref x,.str "__class__" tk],[]⟩) Q E s:=by
  obtain ⟨hh,g,dr,t,os⟩:=s
  have T0:=exc_ty (M:=model prog w) hx hc
  have T1:=PySem.W.looks_findIn (M:=model prog w) X hk.cl
  have f6:=F.slot_gs_get.lookup
  have f7:=F.slot_gs_set.lookup
  have f5:=PySem.W.KF.type_class
  repeat (any_goals (first | assumption | with_reducible refine T0.at ?_ | with_reducible refine T1.at ?_ | wp_step))
  refine exc_get X hx hc hk.mo ?_
  repeat (any_goals (first | assumption | wp_step))
theorem exc_check {M:Model} {nameV:Value} {Q:Unit→Shared→Prop} {s:Shared} (hk:ExcK K C) (X:K.In s.heap) (hx:s.heap.get? x = some o) (hc:o.cls = .ref C) (q:Q () s) :
    wpAny M A (checkBuiltinCall "BaseException.__getattribute__" ⟨[.ref x,nameV],[]⟩) Q E s:=by
  obtain ⟨hh,g,dr,t,os⟩:=s
  have k1:builtinKind "BaseException.__getattribute__" = some .slot:=by decide +kernel
  have k2 : splitId "BaseException.__getattribute__" = some ("BaseException", "__getattribute__") := by decide +kernel
  have T0:=exc_ty (M:=M) hx hc
  have T1:=PySem.W.looks_mroIn (M:=M) X hk.mb
  have T2:PySem.W.Looks M hh (isInstance (.ref x) (.type "BaseException")) true:=T0.andThen T1
  have ha:=F.args_bexc_ga (.ref x) nameV
  simp only [checkBuiltinCall,k1,k2]
  refine wpAny_bind (T2.at ?_)
  repeat (any_goals (first | assumption | wp_step))
theorem exc_attr {Q:Option Value→Shared→Prop} {s:Shared} (hk:ExcK K C) (X:K.In s.heap) (hx:s.heap.get? x = some o) (hc:o.cls = .ref C) (q:Q (some (.ref C)) { s with toks:=s.toks + 1 }) :
    wpAny (model prog w) A (getAttr? (.ref x) "__class__") Q E s:=by
  obtain ⟨hh,g,dr,t,os⟩:=s
  have T0:=exc_ty (M:=model prog w) hx hc
  have T1:=PySem.W.looks_findIn (M:=model prog w) X hk.ga
  have T2:=PySem.W.looks_findIn (M:=model prog w) X hk.gt
  unfold getAttr? getAttrBy? getAttrBy
  refine wpAny_bind (wpAny_mkText (wpAny_bind (wpAny_attempt ?_)))
  refine wpAny_holding (wpAny_bind (T0.at (wpAny_bind (T1.at ?_))))
  have FB:=PySem.F.attrBase_ValueError
  have f3:=FB.ga.bind (.ref x)
  have b2:(Value.builtin "BaseException.__getattribute__" == Value.builtin "object.__getattribute__") = false:=by decide +kernel
  have b1:(onTheHeap (Value.ref C) && Value.builtin "BaseException.__getattribute__" == Value.builtin "object.__getattribute__") = false:=by rw [b2]; rfl
  show wpAny _ _ (if (onTheHeap (Value.ref C) && Value.builtin "BaseException.__getattribute__" == Value.builtin "object.__getattribute__") = true then _ else _) _ _ _
  rw [b1,if_neg (by decide)]
  unfold getAttrByItsOwn
  repeat (any_goals (first | assumption | with_reducible refine T2.at ?_ | wp_step))
  refine codeAny_call_builtin FB.ga.plain F.entry_bexc_ga (exc_check hk X hx hc (exc_entry hk X hx hc ?_))
  show wpAny _ _ (handedOut (.ref C)) _ _ _
  exact wpAny_pure (wpAny_pure q)
def ExcAt (x C:Addr) (h:Heap):Prop:=∃ o,h.get? x = some o∧o.cls = .ref C
theorem kitx_exc (hk:ExcK K C):PySem.W.KitX K (.ref x) (.ref C) (ExcAt x C) where
  ty:=fun M h _ p=>by obtain ⟨o,h1,h2⟩:=p; exact exc_ty h1 h2
  it:=fun M h X p=>by
    obtain ⟨cd,e,_⟩:=Option.bind_eq_some_iff.mp hk.mo
    unfold PySem.W.clsIn at e
    split at e
    next ho=>
      intro A' Q' E' s' k q
      unfold isType loadHead
      exact wpAny_bind (wpAny_loadPart (k _ _ (X _ _ ho)) (wpAny_pure q))
    next=>cases e
  ne:=fun h tp dd its n sl X htp=>by
    obtain ⟨cd,e,_⟩:=Option.bind_eq_some_iff.mp hk.mo
    refine Bool.eq_false_iff.mpr fun z=>?_
    obtain rfl:C = tp:=Value.ref.inj (beq_iff_eq.mp z)
    unfold PySem.W.clsIn at e
    split at e
    next ho=>have y:=(X _ _ ho).symm.trans htp; cases y
    next=>cases e
  ca:=fun X p k=>by obtain ⟨o,h1,h2⟩:=p; exact exc_attr hk X h1 h2 k
end
end
open PySem PySem.Spec PyProof.Rows
def ClsV (K:PySem.W.Frag) (H:Hp) (C:Addr) (c:V) (b:Bool):Prop:=
  (∃ D,c = .ref D∧PySem.W.kitOne K (.ref C) (.ref D) = some b) ∨ (∃ T,c = .ty T∧PySem.W.kitOne K (.ref C) (.type T) = some b) ∨ (∃ p,∃ ds:List Addr,c = .ref p∧H p = some (.tup (ds.map V.ref))∧PySem.W.kitAny K (.ref C) (ds.map Value.ref) = some b)
theorem kit_self {K:PySem.W.Frag} {C:Addr}:PySem.W.kitOne K (.ref C) (.ref C) = some true:=by
  unfold PySem.W.kitOne
  rw [if_pos (beq_self_eq_true _)]
theorem kit_ty {K:PySem.W.Frag} {C:Addr} {T:String} {b:Bool} (h1:PySem.W.kitMeta T = true) (h2:PySem.W.mroIn K C (.type T) = some b):PySem.W.kitOne K (.ref C) (.type T) = some b:=by
  unfold PySem.W.kitOne PySem.W.kitCls
  rw [if_neg (fun z=>by cases beq_iff_eq.mp z)]
  show (if PySem.W.kitMeta T = true then PySem.W.mroIn K C (.type T) else none) = some b
  rw [if_pos h1,h2]
theorem kit_cl {K : PySem.W.Frag} {C D : Addr} {b : Bool} (h1 : PySem.W.typeIn K (.ref D) = some (.type "type")) (h2 : PySem.W.mroIn K D (.type "object") = some true) (h3 : PySem.W.mroIn K C (.ref D) = some b) (h4 : (C == D) = false) : PySem.W.kitOne K (.ref C) (.ref D) = some b := by
  unfold PySem.W.kitOne PySem.W.kitCls
  rw [if_neg (fun z=>by have e:=Value.ref.inj (beq_iff_eq.mp z); rw [e] at h4; simp at h4)]
  obtain ⟨cd,e,_⟩:=Option.bind_eq_some_iff.mp h2
  show (if ((PySem.W.clsIn K D).isSome && PySem.W.typeIn K (.ref D) == some (.type "type")) = true then PySem.W.mroIn K C (.ref D) else none) = some b
  rw [if_pos (by rw [e,h1]; rfl),h3]
theorem kit_nil {K:PySem.W.Frag} {t:Value}:PySem.W.kitAny K t [] = some false:=rfl
theorem kit_no {K:PySem.W.Frag} {t c:Value} {cs:List Value} {b:Bool} (h:PySem.W.kitOne K t c = some false) (h2:PySem.W.kitAny K t cs = some b):PySem.W.kitAny K t (c :: cs) = some b:=by
  unfold PySem.W.kitAny
  rw [h]
  exact h2
theorem refs_of:∀ {ds:List Addr} {us:List Value},Vals (ds.map V.ref) us→us = ds.map Value.ref
  | [],us,h=>by cases h; rfl
  | d :: ds,us,h=>by
    cases h with
    | cons h1 h2=>
      rw [refs_of h2]
      have e:_ = Value.ref d:=h1
      rw [e]
      rfl
section
variable {X:Cx}
theorem ke_cls {z:Str} {D:Addr} {p:Pos} (hm:X.mg z = some (.ref D)) (hg:X.env.kindOf z = some .globalImplicit:=by kernel_rfl) (hd:(z == ("__debug__":Str)) = false:=by kernel_rfl):QE X (.Name z p) (tC (.ref D)):=⟨pe_glob (v:=.ref D) hg hm rfl hd⟩
theorem ke_ty {z : Str} {T : String} {p : Pos} (hm : X.mg z = none) (hv : bootBuiltins z = some (.type T)) (hg : X.env.kindOf z = some .globalImplicit := by kernel_rfl) (hn : decide (z = "__name__") = false := by kernel_rfl) (hd : (z == ("__debug__" : Str)) = false := by kernel_rfl) : QE X (.Name z p) (tC (.ty T)) := ⟨pe_bltn (v := .ty T) hg hm hv rfl (of_decide_eq_false hn) hd⟩
end
end L2
set_option maxHeartbeats 1000000
namespace L2
open PySem PySem.Spec PyProof.Rows
structure RoomH (k:Nat) (A:Around):Prop where
  hd:∃ ea:Addr,A.handled = some (.ref ea)
  dp:A.depth + 3 * k + 5 < recursionLimit
  un:A.units + 16 * k + 200 < cLine
structure FnOkH (P:Program) (w:World) (K:PySem.W.Frag) (mg:Str→Option Value) (base:Heap) (k:Nat) (f:Addr) (fd:FuncData) (ps:List Str) (sp:Sp):Prop where
  len:∀ vs H Q E,sp vs H Q E→vs.length = ps.length
  run:∀ (A:Around) (outer:List Env) (s:Shared) (H:Hp) (args:Args) (us:List Value) (vs:List V) (Q:VK) (E:XK),RoomH k A→Env0 P w K mg base A outer s H→BindsTo s fd args (ps.zip us)→Vals vs us→sp vs H Q E→
    codeAny (model P w) A (.call (.ref f) args) (CR CX0 outer P w H s Q E) s
def unH (A:Around):Around:={ A with handled:=none }
abbrev cxH (P:Program) (w:World) (K:PySem.W.Frag) (mg:Str→Option Value) (base:Heap) (N:List Str) (qual:Str) (scope:Scope) (f:Addr) (cd:Value) (A:Around) (outer:List Env) (s:Shared) (H:Hp) (E:XK) (ea:Addr):Cx:=(cxOf CX0 P w K mg base N qual scope f cd (unH A) outer s H E).hand ea
theorem mark_back {A:Around} {env:Env} {ea:Addr} (h:A.handled = some (.ref ea)):((unH A).deeper env).mark (some (.ref ea)) = A.deeper env:=by
  cases A
  cases h
  rfl
theorem fn_ofH {P:Program} {w:World} {K:PySem.W.Frag} {mg:Str→Option Value} {base:Heap} {k:Nat} {f:Addr} {name qual:Str} {params:Arguments} {body:List Stmt} {scope:Scope} {dV kV doc pm cdv ct oc:Value} {an od:Option Addr}
    {osl:Array (Option Value)} {N ps:List Str} {sp:Sp} (lk:K.lookup f = some ⟨oc,od,.func (PySem.W.fnOf name qual params body scope dV kV doc pm an cdv ct),osl⟩) (hcd:PySem.W.codeIn K cdv qual = true) (S:FnScope N ps scope)
    (len:∀ vs H Q E,sp vs H Q E→vs.length = ps.length)
    (hbody:∀ (A:Around) (outer:List Env) (s:Shared) (H:Hp) (vs:List V) (Q:VK) (E:XK) (ea:Addr),sp vs H Q E→
      ∃ t,PSs (cxH P w K mg base N qual scope f cdv A outer s H E ea) body t∧t { nx:=fun _ H'=>Q .non H',rt:=Q } (start N vs) H) :
    FnOkH P w K mg base (k + 1) f (PySem.W.fnOf name qual params body scope dV kV doc pm an cdv ct) ps sp:=by
  refine ⟨len,fun A outer s H args us vs Q E hr e0 hb r hsp=>?_⟩
  obtain ⟨ea,hea⟩:=hr.hd
  have hl:=len _ _ _ _ hsp
  have KX:K.In s.heap:=e0.mod.kin.keeps fun b o e=>(e0.bs b o e).1
  have lim:s.heap.NoLimit:=e0.mod.nolimit.keeps fun b o e=>(e0.bs b o e).1
  have hkind:∀ y ∈ ps.zip us,scope.names.lookup y.1 = some .local ∨ (scope.names.lookup y.1 = some .cell∧((cellsFrom (s.heap.objs.size + 1) scope.names []).lookup y.1).isSome = true):=fun ⟨n,v⟩ hy=>by
    rcases S.par n (List.of_mem_zip hy).1 with q | q
    · exact .inl q
    · exact .inr ⟨q,PySem.W.cellsFrom_some _ _ _ (.inl q)⟩
  refine codeAny_call_function (by have:=hr.dp; omega) (KX _ _ lk) rfl S.co S.gen rfl (PySem.W.codeRec_of KX hcd) (hb _ _ _ _ ?_)
  refine wpAny_newFunctionEnv_cells S.kind hkind fun env he s1 x=>?_
  subst he
  refine ⟨lim.keeps x.toInCall.keep,codeAny_func ?_⟩
  obtain ⟨t,ht,hq⟩:=hbody A outer s H vs Q E ea hsp
  have e1:Env0 P w K mg base (unH A) outer s H:=⟨e0.frames,e0.mod,e0.bs,e0.bsz,e0.funs,e0.frf,e0.hok,e0.bare⟩
  have I0:Inv (cxOf CX0 P w K mg base N qual scope f cdv (unH A) outer s H E) [] (start N vs) H s1:=inv_start S rfl e1 hl r x
  have I:=I0.hand ea
  have run:=ht [] s1 (start N vs) H _ I hq
  have eA:(cxH P w K mg base N qual scope f cdv A outer s H E ea).A = A.deeper (envOfC qual scope s.heap.objs.size f cdv):=mark_back hea
  rw [eA] at run
  refine wpAny_mono run (fun fl s' hs=>?_) fun e s' hs=>False.elim hs
  have fin:∀ {σ':St} {H':Hp} {v:V} {u:Value},Inv (cxH P w K mg base N qual scope f cdv A outer s H E ea) [] σ' H' s'→RelV v u→Q v H'→CE outer P w H s Q u s':=
    fun {σ' H' v u} J rv q=>⟨v,H',J.os,J.bare,J.base,J.hok,rv,q⟩
  cases fl with
  | ret u=>
    obtain ⟨v,σ',H',J,rv,q⟩:=hs
    exact fin J rv q
  | next=>
    obtain ⟨σ',H',J,q⟩:=hs
    exact fin (v:=V.non) (u:=Value.none) J rfl q
  | brk=>
    obtain ⟨_,_,_,q⟩:=hs
    exact False.elim q
  | cont=>
    obtain ⟨_,_,_,q⟩:=hs
    exact False.elim q
theorem Fun.okH {P:Program} {w:World} {K:PySem.W.Frag} {mg:Str→Option Value} {base:Heap} {x qual:Str} {st:Stmt} {f:Addr} {fd:FuncData} {N ps:List Str} {k:Nat} {sp:Sp} (F:Fun K x qual st f fd) (S:FnScope N ps (defScope st)) {rd:TS} (len:∀ vs H Q E,sp vs H Q E→vs.length = ps.length)
    (hb:∀ (cdv:Value) (A:Around) (outer:List Env) (s:Shared) (H:Hp) (E:XK) (ea:Addr),QSs (cxH P w K mg base N qual (defScope st) f cdv A outer s H E ea) (defBody st) rd)
    (hq:∀ (vs:List V) (H:Hp) (Q:VK) (E:XK),sp vs H Q E→rd { nx:=fun _ H'=>Q .non H',rt:=Q } (start N vs) H):FnOkH P w K mg base (k + 1) f fd ps sp:=by
  obtain ⟨oc,od,kV,doc,pm,an,cdv,ct,osl,rfl,lk,hcd⟩:=F.ex
  exact fn_ofH lk hcd S len fun A outer s H vs Q E ea hsp=>⟨rd,(hb cdv A outer s H E ea).p,hq vs H Q E hsp⟩
theorem Room.toH {k:Nat} {A:Around} (r:Room k A) (ea:Addr):RoomH k (A.mark (some (.ref ea))):=⟨⟨ea,rfl⟩,r.dp,r.un⟩
end L2
namespace Rev
open PySem PyProof.Rows PySem.Calls
end Rev
namespace L2
open PySem PySem.Spec PyProof.Rows
open MM
abbrev RwN:=List Nat × Option (List Nat)
def rowP (r:RwN):V × V:=(strV r.1,oV r.2)
variable {L:Nat} {R:List RwN}
theorem slL_go {K:PySem.W.Frag} {H:Hp} {a:Addr} {xs:List V} {lo hi:Option Int} {Q:VK} (h:SqL K H a xs) (q:∀ p,H p = none→Q (.ref p) (upd H p (.lst (cutV xs lo hi)))):rSlL K (.ref a) lo hi H Q:=⟨a,xs,rfl,h,q⟩
end L2
namespace MinD
open PySem PyProof.Rows
end MinD
namespace L2
open PySem PySem.Spec PyProof.Rows
end L2
namespace DOf
open PySem PyProof.Rows PySem.Calls
end DOf
namespace L2
open PySem PySem.Spec PyProof.Rows
end L2
namespace KSrt
open PySem PySem.W PyProof.Rows
variable {K:Nat→List Nat} {n:Nat}
end KSrt
namespace KSrt
open PySem PySem.W PyProof.Rows
end KSrt
namespace L2
open PySem PySem.Spec PyProof.Rows
open MM
def RowsC (H:Hp):List Addr→List (List RwN)→Prop
  | [],[]=>True
  | a :: as,r :: R=>(∃ xs,H a = some (.lst xs)∧Prs H xs (r.map rowP))∧RowsC H as R
  | _,_=>False
theorem RowsC.same {H H':Hp} (s:Same H H'):∀ {as:List Addr} {R:List (List RwN)},RowsC H as R→RowsC H' as R
  | [],[],_=>trivial
  | [],_ :: _,h=>h.elim
  | _ :: _,[],h=>h.elim
  | _ :: _,_ :: _,⟨⟨xs,e,p⟩,r⟩=>⟨⟨xs,s _ _ e,p.same s⟩,RowsC.same s r⟩
theorem RowsC.len {H:Hp}:∀ {as:List Addr} {R:List (List RwN)},RowsC H as R→as.length = R.length
  | [],[],_=>rfl
  | [],_ :: _,h=>h.elim
  | _ :: _,[],h=>h.elim
  | _ :: _,_ :: _,⟨_,r⟩=>by rw [List.length_cons,List.length_cons,RowsC.len r]
theorem RowsC.app {H:Hp}:∀ {as:List Addr} {R:List (List RwN)} {bs:List Addr} {S:List (List RwN)},RowsC H as R→RowsC H bs S→RowsC H (as ++ bs) (R ++ S)
  | [],[],_,_,_,h=>h
  | [],_ :: _,_,_,h,_=>h.elim
  | _ :: _,[],_,_,h,_=>h.elim
  | _ :: _,_ :: _,_,_,⟨a,r⟩,h=>⟨a,RowsC.app r h⟩
def stP (z:List Nat × List Nat):V × V:=(strV z.1,strV z.2)
structure StA (H:Hp) (p p1 p2 p3:Addr) (bs:List Addr) (ts:List V) (L h:Nat) (R:List (List RwN)) (zs:List (List Nat × List Nat)) (ws:List (List Nat)):Prop where
  top:H p = some (.tup [.int L,.int h,.ref p1,.ref p2,.ref p3])
  ren:H p1 = some (.lst (bs.map V.ref))
  row:RowsC H bs R
  thi:H p2 = some (.lst ts)
  prs:Prs H ts (zs.map stP)
  tak:H p3 = some (.lst (ws.map strV))
theorem StA.same {H H':Hp} {p p1 p2 p3:Addr} {bs:List Addr} {ts:List V} {L h:Nat} {R:List (List RwN)} {zs:List (List Nat × List Nat)} {ws:List (List Nat)} (A:StA H p p1 p2 p3 bs ts L h R zs ws) (s:Same H H'):StA H' p p1 p2 p3 bs ts L h R zs ws:=
  ⟨s _ _ A.top,s _ _ A.ren,A.row.same s,s _ _ A.thi,A.prs.same s,s _ _ A.tak⟩
theorem Same.free1 {H H':Hp} (s:Same H H') {p:Addr} (h:H' p = none):H p = none:=by
  cases w:H p with
  | none=>rfl
  | some o=>rw [s p o w] at h; cases h
def rowsD (R:List (List RwN)):List PyData:=R.map fun r=>.list (pairD (r.map rowP))
def stD (L h:Nat) (R:List (List RwN)) (zs:List (List Nat × List Nat)) (ws:List (List Nat)):PyData:=.tuple [.int L,.int h,.list (rowsD R),.list (pairD (zs.map stP)),.list ((ws.map txt).map PyData.str)]
structure StOk (R:List (List RwN)) (zs:List (List Nat × List Nat)) (ws:List (List Nat)):Prop where
  rows:∀ r ∈ R,∀ y ∈ r,PyData.strOk (txt y.1) = true∧∀ z,y.2 = some z→PyData.strOk (txt z) = true
  things:∀ z ∈ zs,PyData.strOk (txt z.1) = true∧PyData.strOk (txt z.2) = true
  taken:∀ w ∈ ws,PyData.strOk (txt w) = true
theorem row_ok {r:List RwN} (h:∀ y ∈ r,PyData.strOk (txt y.1) = true∧∀ z,y.2 = some z→PyData.strOk (txt z) = true):∀ p ∈ r.map rowP,OkV p.1∧OkV p.2:=fun p hp=>by
  obtain ⟨y,hy,rfl⟩:=List.mem_map.mp hp
  obtain ⟨a,b⟩:=h y hy
  refine ⟨.str a,?_⟩
  show OkV (oV y.2)
  cases e:y.2 with
  | none=>exact .non
  | some z=>exact .str (b z e)
theorem thing_ok {zs:List (List Nat × List Nat)} (h:∀ z ∈ zs,PyData.strOk (txt z.1) = true∧PyData.strOk (txt z.2) = true):∀ p ∈ zs.map stP,OkV p.1∧OkV p.2:=fun p hp=>by
  obtain ⟨z,hz,rfl⟩:=List.mem_map.mp hp
  exact ⟨.str (h z hz).1,.str (h z hz).2⟩
theorem RowsC.dat {K:PySem.W.Frag} {H:Hp}:∀ {as:List Addr} {R:List (List RwN)},RowsC H as R→(∀ r ∈ R,∀ y ∈ r,PyData.strOk (txt y.1) = true∧∀ z,y.2 = some z→PyData.strOk (txt z) = true)→DatAll K H (as.map V.ref) (rowsD R)
  | [],[],_,_=>.nil
  | [],_ :: _,h,_=>h.elim
  | _ :: _,[],h,_=>h.elim
  | _ :: _,r :: _,⟨⟨xs,e,p⟩,t⟩,ok=>.cons (.lst (SqL.of e) (p.dat (row_ok (ok r List.mem_cons_self)))) (RowsC.dat t fun q hq=>ok q (List.mem_cons_of_mem _ hq))
theorem dat_strsH {K:PySem.W.Frag} {H:Hp}:∀ ms:List (List Nat),DatAll K H (ms.map strV) ((ms.map txt).map PyData.str)
  | []=>.nil
  | m :: ms=>.cons (.str _) (dat_strsH ms)
theorem StA.dat {K:PySem.W.Frag} {H:Hp} {p p1 p2 p3:Addr} {bs:List Addr} {ts:List V} {L h:Nat} {R:List (List RwN)} {zs:List (List Nat × List Nat)} {ws:List (List Nat)} (A:StA H p p1 p2 p3 bs ts L h R zs ws) (ok:StOk R zs ws):Dat K H (.ref p) (stD L h R zs ws):=
  .tup (SqT.of A.top) (.cons (.int _) (.cons (.int _) (.cons (.lst (SqL.of A.ren) (A.row.dat ok.rows)) (.cons (.lst (SqL.of A.thi) (A.prs.dat (thing_ok ok.things))) (.cons (.lst (SqL.of A.tak) (dat_strsH ws)) .nil)))))
theorem lay_rows:∀ {R:List (List RwN)},(∀ r ∈ R,∀ y ∈ r,PyData.strOk (txt y.1) = true∧∀ z,y.2 = some z→PyData.strOk (txt z) = true)→PyData.canLayAll0 (rowsD R) = true∧PyData.depthAll (rowsD R) ≤ 2
  | [],_=>⟨by simp [rowsD,PyData.canLayAll0],by simp [rowsD,PyData.depthAll]⟩
  | r :: R,ok=>by
    obtain ⟨a,b⟩:=lay_rows (R:=R) fun q hq=>ok q (List.mem_cons_of_mem _ hq)
    obtain ⟨c,d⟩:=lay_pairs (row_ok (ok r List.mem_cons_self))
    have e:rowsD (r :: R) = .list (pairD (r.map rowP)) :: rowsD R:=rfl
    rw [e]
    refine ⟨by simp [PyData.canLayAll0,PyData.canLay0,a,c],?_⟩
    simp only [PyData.depthAll,PyData.depth]
    omega
theorem shaped_st {L h:Nat} {R:List (List RwN)} {zs:List (List Nat × List Nat)} {ws:List (List Nat)} (ok:StOk R zs ws):SeqAt.shaped (stD L h R zs ws) = true:=by
  obtain ⟨a,b⟩:=lay_rows ok.rows
  obtain ⟨c,d⟩:=lay_pairs (thing_ok ok.things)
  have o2:∀ y ∈ ws.map txt,PyData.strOk y = true:=fun y hy=>by obtain ⟨z,hz,rfl⟩:=List.mem_map.mp hy; exact ok.taken z hz
  unfold SeqAt.shaped stD
  rw [Bool.and_eq_true]
  have cl:=canLay_strs _ o2
  have dl:=depth_strs (ws.map txt)
  generalize (ws.map txt).map PyData.str = D2 at cl dl ⊢
  refine ⟨by simp [PyData.canLay0,PyData.canLayAll0,a,c,cl],?_⟩
  rw [decide_eq_true_eq]
  simp only [PyData.depth,PyData.depthAll,dl]
  omega
theorem eq_states {K:PySem.W.Frag} {H:Hp} {p p1 p2 p3 q q1 q2 q3:Addr} {bs cs:List Addr} {ts us:List V} {L h:Nat} {R:List (List RwN)} {zs:List (List Nat × List Nat)} {ws:List (List Nat)} {Q:VK} (A:StA H p p1 p2 p3 bs ts L h R zs ws) (B:StA H q q1 q2 q3 cs us L h R zs ws) (ok:StOk R zs ws) (r:Q (.bl true) H):rEqD K (.ref p) (.ref q) H Q:=by
  refine ⟨_,_,A.dat ok,B.dat ok,shaped_st ok,shaped_st ok,?_⟩
  rw [SeqAt.eqv_refl _ (SeqAt.canLay_of_shaped (shaped_st ok))]
  exact r
theorem ne_states {K:PySem.W.Frag} {H:Hp} {p p1 p2 p3 q q1 q2 q3:Addr} {bs cs:List Addr} {ts us:List V} {L h:Nat} {R:List (List RwN)} {zs:List (List Nat × List Nat)} {ws:List (List Nat)} {Q:VK} (A:StA H p p1 p2 p3 bs ts L h R zs ws) (B:StA H q q1 q2 q3 cs us L h R zs ws) (ok:StOk R zs ws) (r:Q (.bl false) H):rNeD K (.ref p) (.ref q) H Q:=by
  refine ⟨_,_,A.dat ok,B.dat ok,shaped_st ok,shaped_st ok,?_⟩
  rw [SeqAt.eqv_refl _ (SeqAt.canLay_of_shaped (shaped_st ok))]
  exact r
theorem seq_cset {wi:TI} {fs:List Nat} {tt:TT} {te:TE} {i:Nat} {C:TS} {D:Ends} {σ:St} {H:Hp} (h:∀ c:V→Hp→Prop,(∀ x H1,C D (σ.set i (some x)) H1→c x H1)→tComp wi fs tt te σ H c):tSeq (tCompSet i wi fs tt te) C D σ H:=h _ fun _ _ z=>z
end L2
namespace L2
open PySem PySem.Spec PyProof.Rows
open MM
def someT:List (List Nat):=[[97],[116,97,107,101,110],[114,101,110,101,119,97,108],[48],[122,57],[97,98,99,100,101,102,103,104,105,106,107,108],[98],[55]]
theorem someT_ok:∀ t ∈ someT,Thing t∧t.length ≤ 12:=by
  intro t ht
  simp only [someT,List.mem_cons,List.not_mem_nil,or_false] at ht
  rcases ht with rfl | rfl | rfl | rfl | rfl | rfl | rfl | rfl <;> exact ⟨⟨by decide,by decide,by decide⟩,by decide⟩
def spHThing (K:PySem.W.Frag):Sp:=fun vs H Q _=>∃ (a:Addr) (ns:List Int) (k:Int),vs = [.ref a,.int k]∧SqL K H a (ns.map V.int)∧ns.length ≤ 63∧0 ≤ k∧k ≤ 10000∧∀ H' t,Same H H'→Thing t→t.length ≤ 12→Q (.str (txt t)) H'
def rdHThing (K:PySem.W.Frag):TS:=
    tSeq (tAsg (tLst (tCons (tC (.str (txt [97]))) (tCons (tC (.str (txt [116,97,107,101,110]))) (tCons (tC (.str (txt [114,101,110,101,119,97,108]))) (tCons (tC (.str (txt [48]))) (tCons (tC (.str (txt [122,57]))) (tCons (tC (.str (txt [97,98,99,100,101,102,103,104,105,106,107,108]))) (tCons (tC (.str (txt [98]))) (tCons (tC (.str (txt [55]))) tNil))))))))) (gName 2))
      (tRet (tOp (rIxL K) (tVar 2) (tCall (spDraw K) [] E0 (tCons (tVar 0) (tCons (tVar 1) (tCons (tC (.int 8)) tNil))))))
theorem read_hthing {K:PySem.W.Frag} {N:List Str} {vs:List V} {H:Hp} {Q:VK} {E:XK} (hN:N.length = 3) (h:spHThing K vs H Q E):rdHThing K { nx:=fun _ H'=>Q .non H',rt:=Q } (L2.start N vs) H:=by
  obtain ⟨sc,ns,k,rfl,hS,hl,hk0,hk1,q⟩:=h
  unfold rdHThing L2.start
  rw [hN]
  refine seq_set fun c hc=>?_
  and_intros
  refine ⟨by decide,fun p hp=>hc _ _ ?_⟩
  clear hc c
  have s1:=Same.up (o:=HO.lst (someT.map strV)) H hp
  have l1:(upd H p (.lst (someT.map strV))) p = some (.lst (someT.map strV)):=upd_same
  show tRet _ _ _ (upd H p (.lst (someT.map strV)))
  generalize upd H p _ = H1 at s1 l1 ⊢
  and_intros
  refine ⟨sc,ns,_,_,s1.seq hS,hl,hk0,by omega,by decide,fun r h0 h1=>?_⟩
  obtain ⟨t,ht⟩:=some_at (l:=someT) (i:=r.toNat) (by simp only [someT,List.length_cons,List.length_nil]; omega)
  obtain ⟨b1,b2⟩:=someT_ok t (List.mem_of_getElem? ht)
  exact ixL_go (v:=strV t) (SqL.of l1) h0 (by rw [List.getElem?_map,ht]; rfl) (q _ t s1 b1 b2)
end L2
namespace L2
open PySem PySem.Spec PyProof.Rows
inductive FP where
  | raw (t:TE)
  | fmt (t:TE)
def FmtV (v:V) (l:List Nat):Prop:=v = .str (txt l) ∨ ∃ i:Int,v = .int i∧i.natAbs.log2 < 1920∧txt l = (toString i:Str)
def tFp:List FP→List Nat→TE
  | [],out,_,H,Q=>out.length ≤ 100000∧Q (.str (txt out)) H
  | .raw t :: r,out,σ,H,Q=>t σ H fun v H1=>∃ l,v = .str (txt l)∧out.length + l.length ≤ 100000∧tFp r (out ++ l) σ H1 Q
  | .fmt t :: r,out,σ,H,Q=>t σ H fun v H1=>∃ l,FmtV v l∧out.length + l.length ≤ 100000∧tFp r (out ++ l) σ H1 Q
structure QF (X:Cx) (es:List Expr) (ps:List FP):Prop where
  p:∀ (pins:List (Addr × Obj)) (s:Shared) (σ:St) (H:Hp) (Q:VK) (out:List Nat),Inv X pins σ H s→tFp ps out σ H Q→wpAny (model X.prog X.w) X.A (joinParts (txt out) (evalEach es X.env)) (EP X pins σ Q) X.xe s
section
variable {X:Cx} {e:Expr} {es:List Expr} {t:TE} {ps:List FP} {pos:Pos}
theorem len_txt (l:List Nat):(txt l).length = l.length:=by simp [txt,Str.length]
theorem kf_nil:QF X [] []:=⟨fun pins s σ H Q out I ⟨hz,q⟩=>joinParts_nil ⟨.str (txt out),H,I.tok _,⟨_,rfl⟩,q⟩ (by rw [len_txt]; exact Nat.le_trans hz (by decide))⟩
theorem kf_raw (h:QE X e t) (r:QF X es ps):QF X (e :: es) (.raw t :: ps):=⟨by
  intro pins s σ H Q out I q
  refine joinParts_cons (thn (h.p pins s σ H _ I q) fun v s1 ⟨x,H1,I1,rx,l,ex,hz,q1⟩=>?_)
  subst ex
  obtain ⟨u,rfl⟩:=rx
  refine ⟨by rw [txt_app,len_txt,List.length_append]; exact Nat.le_trans hz (by decide),?_⟩
  rw [txt_app]
  exact r.p pins s1 σ H1 Q _ I1 q1⟩
theorem kf_fmt {fpos:Pos} (h:QE X e t) (r:QF X es ps):QF X (.FormattedValue e (-1) none fpos :: es) (.fmt t :: ps):=⟨by
  intro pins s σ H Q out I q
  refine joinParts_cons (FormattedValue_plain (thn (h.p pins s σ H _ I q) fun v s1 ⟨x,H1,I1,rx,l,fx,hz,q1⟩=>?_))
  have sz:(txt out ++ txt l).length ≤ sizeLine:=by rw [txt_app,len_txt,List.length_append]; exact Nat.le_trans hz (by decide)
  rcases fx with ex | ⟨i,ex,hi,el⟩
  · subst ex
    obtain ⟨u,rfl⟩:=rx
    refine formatField_str (fun t' tk=>⟨sz,?_⟩) (by rw [len_txt]; exact Nat.le_trans (show l.length ≤ 100000 by omega) (by decide))
    rw [txt_app]
    exact r.p pins _ σ H1 Q _ (I1.tok _) q1
  · subst ex
    obtain ⟨u,rfl⟩:=rx
    refine formatField_int_small hi ?_
    rw [← el]
    refine ⟨sz,?_⟩
    rw [txt_app]
    exact r.p pins _ σ H1 Q _ (I1.tok _) q1⟩
def tFstr (ps:List FP):TE:=tFp ps []
theorem ke_fstr {e1 e2:Expr} (h:QF X (e1 :: e2 :: es) ps):QE X (.JoinedStr (e1 :: e2 :: es) pos) (tFstr ps):=⟨fun pins s σ H Q I q=>JoinedStr_many (h.p pins s σ H Q [] I q)⟩
end
def splitL (c:Nat):List Nat→List (List Nat)
  | []=>[[]]
  | x :: l=>if x = c then [] :: splitL c l else match splitL c l with
    | []=>[[x]]
    | w :: ws=>(x :: w) :: ws
theorem splitL_free {c:Nat}:∀ w:List Nat,c ∉ w→splitL c w = [w]
  | [],_=>rfl
  | x :: w,h=>by
    have hx:¬ x = c:=fun z=>h (by rw [z]; exact List.mem_cons_self)
    rw [splitL,if_neg hx,splitL_free w fun z=>h (List.mem_cons_of_mem _ z)]
theorem splitL_app {c:Nat} (l:List Nat):∀ w:List Nat,c ∉ w→splitL c (w ++ c :: l) = w :: splitL c l
  | [],_=>by rw [List.nil_append,splitL,if_pos rfl]
  | x :: w,h=>by
    have hx:¬ x = c:=fun z=>h (by rw [z]; exact List.mem_cons_self)
    rw [List.cons_append,splitL,if_neg hx,splitL_app l w fun z=>h (List.mem_cons_of_mem _ z)]
theorem joinL_cons (sep y z:List Nat) (r:List (List Nat)):joinL sep (y :: z :: r) = y ++ sep ++ joinL sep (z :: r):=by
  show r.foldl _ (y ++ sep ++ z) = y ++ sep ++ r.foldl _ z
  induction r generalizing z with
  | nil=>rfl
  | cons a r ih=>rw [List.foldl_cons,List.foldl_cons,← ih]; simp only [List.append_assoc]
theorem splitL_join {c:Nat}:∀ ws:List (List Nat),ws ≠ []→(∀ w ∈ ws,c ∉ w)→splitL c (joinL [c] ws) = ws
  | [],h,_=>absurd rfl h
  | [w],_,h=>splitL_free w (h w List.mem_cons_self)
  | w :: z :: r,_,h=>by
    rw [joinL_cons,List.append_assoc,List.singleton_append,splitL_app _ w (h w List.mem_cons_self),splitL_join (z :: r) (by simp) fun y hy=>h y (List.mem_cons_of_mem _ hy)]
theorem split_txt (l:List Nat) (c:Nat):Txt.split (txt l) (txt [c]) = (splitL c l).map txt:=by
  have e0:(Txt.split (txt l) (txt [c])) = ((Txt.split (txt l) (txt [c])).map fun p=>p.cps.toList).map txt:=by
    rw [List.map_map]
    exact (List.map_id _).symm.trans (List.map_congr_left fun p _=>(txt_codes p).symm)
  have fr:=StrLaws.split_free (txt l) c
  have j1:=StrLaws.join_split (txt l) (txt [c])
  have pos:=split_pos (txt l) (txt [c])
  generalize hws:(Txt.split (txt l) (txt [c])).map (fun p=>p.cps.toList) = ws at e0
  have hf:∀ w ∈ ws,c ∉ w:=fun w hw=>by
    rw [← hws] at hw
    obtain ⟨p,hp,rfl⟩:=List.mem_map.mp hw
    exact fr p hp
  have hne:ws ≠ []:=fun z=>by
    rw [z] at hws
    have:=congrArg List.length hws
    rw [List.length_map] at this
    simp at this
    rw [this] at pos
    simp at pos
  rw [e0] at j1
  have j2:txt (joinL [c] ws) = txt l:=by
    rw [← j1,← StrLaws.glued_eq_join]
    exact (join_txt [c] ws).symm
  rw [e0,← txt_inj.mp j2,splitL_join ws hne hf]
abbrev rSplit:V→List V→Hp→VK→Prop:=fun x xs H Q=>∃ l c,x = .str (txt l)∧xs = [.str (txt [c])]∧l.length ≤ 100000∧∀ p,H p = none→Q (.ref p) (upd H p (.lst ((splitL c l).map strV)))
section
variable {prog:Program} {w:World} {A:Around} {E:Value→Shared→Prop} {s:Shared} {x y:Str} {t u:Tok} {Q:Value→Shared→Prop}
theorem split_call (hy:(y.length == 0) = false) (h:∀ l k,l.map (·.1) = Txt.split x y→Q (.ref s.heap.objs.size) { s with heap:=s.heap.push { cls:=.type "list",data:=.seq (strValues l).toArray },toks:=k }) (hsz:x.length + 2 ≤ sizeLine) :
    wpAny (model prog w) A (call (.builtin "str.split") [.str x t,.str y u]) Q E s:=by
  have hn:(Builtin.Str.partsBetween x (Builtin.Str.occurrences x y 0 x.length (x.length + 1)) y.length).length ≤ sizeLine:=by
    have e1:=StrLaws.occ_length_le x y 0 x.length (x.length + 1)
    rw [length_partsBetween]; omega
  cases h1:(decide (x.length < y.length) || decide (Builtin.Str.strKind x < Builtin.Str.strKind y))
  · cases hf:(Builtin.Str.occurrences x y 0 x.length (x.length + 1)).isEmpty
    · refine call_meets F.slot_str_split (typeIs_str _ _ _) F.entry_str_split (F.args_str_split_2 _ _) (meets_str_split_sep x y t u h1 hy hf (by omega) hn) ?_
      show wants Q E _ { s with toks:=_,heap:=s.heap.push { cls:=.type "list",data:=.seq (strsFrom s.toks (Builtin.Str.partsBetween x (Builtin.Str.occurrences x y 0 x.length (x.length + 1)) y.length)).toArray } }
      rw [strsFrom_eq]
      exact h (numbered s.toks _) _ ((numbered_texts _ _).trans ((if_neg (ne_true_of_eq_false h1)).trans (if_neg (ne_true_of_eq_false hf))).symm)
    · exact call_meets F.slot_str_split (typeIs_str _ _ _) F.entry_str_split (F.args_str_split_2 _ _) (meets_str_split_not_found x y t u h1 hy hf)
        (h [(x,t)] s.toks ((if_neg (ne_true_of_eq_false h1)).trans (if_pos hf)).symm)
  · exact call_meets F.slot_str_split (typeIs_str _ _ _) F.entry_str_split (F.args_str_split_2 _ _) (meets_str_split_cannot_occur x y t u h1)
      (h [(x,t)] s.toks (if_pos h1).symm)
end
theorem vals_ofS:∀ {l:List (Str × Tok)} {ws:List (List Nat)},l.map (·.1) = ws.map txt→Vals (ws.map strV) (strValues l)
  | [],[],_=>.nil
  | [],_ :: _,h=>by cases h
  | _ :: _,[],h=>by cases h
  | (y,u) :: l,w :: ws,h=>by
    rw [List.map_cons,List.map_cons] at h
    obtain ⟨h1,h2⟩:=List.cons.inj h
    have h1:y = txt w:=h1
    subst h1
    exact .cons ⟨u,rfl⟩ (vals_ofS h2)
section
variable {X:Cx}
theorem mt_split:MtR X "str.split" rSplit:=by
  intro pins s σ H x vs v us Q I rx rv h
  obtain ⟨l,c,rfl,rfl,hz,q⟩:=h
  obtain ⟨t,rfl⟩:=rx
  obtain ⟨u,rfl,t',rfl⟩:=rv.one
  refine split_call (by rw [len_txt]; rfl) (fun ls k e=>?_) (by rw [len_txt]; exact Nat.le_trans (Nat.add_le_add_right hz 2) (by decide))
  have e2:=e
  rw [split_txt] at e
  have hl:=congrArg List.length e
  rw [List.length_map,List.length_map] at hl
  have hle:=split_le (txt l) (txt [c])
  rw [← e2,List.length_map,len_txt] at hle
  refine ⟨.ref s.heap.objs.size,_,I.laid (t':=k) (o:=.lst ((splitL c l).map strV)) (fun b o e=>Heap.get?_push_of_some _ e) (Nat.le_refl _) ⟨?_,strValues ls,_,vals_ofS e,Heap.get?_push_size _ rfl⟩,rfl,q _ (I.hok.fresh (Nat.le_refl _))⟩
  rw [List.length_map,← hl]
  exact Nat.le_trans hle (Nat.le_trans (Nat.add_le_add_right hz 2) (by decide))
abbrev rStarts:V→List V→Hp→VK→Prop:=fun x xs H Q=>∃ l c,x = .str (txt l)∧xs = [.str (txt [c])]∧Q (.bl (decide (l.head? = some c))) H
theorem starts_eq (l:List Nat) (c:Nat):Txt.startswith (txt l) (txt [c]) = decide (l.head? = some c):=by
  unfold Txt.startswith
  rw [txt_len,txt_len]
  cases l with
  | nil=>rfl
  | cons x l=>
    rw [decide_eq_true (show 0 + [c].length ≤ (x :: l).length by simp),Bool.true_and]
    unfold Builtin.Str.subAt
    rw [txt_len]
    have e:(txt (x :: l)).cps.extract 0 (0 + [c].length) = [x].toArray:=by
      simp only [txt,List.extract_toArray,List.extract_eq_take_drop]
      rfl
    rw [e]
    show ([x].toArray == [c].toArray) = _
    rw [Bool.eq_iff_iff]
    simp
theorem mt_startswith:MtR X "str.startswith" rStarts:=by
  intro pins s σ H x vs v us Q I rx rv h
  obtain ⟨l,c,rfl,rfl,q⟩:=h
  obtain ⟨t,rfl⟩:=rx
  obtain ⟨u,rfl,t',rfl⟩:=rv.one
  refine call_gives F.slot_str_startswith (typeIs_str _ _ _) F.entry_str_startswith (F.args_str_startswith_2 _ _) (gives_str_startswith _ _ t t') ?_
  refine ⟨.bl _,H,I,?_,q⟩
  rw [← starts_eq]; rfl
abbrev rIntS:List V→Hp→VK→Prop:=fun xs H Q=>∃ l n,xs = [.str (txt l)]∧l.length ≤ 640∧PySem.intText? (txt l) = some n∧Q (.int n) H
theorem call_intS:CallR X (.type "int") rIntS:=by
  intro pins s σ H xs us Q I r h
  obtain ⟨l,n,rfl,hl,hn,q⟩:=h
  obtain ⟨u,rfl,t,rfl⟩:=vals1 r
  exact PySem.W.KIN.call_text hn (by rw [len_txt]; exact hl) ⟨.int n,H,I.tok _,⟨_,rfl⟩,q⟩
end
open MM
def num (n:Nat):List Nat:=(toString (n:Int):Str).cps.toList
theorem txt_num (n:Nat):txt (num n) = (toString (n:Int):Str):=txt_codes _
def FIGS:List Nat:=[48,49,50,51,52,53,54,55,56,57]
def isNum (l:List Nat):Bool:=!decide (l = []) && decide (l.length ≤ 4) && (if l.head? = some 48 then decide (l = [48]) else l.all fun c=>decide (c ∈ FIGS))
theorem num_ok:∀ n,n < 64→(num n).contains 32 = false∧isNum (num n) = true∧(num n).length ≤ 4:=by decide +kernel
theorem num_free {n:Nat} (h:n < 64):32 ∉ num n:=fun z=>by
  have:=(num_ok n h).1
  rw [List.contains_iff_mem.mpr z] at this
  cases this
def kRnw:List Nat:=[114,101,110,101,119,97,108]
def rowT (r:RwN):List Nat:=match r.2 with
  | none=>r.1 ++ [32,45]
  | some n=>r.1 ++ [32] ++ n
def renT (r:List RwN):List (List Nat):=(kRnw ++ [32] ++ num r.length) :: r.map rowT
def headT (L h g:Nat):List Nat:=num L ++ [32] ++ num h ++ [32] ++ num g
structure RowsT (L:Nat) (r:List RwN):Prop where
  few:r.length ≤ 60
  old:∀ y ∈ r,Mark L y.1∧y.1.length ≤ 500
  new:∀ y ∈ r,∀ z,y.2 = some z→Mark L z∧z.length ≤ 500
  oup:(r.map (·.1)).Pairwise (· < ·)
  nup:(r.filterMap (·.2)).Pairwise (· < ·)
theorem ren_len {L:Nat}:∀ {R:List (List RwN)},(∀ r ∈ R,RowsT L r)→(R.flatMap renT).length ≤ 61 * R.length
  | [],_=>Nat.le_refl _
  | r :: R,h=>by
    have ih:=ren_len (R:=R) fun x hx=>h x (List.mem_cons_of_mem _ hx)
    have:=(h r List.mem_cons_self).few
    rw [List.flatMap_cons,List.length_append,renT,List.length_cons,List.length_map,List.length_cons]
    omega
def rdWordsAt (K:PySem.W.Frag):TS:=
    tRet (tIf (tTest (tOp rLtI (tVar 1) (tCB (rLenL K) (tCons (tVar 0) tNil)))) (tBM K "str" rSplit (tOp (rIxL K) (tVar 0) (tVar 1)) (tCons (tC (.str (txt [32]))) tNil)) (tLst tNil))
def spIsNumber:Sp:=fun vs H Q _=>∃ l:List Nat,vs = [.str (txt l)]∧l.length ≤ 100000∧∀ H',Same H H'→Q (.bl (isNum l)) H'
def rdIsNumber (K:PySem.W.Frag):TS:=
    tSeq (tIfS (tOr (tTest (tOp rEq (tVar 0) (tC (.str (txt []))))) (tTest (tOp rGtI (tCB rLenS (tCons (tVar 0) tNil)) (tC (.int 4))))) (tRet (tC (.bl false))) (tNext))
      (tSeq (tIfS (tB (tBM K "str" rStarts (tVar 0) (tCons (tC (.str (txt [48]))) tNil))) (tRet (tOp rEq (tVar 0) (tC (.str (txt [48]))))) (tNext))
      (tRet (tCB (rAllB K) (tCons (tComp (iStr (tVar 0)) [] tYes (tOp rIn1 (tVar 0) (tC (.str (txt [48,49,50,51,52,53,54,55,56,57]))))) tNil))))
theorem read_isNumber {K:PySem.W.Frag} {N:List Str} {vs:List V} {H:Hp} {Q:VK} {E:XK} (hN:N.length = 1) (h:spIsNumber vs H Q E):rdIsNumber K { nx:=fun _ H'=>Q .non H',rt:=Q } (L2.start N vs) H:=by
  obtain ⟨l,rfl,hz,q⟩:=h
  unfold rdIsNumber L2.start
  rw [hN]
  and_intros
  refine ⟨rfl,?_⟩
  by_cases h1:l = []
  · rw [if_pos h1]
    have:isNum l = false:=by rw [h1]; rfl
    rw [← this]
    exact q _ (Same.refl _)
  rw [if_neg h1]
  refine lenS_go hz (kK ?_)
  by_cases h2:(4:Int) < (l.length:Int)
  · rw [if_pos h2]
    have:isNum l = false:=by
      unfold isNum
      rw [decide_eq_false (show ¬ l.length ≤ 4 by omega)]
      simp
    rw [← this]
    exact q _ (Same.refl _)
  rw [if_neg h2]
  have base:isNum l = (if l.head? = some 48 then decide (l = [48]) else l.all fun c=>decide (c ∈ FIGS)):=by
    unfold isNum
    rw [decide_eq_false h1,decide_eq_true (show l.length ≤ 4 by omega)]
    rfl
  refine ⟨rfl,l,48,rfl,rfl,bK ?_⟩
  by_cases h3:l.head? = some 48
  · rw [if_pos h3] at base
    rw [if_pos (decide_eq_true h3)]
    refine ⟨rfl,?_⟩
    rw [← base]
    exact q _ (Same.refl _)
  · rw [if_neg h3] at base
    rw [if_neg (by rw [decide_eq_false h3]; decide)]
    refine comp_s (l:=l) (fun Q h=>h) (Nat.le_trans (show l.length ≤ 100000 by omega) (by decide)) (fun i ys H'=>H' = H∧ys = ((l.take i).map fun c=>decide (c ∈ FIGS)).map V.bl) ⟨rfl,rfl⟩
      (fun i ys H' _ p=>by rw [p.2,List.length_map,List.length_map,List.length_take]; omega) ?_ ?_
    · rintro i c ys H' hc ⟨rfl,rfl⟩ R hR
      and_intros
      refine ⟨c,_,rfl,rfl,hR _ _ ⟨rfl,?_⟩⟩
      rw [List.take_succ,hc,List.map_append,List.map_append]
      rfl
    · rintro ys H' ⟨rfl,rfl⟩ p hp
      rw [List.take_length]
      refine ⟨p,_,rfl,SqL.here,?_⟩
      have e:(l.map fun c=>decide (c ∈ FIGS)).all id = isNum l:=by rw [base,List.all_map]; rfl
      rw [e]
      exact q _ (Same.up _ hp)
def rdIsNumberTo:TS:=tRet (tAndV (tCall spIsNumber [] E0 (tCons (tVar 0) tNil)) (tOp rLeI (tCB rIntS (tCons (tVar 0) tNil)) (tVar 1)))
def rdMarkBehind:TS:=tRet (tAndV (tCall spIsMark [] E0 (tCons (tVar 0) (tCons (tVar 2) tNil))) (tOp rLtS (tVar 1) (tVar 2)))
theorem head_join (L h g:Nat):headT L h g = joinL [32] [num L,num h,num g]:=by
  rw [joinL_cons,joinL_cons]
  show num L ++ [32] ++ num h ++ [32] ++ num g = num L ++ [32] ++ (num h ++ [32] ++ num g)
  simp only [List.append_assoc]
theorem free_mark {L:Nat} {m:List Nat} (h:Mark L m):32 ∉ m:=fun z=>by have:=h.ls 32 z; omega
theorem free_thing {t:List Nat} (h:Thing t):32 ∉ t:=fun z=>by have:=h.2.2 32 z; revert this; decide
def rowW (y:RwN):List (List Nat):=match y.2 with
  | none=>[y.1,[45]]
  | some n=>[y.1,n]
theorem row_join (y:RwN):rowT y = joinL [32] (rowW y):=by
  unfold rowT rowW
  cases y.2 with
  | none=>rw [joinL_cons]; show y.1 ++ [32,45] = y.1 ++ [32] ++ [45]; simp
  | some n=>rw [joinL_cons]; rfl
def w2 (y:RwN):List Nat:=y.2.getD [45]
theorem rowW_eq (y:RwN):rowW y = [y.1,w2 y]:=by unfold rowW w2; cases y.2 <;> rfl
theorem mark_pos {L:Nat} {m:List Nat} (h:Mark L m):[] < m:=by
  cases m with
  | nil=>exact absurd rfl h.ne
  | cons a m=>exact List.nil_lt_cons a m
def kTkn:List Nat:=[116,97,107,101,110]
def Wds (H:Hp) (as:List Addr) (wl:List (List (List Nat))):Prop:=as.length = wl.length∧∀ (j:Nat) (w:List (List Nat)),wl[j]? = some w→∃ a,as[j]? = some a∧H a = some (.lst (w.map strV))
theorem Wds.same {H H':Hp} {as:List Addr} {wl:List (List (List Nat))} (h:Wds H as wl) (s:Same H H'):Wds H' as wl:=⟨h.1,fun j w e=>by
  obtain ⟨a,e1,e2⟩:=h.2 j w e
  exact ⟨a,e1,s _ _ e2⟩⟩
theorem Wds.up {H:Hp} {as:List Addr} {wl:List (List (List Nat))} {p:Addr} {o:HO} (h:Wds H as wl) (n:∀ a ∈ as,a ≠ p):Wds (upd H p o) as wl:=⟨h.1,fun j w e=>by
  obtain ⟨a,e1,e2⟩:=h.2 j w e
  exact ⟨a,e1,by rw [upd_ne (n a (List.mem_of_getElem? e1))]; exact e2⟩⟩
theorem Wds.add {H:Hp} {as:List Addr} {wl:List (List (List Nat))} {b:Addr} {w:List (List Nat)} (h:Wds H as wl) (e:H b = some (.lst (w.map strV))):Wds H (as ++ [b]) (wl ++ [w]):=⟨by rw [List.length_append,List.length_append,h.1]; rfl,fun j w' hj=>by
  by_cases hlt:j < wl.length
  · rw [List.getElem?_append_left hlt] at hj
    obtain ⟨a,e1,e2⟩:=h.2 j w' hj
    exact ⟨a,by rw [List.getElem?_append_left (by rw [h.1]; exact hlt)]; exact e1,e2⟩
  · rw [List.getElem?_append_right (by omega)] at hj
    rw [List.getElem?_append_right (by rw [h.1]; omega),h.1]
    have hj0:j - wl.length = 0:=by
      cases hh:j - wl.length with
      | zero=>rfl
      | succ k=>rw [hh] at hj; simp at hj
    rw [hj0] at hj ⊢
    simp at hj
    subst hj
    exact ⟨b,rfl,e⟩⟩
theorem RowsC.up {H:Hp} {p:Addr} {o:HO} {ys:List V} (hp:H p = some (.lst ys)):∀ {as:List Addr} {R:List (List RwN)},RowsC H as R→(∀ a ∈ as,a ≠ p)→RowsC (upd H p o) as R
  | [],[],_,_=>trivial
  | [],_ :: _,h,_=>h.elim
  | _ :: _,[],h,_=>h.elim
  | a :: as,r :: R,⟨⟨xs,e,q⟩,t⟩,n=>⟨⟨xs,by rw [upd_ne (n a List.mem_cons_self)]; exact e,q.keep fun u zs hu=>by rw [upd_ne (fun z=>by subst z; rw [hp] at hu; cases hu)]; exact hu⟩,RowsC.up hp t fun b hb=>n b (List.mem_cons_of_mem _ hb)⟩
def posT (R:List (List RwN)) (i:Nat):Nat:=((R.take i).flatMap renT).length + 1
theorem posT_succ {R:List (List RwN)} {i:Nat} {r:List RwN} (h:R[i]? = some r):posT R (i + 1) = posT R i + 1 + r.length:=by
  unfold posT
  rw [show R.take (i + 1) = R.take i ++ [r] by rw [List.take_add_one,h]; rfl,List.flatMap_append,List.length_append,List.flatMap_cons,List.flatMap_nil,List.append_nil,renT,List.length_cons,List.length_map]
  omega
theorem st_at {R:List (List RwN)} {i:Nat} {r:List RwN} (h:R[i]? = some r) (x:List Nat) (tl:List (List Nat)) {k:Nat} (hk:k < (renT r).length):(x :: (R.flatMap renT ++ tl))[posT R i + k]? = (renT r)[k]?:=by
  have e:R = R.take i ++ r :: R.drop (i + 1):=by rw [← drop_get h,List.take_append_drop]
  have e2:R.flatMap renT = (R.take i).flatMap renT ++ (renT r ++ (R.drop (i + 1)).flatMap renT):=by
    conv=>lhs; rw [e]
    rw [List.flatMap_append,List.flatMap_cons]
  unfold posT
  rw [show ((R.take i).flatMap renT).length + 1 + k = ((R.take i).flatMap renT).length + k + 1 by omega,List.getElem?_cons_succ,e2,List.append_assoc,List.getElem?_append_right (by omega),List.append_assoc,List.getElem?_append_left (by omega)]
  congr 1
  omega
theorem th_at (R:List (List RwN)) (x:List Nat) (tl:List (List Nat)) (k:Nat):(x :: (R.flatMap renT ++ tl))[posT R R.length + k]? = tl[k]?:=by
  unfold posT
  rw [List.take_length,show (R.flatMap renT).length + 1 + k = (R.flatMap renT).length + k + 1 by omega,List.getElem?_cons_succ,List.getElem?_append_right (by omega)]
  congr 1
  omega
theorem abcL {L:Nat} {i:Nat} (hL:L ≤ 26) (h:i < L):(ABC.take L)[i]? = some (97 + i):=by
  rw [List.getElem?_take,if_pos h]
  exact abc_at (by omega)
theorem ixABL_go {H:Hp} {L:Nat} {i:Int} {Q:VK} (hL:L ≤ 26) (h0:0 ≤ i) (h1:i < L) (q:Q (.str (txt [97 + i.toNat])) H):rIxStr (.str (txt (ABC.take L))) (.int i) H Q:=
  ixS_go (by rw [List.length_take]; omega) h0 (abcL hL (by omega)) q
def spTMarks (K:PySem.W.Frag):Sp:=fun vs H Q _=>∃ (a:Addr) (ns:List Int) (b:Int) (L n:Nat),vs = [.ref a,.int b,.int L,.int n]∧SqL K H a (ns.map V.int)∧ns.length ≤ 63∧0 ≤ b∧b ≤ 10000∧2 ≤ L∧L ≤ 26∧n ≤ 40∧
  ∀ H' p (ms:List (List Nat)),Same H H'→H' p = none→(∀ m ∈ ms,Mark L m∧m.length ≤ 300)→ms.length ≤ n→ms.Pairwise (· < ·)→Q (.ref p) (upd H' p (.lst (ms.map strV)))
def TMInv (sc p:Addr) (b:Int) (L n:Nat) (H:Hp):Nat→St→Hp→Prop:=fun i σ H'=>∃ (ms:List (List Nat)) (v5 v6 v7:Option V),Same H H'∧H' p = some (.lst (ms.map strV))∧σ = [some (.ref sc),some (.int b),some (.int L),some (.int n),some (.str (txt (ABC.take L))),some (.ref p),v5,v6,v7]∧ms.Nodup∧(∀ m ∈ ms,Mark L m∧m.length ≤ 300)∧ms.length ≤ i
theorem for_pre {K:PySem.W.Frag} {tl:TE} {g:TG} {tb:TS} {D:Ends} {σ:St} {H:Hp} (h:tl σ H fun x H1=>tFor (iList K (tC x)) g tb D σ H1):tFor (iList K tl) g tb D σ H:=h
theorem strN_go {H:Hp} {k:Nat} {Q:VK} (hk:k < 64) (q:Q (.str (txt (num k))) H):rStrI [.int (k:Int)] H Q:=by
  refine ⟨(k:Int),rfl,?_,?_⟩
  · rw [Int.natAbs_natCast]
    exact Nat.lt_of_le_of_lt (Nat.log2_le_self k) (by omega)
  · rw [← txt_num]; exact q
theorem join_go {K:PySem.W.Frag} {H:Hp} {p:Addr} {sep:List Nat} {ys:List (List Nat)} {Q:VK} (h:H p = some (.lst (ys.map strV))) (hz:(ys.map (·.length)).sum + ys.length * sep.length ≤ 16777216) (q:Q (.str (txt (joinL sep ys))) H):rJoin K (.str (txt sep)) [.ref p] H Q:=
  ⟨sep,p,ys,rfl,rfl,SqL.of h,hz,q⟩
theorem splitL_ne {c:Nat}:∀ t:List Nat,splitL c t ≠ []
  | []=>by simp [splitL]
  | x :: l=>by
    unfold splitL
    by_cases h:x = c
    · rw [if_pos h]; simp
    · rw [if_neg h]
      cases e:splitL c l <;> simp
theorem mem_splitL {c:Nat}:∀ {t w:List Nat},w ∈ splitL c t→w.length ≤ t.length∧∀ x ∈ w,x ∈ t
  | [],w,h=>by
    simp only [splitL,List.mem_singleton] at h
    subst h
    exact ⟨Nat.le_refl _,fun x hx=>(nomatch hx)⟩
  | y :: l,w,h=>by
    unfold splitL at h
    by_cases hy:y = c
    · rw [if_pos hy] at h
      rcases List.mem_cons.mp h with h | h
      · subst h; exact ⟨Nat.zero_le _,fun x hx=>(nomatch hx)⟩
      · obtain ⟨a,b⟩:=mem_splitL h
        exact ⟨Nat.le_succ_of_le a,fun x hx=>List.mem_cons_of_mem _ (b x hx)⟩
    · rw [if_neg hy] at h
      cases e:splitL c l with
      | nil=>exact absurd e (splitL_ne l)
      | cons v vs=>
        rw [e] at h
        simp only at h
        rcases List.mem_cons.mp h with h | h
        · obtain ⟨a,b⟩:=mem_splitL (show v ∈ splitL c l by rw [e]; exact List.mem_cons_self)
          subst h
          refine ⟨Nat.succ_le_succ a,fun x hx=>?_⟩
          rcases List.mem_cons.mp hx with hx | hx
          · rw [hx]; exact List.mem_cons_self
          · exact List.mem_cons_of_mem _ (b x hx)
        · obtain ⟨a,b⟩:=mem_splitL (show w ∈ splitL c l by rw [e]; exact List.mem_cons_of_mem _ h)
          exact ⟨Nat.le_succ_of_le a,fun x hx=>List.mem_cons_of_mem _ (b x hx)⟩
abbrev val (l:List Nat):Nat:=NumText.digitsVal l
theorem figs_mem {c:Nat}:c ∈ FIGS ↔ 48 ≤ c∧c ≤ 57:=by
  unfold FIGS
  simp only [List.mem_cons,List.not_mem_nil,or_false]
  omega
theorem val_fold (l:List Nat):∀ n:Nat,l.foldl (fun acc c=>acc * 10 + (c - 48)) n = n * 10 ^ l.length + val l:=by
  induction l with
  | nil=>intro n; show n = n * 1 + 0; omega
  | cons c l ih=>
    intro n
    show l.foldl _ (n * 10 + (c - 48)) = n * 10 ^ (l.length + 1) + l.foldl _ (0 * 10 + (c - 48))
    rw [ih,ih,Nat.pow_succ,Nat.zero_mul,Nat.zero_add,Nat.add_mul,Nat.mul_assoc,Nat.mul_comm 10 (10 ^ l.length),Nat.add_assoc]
theorem val_low {c:Nat} {l:List Nat} (h:49 ≤ c):10 ^ l.length ≤ val (c :: l):=by
  show 10 ^ l.length ≤ l.foldl _ (0 * 10 + (c - 48))
  rw [val_fold]
  have:1 * 10 ^ l.length ≤ (0 * 10 + (c - 48)) * 10 ^ l.length:=Nat.mul_le_mul_right _ (by omega)
  omega
theorem isNum_iff {w:List Nat}:isNum w = true ↔ w ≠ []∧w.length ≤ 4∧(∀ c ∈ w,c ∈ FIGS)∧(w.head? = some 48→w = [48]):=by
  unfold isNum
  by_cases h:w.head? = some 48
  · rw [if_pos h]
    simp only [Bool.and_eq_true,Bool.not_eq_true',decide_eq_false_iff_not,decide_eq_true_eq]
    refine ⟨fun ⟨⟨a,b⟩,c⟩=>⟨a,b,fun x hx=>?_,fun _=>c⟩,fun ⟨a,b,_,d⟩=>⟨⟨a,b⟩,d h⟩⟩
    rw [c,List.mem_singleton] at hx
    rw [hx]; decide
  · rw [if_neg h]
    simp only [Bool.and_eq_true,Bool.not_eq_true',decide_eq_false_iff_not,decide_eq_true_eq,List.all_eq_true]
    exact ⟨fun ⟨⟨a,b⟩,c⟩=>⟨a,b,c,fun z=>absurd z h⟩,fun ⟨a,b,c,_⟩=>⟨⟨a,b⟩,c⟩⟩
theorem dig_int {w:List Nat} (h0:w ≠ []) (h1:w.length ≤ 640) (h2:∀ c ∈ w,c ∈ FIGS):PySem.intText? (txt w) = some (val w:Nat):=by
  have e:(txt w).cps.toList = w:=by simp [txt]
  have:=intText_digits (x:=txt w) (by rw [e]; exact fun c hc=>figs_mem.mp (h2 c hc)) (by rw [e]; exact h0) (by rw [len_txt]; omega)
  rw [e] at this
  exact this
theorem isNum_int {w:List Nat} (h:isNum w = true):PySem.intText? (txt w) = some (val w:Nat):=by
  obtain ⟨a,b,c,_⟩:=isNum_iff.mp h
  exact dig_int a (by omega) c
def numTo (lo hi:Nat) (w:List Nat):Option Nat:=if isNum w = true∧lo ≤ val w∧val w ≤ hi then some (val w) else none
theorem numTo_law {lo hi:Nat} {w:List Nat} (hh:hi ≤ 1000) (h0:w ≠ []) (h2:∀ c ∈ w,c ∈ FIGS) (h3:w.head? = some 48→w = [48]):numTo lo hi w = if lo ≤ val w∧val w ≤ hi then some (val w) else none:=by
  unfold numTo
  by_cases h:lo ≤ val w∧val w ≤ hi
  · suffices hl:w.length ≤ 4 by rw [if_pos h,if_pos ⟨isNum_iff.mpr ⟨h0,hl,h2,h3⟩,h⟩]
    cases w with
    | nil=>exact absurd rfl h0
    | cons c l=>
      by_cases hc:c = 48
      · have:=h3 (by rw [hc]; rfl)
        rw [this]; decide
      · have h48:=figs_mem.mp (h2 c List.mem_cons_self)
        have low:=val_low (l:=l) (show 49 ≤ c by omega)
        have hv:=h.2
        refine Nat.le_of_not_lt fun hl=>?_
        have:10 ^ 4 ≤ 10 ^ l.length:=Nat.pow_le_pow_right (by decide) (by simp only [List.length_cons] at hl; omega)
        omega
  · rw [if_neg h,if_neg fun z=>h z.2]
theorem numTo_bad {lo hi:Nat} {w:List Nat} (h:¬ (w ≠ []∧w.length ≤ 9∧(∀ c ∈ w,c ∈ FIGS)∧(w.head? = some 48→w = [48]))):numTo lo hi w = none:=by
  unfold numTo
  rw [if_neg]
  rintro ⟨a,_⟩
  obtain ⟨p,q,r,s⟩:=isNum_iff.mp a
  exact h ⟨p,by omega,r,s⟩
theorem numTo_some {lo hi n:Nat} {w:List Nat} (h:numTo lo hi w = some n):isNum w = true∧n = val w∧lo ≤ n∧n ≤ hi:=by
  unfold numTo at h
  split at h
  · rename_i z
    cases h
    exact ⟨z.1,rfl,z.2.1,z.2.2⟩
  · cases h
def wAt (ts:List (List Nat)) (i:Nat):List (List Nat):=match ts[i]? with
  | some t=>splitL 32 t
  | none=>[]
theorem wAt_in {ts:List (List Nat)} {i:Nat} (h:wAt ts i ≠ []):i < ts.length:=by
  unfold wAt at h
  cases e:ts[i]? with
  | none=>rw [e] at h; exact absurd rfl h
  | some t=>exact (List.getElem?_eq_some_iff.mp e).1
def TsOk (n m:Nat) (ts:List (List Nat)):Prop:=ts.length ≤ n∧∀ t ∈ ts,t.length ≤ m∧∀ c ∈ t,c < 200
theorem TsOk.word {n m:Nat} {ts:List (List Nat)} (T:TsOk n m ts) {i:Nat} {w:List Nat} (h:w ∈ wAt ts i):w.length ≤ m∧∀ c ∈ w,c < 200:=by
  unfold wAt at h
  cases e:ts[i]? with
  | none=>rw [e] at h; exact (nomatch h)
  | some t=>
    rw [e] at h
    obtain ⟨a,b⟩:=mem_splitL h
    obtain ⟨c,d⟩:=T.2 t (List.mem_of_getElem? e)
    exact ⟨by omega,fun x hx=>d x (b x hx)⟩
def rRow (L:Nat) (lo ln:List Nat):List (List Nat)→Option RwN
  | [a,b]=>if markB L a = true∧lo < a then (if b = [45] then some (a,none) else if markB L b = true∧ln < b then some (a,some b) else none) else none
  | _=>none
theorem rRow_two (L:Nat) (lo ln a b:List Nat):rRow L lo ln [a,b] = if markB L a = true∧lo < a then (if b = [45] then some (a,none) else if markB L b = true∧ln < b then some (a,some b) else none) else none:=rfl
theorem rRow_len {L:Nat} {lo ln:List Nat} {w:List (List Nat)} (h:w.length ≠ 2):rRow L lo ln w = none:=by
  unfold rRow
  split
  · exact absurd rfl h
  · rfl
def lastO (r:List RwN):List Nat:=((r.map (·.1)).getLast?).getD []
def lastN (r:List RwN):List Nat:=((r.filterMap (·.2)).getLast?).getD []
theorem lastO_snoc (r:List RwN) (y:RwN):lastO (r ++ [y]) = y.1:=by
  unfold lastO
  rw [List.map_append]; simp
theorem lastN_snoc (r:List RwN) (a:List Nat) (o:Option (List Nat)):lastN (r ++ [(a,o)]) = o.getD (lastN r):=by
  unfold lastN
  rw [List.filterMap_append]
  cases o with
  | none=>simp
  | some z=>simp
def runE {α:Type} (f:List α→Except Nat α):Nat→List α→Except Nat (List α)
  | 0,acc=>.ok acc
  | n + 1,acc=>match f acc with
    | .error e=>.error e
    | .ok y=>runE f n (acc ++ [y])
theorem runE_ok {α:Type} {f:List α→Except Nat α} {n:Nat} {acc:List α} {y:α} (h:f acc = .ok y):runE f (n + 1) acc = runE f n (acc ++ [y]):=by
  rw [runE,h]
theorem runE_err {α:Type} {f:List α→Except Nat α} {n e:Nat} {acc:List α} (h:f acc = .error e):runE f (n + 1) acc = .error e:=by
  rw [runE,h]
def ordE (o:Option α) (i:Nat):Except Nat α:=match o with
  | some y=>.ok y
  | none=>.error i
def rowF (L:Nat) (ts:List (List Nat)) (i0:Nat) (r:List RwN):Except Nat RwN:=ordE (rRow L (lastO r) (lastN r) (wAt ts (i0 + r.length))) (i0 + r.length)
def manyF (ts:List (List Nat)) (i:Nat):Except Nat Nat:=match wAt ts i with
  | [k,w]=>if k = kRnw then ordE (numTo 0 1000 w) i else .error i
  | _=>.error i
def renF (L:Nat) (ts:List (List Nat)) (i:Nat):Except Nat (List RwN):=match manyF ts i with
  | .error e=>.error e
  | .ok n=>runE (rowF L ts (i + 1)) n []
def posR (R:List (List RwN)):Nat:=(R.map fun r=>1 + r.length).sum + 1
theorem posR_snoc (R:List (List RwN)) (r:List RwN):posR (R ++ [r]) = posR R + 1 + r.length:=by
  unfold posR
  rw [List.map_append,List.sum_append]
  simp
  omega
theorem thingB_iff {w:List Nat}:thingB w = true ↔ Thing w:=by
  unfold thingB Thing
  cases w with
  | nil=>simp
  | cons c l=>simp [and_assoc]
def thOk (L:Nat) (lo:List Nat):List (List Nat)→Bool
  | [a,b]=>markB L a && decide (lo < a) && thingB b
  | [a,b,c]=>decide (c = kTkn) && (markB L a && decide (lo < a) && thingB b)
  | _=>false
def lastT (l:List (List (List Nat))):List Nat:=((l.map (·.headD [])).getLast?).getD []
theorem lastT_snoc (l:List (List (List Nat))) (w:List (List Nat)):lastT (l ++ [w]) = w.headD []:=by
  unfold lastT
  rw [List.map_append]; simp
def thF (L:Nat) (ts:List (List Nat)) (i0:Nat) (l:List (List (List Nat))):Except Nat (List (List Nat)):=if thOk L (lastT l) (wAt ts (i0 + l.length)) = true then .ok (wAt ts (i0 + l.length)) else .error (i0 + l.length)
def headF (ts:List (List Nat)):Except Nat (Nat × Nat × Nat):=match wAt ts 0 with
  | [a,b,c]=>if isNum a = true∧isNum b = true∧isNum c = true∧2 ≤ val a∧val a ≤ 26∧1 ≤ val b∧val b < val a∧val c ≤ 1000 then .ok (val a,val b,val c) else .error 0
  | _=>.error 0
def stateF (ts:List (List Nat)):Except Nat (Nat × Nat × List (List RwN) × List (List (List Nat))):=match headF ts with
  | .error e=>.error e
  | .ok (L,h,g)=>match runE (fun R=>renF L ts (posR R)) g [] with
    | .error e=>.error e
    | .ok R=>match runE (thF L ts (posR R)) (ts.length - posR R) [] with
      | .error e=>.error e
      | .ok l=>.ok (L,h,R,l)
def zsOf (l:List (List (List Nat))):List (List Nat × List Nat):=l.map fun w=>(w.headD [],(w.tail).headD [])
def wsOf (l:List (List (List Nat))):List (List Nat):=(l.filter fun w=>decide (w.length = 3)).map (·.headD [])
theorem rRow_some {L:Nat} {lo ln:List Nat} {w:List (List Nat)} {y:RwN} (h:rRow L lo ln w = some y):w = [y.1,w2 y]∧Mark L y.1∧lo < y.1∧∀ z,y.2 = some z→Mark L z∧ln < z:=by
  unfold rRow at h
  split at h
  · rename_i a b
    split at h
    · rename_i h1
      split at h
      · rename_i h2
        cases h
        exact ⟨by rw [h2]; rfl,markB_iff.mp h1.1,h1.2,fun z e=>by cases e⟩
      · split at h
        · rename_i h3
          cases h
          exact ⟨rfl,markB_iff.mp h1.1,h1.2,fun z e=>by cases e; exact ⟨markB_iff.mp h3.1,h3.2⟩⟩
        · cases h
    · cases h
  · cases h
theorem rowF_ok {L i0:Nat} {ts:List (List Nat)} {r:List RwN} {y:RwN} (h:rowF L ts i0 r = .ok y):rRow L (lastO r) (lastN r) (wAt ts (i0 + r.length)) = some y∧i0 + r.length < ts.length:=by
  unfold rowF ordE at h
  split at h
  · rename_i e
    cases h
    exact ⟨e,wAt_in fun z=>by rw [z] at e; cases e⟩
  · cases h
theorem manyF_ok {ts:List (List Nat)} {i n:Nat} (h:manyF ts i = .ok n):i < ts.length∧n ≤ 1000∧∃ w,wAt ts i = [kRnw,w]∧isNum w = true∧n = val w:=by
  unfold manyF at h
  split at h
  · rename_i k w e
    split at h
    · rename_i hk
      unfold ordE at h
      split at h
      · rename_i hn
        cases h
        obtain ⟨a,b,c,d⟩:=numTo_some hn
        exact ⟨wAt_in (fun z=>by rw [z] at e; cases e),d,w,by rw [e,hk],a,b⟩
      · cases h
    · cases h
  · cases h
end L2
namespace DictK
open PySem PyProof.Rows
section
variable {prog:Program} {w:World} {A:Around} {E:Value→Shared→Prop} {h:Heap} {gn:Array GenState} {dr:Drawn} {tk:Nat} {ost:OsState}
variable {nm qn:Str} {C N fI:Addr} {bs bm bmB rest:List Value} {hdct:Bool} {sn:List Str} {sub:List Value} {ab:Bool} {col:Option Bool} {dd:Option Addr} {k0 k1 k2 k3 k5:Option Value} {B newId initId:String} {mN:Str→Option Value} {oI:Obj}
abbrev rawE (C t:Addr):Obj:={ cls:=.ref C,data:=.fields #[.ref t,.none,.none,.none,.bool false,.none] }
theorem made_by_type (F : ExcBaseFacts B newId initId bmB) (T : OwnTail h bmB bm) {Q : Fin → Shared → Prop} (hC : h.get? C = some (excClassObj nm qn C N bs bm hdct sn sub ab col dd k0 k1 k2 k3 k5 newId)) (hN : h.Ns N mN) (hi : mN "__init__" = some (.ref fI)) (hf : h.get? fI = some oI) (hfc : oI.cls = .type "function")
    (hq:∀ h' e,Heap.MadeExcOf h h' e (.ref C) rest→h.objs.size ≤ e→wpAny (model prog w) A (call (.ref fI) (.ref e :: rest)) (fun r s'=>r = .none∧Q (.done (.ret (.ref e))) s') E ⟨h',gn,dr,tk,ost⟩) (hz:rest.length ≤ sizeLine) :
    wpAny (model prog w) A (Builtin.«type.__call__» ⟨.ref C :: rest,[]⟩) Q E ⟨h,gn,dr,tk,ost⟩:=by
  repeat (first | (with_reducible refine wpAny_madeBy_exc hC ?_) | (with_reducible refine wpAny_loadPart_at hC ?_) | wp_step)
  refine codeAny_call_builtin_code (Code.quiet_builtin _ F.quiet) (wpAny_check_new_subT F T hC (codeAny_exc_new_subT F T hC (?_) hz))
  generalize eo:(h.push { cls:=.type "tuple",data:=.seq rest.toArray }) = h1
  have up:∀ b o,h.get? b = some o→(h1.push (rawE C h.objs.size)).get? b = some o:=fun b o e=>Heap.get?_push_of_some _ (by rw [← eo]; exact Heap.get?_push_of_some _ e)
  have s1:h1.objs.size = h.objs.size + 1:=by rw [← eo]; exact Heap.size_push _ _
  have at_:(h1.push (rawE C h.objs.size)).get? (h.objs.size + 1) = some (rawE C h.objs.size):=by rw [← s1]; exact Heap.get?_push_size h1 rfl
  have tt:(h1.push (rawE C h.objs.size)).get? h.objs.size = some { cls:=.type "tuple",data:=.seq rest.toArray }:=Heap.get?_push_of_some _ (by rw [← eo]; exact Heap.get?_push_size h rfl)
  have made:Heap.MadeExcOf h (h1.push (rawE C h.objs.size)) (h.objs.size + 1) (.ref C) rest:=⟨up,Heap.get?_none_of_le (Nat.le_succ _),h.objs.size,at_,Heap.get?_none_of_le (Nat.le_refl _),tt⟩
  have hC1:=up _ _ hC
  have T1:=T.keeps up
  have N1:=hN.keeps up
  have has:(Value.ref C :: bm).contains (.ref C) = true:=by simp
  show wpAny _ _ _ _ _ _
  unfold isInstance
  repeat (first | (with_reducible refine wpAny_isSubtype_exc hC1 ?_; rw [has]) | (with_reducible refine wpAny_loadPart_at at_ ?_) | wp_step)
  refine wpAny_typeLookup_tail (C:=C) hC1 N1 T1 F.mroIs F.init.lookup ?_
  rw [hi]
  have isF:(⟨h1.push (rawE C h.objs.size),gn,dr,tk,ost⟩:Shared).TypeIs (.ref fI) "function":=⟨_,up _ _ hf,hfc⟩
  refine wpAny_holding (wpAny_bind ?_); unfold bindSpecial
  refine wpAny_bind (wpAny_typeOf isF ?_); rw [if_pos (show _ by decide)]
  refine wpAny_pure (wpAny_bind (wpAny_mono (hq _ _ made (Nat.le_succ _)) (fun r s' hr=>?_) fun _ _ z=>z))
  obtain ⟨e0,hQ⟩:=hr
  subst e0
  wp_walk
  exact hQ
theorem made_call (F : ExcBaseFacts B newId initId bmB) (T : OwnTail h bmB bm) {Q : Value → Shared → Prop} (hC : h.get? C = some (excClassObj nm qn C N bs bm hdct sn sub ab col dd k0 k1 k2 k3 k5 newId)) (hN : h.Ns N mN) (hi : mN "__init__" = some (.ref fI)) (hf : h.get? fI = some oI) (hfc : oI.cls = .type "function")
    (hq:∀ h' e,Heap.MadeExcOf h h' e (.ref C) rest→h.objs.size ≤ e→wpAny (model prog w) (A.under (.builtin "type.__call__" ⟨.ref C :: rest,[]⟩)) (call (.ref fI) (.ref e :: rest)) (fun r s'=>r = .none∧Q (.ref e) s') E ⟨h',gn,dr,tk,ost⟩) (hz:rest.length ≤ sizeLine) :
    wpAny (model prog w) A (call (.ref C) rest) Q E ⟨h,gn,dr,tk,ost⟩:=by
  have l1:=tc_lookup
  have l2:=tc_bind (.ref C)
  have isT:(⟨h,gn,dr,tk,ost⟩:Shared).TypeIs (.ref C) "type":=⟨_,hC,rfl⟩
  refine wpAny_call (codeAny_of_tree (show wpAny _ _ (callAny (.ref C) _) _ _ _ from ?_))
  repeat (any_goals (first | assumption | (with_reducible refine wpAny_loadPart_at hC ?_) | wp_step))
  exact ⟨rfl,codeAny_call_builtin_at (Code.quiet_builtin _ (by decide +kernel)) entry_typeCall (wpAny_check_type_call_sub hC (made_by_type F T hC hN hi hf hfc (fun h' e m l=>hq h' e m l) hz))⟩
theorem raise_made {s:Shared} {x:Sem Value} {env:Env} {Q:Flow→Shared→Prop} (hb:bm.contains (.type "BaseException") = true) (hh:A.handled = none)
    (hx:wpAny (model prog w) A x (fun v s1=>∃ e t o,v = .ref e∧s1.heap.get? C = some (excClassObj nm qn C N bs bm hdct sn sub ab col dd k0 k1 k2 k3 k5 newId)∧s1.heap.get? e = some o∧o.cls = .ref C∧o.data = .fields #[.ref t,.none,.none,.none,.bool false,.none]∧E (.ref e) s1) E s) :
    wpAny (model prog w) A (raiseStmt env (some x) none) Q E s:=by
  have has:(Value.ref C :: bm).contains (.type "BaseException") = true:=by rw [List.contains_cons,hb,Bool.or_true]
  unfold raiseStmt
  refine wpAny_bind (wpAny_mono hx (fun v s1 q1=>?_) fun _ _ z=>z)
  obtain ⟨e,t,o,rfl,hC,he,hc,hd,hE⟩:=q1
  obtain ⟨oc,od,odt,osl⟩:=o
  obtain rfl:oc = _:=hc
  obtain rfl:odt = _:=hd
  obtain ⟨hp,g1,d1,t1,o1⟩:=s1
  repeat (first | (with_reducible refine wpAny_isSubtype_exc hC ?_; rw [has]) | (with_reducible refine wpAny_loadPart_at he ?_) | (with_reducible refine wpAny_loadPart_at hC ?_) | wp_step)
  exact wpAny_raiseNew_none hh hE
end
end DictK
namespace DictK
open PySem PyProof.Rows Builtin Builtin.ObjectAttr
theorem refuse_tail {h:Heap} {bmB bm:List Value} (T:OwnTail h bmB bm) (self:Value) (what:Str):refuseLoop self what bm = refuseLoop self what bmB:=by
  induction T with
  | base=>rfl
  | own _ _ _ _ ih=>rw [refuseLoop_ref,ih]
section
variable {prog:Program} {w:World} {A:Around} {E:Value→Shared→Prop} {h:Heap} {gn:Array GenState} {dr:Drawn} {tk:Nat} {ost:OsState} {K:PySem.W.Frag}
variable {nm qn:Str} {C N x:Addr} {bs bm bmB:List Value} {sn:List Str} {sub:List Value} {ab:Bool} {col:Option Bool} {dd:Option Addr} {k0 k1 k2 k3 k5:Option Value} {B newId sa owner:String} {o:Obj} {name:Str} {v:Value}
theorem exc_check {M:Model} {nv:Value} {Q:Unit→Shared→Prop} (SF:StoreFacts B bmB sa owner) (T:OwnTail h bmB bm) (hC:h.get? C = some (excClassObj nm qn C N bs bm true sn sub ab col dd k0 k1 k2 k3 k5 newId)) (hx:h.get? x = some o) (hc:o.cls = .ref C) (hq:Q () ⟨h,gn,dr,tk,ost⟩) :
    wpAny M A (checkBuiltinCall sa ⟨[.ref x,nv,v],[]⟩) Q E ⟨h,gn,dr,tk,ost⟩:=by
  have has:(Value.ref C :: bm).contains (.type owner) = true:=by rw [List.contains_cons,T.hasType SF.hasOwner,Bool.or_true]
  have args:=SF.args (.ref x) nv v
  simp only [checkBuiltinCall,SF.kind,SF.split]
  refine wpAny_bind ?_; unfold isInstance
  repeat (first | (with_reducible refine wpAny_isSubtype_exc hC ?_; rw [has]) | (with_reducible refine wpAny_loadPart_at hx ?_; rw [hc]) | wp_step)
  cases es:Manifest.signature? sa with
  | none=>exact wpAny_pure hq
  | some sig=>
    simp only [argsOk,es] at args
    dsimp only
    rw [args]
    exact wpAny_pure hq
theorem exc_entry {tok:Tok} {Q:PySem.Fin→Shared→Prop} (X:K.In h) (SF:StoreFacts B bmB sa owner) (T:OwnTail h bmB bm) (hC:h.get? C = some (excClassObj nm qn C N bs bm true sn sub ab col dd k0 k1 k2 k3 k5 newId)) (f2:PySem.W.findIn K (.ref C) name = some none) (hxC:x ≠ C) (hx:h.get? x = some o) (hc:o.cls = .ref C) (hd:o.dict = none) (hnc:∀ c,o.data ≠ .cls c)
    (hq:∀ h' tk' dx,dx = h.objs.size→dx ≠ x→h'.get? x = some { o with dict:=some dx }→h'.Ns1 dx (fun y=>if y = name then some v else none)→(∀ b ob,b ≠ x→h.get? b = some ob→h'.get? b = some ob)→Q (.done (.ret .none)) ⟨h',gn,dr,tk',ost⟩) :
    wpAny (model prog w) A (Builtin.«object.__setattr__» ⟨[.ref x,.str name tok,v],[]⟩) Q E ⟨h,gn,dr,tk,ost⟩:=by
  have pass:refuseLoop (.ref x) "__setattr__" bm = pure ():=by rw [refuse_tail T]; exact SF.passes _
  unfold Builtin.«object.__setattr__»
  repeat (first | rw [refuse_eq] | (rw [refuseLoop_ref,pass]) | (with_reducible refine wpAny_loadPart_at hx ?_; rw [hc]) | (with_reducible refine wpAny_mroOf_exc hC ?_) | (with_reducible refine PySem.W.Looks.here (PySem.W.looks_findIn X f2) ?_) | wp_step)
  obtain ⟨oc,od,odt,osl⟩:=o
  obtain rfl:od = none:=hd
  dsimp only
  have nd:¬ ((!true || !typeHasDict (Value.ref C)) = true):=by simp [typeHasDict]
  rw [if_neg nd]
  have hxs:x ≠ h.objs.size:=Nat.ne_of_lt (Heap.lt_size hx)
  have key:wpAny (model prog w) A (do
      let d ← alloc { cls:=Value.type "dict",data:=Data.dict #[] }
      update x fun o=>{ cls:=o.cls,dict:=some d,data:=o.data,slots:=o.slots }
      dictMade (Value.ref C) x d) (fun a s'=>wpAny (model prog w) A (match a with | some d=>storeInDict d (Value.str name tok) name v | none=>noDictFor (Value.ref x) (Value.ref C) name (none:Option Value).isSome) Q E s') E ⟨h,gn,dr,tk,ost⟩:=by
    generalize ek:h.push { cls:=Value.type "dict",data:=Data.dict #[] } = h1
    have x1:h1.get? x = some ⟨oc,none,odt,osl⟩:=by rw [← ek]; exact Heap.get?_push_of_some _ hx
    have d1:h1.get? h.objs.size = some { cls:=Value.type "dict",data:=Data.dict #[] }:=by rw [← ek]; exact Heap.get?_push_size h rfl
    refine wpAny_bind (wpAny_alloc' ?_); rw [ek]
    refine wpAny_bind (wpAny_update' x1 (wpAny_pure ?_))
    generalize eh:(h1.update x fun o=>{ cls:=o.cls,dict:=some h.objs.size,data:=o.data,slots:=o.slots }) = h2
    have x2:h2.get? x = some ⟨oc,some h.objs.size,odt,osl⟩:=by
      rw [← eh]
      refine Heap.get?_update_self _ x1 ?_
      have fr:=(Heap.get?_some_iff.mp hx).2
      cases odt <;> exact fr
    have d2:h2.get? h.objs.size = some { cls:=Value.type "dict",data:=Data.dict #[] }:=by rw [← eh]; exact (Heap.get?_update_other _ _ hxs).trans d1
    have k2:∀ b ob,b ≠ x→h.get? b = some ob→h2.get? b = some ob:=fun b ob nb e=>by
      rw [← eh,Heap.get?_update_other _ _ (Ne.symm nb),← ek]
      exact Heap.get?_push_of_some _ e
    have n2:h2.Ns h.objs.size (fun _=>none):=⟨_,#[],_,d2,rfl,fun e he=>absurd he (by simp),fun _=>rfl⟩
    show wpAny _ _ (storeInDict h.objs.size (.str name tok) name v) _ _ _; unfold storeInDict newKeyGuard
    refine wpAny_bind (wpAny_pure (wpAny_bind (wpAny_nsSet1 (Heap.Ns1.of_empty n2) fun h3 n3 s3=>?_)))
    obtain ⟨oD,esD,epD,aD,dD,cD⟩:=n3.count (Within.cons name v Within.nil)
    have le:esD.size ≤ sizeLine + 1:=by
      have:([name]:List Str).length = 1:=rfl
      rw [sizeLine_eq]
      omega
    refine wpAny_bind (wpAny_lookBehind aD (by rw [dD]; exact pastItsLine_dict le) ?_)
    wp_walk
    exact hq h3 _ h.objs.size rfl (Ne.symm hxs) ((s3.2 x hxs).trans x2) n3 fun b ob nb e=>(s3.2 b (Nat.ne_of_lt (Heap.lt_size e))).trans (k2 b ob nb e)
  cases odt with
  | cls c=>exact absurd rfl (hnc c)
  | _=>exact key
theorem exc_store {Q:Unit→Shared→Prop} (X:K.In h) (SF:StoreFacts B bmB sa owner) (T:OwnTail h bmB bm) (hC:h.get? C = some (excClassObj nm qn C N bs bm true sn sub ab col dd k0 k1 k2 k3 k5 newId)) (f1:PySem.W.findIn K (.ref C) "__setattr__" = some (some (.builtin sa))) (f2:PySem.W.findIn K (.ref C) name = some none) (hxC:x ≠ C) (hx:h.get? x = some o) (hc:o.cls = .ref C) (hd:o.dict = none) (hnc:∀ c,o.data ≠ .cls c)
    (hq:∀ h' tk' dx,dx = h.objs.size→dx ≠ x→h'.get? x = some { o with dict:=some dx }→h'.Ns1 dx (fun y=>if y = name then some v else none)→(∀ b ob,b ≠ x→h.get? b = some ob→h'.get? b = some ob)→Q () ⟨h',gn,dr,tk',ost⟩) :
    wpAny (model prog w) A (setAttr (.ref x) name v) Q E ⟨h,gn,dr,tk,ost⟩:=by
  have bd:=SF.slot.bind (.ref x)
  unfold setAttr callSpecial? specialOf
  repeat (any_goals (first | assumption | (with_reducible refine wpAny_loadPart_at hx ?_; rw [hc]) | (with_reducible refine PySem.W.Looks.here (PySem.W.looks_findIn X f1) ?_) | wp_step))
  refine codeAny_call_builtin SF.slot.plain SF.entry (exc_check SF T hC hx hc (exc_entry X SF T hC f2 hxC hx hc hd hnc fun h' tk' dx a1 a2 a3 a4 a5=>?_))
  repeat (any_goals (first | assumption | wp_step))
  exact hq h' tk' dx a1 a2 a3 a4 a5
end
end DictK
set_option maxHeartbeats 1000000
namespace L2
open PySem PySem.Spec PyProof.Rows DictK
def excN (e C:Addr):HO:=.ext fun h=>∃ t,h.get? e = some (rawE C t)
def excD (e C d:Addr):HO:=.ext fun h=>∃ t,h.get? e = some { rawE C t with dict:=some d }
structure ExcI (K:PySem.W.Frag) (C fI:Addr) (bmB:List Value) (newId:String):Prop where
  obj:∃ bm N nm qn bs sn sub ab col dd k0 k1 k2 k3 k5,K.lookup C = some (excClassObj nm qn C N bs bm true sn sub ab col dd k0 k1 k2 k3 k5 newId)∧PySem.W.tailIn K bmB bm = true∧PySem.W.nsOkIn K N = true∧PySem.W.nsIn K N "__init__" = some (some (.ref fI))
  fn:∃ o,K.lookup fI = some o∧o.cls = .type "function"
def tBaseInit (K:PySem.W.Frag) (C:Addr) (ta:TA):TE:=fun σ H Q=>ta σ H fun vs H1=>∃ ea v,vs = [.ref ea,v]∧H1 ea = some (excN ea C)∧Q .non (upd H1 ea (excN ea C))
section
variable {X:Cx} {e:Expr} {es:List Expr} {t:TA} {x:Str} {p pos apos:Pos} {B newId initId:String} {bmB:List Value} {C D fI:Addr}
theorem pe_baseInit {pl:Sem Bool} (F:ExcBaseFacts B newId initId bmB) (I0:ExcI X.K C fI bmB newId) (hg:Gl X x) (hm:X.mg x = some (.ref D)) (hdb:(x == ("__debug__":Str)) = false)
    (h1 : PySem.W.specialIn X.K (.ref D) "__getattribute__" = some (some (.builtin "type.__getattribute__"))) (h2 : PySem.W.readsIn X.K D (.type "type") = true) (h3 : PySem.W.findCls X.K (.ref D) (.type "type") "__init__" = some (.val (.builtin initId))) (h4 : PySem.W.handedIn (.builtin initId) = true)
    (ha:PA X (e :: es) t) (he:starEach (e :: es) X.env = (false,eval e X.env) :: starEach es X.env) (hpl:(backTo pos (starEach es X.env)).any (·.1) = false)
    (ht:eval (.Call (.Attribute (.Name x p) "__init__" apos) (e :: es) [] pos) X.env = (do
      let ov ← eval (.Name x p) X.env
      standAt apos.atName
      let (f,first) ← holding [ov] (getMethod ov "__init__" pl)
      callWith pos f first (backTo pos (starEach (e :: es) X.env)) (backToKw pos (keywordEach [] X.env)))) :
    PE X (.Call (.Attribute (.Name x p) "__init__" apos) (e :: es) [] pos) (tBaseInit X.K C t):=by
  intro pins s σ H Q I h
  refine PySem.W.methodCall_KW (pl:=pl) (ld_glob I hg hm ?_ hdb) ht
  refine PySem.W.method_cls I.kIn h1 (PySem.W.cls_value I.kIn h2 h3 h4 ?_)
  have I1:Inv X pins σ H { s with toks:=s.toks + 1 }:=I.tok _
  have hA:=ha pos pins _ σ H _ I1 h
  rw [he] at hA ⊢
  refine Calls.callWith_builtin (by show (false || (backTo pos (starEach es X.env)).any (·.1)) = false; rw [hpl]; rfl) (Calls.evalArgs_plain (thn hA fun us s2 ⟨vs,H2,I2,r2,ea,v,ev,eH,q2⟩=>?_))
  subst ev
  obtain ⟨bm,N,nm,qn,bs,sn,sub,ab,col,dd,k0,k1,k2,k3,k5,look,tl,_,_⟩:=I0.obj
  have hC:=I2.kIn _ _ look
  have T:=PySem.W.tail_of_in I2.kIn tl
  obtain ⟨⟨t0,at0⟩,_,_⟩:=(show ObjOk X.prog X.w H2 s2.heap ea (excN ea C) from I2.hok ea _ eH)
  obtain ⟨u0,u1,rfl,r0,r1⟩:=vals2 r2
  obtain rfl:u0 = Value.ref ea:=r0
  obtain ⟨hp,g1,d1,t1,o1⟩:=s2
  refine wpAny_call (codeAny_call_builtin F.init.plain F.initEntry (wpAny_check_init_subT F T hC at0 rfl ?_))
  wp_walk
  have ne:ea ≠ hp.objs.size:=Nat.ne_of_lt (Heap.lt_size at0)
  have at1:((hp.push { cls:=Value.type "tuple",data:=Data.seq #[u1] }).update ea (Obj.mapFields fun y=>y.setIfInBounds 0 (Value.ref hp.objs.size))).get? ea = some (rawE C hp.objs.size):=Heap.get?_update_self _ (Heap.get?_push_of_some _ at0) rfl
  have kp:∀ b u,b ≠ ea→hp.get? b = some u→((hp.push { cls:=Value.type "tuple",data:=Data.seq #[u1] }).update ea (Obj.mapFields fun y=>y.setIfInBounds 0 (Value.ref hp.objs.size))).get? b = some u:=fun b u nb eb=>by
    rw [Heap.get?_update_other _ _ (Ne.symm nb)]
    exact Heap.get?_push_of_some _ eb
  show EP X pins σ Q .none _
  exact ⟨.non,upd H2 ea (excN ea C),I2.write (x:=ea) (e:=ea) (by rw [eH]; exact True.intro) (.inl rfl) kp ⟨_,at1⟩ ⟨⟨_,at1⟩,⟨_,at1⟩,fun h1 h2 ⟨t,et⟩ k=>⟨t,k _ et⟩⟩,rfl,q2⟩
def sExcFld (K:PySem.W.Frag) (C:Addr) (ta tv:TE) (f:Str):TS:=fun D σ H=>tv σ H fun y H1=>ta σ H1 fun x H2=>∃ ea,x = .ref ea∧H2 ea = some (excN ea C)∧∀ d,H2 d = none→d ≠ ea→D.nx σ (upd (upd H2 d (.xd [(f,y)])) ea (excD ea C d))
theorem excFld_ok {pins:List (Addr × Obj)} {σ:St} {H:Hp} {s:Shared} {A:Around} {E:Value→Shared→Prop} {ea:Addr} {f:Str} {y:V} {u:Value} {Q:Unit→Shared→Prop} {sa owner:String} (I:Inv X pins σ H s) (eH:H ea = some (excN ea C)) (SF:StoreFacts B bmB sa owner) (I0:ExcI X.K C fI bmB newId)
    (f1:PySem.W.findIn X.K (.ref C) "__setattr__" = some (some (.builtin sa))) (f2:NoAttr X.K C f) (ry:RelV y u) (h:∀ d s',H d = none→d ≠ ea→Inv X pins σ (upd (upd H d (.xd [(f,y)])) ea (excD ea C d)) s'→Q () s'):wpAny (model X.prog X.w) A (setAttr (.ref ea) f u) Q E s:=by
  obtain ⟨bm,N,nm,qn,bs,sn,sub,ab,col,dd,k0,k1,k2,k3,k5,look,tl,_,_⟩:=I0.obj
  have hC:=I.kIn _ _ look
  have T:=PySem.W.tail_of_in I.kIn tl
  obtain ⟨⟨t0,at0⟩,_,_⟩:=(show ObjOk X.prog X.w H s.heap ea (excN ea C) from I.hok ea _ eH)
  obtain ⟨hp,g1,d1,t1,o1⟩:=s
  have nC:ea ≠ C:=fun z=>by
    subst z
    have:=hC.symm.trans at0
    cases this
  refine exc_store (o:=rawE C t0) I.kIn SF T hC f1 f2 nC at0 rfl rfl (fun c z=>by cases z) fun h' tk' dx a1 a2 a3 a4 a5=>?_
  have hle:hp.objs.size ≤ dx:=by rw [a1]; exact Nat.le_refl _
  have hnd:H dx = none:=I.hok.fresh hle
  refine h dx _ hnd a2 ?_
  generalize eb:h'.update ea (fun _=>rawE C t0) = h1
  have e1:h1.get? ea = some (rawE C t0):=by rw [← eb]; exact Heap.get?_update_self _ a3 rfl
  have k1:∀ b u,hp.get? b = some u→h1.get? b = some u:=fun b u e=>by
    by_cases z:b = ea
    · subst z
      rw [at0] at e
      cases e
      exact e1
    · rw [← eb,Heap.get?_update_other _ _ (Ne.symm z)]
      exact a5 b u z e
  have n1:h1.Ns1 dx (fun y=>if y = f then some u else none):=a4.at fun o q=>by
    rw [← eb,Heap.get?_update_other _ _ (Ne.symm a2)]
    exact q
  have I1:Inv X pins σ (upd H dx (.xd [(f,y)])) ⟨h1,g1,d1,tk',o1⟩:=I.laid (a:=dx) (o:=.xd [(f,y)]) (h':=h1) (t':=tk') k1 hle ⟨_,n1,fun z=>by
    by_cases q:z = f
    · subst q
      simp [RelO,ry]
    · have:(z == f) = false:=by simpa using q
      simp [List.lookup,this,q,RelO]⟩
  refine I1.write (x:=ea) (e:=ea) (o:=excD ea C dx) (h':=h') (t':=tk') (by rw [upd_ne (Ne.symm a2),eH]; exact True.intro) (.inl rfl) (fun b v nb e=>?_) ⟨_,a3⟩ ⟨⟨t0,a3⟩,⟨_,a3⟩,fun h1 h2 ⟨t,et⟩ k=>⟨t,k _ et⟩⟩
  rw [← eb,Heap.get?_update_other _ _ (Ne.symm nb)] at e
  exact e
end
end L2
set_option maxHeartbeats 1000000
namespace L2
open PySem PySem.Spec PyProof.Rows DictK
def del (H:Hp) (a:Addr):Hp:=fun b=>if b = a then none else H b
theorem del_ne {H:Hp} {a b:Addr} (h:b ≠ a):del H a b = H b:=by unfold del; rw [if_neg h]
theorem del_same {H:Hp} {a:Addr}:del H a a = none:=by unfold del; rw [if_pos rfl]
section
variable {P:Program} {w:World} {K:PySem.W.Frag} {mg:Str→Option Value} {base:Heap} {N:List Str} {qual:Str} {scope:Scope} {f:Addr} {cd:Value} {A:Around} {outer:List Env} {s:Shared} {H:Hp} {E:XK}
theorem made_defD {pins:List (Addr × Obj)} {σ:St} {H1 H2:Hp} {s1 s2:Shared} {ea C d:Addr} (I1:Inv (cxOf (CX1 P w) P w K mg base N qual scope f cd A outer s H E) pins σ H1 s1) (hnew:s1.heap.get? ea = none)
    (I:Inv (cxOf (CX1 P w) P w K mg base N qual scope f cd A outer s H E) pins σ H2 s2) (eD:H2 ea = some (excD ea C d)) (q:E (.ref C) (some d) (del H2 ea)):(cxOf (CX1 P w) P w K mg base N qual scope f cd A outer s H E).xe (.ref ea) s2:=by
  generalize eF:frs (cxOf (CX1 P w) P w K mg base N qual scope f cd A outer s H E).stack = F
  have hin:∀ env ∈ (cxOf (CX1 P w) P w K mg base N qual scope f cd A outer s H E).stack,∀ b,env.frame = some b→b ∈ ea :: F:=fun env he b hb=>by rw [← eF]; exact List.mem_cons_of_mem _ (List.mem_filterMap.mpr ⟨env,he,hb⟩)
  have nea:s.heap.get? ea = none:=by
    cases z:s.heap.get? ea with
    | none=>rfl
    | some o=>
      obtain ⟨o',e1⟩:=I1.base.there ea o z (List.not_mem_nil)
      rw [hnew] at e1; cases e1
  have neE:∀ b o,s.heap.get? b = some o→b ≠ ea:=fun b o e z=>by rw [z,nea] at e; cases e
  have neL:∀ b o,s.heap.get? b = some o→b ≠ s.heap.objs.size:=fun b o e=>Nat.ne_of_lt (Heap.lt_size e)
  have nF:∀ b o,s.heap.get? b = some o→b ∉ frs outer→b ∉ ea :: F:=fun b o e hb z=>by
    rcases List.mem_cons.mp z with z | z
    · exact neE b o e z
    · rw [← eF] at z
      rcases List.mem_cons.mp (I.stkSub b z) with y | y
      · exact neL b o e y
      · exact hb y
  have gB:∀ b o,s2.heap.get? b = some o→b ∉ ea :: F→(PySem.W.hideAll s2.heap (ea :: F)).get? b = some o:=fun b o e hb=>PySem.W.hideAll_get _ e hb
  obtain ⟨⟨t,at2⟩,_,_⟩:=(show ObjOk P w H2 s2.heap ea (excD ea C d) from I.hok ea _ eD)
  have hid:(PySem.W.hideAll s2.heap (ea :: F)).get? ea = none:=PySem.W.hideAll_none _ List.mem_cons_self
  show wpAny _ _ (leaving _ (.ref ea)) _ _ _
  refine wpAny_mono (kd_any (kd_leaving _ _) (wpAny_leaving_firstW (Q:=fun _ s3=>∃ h3,s3 = { s2 with heap:=h3 }∧Heap.LeftW (PySem.W.hideAll s2.heap (ea :: F)) (cxOf (CX1 P w) P w K mg base N qual scope f cd A outer s H E).stack ea (.ref C) (.ref t) s2.heap h3) (base:=PySem.W.hideAll s2.heap (ea :: F)) I.ok.frames (PySem.W.funFrames_hide I.stack hin) rfl at2 (fun b o q=>PySem.W.of_hideAll _ q) hid rfl rfl rfl fun h3 l3=>⟨h3,rfl,l3⟩)) (fun _ s3 q3=>?_) fun _ _ z=>z
  obtain ⟨⟨h3,e3,k1,⟨_,_,k2⟩,k3,k4⟩,kp⟩:=q3
  subst e3
  refine ⟨ea,.ref C,t,del H2 ea,PySem.W.hideAll s2.heap (ea :: F),some d,rfl,I.os,I.bare,⟨k1,hid,k2,k3⟩,fun a o e=>?_,⟨fun b o eb n hb=>?_,fun b o eb n hb=>?_,fun b o eb n=>?_,fun b o eb hb=>?_,fun b xs e=>?_,fun b o u e=>?_,fun b ps e=>?_⟩,DictIs.kept ⟨_,at2,rfl⟩ kp,fun z=>(nomatch z),q⟩
  · have na:a ≠ ea:=fun z=>by rw [z,del_same] at e; cases e
    rw [del_ne na] at e
    have ow:∀ c,H2 c = some (.own a)→c ≠ ea:=fun c hc z=>by rw [z,eD] at hc; cases hc
    have tu:∀ c xs,H2 c = some (.tup xs)→c ≠ ea:=fun c xs hc z=>by rw [z,eD] at hc; cases hc
    refine (I.hok a o e).stay (fun b u hb eu=>gB b u eu fun z=>?_) (fun c q=>by rw [del_ne (ow c q)]; exact q) fun c xs q=>by rw [del_ne (tu c xs q)]; exact q
    rcases List.mem_cons.mp z with z | z
    · rcases hb with hb | hb
      · exact na (hb.symm.trans z)
      · exact ow b hb z
    · have hf:=I.stkFree b (by rw [eF]; exact z)
      rcases hb with rfl | hb
      · rw [hf] at e; cases e
      · rw [hf] at hb; cases hb
  · exact gB b o (I.base.keep b o eb n hb (List.not_mem_nil)) (nF b o eb hb)
  · obtain ⟨sl,e1⟩:=I.base.slot b o eb n hb (List.not_mem_nil)
    obtain ⟨_,o2,e2,d2⟩:=frs_none I.stack (List.mem_cons_of_mem _ hb:b ∈ s.heap.objs.size :: frs outer)
    rw [e1] at e2
    cases e2
    obtain ⟨sl',e4⟩:=k4 b _ e1 d2
    exact ⟨sl',e4⟩
  · rw [del_ne (neE b o eb)]
    exact I.base.free b o eb n (List.not_mem_nil)
  · obtain ⟨o',e1⟩:=I.base.there b o eb (List.not_mem_nil)
    exact ⟨o',gB b o' e1 (nF b o eb hb)⟩
  · have:=I.base.tups b xs e
    rw [del_ne (fun z=>by rw [z,eD] at this; cases this)]
    exact this
  · have:=I.base.frzs b o u e
    rw [del_ne (fun z=>by rw [z,eD] at this; cases this)]
    exact this
  · obtain ⟨m,e1⟩:=I.base.tbls b ps e
    exact ⟨m,by rw [del_ne (fun z=>by rw [z,eD] at e1; cases e1)]; exact e1⟩
end
end L2
set_option maxHeartbeats 1000000
namespace L2
open PySem PySem.Spec PyProof.Rows DictK
theorem ns_some {K:PySem.W.Frag} {h:Heap} {N:Addr} {m:Str→Option Value} {n:Str} {v:Value} (X:K.In h) (G:h.Ns N m) (e:PySem.W.nsIn K N n = some (some v)):m n = some v:=by
  obtain ⟨ob,es,ep,ho,hd,_,hf⟩:=G
  rw [← hf]; unfold PySem.W.nsIn at e
  split at e
  next c d es' n' sl q=>
    have z:=ho.symm.trans (X _ _ q)
    injection z with z; subst z
    obtain ⟨rfl,rfl⟩:es' = es∧n' = ep:=by injection hd with a b; exact ⟨a,b⟩
    split at e
    next en he=>injection e with e; injection e with e; unfold nsFind findBy; rw [← Array.find?_toList,he]; exact congrArg some e
    next=>split at e <;> cases e
  next=>cases e
def tRaiseD (C:Addr) (sp:Sp) (E:XK) (ta:TA):TS:=fun _ σ H=>ta σ H fun vs H1=>vs.length ≤ 8∧∀ ea,H1 ea = none→sp (.ref ea :: vs) (upd H1 ea (excN ea C)) (fun v H2=>v = .non∧∃ d,H2 ea = some (excD ea C d)∧E (.ref C) (some d) (del H2 ea)) E0
section
variable {X:Cx}
theorem ps_raiseD {x:Str} {e:Expr} {es:List Expr} {ta:TA} {C fI:Addr} {B newId initId:String} {bmB:List Value} {E:XK} {np cpos pos:Pos} {k:Nat} {fd:FuncData} {ps:List Str} {sp:Sp} (FB:ExcBaseFacts B newId initId bmB) (I0:ExcI X.K C fI bmB newId)
    (F:FnOk X.prog X.w X.K X.mg X.base CX0 k fI fd ps sp) (hr:Room (k + 1) X.A) (hb:Binds X.K fd ps [])
    (hg:Gl X x) (hm:X.mg x = some (.ref C)) (hc:X.calm = true) (ha:PA X (e :: es) ta)
    (hx:∀ (pins:List (Addr × Obj)) (σ:St) (H1 H2:Hp) (s1 s2:Shared) (ea d:Addr),Inv X pins σ H1 s1→s1.heap.get? ea = none→Inv X pins σ H2 s2→H2 ea = some (excD ea C d)→E (.ref C) (some d) (del H2 ea)→X.xe (.ref ea) s2)
    (hdb:(x == ("__debug__":Str)) = false) (he:starEach (e :: es) X.env = (false,eval e X.env) :: starEach es X.env) (hpl:(backTo cpos (starEach es X.env)).any (·.1) = false) :
    PS X (.Raise (some (.Call (.Name x np) (e :: es) [] cpos)) none pos) (tRaiseD C sp E ta):=by
  intro pins s σ H D I h
  obtain ⟨bm,N,nm,qn,bs,sn,sub,ab,col,dd,k0,k1,k2,k3,k5,look,tl,nok,nin⟩:=I0.obj
  obtain ⟨oF,lF,cF⟩:=I0.fn
  have T0:=PySem.W.tail_of_in I.kIn tl
  have hplain:(backTo cpos (starEach (e :: es) X.env)).any (·.1) = false:=by rw [he]; show (false || (backTo cpos (starEach es X.env)).any (·.1)) = false; rw [hpl]; rfl
  rw [arm_exec_Raise]
  refine wpAny_bind (wpAny_standAt (raise_made (C:=C) (nm:=nm) (qn:=qn) (N:=N) (bs:=bs) (bm:=bm) (hdct:=true) (sn:=sn) (sub:=sub) (ab:=ab) (col:=col) (dd:=dd) (k0:=k0) (k1:=k1) (k2:=k2) (k3:=k3) (k5:=k5) (newId:=newId) (T0.hasType FB.hasBase) (I.ok.hd hc) (wpAny_bind (wpAny_mono (wpAny_Call_ofName (ld_glob I hg hm ?_ hdb)) (fun v s3 h3=>wpAny_bind (wpAny_standAt (wpAny_pure h3))) fun _ _ z=>z))))
  have hA:=ha cpos pins s σ H _ I h
  unfold callWith
  rw [he] at hA ⊢
  refine wpAny_bind (wpAny_holding (Calls.evalArgs_plain (thn hA fun us s2 ⟨vs,H2,I2,r2,hz,q2⟩=>wpAny_bind (wpAny_standAt ?_))))
  have hC:=I2.kIn _ _ look
  have T:=PySem.W.tail_of_in I2.kIn tl
  have hN:s2.heap.Ns N (s2.heap.nsMap N):=.of_isNs (PySem.W.isNs_of_in I2.kIn nok)
  have hi:s2.heap.nsMap N "__init__" = some (.ref fI):=ns_some I2.kIn hN nin
  have hl:us.length ≤ sizeLine:=by rw [← r2.length]; exact Nat.le_trans hz (by decide)
  obtain ⟨hp,g2,d2,t2,o2⟩:=s2
  rw [he] at hplain
  simp only [hplain]
  refine wpAny_bind (wpAny_keeperOf_exc hC ?_)
  refine wpAny_bind (made_call FB T hC hN hi (I2.kIn _ _ lF) cF (fun h' ea hm' hle=>?_) hl)
  obtain ⟨t3,at3,_,_⟩:=hm'.there
  have I3:Inv X pins σ (upd H2 ea (excN ea C)) ⟨h',g2,d2,t2,o2⟩:=I2.laid (a:=ea) (o:=excN ea C) (h':=h') (t':=t2) hm'.keeps hle ⟨⟨t3,at3⟩,⟨_,at3⟩,fun h1 h2 ⟨t,et⟩ k=>⟨t,k _ et⟩⟩
  have hsp:=q2 ea (I2.hok.fresh hle)
  have r3:Vals (V.ref ea :: vs) (Value.ref ea :: us):=.cons rfl r2
  have hl3:(Value.ref ea :: us ++ []).length = ps.length:=by
    rw [List.append_nil,← r3.length]
    exact F.len _ _ _ _ hsp
  have hb3:=hb _ (Value.ref ea :: us) I3.kIn hl3
  rw [List.append_nil] at hb3
  rw [List.nil_append]
  refine wpAny_call (codeAny_mono (F.run _ X.stack _ _ ⟨Value.ref ea :: us,[]⟩ (Value.ref ea :: us) _ _ E0 (hr.make C us []) (I3.env0.make C us []) hb3 r3 hsp) fun r s' hq'=>?_)
  cases r with
  | error z=>exact False.elim hq'
  | ok fl=>
    cases fl with
    | ret u=>
      obtain ⟨v,H4,I4,rv,ev,d,eD,qE⟩:=I3.after hq'
      subst ev
      obtain ⟨⟨t4,at4⟩,_,_⟩:=(show ObjOk X.prog X.w H4 s'.heap ea (excD ea C d) from I4.hok ea _ eD)
      exact ⟨rv,wpAny_bind (wpAny_holding (wpAny_point (wpAny_pure ⟨ea,t4,_,rfl,I4.kIn _ _ look,at4,rfl,rfl,hx pins σ H2 H4 _ s' ea d I2 hm'.new I4 eD qE⟩)))⟩
    | next=>exact False.elim hq'
    | brk=>exact False.elim hq'
    | cont=>exact False.elim hq'
end
end L2
set_option maxHeartbeats 1000000
namespace L2
open PySem PySem.Spec PyProof.Rows DictK
def excX (ea C:Addr) (dd:Option Addr):HO:=.ext fun h=>∃ o,h.get? ea = some o∧o.cls = .ref C∧o.dict = dd∧∃ vs,o.data = .fields vs
structure SubD (K:PySem.W.Frag) (C D:Addr):Prop where
  c:∀ h:Heap,K.In h→∃ bm N nm qn bs hdct sn sub ab col dd k0 k1 k2 k3 k5 newId,h.get? C = some (excClassObj nm qn C N bs bm hdct sn sub ab col dd k0 k1 k2 k3 k5 newId)∧∀ v r,PySem.W.mroIn K C v = some r→(Value.ref C :: bm).contains v = r
  d:∃ bmB newId,PySem.W.excIn K D bmB newId = true∧bmB.contains (.type "BaseException") = true
  s:PySem.W.mroIn K C (.ref D) = some true
theorem ExcI.subD {K:PySem.W.Frag} {C D fI:Addr} {bmB:List Value} {newId:String} (I0:ExcI K C fI bmB newId) (d:∃ bmB newId,PySem.W.excIn K D bmB newId = true∧bmB.contains (.type "BaseException") = true) (s:PySem.W.mroIn K C (.ref D) = some true):SubD K C D:=by
  obtain ⟨bm,N,nm,qn,bs,sn,sub,ab,col,dd,k0,k1,k2,k3,k5,look,tl,nok,nin⟩:=I0.obj
  refine ⟨fun h X=>⟨bm,N,nm,qn,bs,true,sn,sub,ab,col,dd,k0,k1,k2,k3,k5,newId,X _ _ look,fun v r e=>?_⟩,d,s⟩
  unfold PySem.W.mroIn PySem.W.clsIn at e
  rw [look] at e
  simpa [excClassObj] using e
def TakenD (K:PySem.W.Frag) (D:Addr) (th:Addr→Addr→Option Addr→Hp→Prop):XK:=fun cls dd H'=>∃ C,cls = .ref C∧SubD K C D∧∀ ea,H' ea = none→th ea C dd H'
def tTryD (K:PySem.W.Frag) (D:Addr) (i:Nat) (tb:(St→XK→Prop)→TS) (th:TS):TS:=fun Dn σ H=>
  tb (fun σ' E=>σ' = σ∧E = TakenD K D fun ea C dd H'=>th { nx:=fun σ2 H2=>Dn.nx (σ2.set i none) H2,rt:=Dn.rt,bk:=fun σ2 H2=>Dn.bk (σ2.set i none) H2,ct:=fun σ2 H2=>Dn.ct (σ2.set i none) H2 } (σ.set i (some (.ref ea))) (upd H' ea (excX ea C dd))) Dn σ H
section
variable {X:Cx} {pins:List (Addr × Obj)} {σ:St} {H:Hp} {s:Shared}
theorem Inv.withDict {ea C:Addr} {dd:Option Addr} (I:Inv X pins σ (upd H ea (excO ea C)) s) (d:DictIs s.heap ea dd) (ft:∃ oe vs,s.heap.get? ea = some oe∧oe.data = .fields vs):Inv X pins σ (upd H ea (excX ea C dd)) s:=by
  obtain ⟨o9,vs,e9,d9⟩:=ft
  obtain ⟨⟨o,e1,e2⟩,_,_⟩:=(show ObjOk X.prog X.w (upd H ea (excO ea C)) s.heap ea (excO ea C) from I.hok ea _ upd_same)
  obtain ⟨o',e3,e4⟩:=d
  rw [e1] at e3
  injection e3 with e3
  subst e3
  rw [e1] at e9
  injection e9 with e9
  subst e9
  have J:=I.write (x:=ea) (e:=ea) (o:=excX ea C dd) (h':=s.heap) (t':=s.toks) (by rw [upd_same]; exact True.intro) (.inl rfl) (fun b u _ e=>e) ⟨o,e1⟩ ⟨⟨o,e1,e2,e4,vs,d9⟩,⟨o,e1⟩,fun h1 h2 ⟨o,a,b,c⟩ k=>⟨o,k _ a,b,c⟩⟩
  rw [upd_upd] at J
  exact J
theorem caught_byD {x:Str} {D e:Addr} {a0:Value} {b₀:Stmt} {suite:List Stmt} {name:Option Str} {np hpos:Pos} {H':Hp} {B:Heap} {s':Shared} {C:Addr} {Q:Flow→Shared→Prop} {E:Value→Shared→Prop}
    (hg:Gl X x) (hm:X.mg x = some (.ref D)) (hdb:(x == ("__debug__":Str)) = false) (hst:X.stack = X.env :: X.outer) (hfr:X.env.frame = some X.env.locals)
    (I:Inv X pins σ H s) (hos:s'.os = s.os) (hgen:AllBare s'.gens) (hok:HOk X.prog X.w H' B) (ub:UnB (frs X.stack) H H' s.heap B s'.heap) (hfl:Heap.FlyingW B X.stack e (.ref C) a0 s'.heap) (hs:SubD X.K C D)
    (k:∀ h6,Heap.FlyingW B X.stack e (.ref C) a0 h6→s'.heap.UpToSlots h6→DictK.Kept s'.heap h6→
      codeAny (model X.prog X.w) (X.A.mark (some (.ref e))) (.handlers (.ref e) [.ExceptHandler none name (b₀ :: suite) hpos] X.env) (fun r s₂=>match r with
          | .ok f=>(match name with
            | none=>Q f s₂
            | some n=>wpAny (model X.prog X.w) X.A (do bindName X.env n .none; unbindBehindTheSuite X.env n hpos) (fun _ s₃=>Q f s₃) E s₂)
          | .error x=>cameBackBy (model X.prog X.w) X.A X.env E x s₂) { s' with heap:=h6 }) :
    wpAny (model X.prog X.w) X.A (noteFrame (.ref e) X.env) (fun _ s₂=>wpAny (model X.prog X.w) X.A (setFlight (.ref e) none) (fun _ s₃=>
      wpAny (model X.prog X.w) X.A (handleBy (.ref e) X.env [.ExceptHandler (some (.Name x np)) name (b₀ :: suite) hpos]) Q E s₃) E s₂) E s':=by
  have hfl':=hfl
  rw [hst] at hfl'
  refine wpAny_mono (DictK.kd_any (DictK.kd_note _ _) (wpAny_looks_onW (Q:=fun _ s4=>∃ h4,s4 = { s' with heap:=h4 }∧Heap.HeldW B (X.env :: X.outer) e (.ref C) a0 X.env.locals h4∧s'.heap.UpToSlots h4) (L:=X.env.locals) (by rw [I.ok.frames,hst]) hfr hfl' fun h4 hh4 sm4=>⟨h4,rfl,hh4,sm4⟩)) (fun _ s4 q4=>?_) fun _ _ z=>z
  obtain ⟨⟨h4,e4,hh4,sm4⟩,kp4⟩:=q4
  subst e4
  refine wpAny_mono (DictK.kd_any (DictK.kd_setFlight _ _) (wpAny_landsW (Q:=fun _ s5=>∃ h5,s5 = { s' with heap:=h5 }∧Heap.FlyingW B (X.env :: X.outer) e (.ref C) a0 h5∧h4.UpToSlots h5) hh4 fun h5 hf5 sm5=>⟨h5,rfl,hf5,sm5⟩)) (fun _ s5 q5=>?_) fun _ _ z=>z
  obtain ⟨⟨h5,e5,hf5,sm5⟩,kp5⟩:=q5
  subst e5
  have hf5':=hf5
  rw [← hst] at hf5'
  have I5:=landed_inv I hos hgen hok ub hfl hf5' (sm4.trans sm5)
  refine wpAny_handleBy_cons (codeAny_handlers_test ?_) (by intro z; cases z)
  have I5h:=I5.hand e
  refine ld_glob I5h hg hm ?_ hdb
  obtain ⟨c1,⟨bmD,nid',c2,c3⟩,c4⟩:=hs
  obtain ⟨bm,N,nm,qn,bs,hdct,sn,sub,ab,col,dd,k0,k1,k2,k3,k5,nid,oC,mC⟩:=c1 _ I5.kIn
  obtain ⟨bm',N',nm',qn',bs',hdct',sn',sub',ab',col',dd',l0,l1,l2,l3,l5,oD,TD,mD⟩:=exc_mro I5.kIn c2
  obtain ⟨ob,hob,hobc⟩:=hf5.there
  obtain ⟨hp,gn,dr,tk,os⟩:=s'
  refine matches_own oC oD hob hobc (TD.hasType c3) (mC _ _ c4) ?_
  exact k h5 hf5' (sm4.trans sm5) (kp4.trans kp5)
end
section
variable {X:Cx}
theorem ps_tryD {i:Nat} {n:Str} {body:List Stmt} {tb:(St→XK→Prop)→TS} {x:Str} {D:Addr} {b₀:Stmt} {suite:List Stmt} {th:TS} {np hpos pos:Pos} (hN:X.N.Nodup) (hi:X.N[i]? = some n) (hk:X.env.scope.names.lookup n = some .local)
    (hg:Gl X x) (hm:X.mg x = some (.ref D)) (hdb:(x == ("__debug__":Str)) = false) (hst:X.stack = X.env :: X.outer) (hfr:X.env.frame = some X.env.locals)
    (hb:∀ (xe:Value→Shared→Prop) (pn:List (Addr × Obj)) (Φ:St→XK→Prop),PassesX (X.tried xe pn) Φ→PSs (X.tried xe pn) body (tb Φ))
    (hh:∀ ea,PSs (X.hand ea) (b₀ :: suite) th) :
    PS X (.Try body [.ExceptHandler (some (.Name x np)) (some n) (b₀ :: suite) hpos] [] [] pos) (tTryD X.K D i tb th):=by
  intro pins s σ H Dn I h
  refine wpAny_Try_except ?_
  let Dh:Ends:={ nx:=fun σ2 H2=>Dn.nx (σ2.set i none) H2,rt:=Dn.rt,bk:=fun σ2 H2=>Dn.bk (σ2.set i none) H2,ct:=fun σ2 H2=>Dn.ct (σ2.set i none) H2 }
  let E0:XK:=TakenD X.K D fun ea C dd H'=>th Dh (σ.set i (some (.ref ea))) (upd H' ea (excX ea C dd))
  let xe:Value→Shared→Prop:=fun e s'=>∃ H1 s1,Inv X pins σ H1 s1∧CX1 X.prog X.w X.stack H1 s1 E0 e s'
  have hP:PassesX (X.tried xe (X.pn ++ pins)) (fun σ' E=>σ' = σ∧E = E0):=by
    rintro pins' σ' H1 s1 E e s' I1 ⟨rfl,rfl⟩ hc
    exact ⟨H1,s1,I1.untried I.ok,hc⟩
  have hbody:=hb xe (X.pn ++ pins) _ hP [] s σ H Dn (I.tried xe) h
  have hcls:(X.env.scope.kind == .class || (X.env.scope.kind == .module && X.env.locals != X.env.globals)) = false:=by rw [I.ok.kind]; rfl
  refine wpAny_mono hbody (fun fl s' q=>?_) fun e s' q=>?_
  · cases fl with
    | next=>obtain ⟨σ',H',J,q⟩:=q; exact wpAny_execs_nil ⟨σ',H',J.untried I.ok,q⟩
    | brk=>obtain ⟨σ',H',J,q⟩:=q; exact ⟨σ',H',J.untried I.ok,q⟩
    | cont=>obtain ⟨σ',H',J,q⟩:=q; exact ⟨σ',H',J.untried I.ok,q⟩
    | ret u=>obtain ⟨v,σ',H',J,r,q⟩:=q; exact ⟨v,σ',H',J.untried I.ok,r,q⟩
  · obtain ⟨H1,s1,I1,ea,cls,t,H2,B,dd,rfl,hos,hgen,hfl,hok,ub,dI,cI,C,rfl,hsub,q⟩:=q
    have hn:=hok.untracked hfl.2.1
    refine caught_byD hg hm hdb hst hfr I1 hos hgen hok ub hfl hsub fun h6 hf6 sm6 kp6=>?_
    refine codeAny_handlers_suite_as (wpAny_mono (kd_any (kd_setFlight _ _) (lands_againW (Q:=fun _ s7=>∃ h7,s7 = { s' with heap:=h7 }∧Heap.FlyingW B X.stack ea (.ref C) (.ref t) h7∧h6.UpToSlots h7) (s:={ s' with heap:=h6 }) hf6 fun h7 hf7 sm7=>⟨h7,rfl,hf7,sm7⟩)) (fun _ s7 q7=>?_) fun _ _ z=>z)
    obtain ⟨⟨h7,e7,hf7,sm7⟩,kp7⟩:=q7
    subst e7
    have I7:Inv X pins σ (upd H2 ea (excX ea C dd)) { s' with heap:=h7 }:=(landed_invE I1 hos hgen hok ub hfl hf7 (sm6.trans sm7)).withDict (dI.kept (kp6.trans kp7)) (by obtain ⟨oe,vs,a,_,b,_⟩:=hf7.first; exact ⟨oe,vs,a,b⟩)
    refine store_ok (X:=X.hand ea) (I7.hand ea) hN hi (.inl hk) (v:=.ref ea) (u:=.ref ea) rfl (fun s8 I8=>?_) (.inr hk)
    refine wpAny_mono (hh ea pins s8 _ _ Dh I8 (q ea hn)) (fun fl s9 q9=>?_) (fun _ _ z=>z.elim)
    have goes:∀ {σ':St} {H':Hp} {Q:Shared→Prop},Inv (X.hand ea) pins σ' H' s9→(∀ s10,Inv X pins (σ'.set i none) H' s10→Q s10)→
        wpAny (model X.prog X.w) X.A (do bindName X.env n .none; unbindBehindTheSuite X.env n hpos) (fun _ s₃=>Q s₃) X.xe s9:=fun {σ' H' Q} J k=>by
      have J':=J.unhand I.ok
      obtain ⟨m,hm1,hl1⟩:=id J'.loc
      exact wpAny_nameGoes_keeps hk hm1 hcls fun h' v hn' hs'=>k _ (J'.gone hN hi hm1 hl1 hn' hs')
    cases fl with
    | next=>obtain ⟨σ',H',J,q⟩:=q9; exact goes J fun s10 J10=>⟨_,H',J10,q⟩
    | brk=>obtain ⟨σ',H',J,q⟩:=q9; exact goes J fun s10 J10=>⟨_,H',J10,q⟩
    | cont=>obtain ⟨σ',H',J,q⟩:=q9; exact goes J fun s10 J10=>⟨_,H',J10,q⟩
    | ret u=>obtain ⟨v,σ',H',J,r,q⟩:=q9; exact goes J fun s10 J10=>⟨v,_,H',J10,r,q⟩
end
end L2
set_option maxHeartbeats 1000000
namespace L2
section
open PySem PySem.Spec PyProof.Rows Builtin Builtin.ObjectAttr Builtin.Getset_descriptor
variable {prog:Program} {w:World} {A:Around} {E:Value→Shared→Prop} {K:PySem.W.Frag} {x C d:Addr} {o:Obj} {f:Str} {u:Value} {mA:Str→Option Value}
theorem excD_entry {tk:Tok} {Q:PySem.Fin→Shared→Prop} {s:Shared} (X:K.In s.heap) (hx:s.heap.get? x = some o) (hc:o.cls = .ref C) (hd:o.dict = some d) (ht:∃ vs,o.data = .fields vs) (hcd:∃ cd,PySem.W.clsIn K C = some cd∧cd.hasDict = true) (hn:PySem.W.findIn K (.ref C) f = some none) (hm:s.heap.Ns1 d mA) (hf:mA f = some u) (q:Q (.done (.ret u)) s) :
    wpAny (model prog w) A (Builtin.«object.__getattribute__» ⟨[.ref x,.str f tk],[]⟩) Q E s:=by
  obtain ⟨hh,g,dr,t,os⟩:=s
  have T0:=exc_ty (M:=model prog w) hx hc
  have T1:=PySem.W.looks_findIn (M:=model prog w) X hn
  repeat (any_goals (first | assumption | with_reducible refine T0.at ?_ | with_reducible refine T1.at ?_ | wp_step))
  obtain ⟨vs,ht⟩:=ht
  rw [ht]
  have N0:=hm.ns
  repeat (any_goals (first | assumption | (with_reducible refine wpAny_loadPart_at hx ?_) | wp_step))
  rw [hd,hc]
  obtain ⟨cd,c1,c2⟩:=hcd
  have T3:=PySem.W.looks_clsIn (M:=model prog w) X c1
  have c3:¬ ((!cd.hasDict) = true):=by rw [c2]; decide
  refine wpAny_bind (T3.at ?_); rw [if_neg c3]
  refine wpAny_pure ?_
  show wpAny _ _ (nsGet d f) _ _ _
  refine wpAny_nsGet N0 ?_
  rw [hf]
  repeat (any_goals (first | assumption | wp_step))
theorem excD_get {Q:Value→Shared→Prop} {s:Shared} {b:Bool} (hk:ExcK K C) (X:K.In s.heap) (hx:s.heap.get? x = some o) (hc:o.cls = .ref C) (hd:o.dict = some d) (ht:∃ vs,o.data = .fields vs) (hcd:∃ cd,PySem.W.clsIn K C = some cd∧cd.hasDict = true) (hn:PySem.W.findIn K (.ref C) f = some none) (hm:s.heap.Ns1 d mA) (hf:mA f = some u) (hu:PySem.W.handedIn u = true) (q:Q u { s with toks:=s.toks + 1 }) :
    wpAny (model prog w) A (getAttr (.ref x) f b) Q E s:=by
  obtain ⟨hh,g,dr,t,os⟩:=s
  have T0:=exc_ty (M:=model prog w) hx hc
  have T1:=PySem.W.looks_findIn (M:=model prog w) X hk.ga
  have T2:=PySem.W.looks_findIn (M:=model prog w) X hk.gt
  unfold getAttr getAttrBy
  refine wpAny_bind (wpAny_mkText (wpAny_holding (wpAny_bind (T0.at (wpAny_bind (T1.at ?_))))))
  have FB:=PySem.F.attrBase_ValueError
  have f3:=FB.ga.bind (.ref x)
  have b2:(Value.builtin "BaseException.__getattribute__" == Value.builtin "object.__getattribute__") = false:=by decide +kernel
  dsimp only
  rw [b2,Bool.and_false,if_neg (by decide)]
  unfold getAttrByItsOwn
  repeat (any_goals (first | assumption | with_reducible refine T2.at ?_ | wp_step))
  have b3:¬ ((b && onTheHeap (Value.builtin "BaseException.__getattribute__")) = true):=by cases b <;> decide
  rw [if_neg b3]; unfold boundAndCalled
  repeat (any_goals (first | assumption | wp_step))
  refine codeAny_call_builtin FB.ga.plain F.entry_bexc_ga (exc_check hk X hx hc (excD_entry X hx hc hd ht hcd hn hm hf ?_))
  exact PySem.W.handed_on hu q
end
open PySem PySem.Spec PyProof.Rows
def tExcFld (K:PySem.W.Frag) (C:Addr) (ta:TE) (f:Str):TE:=fun σ H Q=>ta σ H fun x H1=>∃ ea d fs i,x = .ref ea∧H1 ea = some (excX ea C (some d))∧H1 d = some (.xd fs)∧fs.lookup f = some (.int i)∧Q (.int i) H1
section
variable {X:Cx} {o:Expr} {f:Str} {pos:Pos} {ta:TE} {C:Addr}
theorem pe_excFld (ho:PE X o ta) (hk:ExcK X.K C) (hcd:∃ cd,PySem.W.clsIn X.K C = some cd∧cd.hasDict = true) (hn:NoAttr X.K C f) (hb:attributeBase o f X.env (eval o X.env) = eval o X.env):PE X (.Attribute o f pos) (tExcFld X.K C ta f):=by
  intro pins s σ H Q I h
  refine attr_of hb (thn (ho pins s σ H _ I h) fun v s1 ⟨x,H1,I1,rx,ea,d,fs,i,ex,eX,eD,l,q⟩=>?_)
  subst ex
  obtain rfl:v = Value.ref ea:=rx
  obtain ⟨⟨ob,e1,e2,e3,e4⟩,_,_⟩:=(show ObjOk X.prog X.w H1 s1.heap ea (excX ea C (some d)) from I1.hok ea _ eX)
  obtain ⟨mA,nm,rl⟩:=(show ObjOk X.prog X.w H1 s1.heap d (.xd fs) from I1.hok d _ eD)
  have r1:=rl f
  rw [l] at r1
  cases hu:mA f with
  | none=>rw [hu] at r1; exact r1.elim
  | some u=>
    rw [hu] at r1
    obtain ⟨t,rfl⟩:∃ t,u = Value.int i t:=r1
    exact excD_get hk I1.kIn e1 e2 e3 e4 hcd hn nm hu rfl ⟨.int i,H1,I1.tok _,⟨t,rfl⟩,q⟩
end
end L2
set_option maxHeartbeats 1000000
namespace L2
open PySem PySem.Spec PyProof.Rows DictK
def rIsX (K:PySem.W.Frag):List V→Hp→VK→Prop:=fun xs H Q=>∃ ea C dd c b,xs = [.ref ea,c]∧H ea = some (excX ea C dd)∧ExcK K C∧ClsV K H C c b∧Q (.bl b) H
section
variable {X:Cx}
theorem call_isX:CallR X (.builtin "isinstance") (rIsX X.K):=by
  intro pins s σ H xs us Q I r h
  obtain ⟨ea,C,dd,c,b,rfl,hH,hk,hc,q⟩:=h
  obtain ⟨u,w',rfl,ru,rw'⟩:=vals2 r
  obtain rfl:u = Value.ref ea:=ru
  obtain ⟨⟨ob,o1,o2,_⟩,_,_⟩:=(show ObjOk X.prog X.w H s.heap ea (excX ea C dd) from I.hok ea _ hH)
  have ho:ExcAt ea C s.heap:=⟨ob,o1,o2⟩
  rcases hc with ⟨D,rfl,e⟩ | ⟨T,rfl,e⟩ | ⟨p,ds,rfl,hp,e⟩
  · obtain rfl:w' = Value.ref D:=rw'
    exact PySem.W.kia_one (kitx_exc hk) I.kIn ho e (by intro z; cases z) fun tk=>⟨.bl b,H,I.tok tk,rfl,q⟩
  · obtain rfl:w' = Value.type T:=rw'
    exact PySem.W.kia_one (kitx_exc hk) I.kIn ho e (by intro z; cases z) fun tk=>⟨.bl b,H,I.tok tk,rfl,q⟩
  · obtain rfl:w' = Value.ref p:=rw'
    obtain ⟨hz,its,rv,htp⟩:=(show ObjOk X.prog X.w H s.heap p (.tup (ds.map V.ref)) from I.hok p _ hp)
    obtain ⟨o,e1,e2,n,e3⟩:=htp
    rw [← refs_of rv] at e
    obtain ⟨oc,od,oda,osl⟩:=o
    dsimp only at e2 e3
    subst e2 e3
    exact PySem.W.kia_tup (kitx_exc hk) I.kIn ho e1 e (by intro z; cases z) fun tk=>⟨.bl b,H,I.tok tk,rfl,q⟩
theorem isX_go {K:PySem.W.Frag} {H:Hp} {ea C D:Addr} {dd:Option Addr} {b:Bool} {Q:VK} (h:H ea = some (excX ea C dd)) (hk:ExcK K C) (e:PySem.W.kitOne K (.ref C) (.ref D) = some b) (q:Q (.bl b) H):rIsX K [.ref ea,.ref D] H Q:=⟨ea,C,dd,_,b,rfl,h,hk,.inl ⟨D,rfl,e⟩,q⟩
theorem isXT_go {K:PySem.W.Frag} {H:Hp} {ea C:Addr} {dd:Option Addr} {T:String} {b:Bool} {Q:VK} (h:H ea = some (excX ea C dd)) (hk:ExcK K C) (e:PySem.W.kitOne K (.ref C) (.type T) = some b) (q:Q (.bl b) H):rIsX K [.ref ea,.ty T] H Q:=⟨ea,C,dd,_,b,rfl,h,hk,.inr (.inl ⟨T,rfl,e⟩),q⟩
theorem isXs_go {K:PySem.W.Frag} {H:Hp} {ea C p:Addr} {dd:Option Addr} {ds:List Addr} {b:Bool} {Q:VK} (h:H ea = some (excX ea C dd)) (hk:ExcK K C) (hp:H p = some (.tup (ds.map V.ref))) (e:PySem.W.kitAny K (.ref C) (ds.map Value.ref) = some b) (q:Q (.bl b) H):rIsX K [.ref ea,.ref p] H Q:=⟨ea,C,dd,_,b,rfl,h,hk,.inr (.inr ⟨p,ds,rfl,hp,e⟩),q⟩
variable {e o value:Expr} {es:List Expr} {t:TA} {ta tv:TE} {x f:Str} {p pos pos' apos cpos np:Pos} {C D fI:Addr} {bmB:List Value} {B newId initId sa owner:String} {E:XK}
theorem ke_excFld (ho:QE X o ta) (hk:ExcK X.K C) (hcd:∃ cd,PySem.W.clsIn X.K C = some cd∧cd.hasDict = true) (hn:NoAttr X.K C f) (hb:attributeBase o f X.env (eval o X.env) = eval o X.env:=by kernel_rfl):QE X (.Attribute o f pos) (tExcFld X.K C ta f):=⟨pe_excFld ho.p hk hcd hn hb⟩
theorem ps_excFld (ha:PE X o ta) (hv:PE X value tv) (SF:StoreFacts B bmB sa owner) (I0:ExcI X.K C fI bmB newId) (f1:PySem.W.findIn X.K (.ref C) "__setattr__" = some (some (.builtin sa))) (f2:NoAttr X.K C f) (hs:swapsWith value (some (.Attribute o f pos')) pos.line X.env = pure false):PS X (.Assign [.Attribute o f pos'] value pos) (sExcFld X.K C ta tv f):=by
  intro pins s σ H D I h
  refine plainObj_wpAny_Assign_Attribute (thn (hv pins s σ H _ I h) fun u s1 ⟨y,H1,I1,ry,q⟩=>thn (ha pins s1 σ H1 _ I1 q) fun ov s2 ⟨z,H2,I2,rz,ea,ez,eH,q2⟩=>?_) hs
  subst ez
  obtain rfl:ov = Value.ref ea:=rz
  exact excFld_ok I2 eH SF I0 f1 f2 ry fun d s3 d1 d2 I3=>⟨σ,_,I3,q2 d d1 d2⟩
theorem ks_excFld (ha:QE X o ta) (hv:QE X value tv) (SF:StoreFacts B bmB sa owner) (I0:ExcI X.K C fI bmB newId) (f1:PySem.W.findIn X.K (.ref C) "__setattr__" = some (some (.builtin sa))) (f2:NoAttr X.K C f) (hs:swapsWith value (some (.Attribute o f pos')) pos.line X.env = pure false:=by kernel_rfl):QS X (.Assign [.Attribute o f pos'] value pos) (sExcFld X.K C ta tv f):=⟨ps_excFld ha.p hv.p SF I0 f1 f2 hs⟩
theorem ke_baseInit {pl:Sem Bool} (F:ExcBaseFacts B newId initId bmB) (I0:ExcI X.K C fI bmB newId) (hm:X.mg x = some (.ref D))
    (h1 : PySem.W.specialIn X.K (.ref D) "__getattribute__" = some (some (.builtin "type.__getattribute__"))) (h2 : PySem.W.readsIn X.K D (.type "type") = true) (h3 : PySem.W.findCls X.K (.ref D) (.type "type") "__init__" = some (.val (.builtin initId))) (h4 : PySem.W.handedIn (.builtin initId) = true)
    (ha:QA X (e :: es) t) (hg:X.env.kindOf x = some .globalImplicit:=by kernel_rfl) (hdb:(x == ("__debug__":Str)) = false:=by kernel_rfl) (he:starEach (e :: es) X.env = (false,eval e X.env) :: starEach es X.env:=by kernel_rfl) (hpl:(backTo pos (starEach es X.env)).any (·.1) = false:=by kernel_rfl)
    (ht:eval (.Call (.Attribute (.Name x p) "__init__" apos) (e :: es) [] pos) X.env = (do
      let ov ← eval (.Name x p) X.env
      standAt apos.atName
      let (f,first) ← holding [ov] (getMethod ov "__init__" pl)
      callWith pos f first (backTo pos (starEach (e :: es) X.env)) (backToKw pos (keywordEach [] X.env))):=by rfl) :
    QE X (.Call (.Attribute (.Name x p) "__init__" apos) (e :: es) [] pos) (tBaseInit X.K C t):=⟨pe_baseInit F I0 hg hm hdb h1 h2 h3 h4 ha.p he hpl ht⟩
theorem ks_raiseD {k:Nat} {fd:FuncData} {ps:List Str} {sp:Sp} (FB:ExcBaseFacts B newId initId bmB) (I0:ExcI X.K C fI bmB newId) (F:FnOk X.prog X.w X.K X.mg X.base CX0 k fI fd ps sp) (hr:Room (k + 1) X.A) (hb:Binds X.K fd ps []) (hm:X.mg x = some (.ref C)) (ha:QA X (e :: es) t)
    (hx:∀ (pins:List (Addr × Obj)) (σ:St) (H1 H2:Hp) (s1 s2:Shared) (ea d:Addr),Inv X pins σ H1 s1→s1.heap.get? ea = none→Inv X pins σ H2 s2→H2 ea = some (excD ea C d)→E (.ref C) (some d) (del H2 ea)→X.xe (.ref ea) s2)
    (hg:X.env.kindOf x = some .globalImplicit:=by kernel_rfl) (hc:X.calm = true:=by kernel_rfl) (hdb:(x == ("__debug__":Str)) = false:=by kernel_rfl) (he:starEach (e :: es) X.env = (false,eval e X.env) :: starEach es X.env:=by kernel_rfl) (hpl:(backTo cpos (starEach es X.env)).any (·.1) = false:=by kernel_rfl) :
    QS X (.Raise (some (.Call (.Name x np) (e :: es) [] cpos)) none pos) (tRaiseD C sp E t):=⟨ps_raiseD FB I0 F hr hb hg hm hc ha.p hx hdb he hpl⟩
theorem ks_tryD {i:Nat} {n x:Str} {body:List Stmt} {tb:(St→XK→Prop)→TS} {D:Addr} {b₀:Stmt} {suite:List Stmt} {th:TS} {np hpos pos:Pos} (hN:X.N.Nodup) (hm:X.mg x = some (.ref D))
    (hb:∀ (xe:Value→Shared→Prop) (pn:List (Addr × Obj)) (Φ:St→XK→Prop),PassesX (X.tried xe pn) Φ→QSs (X.tried xe pn) body (tb Φ)) (hh:∀ ea,QSs (X.hand ea) (b₀ :: suite) th)
    (hi:X.N[i]? = some n:=by kernel_rfl) (hk:X.env.scope.names.lookup n = some .local:=by kernel_rfl)
    (hg:X.env.kindOf x = some .globalImplicit:=by kernel_rfl) (hdb:(x == ("__debug__":Str)) = false:=by kernel_rfl) (hst:X.stack = X.env :: X.outer:=by kernel_rfl) (hfr:X.env.frame = some X.env.locals:=by kernel_rfl) :
    QS X (.Try body [.ExceptHandler (some (.Name x np)) (some n) (b₀ :: suite) hpos] [] [] pos) (tTryD X.K D i tb th):=⟨ps_tryD hN hi hk hg hm hdb hst hfr (fun xe pn Φ hx=>(hb xe pn Φ hx).p) fun ea=>(hh ea).p⟩
end
def spNS (C:Addr):Sp:=fun vs H Q _=>∃ (ea:Addr) (i:Int),vs = [.ref ea,.int i]∧H ea = some (excN ea C)∧i.natAbs.log2 < 1900∧∀ d,H d = none→d ≠ ea→Q .non (upd (upd (upd H ea (excN ea C)) d (.xd [("row",.int i)])) ea (excD ea C d))
def rdNS (K:PySem.W.Frag) (C:Addr) (m:List Nat):TS:=tSeq (tDrop (tBaseInit K C (tCons (tVar 0) (tCons (tFstr [.raw (tC (.str (txt m))),.fmt (tVar 1)]) tNil)))) (sExcFld K C (tVar 0) (tVar 1) "row")
theorem read_ns {K:PySem.W.Frag} {C:Addr} {m:List Nat} {N:List Str} {vs:List V} {H:Hp} {Q:VK} {E:XK} (hm:m.length ≤ 1000) (hN:N.length = 2) (h:spNS C vs H Q E):rdNS K C m { nx:=fun _ H'=>Q .non H',rt:=Q } (L2.start N vs) H:=by
  obtain ⟨ea,i,rfl,eH,hi,q⟩:=h
  unfold rdNS L2.start
  rw [hN]
  refine seq_any fun c hc=>?_
  unfold tBaseInit tFstr
  simp only [tSeq,tDrop,tCons,tNil,tVar,varK_some,tC,tFp,sExcFld,List.replicate_succ,List.replicate_zero,List.map_cons,List.map_nil,List.cons_append,List.nil_append,List.length_cons,List.length_nil,List.getElem?_cons_zero,List.getElem?_cons_succ,Option.some.injEq,exists_eq_left',exists_eq_left]
  have lz:(Str.ofString (toString i)).cps.toList.length ≤ 1901:=by
    have h1:=int_text_length_le (by decide) hi
    have h2:(Str.ofString (toString i)).cps.toList.length = (toString i).length:=by rw [Array.length_toList]; exact PySem.ofString_length _
    omega
  refine ⟨m,rfl,by omega,(Str.ofString (toString i)).cps.toList,.inr ⟨i,rfl,by omega,rfl⟩,by omega,by rw [List.length_append]; omega,ea,_,rfl,eH,hc _ _ ?_⟩
  clear hc c
  unfold sExcFld
  refine ⟨ea,rfl,upd_same,fun d hd hne=>q d ?_ hne⟩
  rw [upd_ne hne] at hd
  exact hd
end L2
set_option maxHeartbeats 1000000
namespace L2
open PySem PySem.Spec PyProof.Rows DictK
theorem tail_self {K:PySem.W.Frag} {l:List Value}:PySem.W.tailIn K l l = true:=by
  cases l with
  | nil=>unfold PySem.W.tailIn; exact beq_self_eq_true _
  | cons v r=>unfold PySem.W.tailIn; rw [beq_self_eq_true]; rfl
theorem tail_exc {K:PySem.W.Frag} {D:Addr} {bmB:List Value} {newId:String} (x:PySem.W.excIn K D bmB newId = true):PySem.W.tailIn K bmB (.ref D :: bmB) = true:=by
  unfold PySem.W.excIn at x
  split at x
  · rename_i dd cd sl ho
    split at x
    · simp only [Bool.and_eq_true] at x
      obtain ⟨⟨_,h1⟩,h2⟩:=x
      unfold PySem.W.tailIn
      rw [Bool.or_eq_true_iff]
      right
      simp only [ho]
      rw [h1,h2,tail_self]; rfl
    · cases x
  · cases x
theorem excI_mk {K:PySem.W.Frag} {c D f N:Addr} {dd:Option Addr} {nm qn bs sn sub ab col k0 k1 k2 k3 k5} {bmB:List Value} {newId:String}
    (li:K.lookup c = some ⟨.type "type",dd,.cls ⟨nm,bs,.ref c :: .ref D :: bmB,N,qn,true,sn,sub,ab,col,false⟩,#[k0,k1,k2,k3,some (.builtin newId),k5]⟩)
    (xc:PySem.W.excIn K D bmB newId = true) (ni:PySem.W.nsIn K N "__init__" = some (some (.ref f))) (no:PySem.W.nsOkIn K N = true) (i:PySem.W.isFn K (.ref f) = true):ExcI K c f bmB newId:=by
  refine ⟨⟨_,N,nm,qn,bs,sn,sub,ab,col,dd,k0,k1,k2,k3,k5,li,tail_exc xc,no,ni⟩,?_⟩
  unfold PySem.W.isFn at i
  obtain ⟨o,ho,e⟩:=Option.map_eq_some_iff.mp (show (K.lookup f).map (·.cls) = some (.type "function") from beq_iff_eq.mp i)
  exact ⟨o,ho,e⟩
theorem cls_has {K:PySem.W.Frag} {c N:Addr} {dd:Option Addr} {nm qn bs mro sn sub ab col dl sl}
    (li:K.lookup c = some ⟨.type "type",dd,.cls ⟨nm,bs,mro,N,qn,true,sn,sub,ab,col,dl⟩,sl⟩):∃ cd,PySem.W.clsIn K c = some cd∧cd.hasDict = true:=by
  have e:PySem.W.clsIn K c = some ⟨nm,bs,mro,N,qn,true,sn,sub,ab,col,dl⟩:=by unfold PySem.W.clsIn; rw [li]
  exact ⟨_,e,rfl⟩
end L2
set_option maxHeartbeats 1000000
namespace CtxK
open PySem PySem.Spec PyProof.Rows
section
variable {prog:Program} {w:World} {A:Around} {E:Value→Shared→Prop} {s:Shared}
theorem entry_unchain:entryFor table "proto.unchain" = some Builtin.«proto.unchain»:=entryFor_of_tree (by kernel_rfl)
theorem unchain_none {e:Value} {ha:Addr} {o:Obj} {vs:Array Value} {Q:Value→Shared→Prop} (ho:s.heap.get? ha = some o) (hd:o.data = .fields vs) (h2:vs[2]? = some .none) (q:Q .none s) :
    wpAny (model prog w) A (runValue (.builtin "proto.unchain" ⟨[e,.ref ha,.ref ha,.bool false],[]⟩)) Q E s:=by
  refine runValue_entry entry_unchain ?_
  unfold Builtin.«proto.unchain»
  refine wpAny_bind (wpAny_field ho hd h2 ?_)
  rw [if_pos (by rfl)]
  exact wpAny_bind (wpAny_pure (wpAny_pure ⟨_,rfl,q⟩))
theorem raiseNew_in {α:Type} {e ha:Addr} {oh oe:Obj} {vh ve:Array Value} {Q:α→Shared→Prop} (hh:A.handled = some (.ref ha)) (hne:ha ≠ e) (h1:s.heap.get? ha = some oh) (h2:oh.data = .fields vh) (h3:vh[2]? = some .none)
    (e1:s.heap.get? e = some oe) (e2:oe.data = .fields ve) (e3:2 < ve.size) (h:E (.ref e) { s with heap:=s.heap.update e (Obj.mapFields fun vs=>vs.setIfInBounds 2 (.ref ha)) }):wpAny (model prog w) A (raiseNew (.ref e):Sem α) Q E s:=by
  unfold raiseNew
  refine wpAny_bind (wpAny_handled ?_)
  rw [hh]
  dsimp only
  rw [if_pos (by simpa using hne)]
  refine wpAny_bind (wpAny_holding (unchain_none h1 h2 h3 (wpAny_bind ?_)))
  refine wpAny_mono (wpAny_setField (i:=2) (x:=.ref ha) (Q:=fun _ s'=>s' = { s with heap:=s.heap.update e (Obj.mapFields fun vs=>vs.setIfInBounds 2 (.ref ha)) }) e1 e2 e3 rfl) (fun _ _ z=>?_) fun _ _ z=>z
  subst z
  exact wpAny_throw h
end
end CtxK
set_option maxHeartbeats 1000000
namespace CtxK
open PySem PySem.Spec PyProof.Rows DictK
section
variable {prog:Program} {w:World} {A:Around} {E:Value→Shared→Prop} {h:Heap} {gn:Array GenState} {dr:Drawn} {tk:Nat} {ost:OsState}
variable {nm qn:Str} {C N fI:Addr} {bs bm bmB rest:List Value} {hdct:Bool} {sn:List Str} {sub:List Value} {ab:Bool} {col:Option Bool} {dd:Option Addr} {k0 k1 k2 k3 k5:Option Value} {B newId initId:String} {mN:Str→Option Value} {oI:Obj}
theorem raise_madeF {s:Shared} {x c:Sem Value} {env:Env} {ha:Addr} {Q:Flow→Shared→Prop} (hb:bm.contains (.type "BaseException") = true) (hh:A.handled = some (.ref ha)) (hcv:∀ (R:Value→Shared→Prop) (s:Shared),R .none s→wpAny (model prog w) A c R E s)
    (hx:wpAny (model prog w) A x (fun v s1=>∃ e t o oh vh,v = .ref e∧s1.heap.get? C = some (excClassObj nm qn C N bs bm hdct sn sub ab col dd k0 k1 k2 k3 k5 newId)∧s1.heap.get? e = some o∧o.cls = .ref C∧o.data = .fields #[.ref t,.none,.none,.none,.bool false,.none]∧s1.heap.get? ha = some oh∧oh.data = .fields vh∧vh[2]? = some .none∧ha ≠ e∧C ≠ e∧
      ∀ h',(∀ b,b ≠ e→h'.get? b = s1.heap.get? b)→h'.get? e = some { o with data:=.fields #[.ref t,.none,.ref ha,.none,.bool true,.none] }→E (.ref e) { s1 with heap:=h' }) E s) :
    wpAny (model prog w) A (raiseStmt env (some x) (some c)) Q E s:=by
  have has:(Value.ref C :: bm).contains (.type "BaseException") = true:=by rw [List.contains_cons,hb,Bool.or_true]
  unfold raiseStmt
  refine wpAny_bind (wpAny_mono hx (fun v s1 q1=>?_) fun _ _ z=>z)
  obtain ⟨e,t,o,oh,vh,rfl,hC,he,hc,hd,h1,h2,h3,hne,hCe,hE⟩:=q1
  obtain ⟨oc,od,odt,osl⟩:=o
  obtain rfl:oc = _:=hc
  obtain rfl:odt = _:=hd
  obtain ⟨hp,g1,d1,t1,o1⟩:=s1
  refine wpAny_bind (wpAny_holding (hcv _ _ (wpAny_bind (wpAny_pure ?_))))
  dsimp only
  repeat (first | (with_reducible refine wpAny_isSubtype_exc hC ?_; rw [has]) | (with_reducible refine wpAny_loadPart_at he ?_) | (with_reducible refine wpAny_loadPart_at hC ?_) | wp_step)
  have he':hp.get? e = some _:=he
  have u1:=Heap.get?_update_self (Obj.mapFields fun x=>x.setIfInBounds 3 Value.none) he' rfl
  have u2:=Heap.get?_update_self (Obj.mapFields fun x=>x.setIfInBounds 4 (Value.bool true)) u1 rfl
  have u3:=Heap.get?_update_self (Obj.mapFields fun x=>x.setIfInBounds 2 (Value.ref ha)) u2 rfl
  have ot:∀ b,b ≠ e→((hp.update e (Obj.mapFields fun x=>x.setIfInBounds 3 Value.none)).update e (Obj.mapFields fun x=>x.setIfInBounds 4 (Value.bool true))).get? b = hp.get? b:=fun b hb=>
    (Heap.get?_update_other _ _ (Ne.symm hb)).trans (Heap.get?_update_other _ _ (Ne.symm hb))
  refine raiseNew_in hh hne (oh:=oh) (vh:=vh) ((ot ha hne).trans h1) h2 h3 u2 rfl (by show 2 < 6; decide) ?_
  exact hE _ (fun b hb=>(Heap.get?_update_other _ _ (Ne.symm hb)).trans (ot b hb)) u3
end
end CtxK
set_option maxHeartbeats 1000000
namespace L2
open PySem PySem.Spec PyProof.Rows DictK
theorem RoomH.make {k:Nat} {A:Around} (r:RoomH (k + 1) A) (C:Addr) (us:List Value) (kw:List (Str × Value)):RoomH k (A.under (.builtin "type.__call__" ⟨.ref C :: us,kw⟩)):=
  ⟨r.hd,by have:=r.dp; rw [make_depth]; omega,by have:=r.un; rw [make_units]; omega⟩
section
variable {M:Model} {A:Around} {E:Value→Shared→Prop} {s:Shared}
theorem noteFrame_firstW {base:Heap} {env:Env} {outer:List Env} {L e:Addr} {oe:Obj} {vs:Array Value} {a0:Value} {Q:Unit→Shared→Prop}
    (hfr:A.frames = some (env :: outer)) (hl:s.heap.FunFrames base (env :: outer)) (hf:env.frame = some L)
    (he:s.heap.get? e = some oe) (hkb:base.StaysIn s.heap) (hen:base.get? e = none) (hd:oe.data = .fields vs) (h1:vs[1]? = some .none) (h0:vs[0]? = some a0)
    (h:∀ h',Heap.NotedW base (env :: outer) e oe.cls a0 (rawInt L) s.heap h'→Q () { s with heap:=h' }):wpAny M A (noteFrame (.ref e) env) Q E s:=by
  unfold noteFrame
  simp only [hf]
  refine wpAny_bind (wpAny_field he hd h1 ?_)
  rw [if_neg (by decide)]
  exact wpAny_entryW hfr hl hf he hkb hen hd (Array.getElem?_eq_some_iff.mp h1).1 h0 h
theorem cameBack_heldW {base:Heap} {env:Env} {l:List Env} {e L:Addr} {cls a0:Value} (hf:env.frame = some L) (R:Heap.HeldW base l e cls a0 L s.heap)
    (h:∀ h',Heap.HeldW base l e cls a0 L h'→s.heap.UpToSlots h'→h'.get? e = s.heap.get? e→E (.ref e) { s with heap:=h' }):cameBackBy M A env E (.ref e) s:=by
  obtain ⟨hkb,hen,hl,oe,vs,T,oT,ts,he,hcls,hd,h1,hnT,hTe,hT,hdT,h3⟩:=R
  have hsz3:3 < ts.size:=(Array.getElem?_eq_some_iff.mp h3).1
  have other:∀ b,b ≠ T→(s.heap.update T (Obj.mapFields (·.setIfInBounds 3 ((some L).elim Value.none fun f=>rawInt f)))).get? b = s.heap.get? b:=
    fun b hb=>Heap.get?_update_other _ _ (Ne.symm hb)
  have noRecord:∀ b o,s.heap.get? b = some o→(∀ vs,o.data ≠ .fields vs)→b ≠ T:=fun b o hb hnf q=>by
    rw [q,hT] at hb; injection hb with hb; subst hb; exact hnf ts hdT
  unfold cameBackBy
  refine wpAny_bind (wpAny_field he hd h1 ?_)
  rw [if_neg (show ¬ ((Value.ref T == Value.none) = true) from by simp)]
  rw [hf]
  first | refine wpAny_bind (wpAny_pure ?_) | skip
  unfold setFlight
  refine wpAny_bind (wpAny_field he hd h1 ?_)
  rw [if_pos (show (Value.ref T != Value.none) = true from by simp)]
  refine wpAny_setField hT hdT hsz3 (h _ ⟨fun b o hbo=>(other b fun q=>by rw [q,hnT] at hbo; cases hbo).trans (hkb b o hbo),hen,
    hl.of_keeps fun b o hb hnf=>⟨o,(other b (noRecord b o hb hnf)).trans hb,rfl⟩,?_⟩ (fun b o hb hnf=>⟨o.slots,(other b (noRecord b o hb hnf)).trans hb⟩) (other e (Ne.symm hTe)))
  exact ⟨oe,vs,T,_,_,(other e (Ne.symm hTe)).trans he,hcls,hd,h1,hnT,hTe,Heap.get?_update_self _ hT (Obj.isFreed_of_fields (Obj.data_mapFields hdT _)),Obj.data_mapFields hdT _,by simp [hsz3]⟩
theorem leaves_heldW {base:Heap} {env:Env} {outer:List Env} {L e:Addr} {cls a0:Value} {Q:Unit→Shared→Prop} (hf:env.frame = some L)
    (hh:Heap.HeldW base (env :: outer) e cls a0 L s.heap) (hQ:∀ h',Heap.FlyingW base outer e cls a0 h'→s.heap.UpToSlots h'→Q () { s with heap:=h' }):wpAny M A (leaving env (.ref e)) Q E s:=by
  unfold leaving
  refine wpAny_bind (wpAny_noteFrame_againW hf hh.2.2.2 ?_)
  refine wpAny_landsW hh fun h' hfl sm=>?_
  obtain ⟨k1,k2,⟨_,_,k3⟩,k4⟩:=hfl
  exact hQ h' ⟨k1,k2,k3,k4⟩ sm
end
section
variable {P:Program} {w:World} {K:PySem.W.Frag} {mg:Str→Option Value} {base:Heap} {N:List Str} {qual:Str} {scope:Scope} {f:Addr} {cd:Value} {A:Around} {outer:List Env} {s:Shared} {H:Hp} {E:XK}
theorem made_defF {pins:List (Addr × Obj)} {σ:St} {H1 H2:Hp} {s1 s2:Shared} {ea xa C d t:Addr} {h':Heap} {oe:Obj} (I1:Inv (cxOf (CX1 P w) P w K mg base N qual scope f cd A outer s H E) pins σ H1 s1) (hnew:s1.heap.get? ea = none)
    (I:Inv (cxOf (CX1 P w) P w K mg base N qual scope f cd A outer s H E) pins σ H2 s2) (eD:H2 ea = some (excD ea C d)) (ot:∀ b,b ≠ ea→h'.get? b = s2.heap.get? b) (he:h'.get? ea = some oe)
    (ec:oe.cls = .ref C) (ed:oe.dict = some d) (edt:oe.data = .fields #[.ref t,.none,.ref xa,.none,.bool true,.none]) (q:E (.ref C) (some d) (del H2 ea)) :
    notedBy (model P w) ((cxOf (CX1 P w) P w K mg base N qual scope f cd A outer s H E).A.mark (some (.ref xa))) (cxOf (CX1 P w) P w K mg base N qual scope f cd A outer s H E).env (fun x s₂=>cameBackBy (model P w) (cxOf (CX1 P w) P w K mg base N qual scope f cd A outer s H E).A (cxOf (CX1 P w) P w K mg base N qual scope f cd A outer s H E).env (cxOf (CX1 P w) P w K mg base N qual scope f cd A outer s H E).xe x s₂) (.ref ea) { s2 with heap:=h' }:=by
  generalize eF:frs (cxOf (CX1 P w) P w K mg base N qual scope f cd A outer s H E).stack = F
  have hin:∀ env ∈ (cxOf (CX1 P w) P w K mg base N qual scope f cd A outer s H E).stack,∀ b,env.frame = some b→b ∈ ea :: F:=fun env he b hb=>by rw [← eF]; exact List.mem_cons_of_mem _ (List.mem_filterMap.mpr ⟨env,he,hb⟩)
  have nea:s.heap.get? ea = none:=by
    cases z:s.heap.get? ea with
    | none=>rfl
    | some o=>
      obtain ⟨o',e1⟩:=I1.base.there ea o z (List.not_mem_nil)
      rw [hnew] at e1; cases e1
  have neE:∀ b o,s.heap.get? b = some o→b ≠ ea:=fun b o e z=>by rw [z,nea] at e; cases e
  have neL:∀ b o,s.heap.get? b = some o→b ≠ s.heap.objs.size:=fun b o e=>Nat.ne_of_lt (Heap.lt_size e)
  have nF:∀ b o,s.heap.get? b = some o→b ∉ frs outer→b ∉ ea :: F:=fun b o e hb z=>by
    rcases List.mem_cons.mp z with z | z
    · exact neE b o e z
    · rw [← eF] at z
      rcases List.mem_cons.mp (I.stkSub b z) with y | y
      · exact neL b o e y
      · exact hb y
  have gB:∀ b o,s2.heap.get? b = some o→b ∉ ea :: F→(PySem.W.hideAll s2.heap (ea :: F)).get? b = some o:=fun b o e hb=>PySem.W.hideAll_get _ e hb
  have hid:(PySem.W.hideAll s2.heap (ea :: F)).get? ea = none:=PySem.W.hideAll_none _ List.mem_cons_self
  have stays:(PySem.W.hideAll s2.heap (ea :: F)).StaysIn h':=fun b o q=>by
    have nb:b ≠ ea:=fun z=>by rw [z,hid] at q; cases q
    rw [ot b nb]
    exact PySem.W.of_hideAll _ q
  obtain ⟨⟨t2,at2⟩,_,_⟩:=(show ObjOk P w H2 s2.heap ea (excD ea C d) from I.hok ea _ eD)
  have sl2:∀ b o,s2.heap.get? b = some o→(∀ vs,o.data ≠ .fields vs)→h'.get? b = some o:=fun b o e hn=>by
    have nb:b ≠ ea:=fun z=>by subst z; rw [at2] at e; cases e; exact hn _ rfl
    rw [ot b nb]; exact e
  have fr0:h'.FunFrames (PySem.W.hideAll s2.heap (ea :: F)) (cxOf (CX1 P w) P w K mg base N qual scope f cd A outer s H E).stack:=(PySem.W.funFrames_hide I.stack hin).of_keeps fun b o e hn=>⟨o,sl2 b o e hn,rfl⟩
  unfold notedBy
  refine wpAny_mono (kd_any (E:=fun _ _=>False) (kd_note _ _) (noteFrame_firstW (s:={ s2 with heap:=h' }) (Q:=fun _ s3=>∃ h3,s3 = { s2 with heap:=h3 }∧Heap.NotedW (PySem.W.hideAll s2.heap (ea :: F)) (cxOf (CX1 P w) P w K mg base N qual scope f cd A outer s H E).stack ea oe.cls (.ref t) (rawInt _) h' h3) (base:=PySem.W.hideAll s2.heap (ea :: F)) I.ok.frames fr0 rfl he stays hid edt rfl rfl fun h3 l3=>⟨h3,rfl,l3⟩)) (fun _ s3 q3=>?_) fun _ _ z=>z.elim
  obtain ⟨⟨h3,e3,k1,k2,k3,k4⟩,kp⟩:=q3
  subst e3
  refine cameBack_heldW (s:={ s2 with heap:=h3 }) rfl ⟨k1,hid,k2,k3⟩ fun h4 hh4 sm4 ge4=>?_
  show wpAny _ _ (leaving _ (.ref ea)) _ _ _
  refine wpAny_mono (kd_any (kd_leaving _ _) (leaves_heldW (s:={ s2 with heap:=h4 }) (Q:=fun _ s5=>∃ h5,s5 = { s2 with heap:=h5 }∧Heap.FlyingW (PySem.W.hideAll s2.heap (ea :: F)) outer ea oe.cls (.ref t) h5∧h4.UpToSlots h5) rfl hh4 fun h5 f5 u5=>⟨h5,rfl,f5,u5⟩)) (fun _ s5 q5=>?_) fun _ _ z=>z
  obtain ⟨⟨h5,e5,f5,u5⟩,kp5⟩:=q5
  subst e5
  rw [ec] at f5
  have dI:DictIs h5 ea (some d):=by
    have d3:DictIs h3 ea (some d):=DictIs.kept ⟨_,he,ed⟩ kp
    have d4:DictIs h4 ea (some d):=by obtain ⟨o,a,b⟩:=d3; exact ⟨o,by rw [ge4]; exact a,b⟩
    exact d4.kept kp5
  refine ⟨ea,.ref C,t,del H2 ea,PySem.W.hideAll s2.heap (ea :: F),some d,rfl,I.os,I.bare,f5,fun a o e=>?_,⟨fun b o eb n hb=>?_,fun b o eb n hb=>?_,fun b o eb n=>?_,fun b o eb hb=>?_,fun b xs e=>?_,fun b o u e=>?_,fun b ps e=>?_⟩,dI,fun z=>(nomatch z),q⟩
  · have na:a ≠ ea:=fun z=>by rw [z,del_same] at e; cases e
    rw [del_ne na] at e
    have ow:∀ c,H2 c = some (.own a)→c ≠ ea:=fun c hc z=>by rw [z,eD] at hc; cases hc
    have tu:∀ c xs,H2 c = some (.tup xs)→c ≠ ea:=fun c xs hc z=>by rw [z,eD] at hc; cases hc
    refine (I.hok a o e).stay (fun b u hb eu=>gB b u eu fun z=>?_) (fun c q=>by rw [del_ne (ow c q)]; exact q) fun c xs q=>by rw [del_ne (tu c xs q)]; exact q
    rcases List.mem_cons.mp z with z | z
    · rcases hb with hb | hb
      · exact na (hb.symm.trans z)
      · exact ow b hb z
    · have hf:=I.stkFree b (by rw [eF]; exact z)
      rcases hb with rfl | hb
      · rw [hf] at e; cases e
      · rw [hf] at hb; cases hb
  · exact gB b o (I.base.keep b o eb n hb (List.not_mem_nil)) (nF b o eb hb)
  · obtain ⟨sl,e1⟩:=I.base.slot b o eb n hb (List.not_mem_nil)
    obtain ⟨_,o2,e2,d2⟩:=frs_none I.stack (List.mem_cons_of_mem _ hb:b ∈ s.heap.objs.size :: frs outer)
    rw [e1] at e2
    cases e2
    obtain ⟨sl3,e3⟩:=k4 b _ (sl2 b _ e1 d2) d2
    obtain ⟨sl4,e4⟩:=sm4 b _ e3 d2
    obtain ⟨sl5,e5⟩:=u5 b _ e4 d2
    exact ⟨sl5,e5⟩
  · rw [del_ne (neE b o eb)]
    exact I.base.free b o eb n (List.not_mem_nil)
  · obtain ⟨o',e1⟩:=I.base.there b o eb (List.not_mem_nil)
    exact ⟨o',gB b o' e1 (nF b o eb hb)⟩
  · have:=I.base.tups b xs e
    rw [del_ne (fun z=>by rw [z,eD] at this; cases this)]
    exact this
  · have:=I.base.frzs b o u e
    rw [del_ne (fun z=>by rw [z,eD] at this; cases this)]
    exact this
  · obtain ⟨m,e1⟩:=I.base.tbls b ps e
    exact ⟨m,by rw [del_ne (fun z=>by rw [z,eD] at e1; cases e1)]; exact e1⟩
end
end L2
set_option maxHeartbeats 1000000
namespace L2
open PySem PySem.Spec PyProof.Rows DictK
def TakenF (K:PySem.W.Frag) (D C:Addr) (sp:Sp) (E:XK) (ta:TA) (σ:St):XK:=fun cls dd H'=>dd = none∧∃ C',cls = .ref C'∧ExcSub K C' D∧
  ta σ H' fun vs H1=>vs.length ≤ 8∧∀ ea,H1 ea = none→sp (.ref ea :: vs) (upd H1 ea (excN ea C)) (fun v H2=>v = .non∧∃ d,H2 ea = some (excD ea C d)∧E (.ref C) (some d) (del H2 ea)) E0
def tTryF (K:PySem.W.Frag) (D C:Addr) (sp:Sp) (E:XK) (tb:(St→XK→Prop)→TS) (ta:TA):TS:=fun Dn σ H=>tb (fun σ' E'=>σ' = σ∧E' = TakenF K D C sp E ta σ) Dn σ H
section
variable {X:Cx}
theorem ps_tryF {body:List Stmt} {tb:(St→XK→Prop)→TS} {x y:Str} {D C fI:Addr} {e:Expr} {es:List Expr} {ta:TA} {B newId initId:String} {bmB:List Value} {E:XK} {np hpos pos np2 cpos rpos kpos:Pos} {j k:Nat} {fd:FuncData} {ps:List Str} {sp:Sp}
    (hg:Gl X x) (hm:X.mg x = some (.ref D)) (hdb:(x == ("__debug__":Str)) = false) (hst:X.stack = X.env :: X.outer) (hfr:X.env.frame = some X.env.locals)
    (hb:∀ (xe:Value→Shared→Prop) (pn:List (Addr × Obj)) (Φ:St→XK→Prop),PassesX (X.tried xe pn) Φ→PSs (X.tried xe pn) body (tb Φ))
    (FB:ExcBaseFacts B newId initId bmB) (I0:ExcI X.K C fI bmB newId) (F:FnOkH X.prog X.w X.K X.mg X.base k fI fd ps sp) (hr:Room (k + 1) X.A) (hbi:Binds X.K fd ps [])
    (hg2:Gl X y) (hm2:X.mg y = some (.ref C)) (ha:∀ xa,PA (X.hand xa) (e :: es) ta)
    (hx:∀ (pins:List (Addr × Obj)) (σ:St) (H1 H2:Hp) (s1 s2:Shared) (ea xa d t:Addr) (h':Heap) (oe:Obj),Inv X pins σ H1 s1→s1.heap.get? ea = none→Inv X pins σ H2 s2→H2 ea = some (excD ea C d)→(∀ b,b ≠ ea→h'.get? b = s2.heap.get? b)→h'.get? ea = some oe→
      oe.cls = .ref C→oe.dict = some d→oe.data = .fields #[.ref t,.none,.ref xa,.none,.bool true,.none]→E (.ref C) (some d) (del H2 ea)→
      notedBy (model X.prog X.w) (X.A.mark (some (.ref xa))) X.env (fun x s₂=>cameBackBy (model X.prog X.w) X.A X.env X.xe x s₂) (.ref ea) { s2 with heap:=h' })
    (hdb2:(y == ("__debug__":Str)) = false) (he:starEach (e :: es) X.env = (false,eval e X.env) :: starEach es X.env) (hpl:(backTo cpos (starEach es X.env)).any (·.1) = false) :
    PS X (.Try body [.ExceptHandler (some (.Name x np)) none [.Raise (some (.Call (.Name y np2) (e :: es) [] cpos)) (some (.Constant .none j kpos)) rpos] hpos] [] [] pos) (tTryF X.K D C sp E tb ta):=by
  intro pins s σ H Dn I h
  refine wpAny_Try_except ?_
  let E0':XK:=TakenF X.K D C sp E ta σ
  let xe:Value→Shared→Prop:=fun e s'=>∃ H1 s1,Inv X pins σ H1 s1∧CX1 X.prog X.w X.stack H1 s1 E0' e s'
  have hP:PassesX (X.tried xe (X.pn ++ pins)) (fun σ' E=>σ' = σ∧E = E0'):=by
    rintro pins' σ' H1 s1 E e s' I1 ⟨rfl,rfl⟩ hc
    exact ⟨H1,s1,I1.untried I.ok,hc⟩
  have hbody:=hb xe (X.pn ++ pins) _ hP [] s σ H Dn (I.tried xe) h
  refine wpAny_mono hbody (fun fl s' q=>?_) fun e' s' q=>?_
  · cases fl with
    | next=>obtain ⟨σ',H',J,q⟩:=q; exact wpAny_execs_nil ⟨σ',H',J.untried I.ok,q⟩
    | brk=>obtain ⟨σ',H',J,q⟩:=q; exact ⟨σ',H',J.untried I.ok,q⟩
    | cont=>obtain ⟨σ',H',J,q⟩:=q; exact ⟨σ',H',J.untried I.ok,q⟩
    | ret u=>obtain ⟨v,σ',H',J,r,q⟩:=q; exact ⟨v,σ',H',J.untried I.ok,r,q⟩
  · obtain ⟨H1,s1,I1,xa,cls,t,H2,B2,dd,rfl,hos,hgen,hfl,hok,ub,dI,cI,rfl,C',rfl,hsub,q⟩:=q
    have hn:=hok.untracked hfl.2.1
    refine caught_by hg hm hdb hst hfr I1 hos hgen hok ub hfl hsub fun h6 hf6 sm6 _ kc6=>?_
    refine codeAny_handlers_suite (wpAny_mono (CtxK.kd_any (CtxK.kd_setFlight _ _) (lands_againW (Q:=fun _ s7=>∃ h7,s7 = { s' with heap:=h7 }∧Heap.FlyingW B2 X.stack xa (.ref C') (.ref t) h7∧h6.UpToSlots h7) (s:={ s' with heap:=h6 }) hf6 fun h7 hf7 sm7=>⟨h7,rfl,hf7,sm7⟩)) (fun _ s7 q7=>?_) fun _ _ z=>z)
    obtain ⟨⟨h7,e7,hf7,sm7⟩,kc7⟩:=q7
    subst e7
    have I7:Inv X pins σ H2 { s' with heap:=h7 }:=landed_inv I1 hos hgen hok ub hfl hf7 (sm6.trans sm7)
    obtain ⟨oh,goh,coh⟩:=((cI rfl).kept kc6).kept kc7
    obtain ⟨vh,dvh,vh2⟩:∃ vh,oh.data = .fields vh∧vh[2]? = some .none:=by
      unfold CtxK.cx2 at coh
      split at coh
      · rename_i vs e; exact ⟨vs,e,coh⟩
      · cases coh
    have hlo:xa ≠ X.env.locals:=fun z=>by
      obtain ⟨m,hns,_⟩:=I7.loc
      obtain ⟨o,es',ep,ho,hd,_⟩:=hns
      rw [← z] at ho
      rw [show h7.get? xa = some oh from goh] at ho
      cases ho
      rw [dvh] at hd; cases hd
    have hfs:xa ∉ X.fs:=fun z=>by
      have:xa ∈ frs X.stack:=by
        obtain ⟨env,he,hb⟩:=List.mem_filterMap.mp z
        rw [hst]
        exact List.mem_filterMap.mpr ⟨env,List.mem_cons_of_mem _ he,hb⟩
      obtain ⟨_,o2,e3,d3⟩:=frs_none hf7.2.2.1 this
      rw [goh] at e3; cases e3
      exact d3 _ dvh
    have J7:Inv (X.hand xa) (pins ++ [(xa,oh)]) σ H2 { s' with heap:=h7 }:=(I7.hand xa).pins_of fun p hp=>by
      rcases List.mem_append.mp hp with hp | hp
      · exact I7.pin p (List.mem_append_right _ hp)
      · rw [List.mem_singleton.mp hp]
        exact ⟨goh,hn,hlo,hfs,fun v z=>by rw [show oh.data = _ from dvh] at z; cases z⟩
    obtain ⟨bm,N,nm,qn,bs,sn,sub,ab,col,dd,k0,k1,k2,k3,k5,look,tl,nok,nin⟩:=I0.obj
    obtain ⟨oF,lF,cF⟩:=I0.fn
    have T0:=PySem.W.tail_of_in I7.kIn tl
    have hplain:(backTo cpos (starEach (e :: es) X.env)).any (·.1) = false:=by rw [he]; show (false || (backTo cpos (starEach es X.env)).any (·.1)) = false; rw [hpl]; rfl
    refine wpAny_execs_cons ?_
    rw [arm_exec_Raise]
    refine wpAny_bind (wpAny_standAt (CtxK.raise_madeF (C:=C) (nm:=nm) (qn:=qn) (N:=N) (bs:=bs) (bm:=bm) (hdct:=true) (sn:=sn) (sub:=sub) (ab:=ab) (col:=col) (dd:=dd) (k0:=k0) (k1:=k1) (k2:=k2) (k3:=k3) (k5:=k5) (newId:=newId) (ha:=xa) (T0.hasType FB.hasBase) rfl (fun R s r=>wpAny_bind (Constant_none (wpAny_bind (wpAny_standAt (wpAny_pure r))))) (wpAny_bind (wpAny_mono (E:=(X.hand xa).xe) (wpAny_Call_ofName (ld_glob J7 hg2 hm2 ?_ hdb2)) (fun v s3 h3=>wpAny_bind (wpAny_standAt (wpAny_pure h3))) fun _ _ z=>z.elim))))
    have hA:=ha xa cpos (pins ++ [(xa,oh)]) _ σ H2 _ J7 q
    unfold callWith
    rw [show (X.hand xa).env = X.env from rfl] at hA
    rw [he] at hA ⊢
    refine wpAny_bind (wpAny_holding (Calls.evalArgs_plain (thn hA fun us s2 ⟨vs,H3,I2,r2,hz,q2⟩=>wpAny_bind (wpAny_standAt ?_))))
    have hC:=I2.kIn _ _ look
    have T:=PySem.W.tail_of_in I2.kIn tl
    have hN:s2.heap.Ns N (s2.heap.nsMap N):=.of_isNs (PySem.W.isNs_of_in I2.kIn nok)
    have hi:s2.heap.nsMap N "__init__" = some (.ref fI):=ns_some I2.kIn hN nin
    have hl:us.length ≤ sizeLine:=by rw [← r2.length]; exact Nat.le_trans hz (by decide)
    obtain ⟨hp,g2,d2,t2,o2⟩:=s2
    rw [he] at hplain
    simp only [hplain]
    refine wpAny_bind (wpAny_keeperOf_exc hC ?_)
    refine wpAny_bind (made_call FB T hC hN hi (I2.kIn _ _ lF) cF (fun h' ea hm' hle=>?_) hl)
    obtain ⟨t3,at3,_,_⟩:=hm'.there
    have I3:Inv (X.hand xa) (pins ++ [(xa,oh)]) σ (upd H3 ea (excN ea C)) ⟨h',g2,d2,t2,o2⟩:=I2.laid (a:=ea) (o:=excN ea C) (h':=h') (t':=t2) hm'.keeps hle ⟨⟨t3,at3⟩,⟨_,at3⟩,fun h1 h2 ⟨t,et⟩ k=>⟨t,k _ et⟩⟩
    have hsp:=q2 ea (I2.hok.fresh hle)
    have r3:Vals (V.ref ea :: vs) (Value.ref ea :: us):=.cons rfl r2
    have hl3:(Value.ref ea :: us ++ []).length = ps.length:=by
      rw [List.append_nil,← r3.length]
      exact F.len _ _ _ _ hsp
    have hb3:=hbi _ (Value.ref ea :: us) I3.kIn hl3
    rw [List.append_nil] at hb3
    rw [List.nil_append]
    refine wpAny_call (codeAny_mono (F.run _ X.stack _ _ ⟨Value.ref ea :: us,[]⟩ (Value.ref ea :: us) _ _ E0 ((hr.toH xa).make C us []) (I3.env0.make C us []) hb3 r3 hsp) fun r s' hq'=>?_)
    cases r with
    | error z=>exact False.elim hq'
    | ok fl=>
      cases fl with
      | ret u=>
        obtain ⟨v,H4,I4,rv,ev,d,eD,qE⟩:=I3.after hq'
        subst ev
        obtain ⟨⟨t4,at4⟩,_,_⟩:=(show ObjOk X.prog X.w H4 s'.heap ea (excD ea C d) from I4.hok ea _ eD)
        have px:=I4.pin (xa,oh) (by simp)
        have hnew:hp.get? ea = none:=hm'.new
        have I4':Inv X pins σ H4 s':=I4.unpinned.unhand I.ok
        have I2':=I2.unpinned.unhand I.ok
        have hne:xa ≠ ea:=fun z=>by
          have:=(I2.pin (xa,oh) (by simp)).1
          rw [z] at this
          rw [hnew] at this; cases this
        have hCe:C ≠ ea:=fun z=>by rw [← z] at hnew; rw [show hp.get? C = _ from hC] at hnew; cases hnew
        exact ⟨rv,wpAny_bind (wpAny_holding (wpAny_point (wpAny_pure ⟨ea,t4,_,oh,vh,rfl,I4.kIn _ _ look,at4,rfl,rfl,px.1,dvh,vh2,hne,hCe,fun h8 ot8 he8=>hx pins σ H3 H4 _ s' ea xa d t4 h8 _ I2' hnew I4' eD ot8 he8 rfl rfl rfl qE⟩)))⟩
      | next=>exact False.elim hq'
      | brk=>exact False.elim hq'
      | cont=>exact False.elim hq'
end
end L2
set_option maxHeartbeats 1000000
namespace L2
open PySem PySem.Spec PyProof.Rows DictK
section
variable {X:Cx} {a b c:Expr} {ta tb tc:TE} {pos:Pos}
theorem ke_chain {op op':CmpOp} {r r':R2} (ho:OpR X (compareOp op) r) (ho':OpR X (compareOp op') r') (ha:QE X a ta) (hb:QE X b tb) (hc:QE X c tc)
    (hm:lastMarks [op,op'] [b,c] = false:=by with_unfolding_all rfl):QE X (.Compare a [op,op'] [b,c] pos) (tChain r r' ta tb tc):=⟨pe_chain ho ho' ha.p hb.p hc.p hm⟩
theorem kt_chain {op op':CmpOp} {r r':R2} (ho:OpR X (compareOp op) r) (ho':OpR X (compareOp op') r') (ha:QE X a ta) (hb:QE X b tb) (hc:QE X c tc)
    (hm:lastMarks [op,op'] [b,c] = false:=by with_unfolding_all rfl):QT X (.Compare a [op,op'] [b,c] pos) (tTest (tChain r r' ta tb tc)):=⟨pt_chain ho ho' ha.p hb.p hc.p hm⟩
theorem ks_tryF {body:List Stmt} {tb:(St→XK→Prop)→TS} {x y:Str} {D C fI:Addr} {e:Expr} {es:List Expr} {ta:TA} {B newId initId:String} {bmB:List Value} {E:XK} {np hpos pos np2 cpos rpos kpos:Pos} {j k:Nat} {fd:FuncData} {ps:List Str} {sp:Sp}
    (hm:X.mg x = some (.ref D))
    (hb:∀ (xe:Value→Shared→Prop) (pn:List (Addr × Obj)) (Φ:St→XK→Prop),PassesX (X.tried xe pn) Φ→QSs (X.tried xe pn) body (tb Φ))
    (FB:ExcBaseFacts B newId initId bmB) (I0:ExcI X.K C fI bmB newId) (F:FnOkH X.prog X.w X.K X.mg X.base k fI fd ps sp) (hr:Room (k + 1) X.A) (hbi:Binds X.K fd ps [])
    (hm2:X.mg y = some (.ref C)) (ha:∀ xa,QA (X.hand xa) (e :: es) ta)
    (hx:∀ (pins:List (Addr × Obj)) (σ:St) (H1 H2:Hp) (s1 s2:Shared) (ea xa d t:Addr) (h':Heap) (oe:Obj),Inv X pins σ H1 s1→s1.heap.get? ea = none→Inv X pins σ H2 s2→H2 ea = some (excD ea C d)→(∀ b,b ≠ ea→h'.get? b = s2.heap.get? b)→h'.get? ea = some oe→
      oe.cls = .ref C→oe.dict = some d→oe.data = .fields #[.ref t,.none,.ref xa,.none,.bool true,.none]→E (.ref C) (some d) (del H2 ea)→
      notedBy (model X.prog X.w) (X.A.mark (some (.ref xa))) X.env (fun x s₂=>cameBackBy (model X.prog X.w) X.A X.env X.xe x s₂) (.ref ea) { s2 with heap:=h' })
    (hg:X.env.kindOf x = some .globalImplicit:=by kernel_rfl) (hdb:(x == ("__debug__":Str)) = false:=by kernel_rfl) (hst:X.stack = X.env :: X.outer:=by kernel_rfl) (hfr:X.env.frame = some X.env.locals:=by kernel_rfl)
    (hg2:X.env.kindOf y = some .globalImplicit:=by kernel_rfl) (hdb2:(y == ("__debug__":Str)) = false:=by kernel_rfl) (he:starEach (e :: es) X.env = (false,eval e X.env) :: starEach es X.env:=by kernel_rfl) (hpl:(backTo cpos (starEach es X.env)).any (·.1) = false:=by kernel_rfl) :
    QS X (.Try body [.ExceptHandler (some (.Name x np)) none [.Raise (some (.Call (.Name y np2) (e :: es) [] cpos)) (some (.Constant .none j kpos)) rpos] hpos] [] [] pos) (tTryF X.K D C sp E tb ta):=
  ⟨ps_tryF hg hm hdb hst hfr (fun xe pn Φ hx=>(hb xe pn Φ hx).p) FB I0 F hr hbi hg2 hm2 (fun xa=>(ha xa).p) hx hdb2 he hpl⟩
end
def RE (C:Addr) (E:XK) (H:Hp) (i:Nat):Prop:=∀ d H',Same H H'→H d = none→H' d = some (.xd [("row",.int i)])→E (.ref C) (some d) H'
theorem RE.mono {C:Addr} {E:XK} {H H1:Hp} {i:Nat} (h:RE C E H i) (s:Same H H1):RE C E H1 i:=fun d H' s' f e=>h d H' (s.trans s') (s.free1 f) e
def spXAsk (C:Addr):Sp:=fun vs H Q E=>∃ (b:Bool) (i:Nat),vs = [.bl b,.int i]∧i ≤ 100000∧(b = true→Q .non H)∧(b = false→RE C E H i)
def spXWords (K:PySem.W.Frag):Sp:=fun vs H Q _=>∃ (p:Addr) (ts:List (List Nat)) (i:Nat),vs = [.ref p,.int i]∧SqL K H p (ts.map strV)∧TsOk 1000 3000 ts∧∀ o,H o = none→Q (.ref o) (upd H o (.lst ((wAt ts i).map strV)))
def spXNumTo:Sp:=fun vs H Q _=>∃ (w:List Nat) (m:Nat),vs = [.str (txt w),.int m]∧w.length ≤ 100000∧∀ H',Same H H'→Q (.bl (numTo 0 m w).isSome) H'
def spXBehind:Sp:=fun vs H Q _=>∃ (L:Nat) (l w:List Nat),vs = [.int L,.str (txt l),.str (txt w)]∧L ≤ 26∧w.length ≤ 100000∧∀ H',Same H H'→Q (.bl (markB L w && decide (l < w))) H'
def spXHead (K:PySem.W.Frag) (C:Addr):Sp:=fun vs H Q E=>∃ (p:Addr) (ts:List (List Nat)),vs = [.ref p]∧SqL K H p (ts.map strV)∧TsOk 1000 3000 ts∧(∀ L h g:Nat,headF ts = .ok (L,h,g)→∀ H' o,Same H H'→H o = none→H' o = some (.lst [.int L,.int h,.int g])→Q (.ref o) H')∧(headF ts = .error 0→RE C E H 0)
def spXMany (K:PySem.W.Frag) (C:Addr):Sp:=fun vs H Q E=>∃ (p:Addr) (ts:List (List Nat)) (i:Nat),vs = [.ref p,.int i]∧SqL K H p (ts.map strV)∧TsOk 1000 3000 ts∧i ≤ 100000∧(∀ n:Nat,manyF ts i = .ok n→∀ H',Same H H'→Q (.int n) H')∧(manyF ts i = .error i→RE C E H i)
def spXRows (K:PySem.W.Frag) (C:Addr):Sp:=fun vs H Q E=>∃ (L:Nat) (p:Addr) (ts:List (List Nat)) (i0 n:Nat),vs = [.int L,.ref p,.int i0,.int n]∧L ≤ 26∧H p = some (.lst (ts.map strV))∧TsOk 1000 3000 ts∧i0 ≤ 10000∧n ≤ 1000∧
  (∀ r,runE (rowF L ts i0) n [] = .ok r→∀ H' o xs,Same H H'→H o = none→H' o = some (.lst xs)→Prs H' xs (r.map rowP)→Q (.ref o) H')∧(∀ e,runE (rowF L ts i0) n [] = .error e→RE C E H e)
def spXThings (K:PySem.W.Frag) (C:Addr):Sp:=fun vs H Q E=>∃ (L:Nat) (p:Addr) (ts:List (List Nat)) (i0:Nat),vs = [.int L,.ref p,.int i0]∧L ≤ 26∧H p = some (.lst (ts.map strV))∧TsOk 1000 3000 ts∧i0 ≤ 10000∧
  (∀ l,runE (thF L ts i0) (ts.length - i0) [] = .ok l→∀ H' o as,Same H H'→H o = none→H' o = some (.lst (as.map V.ref))→Wds H' as l→Q (.ref o) H')∧(∀ e,runE (thF L ts i0) (ts.length - i0) [] = .error e→RE C E H e)
def spXState (K:PySem.W.Frag) (C:Addr):Sp:=fun vs H Q E=>∃ (p:Addr) (ts:List (List Nat)),vs = [.ref p]∧H p = some (.lst (ts.map strV))∧TsOk 1000 3000 ts∧
  (∀ L h R l,stateF ts = .ok (L,h,R,l)→∀ H' o p1 p2 p3 bs xs,Same H H'→H o = none→StA H' o p1 p2 p3 bs xs L h R (zsOf l) (wsOf l)→Q (.ref o) H')∧(∀ e,stateF ts = .error e→RE C E H e)
def nV:Option Nat→V
  | none=>.non
  | some n=>.int n
def spLNum:Sp:=fun vs H Q _=>∃ (w:List Nat) (lo hi:Nat),vs = [.str (txt w),.int lo,.int hi]∧w.length ≤ 100000∧hi ≤ 1000∧Q (nV (numTo lo hi w)) H
def spLMark:Sp:=fun vs H Q _=>∃ (w:List Nat) (L:Nat),vs = [.str (txt w),.int L]∧L ≤ 26∧w.length ≤ 100000∧Q (.bl (markB L w)) H
def spLThing:Sp:=fun vs H Q _=>∃ (w:List Nat),vs = [.str (txt w)]∧w.length ≤ 100000∧Q (.bl (thingB w)) H
def spRowOf (K:PySem.W.Frag):Sp:=fun vs H Q _=>∃ (L:Nat) (p:Addr) (ts:List (List Nat)) (i:Nat) (pr:Addr) (xs:List V) (r:List RwN),vs = [.int L,.ref p,.int i,.ref pr]∧L ≤ 26∧SqL K H p (ts.map strV)∧TsOk 1000 3000 ts∧H pr = some (.lst xs)∧Prs H xs (r.map rowP)∧r.length ≤ 1000∧
  (rRow L (lastO r) (lastN r) (wAt ts i) = none→∀ H',Same H H'→Q .non H')∧(∀ y,rRow L (lastO r) (lastN r) (wAt ts i) = some y→∀ H' t,Same H H'→H t = none→H' t = some (.tup [strV y.1,oV y.2])→Q (.ref t) H')
def spRenl (K:PySem.W.Frag):Sp:=fun vs H Q _=>∃ (L:Nat) (p:Addr) (ts:List (List Nat)) (i:Nat),vs = [.int L,.ref p,.int i]∧L ≤ 26∧SqL K H p (ts.map strV)∧TsOk 1000 3000 ts∧i ≤ 10000∧
  (∀ r,renF L ts i = .ok r→∀ H' o xs,Same H H'→H o = none→H' o = some (.lst xs)→Prs H' xs (r.map rowP)→Q (.ref o) H')∧(∀ e:Nat,renF L ts i = .error e→∀ H',Same H H'→Q (.int e) H')
def spDue (K:PySem.W.Frag):Sp:=fun vs H Q _=>∃ (p:Addr) (ts:List (List Nat)),vs = [.ref p]∧H p = some (.lst (ts.map strV))∧TsOk 1000 3000 ts∧
  (∀ L h R l,stateF ts = .ok (L,h,R,l)→∀ H' o p1 p2 p3 bs xs,Same H H'→H o = none→StA H' o p1 p2 p3 bs xs L h R (zsOf l) (wsOf l)→Q (.ref o) H')∧(∀ e:Nat,stateF ts = .error e→∀ H',Same H H'→Q (.int e) H')
def spXMade (K:PySem.W.Frag):Sp:=fun vs H Q _=>∃ (sc ps:Addr) (ns:List Int) (L h:Nat),vs = [.ref sc,.ref ps]∧SqL K H sc (ns.map V.int)∧ns.length ≤ 63∧H ps = some (.tup [.int L,.int h])∧2 ≤ L∧L ≤ 26∧1 ≤ h∧h + 1 ≤ L∧
  ∀ H' o ts,Same H H'→H o = none→H' o = some (.lst (ts.map strV))→TsOk 200 1000 ts→ts ≠ []→(∃ st,stateF ts = .ok st)→Q (.ref o) H'
def spSpoil (K:PySem.W.Frag):Sp:=fun vs H Q _=>∃ (sc:Addr) (ns:List Int) (k:Int) (p:Addr) (ts:List (List Nat)) (n m:Nat),vs = [.ref sc,.int k,.ref p]∧SqL K H sc (ns.map V.int)∧ns.length ≤ 63∧0 ≤ k∧k ≤ 1000∧H p = some (.lst (ts.map strV))∧TsOk n m ts∧ts ≠ []∧n ≤ 500∧40 ≤ m∧m ≤ 2000∧
  ∀ H' o ts',Same H H'→H o = none→H' o = some (.lst (ts'.map strV))→TsOk (n + 1) (m + 100) ts'→Q (.ref o) H'
def spXSize (K:PySem.W.Frag):Sp:=fun vs H Q _=>∃ (a:Addr) (ns:List Int),vs = [.ref a]∧SqL K H a (ns.map V.int)∧ns.length ≤ 63∧∀ H' p (L h:Nat),Same H H'→H' p = some (.tup [.int L,.int h])→2 ≤ L→L ≤ 26→1 ≤ h→h + 1 ≤ L→Q (.ref p) H'
end L2
namespace K71
open PySem PySem.Spec PyProof.Rows L2 MM
def top (i:Nat):Stmt:=PySem.Challenge.pw_shelfmark_k71_texts_refused.main.body.getD i (.Pass ⟨0,0,0,0⟩)
abbrev s_p0:Stmt:=inClass (top 9) 0
abbrev s_p14:Stmt:=top 12
abbrev s_p16:Stmt:=top 13
abbrev s_p20:Stmt:=top 17
abbrev s_p18:Stmt:=top 21
abbrev s_p15:Stmt:=top 25
abbrev s_p27:Stmt:=top 26
abbrev s_p19:Stmt:=top 27
abbrev s_p17:Stmt:=top 28
abbrev s_p22:Stmt:=top 29
abbrev s_p23:Stmt:=top 30
abbrev s_p24:Stmt:=top 31
abbrev s_p26:Stmt:=top 32
abbrev s_p25:Stmt:=top 33
abbrev s_draw:Stmt:=top 35
abbrev s_size:Stmt:=top 36
abbrev s_thing:Stmt:=top 37
abbrev s_marks:Stmt:=top 38
abbrev s_made:Stmt:=top 39
abbrev s_spoiled:Stmt:=top 40
abbrev s_number:Stmt:=top 41
abbrev s_l_is_mark:Stmt:=top 42
abbrev s_l_is_thing:Stmt:=top 43
abbrev s_row_of:Stmt:=top 44
abbrev s_renewal:Stmt:=top 45
abbrev s_due:Stmt:=top 46
abbrev s_asked:Stmt:=top 47
abbrev s_law:Stmt:=top 48
structure Ad where
  (c_NoLetters c_ShelfError c_NoHand c_NoLine c_NoPlace c_NoRoom c_NoShelf c_NoState c_NoThing f_p0 f_p14 f_p16 f_p20 f_p18 f_p15 f_p27 f_p19 f_p17 f_p22 f_p23 f_p24 f_p26 f_p25 f_draw f_size f_thing f_marks f_made f_spoiled f_number f_l_is_mark f_l_is_thing f_row_of f_renewal f_due f_asked f_law:Addr)
  (fd_p0 fd_p14 fd_p16 fd_p20 fd_p18 fd_p15 fd_p27 fd_p19 fd_p17 fd_p22 fd_p23 fd_p24 fd_p26 fd_p25 fd_draw fd_size fd_thing fd_marks fd_made fd_spoiled fd_number fd_l_is_mark fd_l_is_thing fd_row_of fd_renewal fd_due fd_asked fd_law:FuncData)
structure Tx (K:PySem.W.Frag) (mg:Str→Option Value) (a:Ad):Prop where
  n_ValueError:mg "ValueError" = none
  n_all:mg "all" = none
  n_int:mg "int" = none
  n_isinstance:mg "isinstance" = none
  n_len:mg "len" = none
  n_list:mg "list" = none
  n_min:mg "min" = none
  n_range:mg "range" = none
  n_sorted:mg "sorted" = none
  n_str:mg "str" = none
  n_tuple:mg "tuple" = none
  c_SMALL:∃ t,mg "SMALL" = some (.str "abcdefghijklmnopqrstuvwxyz" t)
  c_THING_SIGNS:∃ t,mg "THING_SIGNS" = some (.str "abcdefghijklmnopqrstuvwxyz0123456789" t)
  c_LONGEST_THING:∃ t,mg "LONGEST_THING" = some (.int 12 t)
  c_FIGURES:∃ t,mg "FIGURES" = some (.str "0123456789" t)
  c_MOST_FIGURES:∃ t,mg "MOST_FIGURES" = some (.int 4 t)
  c_MOST_RENEWALS:∃ t,mg "MOST_RENEWALS" = some (.int 1000 t)
  c_MOST_ROWS:∃ t,mg "MOST_ROWS" = some (.int 1000 t)
  m_NoLetters:mg "NoLetters" = some (.ref a.c_NoLetters)
  x_NoLetters : PySem.W.excIn K a.c_NoLetters [.type "ValueError", .type "Exception", .type "BaseException", .type "object"] "ValueError.__new__" = true
  m_ShelfError:mg "ShelfError" = some (.ref a.c_ShelfError)
  x_ShelfError : PySem.W.excIn K a.c_ShelfError [.type "ValueError", .type "Exception", .type "BaseException", .type "object"] "ValueError.__new__" = true
  m_NoHand:mg "NoHand" = some (.ref a.c_NoHand)
  m_NoLine:mg "NoLine" = some (.ref a.c_NoLine)
  m_NoPlace:mg "NoPlace" = some (.ref a.c_NoPlace)
  m_NoRoom:mg "NoRoom" = some (.ref a.c_NoRoom)
  m_NoShelf:mg "NoShelf" = some (.ref a.c_NoShelf)
  m_NoState:mg "NoState" = some (.ref a.c_NoState)
  m_NoThing:mg "NoThing" = some (.ref a.c_NoThing)
  e_NoState:ExcK K a.c_NoState
  i_NoState : ExcI K a.c_NoState a.f_p0 [.type "ValueError", .type "Exception", .type "BaseException", .type "object"] "ValueError.__new__"
  sa_NoState:PySem.W.findIn K (.ref a.c_NoState) "__setattr__" = some (some (.builtin "object.__setattr__"))
  nr_NoState:NoAttr K a.c_NoState "row"
  cd_NoState:∃ cd,PySem.W.clsIn K a.c_NoState = some cd∧cd.hasDict = true
  b1_ShelfError:PySem.W.specialIn K (.ref a.c_ShelfError) "__getattribute__" = some (some (.builtin "type.__getattribute__"))
  b2_ShelfError:PySem.W.readsIn K a.c_ShelfError (.type "type") = true
  b3_ShelfError:PySem.W.findCls K (.ref a.c_ShelfError) (.type "type") "__init__" = some (.val (.builtin "ValueError.__init__"))
  j_0:PySem.W.kitOne K (.ref a.c_NoState) (.ref a.c_NoState) = some true
  j_1:PySem.W.kitOne K (.ref a.c_NoState) (.type "ValueError") = some true
  j_2:PySem.W.kitAny K (.ref a.c_NoState) [.ref a.c_NoHand,.ref a.c_NoLetters,.ref a.c_NoLine,.ref a.c_NoPlace,.ref a.c_NoRoom,.ref a.c_NoShelf,.ref a.c_NoThing] = some false
  s_NoLetters_NoLetters:PySem.W.mroIn K a.c_NoLetters (.ref a.c_NoLetters) = some true
  s_NoState_ShelfError:PySem.W.mroIn K a.c_NoState (.ref a.c_ShelfError) = some true
  F_p0:Fun K "__init__" "NoState.__init__" s_p0 a.f_p0 a.fd_p0
  b_p0 : Binds K a.fd_p0 ["self", "row"] []
  g_p14:mg "ask_letters" = some (.ref a.f_p14)
  F_p14:Fun K "ask_letters" "ask_letters" s_p14 a.f_p14 a.fd_p14
  b_p14 : Binds K a.fd_p14 ["letters", "hands"] []
  g_p16:mg "is_mark" = some (.ref a.f_p16)
  F_p16:Fun K "is_mark" "is_mark" s_p16 a.f_p16 a.fd_p16
  b_p16 : Binds K a.fd_p16 ["letters", "text"] []
  g_p20:mg "is_thing" = some (.ref a.f_p20)
  F_p20:Fun K "is_thing" "is_thing" s_p20 a.f_p20 a.fd_p20
  b_p20:Binds K a.fd_p20 ["text"] []
  g_p18:mg "is_number" = some (.ref a.f_p18)
  F_p18:Fun K "is_number" "is_number" s_p18 a.f_p18 a.fd_p18
  b_p18:Binds K a.fd_p18 ["word"] []
  g_p15:mg "ask_text" = some (.ref a.f_p15)
  F_p15:Fun K "ask_text" "ask_text" s_p15 a.f_p15 a.fd_p15
  b_p15 : Binds K a.fd_p15 ["good", "place"] []
  g_p27:mg "words_at" = some (.ref a.f_p27)
  F_p27:Fun K "words_at" "words_at" s_p27 a.f_p27 a.fd_p27
  b_p27 : Binds K a.fd_p27 ["texts", "place"] []
  g_p19:mg "is_number_to" = some (.ref a.f_p19)
  F_p19:Fun K "is_number_to" "is_number_to" s_p19 a.f_p19 a.fd_p19
  b_p19 : Binds K a.fd_p19 ["word", "most"] []
  g_p17:mg "is_mark_behind" = some (.ref a.f_p17)
  F_p17:Fun K "is_mark_behind" "is_mark_behind" s_p17 a.f_p17 a.fd_p17
  b_p17 : Binds K a.fd_p17 ["letters", "last", "word"] []
  g_p22:mg "read_head" = some (.ref a.f_p22)
  F_p22:Fun K "read_head" "read_head" s_p22 a.f_p22 a.fd_p22
  b_p22:Binds K a.fd_p22 ["texts"] []
  g_p23:mg "read_many" = some (.ref a.f_p23)
  F_p23:Fun K "read_many" "read_many" s_p23 a.f_p23 a.fd_p23
  b_p23 : Binds K a.fd_p23 ["texts", "place"] []
  g_p24:mg "read_rows" = some (.ref a.f_p24)
  F_p24:Fun K "read_rows" "read_rows" s_p24 a.f_p24 a.fd_p24
  b_p24 : Binds K a.fd_p24 ["letters", "texts", "place", "many"] []
  g_p26:mg "read_things" = some (.ref a.f_p26)
  F_p26:Fun K "read_things" "read_things" s_p26 a.f_p26 a.fd_p26
  b_p26 : Binds K a.fd_p26 ["letters", "texts", "place"] []
  g_p25:mg "read_state" = some (.ref a.f_p25)
  F_p25:Fun K "read_state" "read_state" s_p25 a.f_p25 a.fd_p25
  b_p25:Binds K a.fd_p25 ["texts"] []
  g_draw:mg "_law_draw" = some (.ref a.f_draw)
  F_draw:Fun K "_law_draw" "_law_draw" s_draw a.f_draw a.fd_draw
  b_draw : Binds K a.fd_draw ["_law_script", "_law_k", "_law_many"] []
  g_size:mg "_law_size" = some (.ref a.f_size)
  F_size:Fun K "_law_size" "_law_size" s_size a.f_size a.fd_size
  b_size:Binds K a.fd_size ["_law_script"] []
  g_thing:mg "_law_thing" = some (.ref a.f_thing)
  F_thing:Fun K "_law_thing" "_law_thing" s_thing a.f_thing a.fd_thing
  b_thing : Binds K a.fd_thing ["_law_script", "_law_k"] []
  g_marks:mg "_law_marks" = some (.ref a.f_marks)
  F_marks:Fun K "_law_marks" "_law_marks" s_marks a.f_marks a.fd_marks
  b_marks : Binds K a.fd_marks ["_law_script", "_law_k", "_law_letters", "_law_many"] []
  g_made:mg "_law_made" = some (.ref a.f_made)
  F_made:Fun K "_law_made" "_law_made" s_made a.f_made a.fd_made
  b_made : Binds K a.fd_made ["_law_script", "_law_size_here"] []
  g_spoiled:mg "_law_spoiled" = some (.ref a.f_spoiled)
  F_spoiled:Fun K "_law_spoiled" "_law_spoiled" s_spoiled a.f_spoiled a.fd_spoiled
  b_spoiled : Binds K a.fd_spoiled ["_law_script", "_law_k", "_law_texts"] []
  g_number:mg "_law_number" = some (.ref a.f_number)
  F_number:Fun K "_law_number" "_law_number" s_number a.f_number a.fd_number
  b_number : Binds K a.fd_number ["_law_word", "_law_low", "_law_high"] []
  g_l_is_mark:mg "_law_is_mark" = some (.ref a.f_l_is_mark)
  F_l_is_mark:Fun K "_law_is_mark" "_law_is_mark" s_l_is_mark a.f_l_is_mark a.fd_l_is_mark
  b_l_is_mark : Binds K a.fd_l_is_mark ["_law_word", "_law_letters"] []
  g_l_is_thing:mg "_law_is_thing" = some (.ref a.f_l_is_thing)
  F_l_is_thing:Fun K "_law_is_thing" "_law_is_thing" s_l_is_thing a.f_l_is_thing a.fd_l_is_thing
  b_l_is_thing:Binds K a.fd_l_is_thing ["_law_word"] []
  g_row_of:mg "_law_row_of" = some (.ref a.f_row_of)
  F_row_of:Fun K "_law_row_of" "_law_row_of" s_row_of a.f_row_of a.fd_row_of
  b_row_of : Binds K a.fd_row_of ["_law_letters", "_law_texts", "_law_at", "_law_rows"] []
  g_renewal:mg "_law_renewal" = some (.ref a.f_renewal)
  F_renewal:Fun K "_law_renewal" "_law_renewal" s_renewal a.f_renewal a.fd_renewal
  b_renewal : Binds K a.fd_renewal ["_law_letters", "_law_texts", "_law_at"] []
  g_due:mg "_law_due" = some (.ref a.f_due)
  F_due:Fun K "_law_due" "_law_due" s_due a.f_due a.fd_due
  b_due:Binds K a.fd_due ["_law_texts"] []
  g_asked:mg "_law_asked" = some (.ref a.f_asked)
  F_asked:Fun K "_law_asked" "_law_asked" s_asked a.f_asked a.fd_asked
  b_asked:Binds K a.fd_asked ["_law_texts"] []
  g_law:mg "law" = some (.ref a.f_law)
  F_law:Fun K "law" "law" s_law a.f_law a.fd_law
  b_law:Binds K a.fd_law ["_law_script"] []
end K71
namespace K71
open PySem PySem.Spec PyProof.Rows L2 MM
def spLaw (K:PySem.W.Frag):Sp:=fun vs H Q _=>∃ (a:Addr) (ns:List Int),vs = [.ref a]∧SqL K H a (ns.map V.int)∧ns.length ≤ 63∧∀ H',Q (.bl true) H'
section
variable {P:Program} {w:World} {K:PySem.W.Frag} {mg:Str→Option Value} {base:Heap} {a:Ad} {f:Addr} {cdv:Value} {A:Around} {outer:List Env} {s:Shared} {H:Hp} {E:XK}
theorem sc_p0 : FnScope ["self", "row"] ["self", "row"] (defScope s_p0) := ⟨rfl, rfl, rfl, by decide +kernel, rfl, by decide +kernel, by decide +kernel⟩
def rd_p0 (K:PySem.W.Frag) (a:Ad):TS:=
    tSeq (tDrop (tBaseInit K a.c_NoState (tCons (tVar 0) (tCons (tFstr [.raw (tC (.str (txt [110,111,32,115,116,97,116,101,44,32,115,101,101,32,114,111,119,32]))),.fmt (tVar 1)]) tNil))))
      (sExcFld K a.c_NoState (tVar 0) (tVar 1) "row")
theorem prH_p0 (T:Tx K mg a) {ea:Addr} :
    QSs (cxH P w K mg base ["self", "row"] "NoState.__init__" (defScope s_p0) f cdv A outer s H E ea) (defBody s_p0) (rd_p0 K a) := by
  exact kss_cons (ks_expr (ke_baseInit PySem.F.excBase_ValueError T.i_NoState T.m_ShelfError T.b1_ShelfError T.b2_ShelfError T.b3_ShelfError (by decide +kernel) (ka_cons (kv 0) (ka_cons (ke_fstr (kf_raw (ke_txt (by kernel_rfl)) (kf_fmt (kv 1) kf_nil))) ka_nil))))
      (kss_one (ks_excFld (kv 0) (kv 1) PySem.F.store_ValueError T.i_NoState T.sa_NoState T.nr_NoState))
theorem pr_p0 (T:Tx K mg a) (hr:Room 0 (A.deeper (envOfC "NoState.__init__" (defScope s_p0) s.heap.objs.size f cdv))) :
    QSs (cxOf CX0 P w K mg base ["self", "row"] "NoState.__init__" (defScope s_p0) f cdv A outer s H E).nox (defBody s_p0) (rd_p0 K a) := by
  exact kss_cons (ks_expr (ke_baseInit PySem.F.excBase_ValueError T.i_NoState T.m_ShelfError T.b1_ShelfError T.b2_ShelfError T.b3_ShelfError (by decide +kernel) (ka_cons (kv 0) (ka_cons (ke_fstr (kf_raw (ke_txt (by kernel_rfl)) (kf_fmt (kv 1) kf_nil))) ka_nil))))
      (kss_one (ks_excFld (kv 0) (kv 1) PySem.F.store_ValueError T.i_NoState T.sa_NoState T.nr_NoState))
theorem sc_p14 : FnScope ["letters", "hands"] ["letters", "hands"] (defScope s_p14) := ⟨rfl, rfl, rfl, by decide +kernel, rfl, by decide +kernel, by decide +kernel⟩
def rd_p14 (K:PySem.W.Frag) (a:Ad) (E:XK):TS:=
    rdAskL a.c_NoLetters E [108,101,116,116,101,114,115,32,109,117,115,116,32,98,101,32,102,114,111,109,32,50,32,116,111,32,50,54] [104,97,110,100,115,32,109,117,115,116,32,98,101,32,102,114,111,109,32,49,32,116,111,32,111,110,101,32,108,101,115,115,32,116,104,97,110,32,108,101,116,116,101,114,115]
theorem pr_p14 (T:Tx K mg a) (hr:Room 0 (A.deeper (envOfC "ask_letters" (defScope s_p14) s.heap.objs.size f cdv))) :
    QSs (cxOf (CX1 P w) P w K mg base ["letters", "hands"] "ask_letters" (defScope s_p14) f cdv A outer s H E) (defBody s_p14) (rd_p14 K a E) := by
  delta rd_p14 rdAskL
  exact kss_cons (ks_if (kt_w (kw_or (kt_cmp op_lt (kv 0) ke_int) (kw_or1 (kt_cmp op_gt (kv 0) (ke_callB call_lenS T.n_len PyProof.Rows.Boot.«len» (ka_cons (ke_gstr T.c_SMALL small_eq) ka_nil)))))) (kss_one (ks_raise PySem.F.excBase_ValueError T.x_NoLetters T.m_NoLetters (ka_cons (ke_txt (by kernel_rfl)) ka_nil) (fun _ _ _ _ _ _ _ I m q=>made_def I m q))) (kss_nil))
      (kss_one (ks_if (kt_w (kw_or (kt_cmp op_lt (kv 1) ke_int) (kw_or1 (kt_cmp op_ge (kv 1) (kv 0))))) (kss_one (ks_raise PySem.F.excBase_ValueError T.x_NoLetters T.m_NoLetters (ka_cons (ke_txt (by kernel_rfl)) ka_nil) (fun _ _ _ _ _ _ _ I m q=>made_def I m q))) (kss_nil)))
theorem sc_p16 : FnScope ["letters", "text"] ["letters", "text"] (defScope s_p16) := ⟨rfl, rfl, rfl, by decide +kernel, rfl, by decide +kernel, by decide +kernel⟩
def rd_p16 (K:PySem.W.Frag) (a:Ad):TS:=
    rdIsMark K
theorem pr_p16 (T:Tx K mg a) (hr:Room 0 (A.deeper (envOfC "is_mark" (defScope s_p16) s.heap.objs.size f cdv))) :
    QSs (cxOf CX0 P w K mg base ["letters", "text"] "is_mark" (defScope s_p16) f cdv A outer s H E).nox (defBody s_p16) (rd_p16 K a) := by
  delta rd_p16 rdIsMark
  exact kss_cons (ks_if (kt_w (kw_or (kt_cmp op_eq (kv 1) (ke_txt (by kernel_rfl))) (kw_or1 (kt_val (ke_bm PySem.F.plainAttrs_str PySem.F.slot_str_endswith PySem.F.type_str_endswith mt_endswith (kv 1) (ka_cons (ke_txt (by kernel_rfl)) ka_nil)))))) (kss_one (ks_ret ke_bl)) (kss_nil))
      (kss_one (ks_ret (ke_callB (call_allB (by kernel_rfl)) T.n_all PyProof.Rows.Boot.«all» (ka_cons (ke_comp [("letters",0)] (ki_str (kv 1)) (fun _ _ _ _ _=>⟨kts_nil,ke_cmp op_in1 (kv 0) (ke_slice sl_str (ke_gstr T.c_SMALL small_eq) ko_none (ko_some (kvc 1)))⟩)) ka_nil))))
theorem sc_p20:FnScope ["text"] ["text"] (defScope s_p20):=⟨rfl,rfl,rfl,by decide +kernel,rfl,by decide +kernel,by decide +kernel⟩
def rd_p20 (K:PySem.W.Frag) (a:Ad):TS:=
    tSeq (tIfS (tOr (tTest (tOp rEq (tVar 0) (tC (.str (txt []))))) (tTest (tOp rGtI (tCB rLenS (tCons (tVar 0) tNil)) (tC (.int 12))))) (tRet (tC (.bl false))) (tNext))
      (tRet (tCB (rAllB K) (tCons (tComp (iStr (tVar 0)) [] tYes (tOp rIn1 (tVar 0) (tC (.str (txt [97,98,99,100,101,102,103,104,105,106,107,108,109,110,111,112,113,114,115,116,117,118,119,120,121,122,48,49,50,51,52,53,54,55,56,57]))))) tNil)))
theorem pr_p20 (T:Tx K mg a) (hr:Room 0 (A.deeper (envOfC "is_thing" (defScope s_p20) s.heap.objs.size f cdv))) :
    QSs (cxOf CX0 P w K mg base ["text"] "is_thing" (defScope s_p20) f cdv A outer s H E).nox (defBody s_p20) (rd_p20 K a):=by
  exact kss_cons (ks_if (kt_w (kw_or (kt_cmp op_eq (kv 0) (ke_txt (by kernel_rfl))) (kw_or1 (kt_cmp op_gt (ke_callB call_lenS T.n_len PyProof.Rows.Boot.«len» (ka_cons (kv 0) ka_nil)) (ke_gint T.c_LONGEST_THING))))) (kss_one (ks_ret ke_bl)) (kss_nil))
      (kss_one (ks_ret (ke_callB (call_allB (by kernel_rfl)) T.n_all PyProof.Rows.Boot.«all» (ka_cons (ke_comp [] (ki_str (kv 0)) (fun _ _ _ _ _=>⟨kts_nil,ke_cmp op_in1 (kv 0) (ke_gstr T.c_THING_SIGNS (by kernel_rfl))⟩)) ka_nil))))
theorem sc_p18:FnScope ["word"] ["word"] (defScope s_p18):=⟨rfl,rfl,rfl,by decide +kernel,rfl,by decide +kernel,by decide +kernel⟩
def rd_p18 (K:PySem.W.Frag) (a:Ad):TS:=
    rdIsNumber K
theorem pr_p18 (T:Tx K mg a) (hr:Room 0 (A.deeper (envOfC "is_number" (defScope s_p18) s.heap.objs.size f cdv))) :
    QSs (cxOf CX0 P w K mg base ["word"] "is_number" (defScope s_p18) f cdv A outer s H E).nox (defBody s_p18) (rd_p18 K a):=by
  delta rd_p18 rdIsNumber
  exact kss_cons (ks_if (kt_w (kw_or (kt_cmp op_eq (kv 0) (ke_txt (by kernel_rfl))) (kw_or1 (kt_cmp op_gt (ke_callB call_lenS T.n_len PyProof.Rows.Boot.«len» (ka_cons (kv 0) ka_nil)) (ke_gint T.c_MOST_FIGURES))))) (kss_one (ks_ret ke_bl)) (kss_nil))
      (kss_cons (ks_if (kt_val (ke_bm PySem.F.plainAttrs_str PySem.F.slot_str_startswith PySem.F.type_str_startswith mt_startswith (kv 0) (ka_cons (ke_txt (by kernel_rfl)) ka_nil))) (kss_one (ks_ret (ke_cmp op_eq (kv 0) (ke_txt (by kernel_rfl))))) (kss_nil))
      (kss_one (ks_ret (ke_callB (call_allB (by kernel_rfl)) T.n_all PyProof.Rows.Boot.«all» (ka_cons (ke_comp [] (ki_str (kv 0)) (fun _ _ _ _ _=>⟨kts_nil,ke_cmp op_in1 (kv 0) (ke_gstr T.c_FIGURES (by kernel_rfl))⟩)) ka_nil)))))
theorem sc_p15 : FnScope ["good", "place"] ["good", "place"] (defScope s_p15) := ⟨rfl, rfl, rfl, by decide +kernel, rfl, by decide +kernel, by decide +kernel⟩
def rd_p15 (K:PySem.W.Frag) (a:Ad) (E:XK):TS:=
    tIfS (tNot (tB (tVar 0))) (tRaiseD a.c_NoState (spNS a.c_NoState) E (tCons (tVar 1) tNil)) (tNext)
theorem pr_p15 (T : Tx K mg a) (G_p0 : FnOk P w K mg base CX0 1 a.f_p0 a.fd_p0 ["self", "row"] (spNS a.c_NoState)) (hr : Room 2 (A.deeper (envOfC "ask_text" (defScope s_p15) s.heap.objs.size f cdv))) :
    QSs (cxOf (CX1 P w) P w K mg base ["good", "place"] "ask_text" (defScope s_p15) f cdv A outer s H E) (defBody s_p15) (rd_p15 K a E) := by
  exact kss_one (ks_if (kt_not (kt_val (kv 0))) (kss_one (ks_raiseD PySem.F.excBase_ValueError T.i_NoState G_p0 (by exact hr.mono (by decide)) T.b_p0 T.m_NoState (ka_cons (kv 1) ka_nil) (fun _ _ _ _ _ _ _ _ I1 hn I eD q=>made_defD I1 hn I eD q))) (kss_nil))
theorem sc_p27 : FnScope ["texts", "place"] ["texts", "place"] (defScope s_p27) := ⟨rfl, rfl, rfl, by decide +kernel, rfl, by decide +kernel, by decide +kernel⟩
def rd_p27 (K:PySem.W.Frag) (a:Ad):TS:=
    rdWordsAt K
theorem pr_p27 (T:Tx K mg a) (hr:Room 0 (A.deeper (envOfC "words_at" (defScope s_p27) s.heap.objs.size f cdv))) :
    QSs (cxOf CX0 P w K mg base ["texts", "place"] "words_at" (defScope s_p27) f cdv A outer s H E).nox (defBody s_p27) (rd_p27 K a) := by
  delta rd_p27 rdWordsAt
  exact kss_one (ks_ret (ke_ifExp (kt_cmp op_lt (kv 1) (ke_callB call_len_seq T.n_len PyProof.Rows.Boot.«len» (ka_cons (kv 0) ka_nil))) (ke_bm PySem.F.plainAttrs_str PySem.F.slot_str_split PySem.F.type_str_split mt_split (ke_ix ix_list (kv 0) (kv 1)) (ka_cons (ke_txt (by kernel_rfl)) ka_nil)) (ke_lst ka_nil)))
theorem sc_p19 : FnScope ["word", "most"] ["word", "most"] (defScope s_p19) := ⟨rfl, rfl, rfl, by decide +kernel, rfl, by decide +kernel, by decide +kernel⟩
def rd_p19 (K:PySem.W.Frag) (a:Ad):TS:=
    rdIsNumberTo
theorem pr_p19 (T : Tx K mg a) (G_p18 : FnOk P w K mg base CX0 1 a.f_p18 a.fd_p18 ["word"] spIsNumber) (hr : Room 1 (A.deeper (envOfC "is_number_to" (defScope s_p19) s.heap.objs.size f cdv))) :
    QSs (cxOf CX0 P w K mg base ["word", "most"] "is_number_to" (defScope s_p19) f cdv A outer s H E).nox (defBody s_p19) (rd_p19 K a) := by
  delta rd_p19 rdIsNumberTo
  exact kss_one (ks_ret (ke_and (ke_call G_p18 (by exact hr.mono (by decide)) T.g_p18 T.F_p18.kp T.b_p18 pass0 (ka_cons (kv 0) ka_nil)) (ke_one (ke_cmp op_le (ke_callTy call_intS T.n_int PyProof.Rows.Boot.«int» (ka_cons (kv 0) ka_nil)) (kv 1)))))
theorem sc_p17 : FnScope ["letters", "last", "word"] ["letters", "last", "word"] (defScope s_p17) := ⟨rfl, rfl, rfl, by decide +kernel, rfl, by decide +kernel, by decide +kernel⟩
def rd_p17 (K:PySem.W.Frag) (a:Ad):TS:=
    rdMarkBehind
theorem pr_p17 (T : Tx K mg a) (G_p16 : FnOk P w K mg base CX0 1 a.f_p16 a.fd_p16 ["letters", "text"] spIsMark) (hr : Room 1 (A.deeper (envOfC "is_mark_behind" (defScope s_p17) s.heap.objs.size f cdv))) :
    QSs (cxOf CX0 P w K mg base ["letters", "last", "word"] "is_mark_behind" (defScope s_p17) f cdv A outer s H E).nox (defBody s_p17) (rd_p17 K a) := by
  delta rd_p17 rdMarkBehind
  exact kss_one (ks_ret (ke_and (ke_call G_p16 (by exact hr.mono (by decide)) T.g_p16 T.F_p16.kp T.b_p16 pass0 (ka_cons (kv 0) (ka_cons (kv 2) ka_nil))) (ke_one (ke_cmp op_ltS (kv 1) (kv 2)))))
theorem sc_p22 : FnScope ["texts", "words", "numbers"] ["texts"] (defScope s_p22) := ⟨rfl, rfl, rfl, by decide +kernel, rfl, by decide +kernel, by decide +kernel⟩
def rd_p22 (K:PySem.W.Frag) (a:Ad) (E:XK):TS:=
    tSeq (tAsg (tCall (spXWords K) [] E0 (tCons (tVar 0) (tCons (tC (.int 0)) tNil))) (gName 1))
      (tSeq (tDrop (tCall (spXAsk a.c_NoState) [] E (tCons (tAndV (tOp rEq (tCB (rLenL K) (tCons (tVar 1) tNil)) (tC (.int 3))) (tCB (rAllB K) (tCons (tComp (iList K (tVar 1)) [] tYes (tCall spIsNumber [] E0 (tCons (tVar 0) tNil))) tNil))) (tCons (tC (.int 0)) tNil))))
      (tSeq (tCompSet 2 (iList K (tVar 1)) [] tYes (tCB rIntS (tCons (tVar 0) tNil)))
      (tSeq (tTryF K a.c_NoLetters a.c_NoState (spNS a.c_NoState) E (fun Φ=>tDrop (tCallX (spAskL a.c_NoLetters) Φ (tCons (tOp (rIxL K) (tVar 2) (tC (.int 0))) (tCons (tOp (rIxL K) (tVar 2) (tC (.int 1))) tNil)))) (tCons (tC (.int 0)) tNil))
      (tSeq (tDrop (tCall (spXAsk a.c_NoState) [] E (tCons (tOp rLeI (tOp (rIxL K) (tVar 2) (tC (.int 2))) (tC (.int 1000))) (tCons (tC (.int 0)) tNil))))
      (tRet (tVar 2))))))
theorem pr_p22 (T : Tx K mg a) (G_p27 : FnOk P w K mg base CX0 1 a.f_p27 a.fd_p27 ["texts", "place"] (spXWords K)) (G_p18 : FnOk P w K mg base CX0 1 a.f_p18 a.fd_p18 ["word"] spIsNumber) (G_p15 : FnOk P w K mg base (CX1 P w) 3 a.f_p15 a.fd_p15 ["good", "place"] (spXAsk a.c_NoState)) (G_p14 : FnOk P w K mg base (CX1 P w) 1 a.f_p14 a.fd_p14 ["letters", "hands"] (spAskL a.c_NoLetters)) (GH_p0 : FnOkH P w K mg base 1 a.f_p0 a.fd_p0 ["self", "row"] (spNS a.c_NoState)) (hr : Room 3 (A.deeper (envOfC "read_head" (defScope s_p22) s.heap.objs.size f cdv))) :
    QSs (cxOf (CX1 P w) P w K mg base ["texts", "words", "numbers"] "read_head" (defScope s_p22) f cdv A outer s H E) (defBody s_p22) (rd_p22 K a E) := by
  exact kss_cons (ks_nox (ks_set (i:=1) sc_p22.nd (ke_call G_p27 (by exact hr.mono (by decide)) T.g_p27 T.F_p27.kp T.b_p27 pass0 (ka_cons (kv 0) (ka_cons ke_int ka_nil)))))
      (kss_cons (ks_expr (ke_call G_p15 (by exact hr.mono (by decide)) T.g_p15 T.F_p15.kp T.b_p15 pass_def (ka_cons (ke_and (ke_cmp op_eq (ke_callB call_len_seq T.n_len PyProof.Rows.Boot.«len» (ka_cons (kv 1) ka_nil)) ke_int) (ke_one (ke_callB (call_allB (by kernel_rfl)) T.n_all PyProof.Rows.Boot.«all» (ka_cons (ke_comp [] (ki_list (kv 1)) (fun _ _ _ _ _=>⟨kts_nil,ke_call G_p18 (by exact hr.mono (by decide)) T.g_p18 T.F_p18.kp T.b_p18 pass0 (ka_cons (kv 0) ka_nil)⟩)) ka_nil)))) (ka_cons ke_int ka_nil))))
      (kss_cons (ks_nox (ks_comp (i:=2) [] sc_p22.nd (ki_list (kv 1)) (fun _ _ _ _ _=>⟨kts_nil,ke_callTy call_intS T.n_int PyProof.Rows.Boot.«int» (ka_cons (kv 0) ka_nil)⟩)))
      (kss_cons (ks_tryF T.m_NoLetters (fun _ _ _ hx=>kss_one (ks_expr (ke_callX G_p14 (by exact hr.mono (by decide)) T.g_p14 T.F_p14.kp T.b_p14 hx (ka_cons (ke_ix ix_list (kv 2) ke_int) (ka_cons (ke_ix ix_list (kv 2) ke_int) ka_nil))))) PySem.F.excBase_ValueError T.i_NoState GH_p0 (by exact hr.mono (by decide)) T.b_p0 T.m_NoState (fun _=>ka_cons ke_int ka_nil) (fun _ _ _ _ _ _ _ _ _ _ _ _ I1 hn I eD ot he ec ed edt q=>made_defF I1 hn I eD ot he ec ed edt q))
      (kss_cons (ks_expr (ke_call G_p15 (by exact hr.mono (by decide)) T.g_p15 T.F_p15.kp T.b_p15 pass_def (ka_cons (ke_cmp op_le (ke_ix ix_list (kv 2) ke_int) (ke_gint T.c_MOST_RENEWALS)) (ka_cons ke_int ka_nil))))
      (kss_one (ks_nox (ks_ret (kv 2))))))))
theorem sc_p23 : FnScope ["texts", "place", "words"] ["texts", "place"] (defScope s_p23) := ⟨rfl, rfl, rfl, by decide +kernel, rfl, by decide +kernel, by decide +kernel⟩
def rd_p23 (K:PySem.W.Frag) (a:Ad) (E:XK):TS:=
    tSeq (tAsg (tCall (spXWords K) [] E0 (tCons (tVar 0) (tCons (tVar 1) tNil))) (gName 2))
      (tSeq (tDrop (tCall (spXAsk a.c_NoState) [] E (tCons (tAndV (tOp rEq (tCB (rLenL K) (tCons (tVar 2) tNil)) (tC (.int 2))) (tAndV (tOp rEq (tOp (rIxL K) (tVar 2) (tC (.int 0))) (tC (.str (txt [114,101,110,101,119,97,108])))) (tCall spXNumTo [] E0 (tCons (tOp (rIxL K) (tVar 2) (tC (.int 1))) (tCons (tC (.int 1000)) tNil))))) (tCons (tVar 1) tNil))))
      (tRet (tCB rIntS (tCons (tOp (rIxL K) (tVar 2) (tC (.int 1))) tNil))))
theorem pr_p23 (T : Tx K mg a) (G_p27 : FnOk P w K mg base CX0 1 a.f_p27 a.fd_p27 ["texts", "place"] (spXWords K)) (G_p19 : FnOk P w K mg base CX0 2 a.f_p19 a.fd_p19 ["word", "most"] spXNumTo) (G_p15 : FnOk P w K mg base (CX1 P w) 3 a.f_p15 a.fd_p15 ["good", "place"] (spXAsk a.c_NoState)) (hr : Room 3 (A.deeper (envOfC "read_many" (defScope s_p23) s.heap.objs.size f cdv))) :
    QSs (cxOf (CX1 P w) P w K mg base ["texts", "place", "words"] "read_many" (defScope s_p23) f cdv A outer s H E) (defBody s_p23) (rd_p23 K a E) := by
  exact kss_cons (ks_nox (ks_set (i:=2) sc_p23.nd (ke_call G_p27 (by exact hr.mono (by decide)) T.g_p27 T.F_p27.kp T.b_p27 pass0 (ka_cons (kv 0) (ka_cons (kv 1) ka_nil)))))
      (kss_cons (ks_expr (ke_call G_p15 (by exact hr.mono (by decide)) T.g_p15 T.F_p15.kp T.b_p15 pass_def (ka_cons (ke_and (ke_cmp op_eq (ke_callB call_len_seq T.n_len PyProof.Rows.Boot.«len» (ka_cons (kv 2) ka_nil)) ke_int) (ke_and (ke_cmp op_eq (ke_ix ix_list (kv 2) ke_int) (ke_txt (by kernel_rfl))) (ke_one (ke_call G_p19 (by exact hr.mono (by decide)) T.g_p19 T.F_p19.kp T.b_p19 pass0 (ka_cons (ke_ix ix_list (kv 2) ke_int) (ka_cons (ke_gint T.c_MOST_ROWS) ka_nil)))))) (ka_cons (kv 1) ka_nil))))
      (kss_one (ks_nox (ks_ret (ke_callTy call_intS T.n_int PyProof.Rows.Boot.«int» (ka_cons (ke_ix ix_list (kv 2) ke_int) ka_nil))))))
theorem sc_p24 : FnScope ["letters", "texts", "place", "many", "rows", "last_old", "last_new", "here", "words"] ["letters", "texts", "place", "many"] (defScope s_p24) := ⟨rfl, rfl, rfl, by decide +kernel, rfl, by decide +kernel, by decide +kernel⟩
def rd_p24 (K:PySem.W.Frag) (a:Ad) (E:XK):TS:=
    tSeq (tAsg (tLst tNil) (gName 4))
      (tSeq (tAsg (tC (.str (txt []))) (gName 5))
      (tSeq (tAsg (tC (.str (txt []))) (gName 6))
      (tSeq (tFor (iRng2 (tCons (tVar 2) (tCons (tOp rAddI (tVar 2) (tVar 3)) tNil))) (gName 7) (tSeq (tAsg (tCall (spXWords K) [] E0 (tCons (tVar 1) (tCons (tVar 7) tNil))) (gName 8))
      (tSeq (tDrop (tCall (spXAsk a.c_NoState) [] E (tCons (tAndV (tOp rEq (tCB (rLenL K) (tCons (tVar 8) tNil)) (tC (.int 2))) (tCall spXBehind [] E0 (tCons (tVar 0) (tCons (tVar 5) (tCons (tOp (rIxL K) (tVar 8) (tC (.int 0))) tNil))))) (tCons (tVar 7) tNil))))
      (tSeq (tAsg (tOp (rIxL K) (tVar 8) (tC (.int 0))) (gName 5))
      (tIfS (tTest (tOp rEq (tOp (rIxL K) (tVar 8) (tC (.int 1))) (tC (.str (txt [45]))))) (tDrop (tBM K "list" rAppend (tVar 4) (tCons (tTup (tCons (tOp (rIxL K) (tVar 8) (tC (.int 0))) (tCons (tC .non) tNil))) tNil))) (tSeq (tDrop (tCall (spXAsk a.c_NoState) [] E (tCons (tCall spXBehind [] E0 (tCons (tVar 0) (tCons (tVar 6) (tCons (tOp (rIxL K) (tVar 8) (tC (.int 1))) tNil)))) (tCons (tVar 7) tNil))))
      (tSeq (tAsg (tOp (rIxL K) (tVar 8) (tC (.int 1))) (gName 6))
      (tDrop (tBM K "list" rAppend (tVar 4) (tCons (tTup (tCons (tOp (rIxL K) (tVar 8) (tC (.int 0))) (tCons (tOp (rIxL K) (tVar 8) (tC (.int 1))) tNil))) tNil))))))))))
      (tRet (tVar 4)))))
theorem pr_p24 (T : Tx K mg a) (G_p27 : FnOk P w K mg base CX0 1 a.f_p27 a.fd_p27 ["texts", "place"] (spXWords K)) (G_p17 : FnOk P w K mg base CX0 2 a.f_p17 a.fd_p17 ["letters", "last", "word"] spXBehind) (G_p15 : FnOk P w K mg base (CX1 P w) 3 a.f_p15 a.fd_p15 ["good", "place"] (spXAsk a.c_NoState)) (hr : Room 3 (A.deeper (envOfC "read_rows" (defScope s_p24) s.heap.objs.size f cdv))) :
    QSs (cxOf (CX1 P w) P w K mg base ["letters", "texts", "place", "many", "rows", "last_old", "last_new", "here", "words"] "read_rows" (defScope s_p24) f cdv A outer s H E) (defBody s_p24) (rd_p24 K a E) := by
  exact kss_cons (ks_nox (ks_set (i:=4) sc_p24.nd (ke_lst ka_nil)))
      (kss_cons (ks_nox (ks_set (i:=5) sc_p24.nd (ke_txt (by kernel_rfl))))
      (kss_cons (ks_nox (ks_set (i:=6) sc_p24.nd (ke_txt (by kernel_rfl))))
      (kss_cons (ks_for (ki_range2 T.n_range (ka_cons (kv 2) (ka_cons (ke_op op_add (kv 2) (kv 3)) ka_nil))) (kg_name (i:=7) sc_p24.nd) (kss_cons (ks_nox (ks_set (i:=8) sc_p24.nd (ke_call G_p27 (by exact hr.mono (by decide)) T.g_p27 T.F_p27.kp T.b_p27 pass0 (ka_cons (kv 1) (ka_cons (kv 7) ka_nil)))))
      (kss_cons (ks_expr (ke_call G_p15 (by exact hr.mono (by decide)) T.g_p15 T.F_p15.kp T.b_p15 pass_def (ka_cons (ke_and (ke_cmp op_eq (ke_callB call_len_seq T.n_len PyProof.Rows.Boot.«len» (ka_cons (kv 8) ka_nil)) ke_int) (ke_one (ke_call G_p17 (by exact hr.mono (by decide)) T.g_p17 T.F_p17.kp T.b_p17 pass0 (ka_cons (kv 0) (ka_cons (kv 5) (ka_cons (ke_ix ix_list (kv 8) ke_int) ka_nil)))))) (ka_cons (kv 7) ka_nil))))
      (kss_cons (ks_nox (ks_set (i:=5) sc_p24.nd (ke_ix ix_list (kv 8) ke_int)))
      (kss_one (ks_if (kt_cmp op_eq (ke_ix ix_list (kv 8) ke_int) (ke_txt (by kernel_rfl))) (kss_one (ks_nox (ks_expr (ke_bm PySem.F.plainAttrs_list PySem.F.slot_list_append PySem.F.type_list_append mt_append (kv 4) (ka_cons (ke_tup (ka_cons (ke_ix ix_list (kv 8) ke_int) (ka_cons ke_non ka_nil))) ka_nil))))) (kss_cons (ks_expr (ke_call G_p15 (by exact hr.mono (by decide)) T.g_p15 T.F_p15.kp T.b_p15 pass_def (ka_cons (ke_call G_p17 (by exact hr.mono (by decide)) T.g_p17 T.F_p17.kp T.b_p17 pass0 (ka_cons (kv 0) (ka_cons (kv 6) (ka_cons (ke_ix ix_list (kv 8) ke_int) ka_nil)))) (ka_cons (kv 7) ka_nil))))
      (kss_cons (ks_nox (ks_set (i:=6) sc_p24.nd (ke_ix ix_list (kv 8) ke_int)))
      (kss_one (ks_nox (ks_expr (ke_bm PySem.F.plainAttrs_list PySem.F.slot_list_append PySem.F.type_list_append mt_append (kv 4) (ka_cons (ke_tup (ka_cons (ke_ix ix_list (kv 8) ke_int) (ka_cons (ke_ix ix_list (kv 8) ke_int) ka_nil))) ka_nil)))))))))))) (hp:=by exact PassesOwn.leaving))
      (kss_one (ks_nox (ks_ret (kv 4)))))))
theorem sc_p26 : FnScope ["letters", "texts", "place", "rows", "last", "here", "words"] ["letters", "texts", "place"] (defScope s_p26) := ⟨rfl, rfl, rfl, by decide +kernel, rfl, by decide +kernel, by decide +kernel⟩
def rd_p26 (K:PySem.W.Frag) (a:Ad) (E:XK):TS:=
    tSeq (tAsg (tLst tNil) (gName 3))
      (tSeq (tAsg (tC (.str (txt []))) (gName 4))
      (tSeq (tFor (iRng2 (tCons (tVar 2) (tCons (tCB (rLenL K) (tCons (tVar 1) tNil)) tNil))) (gName 5) (tSeq (tAsg (tCall (spXWords K) [] E0 (tCons (tVar 1) (tCons (tVar 5) tNil))) (gName 6))
      (tSeq (tDrop (tCall (spXAsk a.c_NoState) [] E (tCons (tOrV (tOp rEq (tCB (rLenL K) (tCons (tVar 6) tNil)) (tC (.int 2))) (tOp (rEqLS K) (tSl (rSlL K) (tVar 6) (tPart (tC (.int 2))) tNoPart) (tLst (tCons (tC (.str (txt [116,97,107,101,110]))) tNil)))) (tCons (tVar 5) tNil))))
      (tSeq (tDrop (tCall (spXAsk a.c_NoState) [] E (tCons (tAndV (tCall spXBehind [] E0 (tCons (tVar 0) (tCons (tVar 4) (tCons (tOp (rIxL K) (tVar 6) (tC (.int 0))) tNil)))) (tCall spIsThing [] E0 (tCons (tOp (rIxL K) (tVar 6) (tC (.int 1))) tNil))) (tCons (tVar 5) tNil))))
      (tSeq (tAsg (tOp (rIxL K) (tVar 6) (tC (.int 0))) (gName 4))
      (tDrop (tBM K "list" rAppend (tVar 3) (tCons (tVar 6) tNil))))))))
      (tRet (tVar 3))))
theorem pr_p26 (T : Tx K mg a) (G_p27 : FnOk P w K mg base CX0 1 a.f_p27 a.fd_p27 ["texts", "place"] (spXWords K)) (G_p15 : FnOk P w K mg base (CX1 P w) 3 a.f_p15 a.fd_p15 ["good", "place"] (spXAsk a.c_NoState)) (G_p17 : FnOk P w K mg base CX0 2 a.f_p17 a.fd_p17 ["letters", "last", "word"] spXBehind) (G_p20 : FnOk P w K mg base CX0 1 a.f_p20 a.fd_p20 ["text"] spIsThing) (hr : Room 3 (A.deeper (envOfC "read_things" (defScope s_p26) s.heap.objs.size f cdv))) :
    QSs (cxOf (CX1 P w) P w K mg base ["letters", "texts", "place", "rows", "last", "here", "words"] "read_things" (defScope s_p26) f cdv A outer s H E) (defBody s_p26) (rd_p26 K a E) := by
  have hu:=Room.units hr
  exact kss_cons (ks_nox (ks_set (i:=3) sc_p26.nd (ke_lst ka_nil)))
      (kss_cons (ks_nox (ks_set (i:=4) sc_p26.nd (ke_txt (by kernel_rfl))))
      (kss_cons (ks_for (ki_range2 T.n_range (ka_cons (kv 2) (ka_cons (ke_callB call_len_seq T.n_len PyProof.Rows.Boot.«len» (ka_cons (kv 1) ka_nil)) ka_nil))) (kg_name (i:=5) sc_p26.nd) (kss_cons (ks_nox (ks_set (i:=6) sc_p26.nd (ke_call G_p27 (by exact hr.mono (by decide)) T.g_p27 T.F_p27.kp T.b_p27 pass0 (ka_cons (kv 1) (ka_cons (kv 5) ka_nil)))))
      (kss_cons (ks_expr (ke_call G_p15 (by exact hr.mono (by decide)) T.g_p15 T.F_p15.kp T.b_p15 pass_def (ka_cons (ke_or (ke_cmp op_eq (ke_callB call_len_seq T.n_len PyProof.Rows.Boot.«len» (ka_cons (kv 6) ka_nil)) ke_int) (ke_one (ke_cmp (op_eqLS hu) (ke_slice sl_list (kv 6) (ko_some ke_int) ko_none) (ke_lst (ka_cons (ke_txt (by kernel_rfl)) ka_nil))))) (ka_cons (kv 5) ka_nil))))
      (kss_cons (ks_expr (ke_call G_p15 (by exact hr.mono (by decide)) T.g_p15 T.F_p15.kp T.b_p15 pass_def (ka_cons (ke_and (ke_call G_p17 (by exact hr.mono (by decide)) T.g_p17 T.F_p17.kp T.b_p17 pass0 (ka_cons (kv 0) (ka_cons (kv 4) (ka_cons (ke_ix ix_list (kv 6) ke_int) ka_nil)))) (ke_one (ke_call G_p20 (by exact hr.mono (by decide)) T.g_p20 T.F_p20.kp T.b_p20 pass0 (ka_cons (ke_ix ix_list (kv 6) ke_int) ka_nil)))) (ka_cons (kv 5) ka_nil))))
      (kss_cons (ks_nox (ks_set (i:=4) sc_p26.nd (ke_ix ix_list (kv 6) ke_int)))
      (kss_one (ks_nox (ks_expr (ke_bm PySem.F.plainAttrs_list PySem.F.slot_list_append PySem.F.type_list_append mt_append (kv 3) (ka_cons (kv 6) ka_nil))))))))) (hp:=by exact PassesOwn.leaving))
      (kss_one (ks_nox (ks_ret (kv 3))))))
theorem sc_p25 : FnScope ["texts", "numbers", "renewals", "place", "step", "many", "rows", "things", "taken"] ["texts"] (defScope s_p25) := ⟨rfl, rfl, rfl, by decide +kernel, rfl, by decide +kernel, by decide +kernel⟩
def rd_p25 (K:PySem.W.Frag) (a:Ad) (E:XK):TS:=
    tSeq (tAsg (tCall (spXHead K a.c_NoState) [] E (tCons (tVar 0) tNil)) (gName 1))
      (tSeq (tAsg (tLst tNil) (gName 2))
      (tSeq (tAsg (tC (.int 1)) (gName 3))
      (tSeq (tFor (iRng1 (tCons (tOp (rIxL K) (tVar 1) (tC (.int 2))) tNil)) (gName 4) (tSeq (tAsg (tCall (spXMany K a.c_NoState) [] E (tCons (tVar 0) (tCons (tVar 3) tNil))) (gName 5))
      (tSeq (tDrop (tBM K "list" rAppend (tVar 2) (tCons (tCall (spXRows K a.c_NoState) [] E (tCons (tOp (rIxL K) (tVar 1) (tC (.int 0))) (tCons (tVar 0) (tCons (tOp rAddI (tVar 3) (tC (.int 1))) (tCons (tVar 5) tNil))))) tNil)))
      (tAsg (tOp rAddI (tOp rAddI (tVar 3) (tC (.int 1))) (tVar 5)) (gName 3)))))
      (tSeq (tAsg (tCall (spXThings K a.c_NoState) [] E (tCons (tOp (rIxL K) (tVar 1) (tC (.int 0))) (tCons (tVar 0) (tCons (tVar 3) tNil)))) (gName 6))
      (tSeq (tCompSet 7 (iList K (tVar 6)) [] tYes (tTup (tCons (tOp (rIxL K) (tVar 0) (tC (.int 0))) (tCons (tOp (rIxL K) (tVar 0) (tC (.int 1))) tNil))))
      (tSeq (tCompSet 8 (iList K (tVar 6)) [] (tTest (tOp rEq (tCB (rLenL K) (tCons (tVar 0) tNil)) (tC (.int 3)))) (tOp (rIxL K) (tVar 0) (tC (.int 0))))
      (tRet (tTup (tCons (tOp (rIxL K) (tVar 1) (tC (.int 0))) (tCons (tOp (rIxL K) (tVar 1) (tC (.int 1))) (tCons (tVar 2) (tCons (tVar 7) (tCons (tVar 8) tNil)))))))))))))
theorem pr_p25 (T : Tx K mg a) (G_p22 : FnOk P w K mg base (CX1 P w) 4 a.f_p22 a.fd_p22 ["texts"] (spXHead K a.c_NoState)) (G_p23 : FnOk P w K mg base (CX1 P w) 4 a.f_p23 a.fd_p23 ["texts", "place"] (spXMany K a.c_NoState)) (G_p24 : FnOk P w K mg base (CX1 P w) 4 a.f_p24 a.fd_p24 ["letters", "texts", "place", "many"] (spXRows K a.c_NoState)) (G_p26 : FnOk P w K mg base (CX1 P w) 4 a.f_p26 a.fd_p26 ["letters", "texts", "place"] (spXThings K a.c_NoState)) (hr : Room 4 (A.deeper (envOfC "read_state" (defScope s_p25) s.heap.objs.size f cdv))) :
    QSs (cxOf (CX1 P w) P w K mg base ["texts", "numbers", "renewals", "place", "step", "many", "rows", "things", "taken"] "read_state" (defScope s_p25) f cdv A outer s H E) (defBody s_p25) (rd_p25 K a E) := by
  exact kss_cons (ks_set (i:=1) sc_p25.nd (ke_call G_p22 (by exact hr.mono (by decide)) T.g_p22 T.F_p22.kp T.b_p22 pass_def (ka_cons (kv 0) ka_nil)))
      (kss_cons (ks_nox (ks_set (i:=2) sc_p25.nd (ke_lst ka_nil)))
      (kss_cons (ks_nox (ks_set (i:=3) sc_p25.nd ke_int))
      (kss_cons (ks_for (ki_range1 T.n_range (ka_cons (ke_ix ix_list (kv 1) ke_int) ka_nil)) (kg_name (i:=4) sc_p25.nd) (kss_cons (ks_set (i:=5) sc_p25.nd (ke_call G_p23 (by exact hr.mono (by decide)) T.g_p23 T.F_p23.kp T.b_p23 pass_def (ka_cons (kv 0) (ka_cons (kv 3) ka_nil))))
      (kss_cons (ks_expr (ke_bm PySem.F.plainAttrs_list PySem.F.slot_list_append PySem.F.type_list_append mt_append (kv 2) (ka_cons (ke_call G_p24 (by exact hr.mono (by decide)) T.g_p24 T.F_p24.kp T.b_p24 pass_def (ka_cons (ke_ix ix_list (kv 1) ke_int) (ka_cons (kv 0) (ka_cons (ke_op op_add (kv 3) ke_int) (ka_cons (kv 5) ka_nil))))) ka_nil)))
      (kss_one (ks_nox (ks_set (i:=3) sc_p25.nd (ke_op op_add (ke_op op_add (kv 3) ke_int) (kv 5))))))) (hp:=by exact PassesOwn.leaving))
      (kss_cons (ks_set (i:=6) sc_p25.nd (ke_call G_p26 (by exact hr.mono (by decide)) T.g_p26 T.F_p26.kp T.b_p26 pass_def (ka_cons (ke_ix ix_list (kv 1) ke_int) (ka_cons (kv 0) (ka_cons (kv 3) ka_nil)))))
      (kss_cons (ks_nox (ks_comp (i:=7) [] sc_p25.nd (ki_list (kv 6)) (fun _ _ _ _ _=>⟨kts_nil,ke_tup (ka_cons (ke_ix ix_list (kv 0) ke_int) (ka_cons (ke_ix ix_list (kv 0) ke_int) ka_nil))⟩)))
      (kss_cons (ks_nox (ks_comp (i:=8) [] sc_p25.nd (ki_list (kv 6)) (fun _ _ _ _ _=>⟨kts_one (kt_cmp op_eq (ke_callB call_len_seq T.n_len PyProof.Rows.Boot.«len» (ka_cons (kv 0) ka_nil)) ke_int),ke_ix ix_list (kv 0) ke_int⟩)))
      (kss_one (ks_nox (ks_ret (ke_tup (ka_cons (ke_ix ix_list (kv 1) ke_int) (ka_cons (ke_ix ix_list (kv 1) ke_int) (ka_cons (kv 2) (ka_cons (kv 7) (ka_cons (kv 8) ka_nil)))))))))))))))
theorem sc_draw : FnScope ["_law_script", "_law_k", "_law_many", "_law_cell", "_law_seed"] ["_law_script", "_law_k", "_law_many"] (defScope s_draw) := ⟨rfl, rfl, rfl, by decide +kernel, rfl, by decide +kernel, by decide +kernel⟩
def rd_draw (K:PySem.W.Frag) (a:Ad):TS:=
    rdDraw K
theorem pr_draw (T:Tx K mg a) (hr:Room 0 (A.deeper (envOfC "_law_draw" (defScope s_draw) s.heap.objs.size f cdv))) :
    QSs (cxOf CX0 P w K mg base ["_law_script", "_law_k", "_law_many", "_law_cell", "_law_seed"] "_law_draw" (defScope s_draw) f cdv A outer s H E).nox (defBody s_draw) (rd_draw K a) := by
  delta rd_draw rdDraw
  exact kss_cons (ks_set (i:=3) sc_draw.nd (ke_ifExp (kt_cmp op_gt (ke_callB call_len_seq T.n_len PyProof.Rows.Boot.«len» (ka_cons (kv 0) ka_nil)) ke_int) (ke_ix ix_list (kv 0) (ke_op op_mod (kv 1) (ke_callB call_len_seq T.n_len PyProof.Rows.Boot.«len» (ka_cons (kv 0) ka_nil)))) ke_int))
      (kss_cons (ks_if (kt_w (kw_and (kt_cmp op_gt (ke_callB call_len_seq T.n_len PyProof.Rows.Boot.«len» (ka_cons (kv 0) ka_nil)) ke_int) (kw_and1 (kt_cmp op_eq (ke_op op_mod (ke_ix ix_list (kv 0) ke_int) ke_int) ke_int)))) (kss_one (ks_ret (ke_op op_mod (ke_op op_mod (ke_op op_shr (kv 3) (ke_op op_add (ke_op op_mulB ke_int (ke_op op_fdiv (kv 1) (ke_callB call_len_seq T.n_len PyProof.Rows.Boot.«len» (ka_cons (kv 0) ka_nil)))) ke_int)) ke_int) (kv 2)))) (kss_nil))
      (kss_cons (ks_set (i:=4) sc_draw.nd (ke_op op_add (ke_op op_add (ke_op op_mod (kv 3) ke_int) (ke_op op_mulB (ke_op op_mulB ke_int (kv 1)) (kv 1))) ke_int))
      (kss_one (ks_ret (ke_op op_mod (ke_op op_mod (ke_op op_mulB (ke_op op_mod (ke_op op_mulB (kv 4) ke_int) ke_int) ke_int) ke_int) (kv 2))))))
theorem sc_size : FnScope ["_law_script", "_law_letters", "_law_hands"] ["_law_script"] (defScope s_size) := ⟨rfl, rfl, rfl, by decide +kernel, rfl, by decide +kernel, by decide +kernel⟩
def rd_size (K:PySem.W.Frag) (a:Ad):TS:=
    tSeq (tAsg (tOp (rIxL K) (tLst (tCons (tC (.int 2)) (tCons (tC (.int 3)) (tCons (tC (.int 4)) (tCons (tC (.int 5)) (tCons (tC (.int 10)) (tCons (tC (.int 26)) tNil))))))) (tCall (spDraw K) [] E0 (tCons (tVar 0) (tCons (tC (.int 0)) (tCons (tC (.int 6)) tNil))))) (gName 1))
      (tSeq (tAsg (tOp rAddI (tC (.int 1)) (tCall (spDraw K) [] E0 (tCons (tVar 0) (tCons (tC (.int 1)) (tCons (tCB rMin2 (tCons (tC (.int 4)) (tCons (tOp rSubI (tVar 1) (tC (.int 1))) tNil))) tNil))))) (gName 2))
      (tRet (tTup (tCons (tVar 1) (tCons (tIf (tTest (tOp rEq (tCall (spDraw K) [] E0 (tCons (tVar 0) (tCons (tC (.int 2)) (tCons (tC (.int 8)) tNil)))) (tC (.int 0)))) (tOp rSubI (tVar 1) (tC (.int 1))) (tVar 2)) tNil)))))
theorem pr_size (T : Tx K mg a) (G_draw : FnOk P w K mg base CX0 1 a.f_draw a.fd_draw ["_law_script", "_law_k", "_law_many"] (spDraw K)) (hr : Room 1 (A.deeper (envOfC "_law_size" (defScope s_size) s.heap.objs.size f cdv))) :
    QSs (cxOf CX0 P w K mg base ["_law_script", "_law_letters", "_law_hands"] "_law_size" (defScope s_size) f cdv A outer s H E).nox (defBody s_size) (rd_size K a) := by
  exact kss_cons (ks_set (i:=1) sc_size.nd (ke_ix ix_list (ke_lst (ka_cons ke_int (ka_cons ke_int (ka_cons ke_int (ka_cons ke_int (ka_cons ke_int (ka_cons ke_int ka_nil))))))) (ke_call G_draw (by exact hr.mono (by decide)) T.g_draw T.F_draw.kp T.b_draw pass0 (ka_cons (kv 0) (ka_cons ke_int (ka_cons ke_int ka_nil))))))
      (kss_cons (ks_set (i:=2) sc_size.nd (ke_op op_add ke_int (ke_call G_draw (by exact hr.mono (by decide)) T.g_draw T.F_draw.kp T.b_draw pass0 (ka_cons (kv 0) (ka_cons ke_int (ka_cons (ke_callB (call_min2 (by kernel_rfl)) T.n_min PyProof.Rows.Boot.«min» (ka_cons ke_int (ka_cons (ke_op op_sub (kv 1) ke_int) ka_nil))) ka_nil))))))
      (kss_one (ks_ret (ke_tup (ka_cons (kv 1) (ka_cons (ke_ifExp (kt_cmp op_eq (ke_call G_draw (by exact hr.mono (by decide)) T.g_draw T.F_draw.kp T.b_draw pass0 (ka_cons (kv 0) (ka_cons ke_int (ka_cons ke_int ka_nil)))) ke_int) (ke_op op_sub (kv 1) ke_int) (kv 2)) ka_nil))))))
theorem sc_thing : FnScope ["_law_script", "_law_k", "_law_some"] ["_law_script", "_law_k"] (defScope s_thing) := ⟨rfl, rfl, rfl, by decide +kernel, rfl, by decide +kernel, by decide +kernel⟩
def rd_thing (K:PySem.W.Frag) (a:Ad):TS:=
    rdHThing K
theorem pr_thing (T : Tx K mg a) (G_draw : FnOk P w K mg base CX0 1 a.f_draw a.fd_draw ["_law_script", "_law_k", "_law_many"] (spDraw K)) (hr : Room 1 (A.deeper (envOfC "_law_thing" (defScope s_thing) s.heap.objs.size f cdv))) :
    QSs (cxOf CX0 P w K mg base ["_law_script", "_law_k", "_law_some"] "_law_thing" (defScope s_thing) f cdv A outer s H E).nox (defBody s_thing) (rd_thing K a) := by
  delta rd_thing rdHThing
  exact kss_cons (ks_set (i:=2) sc_thing.nd (ke_lst (ka_cons (ke_txt (by kernel_rfl)) (ka_cons (ke_txt (by kernel_rfl)) (ka_cons (ke_txt (by kernel_rfl)) (ka_cons (ke_txt (by kernel_rfl)) (ka_cons (ke_txt (by kernel_rfl)) (ka_cons (ke_txt (by kernel_rfl)) (ka_cons (ke_txt (by kernel_rfl)) (ka_cons (ke_txt (by kernel_rfl)) ka_nil))))))))))
      (kss_one (ks_ret (ke_ix ix_list (kv 2) (ke_call G_draw (by exact hr.mono (by decide)) T.g_draw T.F_draw.kp T.b_draw pass0 (ka_cons (kv 0) (ka_cons (kv 1) (ka_cons ke_int ka_nil)))))))
theorem sc_marks : FnScope ["_law_script", "_law_k", "_law_letters", "_law_many", "_law_signs", "_law_marks_here", "_law_n", "_law_size_here", "_law_text"] ["_law_script", "_law_k", "_law_letters", "_law_many"] (defScope s_marks) := ⟨rfl, rfl, rfl, by decide +kernel, rfl, by decide +kernel, by decide +kernel⟩
def rd_marks (K:PySem.W.Frag) (a:Ad):TS:=
    tSeq (tAsg (tSl rSlS (tC (.str (txt ABC))) tNoPart (tPart (tVar 2))) (gName 4))
      (tSeq (tAsg (tLst tNil) (gName 5))
      (tSeq (tFor (iRng1 (tCons (tVar 3) tNil)) (gName 6) (tSeq (tAsg (tCall (spDraw K) [] E0 (tCons (tVar 0) (tCons (tOp rAddI (tOp rAddI (tVar 1) (tOp rMulI (tC (.int 7)) (tVar 6))) (tC (.int 5))) (tCons (tC (.int 4)) tNil)))) (gName 7))
      (tSeq (tAsg (tBM K "str" (rJoin K) (tC (.str (txt []))) (tCons (tComp (iRng1 (tCons (tVar 7) tNil)) [4,0,2,1,6] tYes (tOp rIxStr (tVar 1) (tCall (spDraw K) [] E0 (tCons (tVar 2) (tCons (tOp rAddI (tOp rAddI (tVar 4) (tOp rMulI (tC (.int 7)) (tVar 5))) (tVar 0)) (tCons (tVar 3) tNil)))))) tNil)) (gName 8))
      (tSeq (tAsg (tOp rAddS (tVar 8) (tOp rIxStr (tVar 4) (tOp rAddI (tC (.int 1)) (tCall (spDraw K) [] E0 (tCons (tVar 0) (tCons (tOp rAddI (tOp rAddI (tVar 1) (tOp rMulI (tC (.int 7)) (tVar 6))) (tC (.int 6))) (tCons (tOp rSubI (tVar 2) (tC (.int 1))) tNil))))))) (gName 8))
      (tIfS (tTest (tOp (rIn K true) (tVar 8) (tVar 5))) (tDrop (tBM K "list" rAppend (tVar 5) (tCons (tVar 8) tNil))) (tNext))))))
      (tRet (tCB (rSortedS K) (tCons (tVar 5) tNil)))))
theorem pr_marks (T : Tx K mg a) (G_draw : FnOk P w K mg base CX0 1 a.f_draw a.fd_draw ["_law_script", "_law_k", "_law_many"] (spDraw K)) (hr : Room 1 (A.deeper (envOfC "_law_marks" (defScope s_marks) s.heap.objs.size f cdv))) :
    QSs (cxOf CX0 P w K mg base ["_law_script", "_law_k", "_law_letters", "_law_many", "_law_signs", "_law_marks_here", "_law_n", "_law_size_here", "_law_text"] "_law_marks" (defScope s_marks) f cdv A outer s H E).nox (defBody s_marks) (rd_marks K a) := by
  exact kss_cons (ks_setc (i:=4) sc_marks.nd (ke_slice sl_str (ke_txt small_eq) ko_none (ko_some (kvc 2))))
      (kss_cons (ks_set (i:=5) sc_marks.nd (ke_lst ka_nil))
      (kss_cons (ks_for (ki_range1 T.n_range (ka_cons (kv 3) ka_nil)) (kg_namec (i:=6) sc_marks.nd) (kss_cons (ks_set (i:=7) sc_marks.nd (ke_call G_draw (by exact hr.mono (by decide)) T.g_draw T.F_draw.kp T.b_draw pass0 (ka_cons (kvc 0) (ka_cons (ke_op op_add (ke_op op_add (kvc 1) (ke_op op_mulB ke_int (kvc 6))) ke_int) (ka_cons ke_int ka_nil)))))
      (kss_cons (ks_set (i := 8) sc_marks.nd (ke_bm PySem.F.plainAttrs_str PySem.F.slot_str_join PySem.F.type_str_join mt_join (ke_txt (by kernel_rfl)) (ka_cons (ke_comp [("_law_signs", 4), ("_law_script", 0), ("_law_letters", 2), ("_law_k", 1), ("_law_n", 6)] (ki_range1 T.n_range (ka_cons (kv 7) ka_nil)) (fun _ _ _ _ _ => ⟨kts_nil, ke_ix ix_strL (kvc 1) (ke_call G_draw (by exact hr.mono (by decide)) T.g_draw T.F_draw.kp T.b_draw pass0 (ka_cons (kvc 2) (ka_cons (ke_op op_add (ke_op op_add (kvc 4) (ke_op op_mulB ke_int (kvc 5))) (kv 0)) (ka_cons (kvc 3) ka_nil))))⟩)) ka_nil)))
      (kss_cons (ks_set (i:=8) sc_marks.nd (ke_op op_addS (kv 8) (ke_ix ix_strL (kvc 4) (ke_op op_add ke_int (ke_call G_draw (by exact hr.mono (by decide)) T.g_draw T.F_draw.kp T.b_draw pass0 (ka_cons (kvc 0) (ka_cons (ke_op op_add (ke_op op_add (kvc 1) (ke_op op_mulB ke_int (kvc 6))) ke_int) (ka_cons (ke_op op_sub (kvc 2) ke_int) ka_nil))))))))
      (kss_one (ks_if (kt_cmp op_notIn_seq (kv 8) (kv 5)) (kss_one (ks_expr (ke_bm PySem.F.plainAttrs_list PySem.F.slot_list_append PySem.F.type_list_append mt_append (kv 5) (ka_cons (kv 8) ka_nil)))) (kss_nil)))))))
      (kss_one (ks_ret (ke_callB call_sortedS T.n_sorted PyProof.Rows.Boot.«sorted» (ka_cons (kv 5) ka_nil))))))
theorem sc_made : FnScope ["_law_script", "_law_size_here", "_law_many", "_law_texts", "_law_k", "_law_olds", "_law_news", "_law_n", "_law_fresh", "_law_mark", "_law_words"] ["_law_script", "_law_size_here"] (defScope s_made) := ⟨rfl, rfl, rfl, by decide +kernel, rfl, by decide +kernel, by decide +kernel⟩
def rd_made (K:PySem.W.Frag) (a:Ad):TS:=
    tSeq (tAsg (tCall (spDraw K) [] E0 (tCons (tVar 0) (tCons (tC (.int 3)) (tCons (tC (.int 3)) tNil)))) (gName 2))
      (tSeq (tAsg (tLst (tCons (tBM K "str" (rJoin K) (tC (.str (txt [32]))) (tCons (tLst (tCons (tCB rStrI (tCons (tOp (rIxT K) (tVar 1) (tC (.int 0))) tNil)) (tCons (tCB rStrI (tCons (tOp (rIxT K) (tVar 1) (tC (.int 1))) tNil)) (tCons (tCB rStrI (tCons (tVar 2) tNil)) tNil)))) tNil)) tNil)) (gName 3))
      (tSeq (tFor (iRng1 (tCons (tVar 2) tNil)) (gName 4) (tSeq (tAsg (tCall (spTMarks K) [] E0 (tCons (tVar 0) (tCons (tOp rAddI (tC (.int 300)) (tOp rMulI (tC (.int 100)) (tVar 4))) (tCons (tOp (rIxT K) (tVar 1) (tC (.int 0))) (tCons (tCall (spDraw K) [] E0 (tCons (tVar 0) (tCons (tOp rAddI (tC (.int 290)) (tVar 4)) (tCons (tC (.int 4)) tNil)))) tNil))))) (gName 5))
      (tSeq (tAsg (tCall (spTMarks K) [] E0 (tCons (tVar 0) (tCons (tOp rAddI (tC (.int 350)) (tOp rMulI (tC (.int 100)) (tVar 4))) (tCons (tOp (rIxT K) (tVar 1) (tC (.int 0))) (tCons (tCB (rLenL K) (tCons (tVar 5) tNil)) tNil))))) (gName 6))
      (tSeq (tDrop (tBM K "list" rAppend (tVar 3) (tCons (tOp rAddS (tC (.str (txt [114,101,110,101,119,97,108,32]))) (tCB rStrI (tCons (tCB (rLenL K) (tCons (tVar 5) tNil)) tNil))) tNil)))
      (tFor (iRng1 (tCons (tCB (rLenL K) (tCons (tVar 5) tNil)) tNil)) (gName 7) (tSeq (tAsg (tC (.str (txt [45]))) (gName 8))
      (tSeq (tIfS (tAnd (tTest (tOp rLtI (tVar 7) (tCB (rLenL K) (tCons (tVar 6) tNil)))) (tTest (tOp rGtI (tCall (spDraw K) [] E0 (tCons (tVar 0) (tCons (tOp rAddI (tOp rAddI (tC (.int 380)) (tOp rMulI (tC (.int 100)) (tVar 4))) (tVar 7)) (tCons (tC (.int 4)) tNil)))) (tC (.int 0))))) (tAsg (tOp (rIxL K) (tVar 6) (tVar 7)) (gName 8)) (tNext))
      (tDrop (tBM K "list" rAppend (tVar 3) (tCons (tOp rAddS (tOp rAddS (tOp (rIxL K) (tVar 5) (tVar 7)) (tC (.str (txt [32])))) (tVar 8)) tNil))))))))))
      (tSeq (tFor (iList K (tCall (spTMarks K) [] E0 (tCons (tVar 0) (tCons (tC (.int 700)) (tCons (tOp (rIxT K) (tVar 1) (tC (.int 0))) (tCons (tCall (spDraw K) [] E0 (tCons (tVar 0) (tCons (tC (.int 4)) (tCons (tC (.int 5)) tNil)))) tNil)))))) (gName 9) (tSeq (tAsg (tLst (tCons (tVar 9) (tCons (tCall (spHThing K) [] E0 (tCons (tVar 0) (tCons (tOp rAddI (tC (.int 800)) (tCB (rLenL K) (tCons (tVar 3) tNil))) tNil))) tNil))) (gName 10))
      (tDrop (tBM K "list" rAppend (tVar 3) (tCons (tBM K "str" (rJoin K) (tC (.str (txt [32]))) (tCons (tOp rCat (tVar 10) (tOp rRep (tLst (tCons (tC (.str (txt [116,97,107,101,110]))) tNil)) (tCall (spDraw K) [] E0 (tCons (tVar 0) (tCons (tOp rAddI (tC (.int 900)) (tCB (rLenL K) (tCons (tVar 3) tNil))) (tCons (tC (.int 2)) tNil)))))) tNil)) tNil)))))
      (tRet (tVar 3)))))
theorem pr_made (T : Tx K mg a) (G_draw : FnOk P w K mg base CX0 1 a.f_draw a.fd_draw ["_law_script", "_law_k", "_law_many"] (spDraw K)) (G_marks : FnOk P w K mg base CX0 2 a.f_marks a.fd_marks ["_law_script", "_law_k", "_law_letters", "_law_many"] (spTMarks K)) (G_thing : FnOk P w K mg base CX0 2 a.f_thing a.fd_thing ["_law_script", "_law_k"] (spHThing K)) (hr : Room 2 (A.deeper (envOfC "_law_made" (defScope s_made) s.heap.objs.size f cdv))) :
    QSs (cxOf CX0 P w K mg base ["_law_script", "_law_size_here", "_law_many", "_law_texts", "_law_k", "_law_olds", "_law_news", "_law_n", "_law_fresh", "_law_mark", "_law_words"] "_law_made" (defScope s_made) f cdv A outer s H E).nox (defBody s_made) (rd_made K a) := by
  exact kss_cons (ks_set (i:=2) sc_made.nd (ke_call G_draw (by exact hr.mono (by decide)) T.g_draw T.F_draw.kp T.b_draw pass0 (ka_cons (kv 0) (ka_cons ke_int (ka_cons ke_int ka_nil)))))
      (kss_cons (ks_set (i:=3) sc_made.nd (ke_lst (ka_cons (ke_bm PySem.F.plainAttrs_str PySem.F.slot_str_join PySem.F.type_str_join mt_join (ke_txt (by kernel_rfl)) (ka_cons (ke_lst (ka_cons (ke_callTy call_str_int T.n_str PyProof.Rows.Boot.«str» (ka_cons (ke_ix ix_tup (kv 1) ke_int) ka_nil)) (ka_cons (ke_callTy call_str_int T.n_str PyProof.Rows.Boot.«str» (ka_cons (ke_ix ix_tup (kv 1) ke_int) ka_nil)) (ka_cons (ke_callTy call_str_int T.n_str PyProof.Rows.Boot.«str» (ka_cons (kv 2) ka_nil)) ka_nil)))) ka_nil)) ka_nil)))
      (kss_cons (ks_for (ki_range1 T.n_range (ka_cons (kv 2) ka_nil)) (kg_name (i:=4) sc_made.nd) (kss_cons (ks_set (i:=5) sc_made.nd (ke_call G_marks (by exact hr.mono (by decide)) T.g_marks T.F_marks.kp T.b_marks pass0 (ka_cons (kv 0) (ka_cons (ke_op op_add ke_int (ke_op op_mulB ke_int (kv 4))) (ka_cons (ke_ix ix_tup (kv 1) ke_int) (ka_cons (ke_call G_draw (by exact hr.mono (by decide)) T.g_draw T.F_draw.kp T.b_draw pass0 (ka_cons (kv 0) (ka_cons (ke_op op_add ke_int (kv 4)) (ka_cons ke_int ka_nil)))) ka_nil))))))
      (kss_cons (ks_set (i:=6) sc_made.nd (ke_call G_marks (by exact hr.mono (by decide)) T.g_marks T.F_marks.kp T.b_marks pass0 (ka_cons (kv 0) (ka_cons (ke_op op_add ke_int (ke_op op_mulB ke_int (kv 4))) (ka_cons (ke_ix ix_tup (kv 1) ke_int) (ka_cons (ke_callB call_len_seq T.n_len PyProof.Rows.Boot.«len» (ka_cons (kv 5) ka_nil)) ka_nil))))))
      (kss_cons (ks_expr (ke_bm PySem.F.plainAttrs_list PySem.F.slot_list_append PySem.F.type_list_append mt_append (kv 3) (ka_cons (ke_op op_addS (ke_txt (by kernel_rfl)) (ke_callTy call_str_int T.n_str PyProof.Rows.Boot.«str» (ka_cons (ke_callB call_len_seq T.n_len PyProof.Rows.Boot.«len» (ka_cons (kv 5) ka_nil)) ka_nil))) ka_nil)))
      (kss_one (ks_for (ki_range1 T.n_range (ka_cons (ke_callB call_len_seq T.n_len PyProof.Rows.Boot.«len» (ka_cons (kv 5) ka_nil)) ka_nil)) (kg_name (i:=7) sc_made.nd) (kss_cons (ks_set (i:=8) sc_made.nd (ke_txt (by kernel_rfl)))
      (kss_cons (ks_if (kt_w (kw_and (kt_cmp op_lt (kv 7) (ke_callB call_len_seq T.n_len PyProof.Rows.Boot.«len» (ka_cons (kv 6) ka_nil))) (kw_and1 (kt_cmp op_gt (ke_call G_draw (by exact hr.mono (by decide)) T.g_draw T.F_draw.kp T.b_draw pass0 (ka_cons (kv 0) (ka_cons (ke_op op_add (ke_op op_add ke_int (ke_op op_mulB ke_int (kv 4))) (kv 7)) (ka_cons ke_int ka_nil)))) ke_int)))) (kss_one (ks_set (i:=8) sc_made.nd (ke_ix ix_list (kv 6) (kv 7)))) (kss_nil))
      (kss_one (ks_expr (ke_bm PySem.F.plainAttrs_list PySem.F.slot_list_append PySem.F.type_list_append mt_append (kv 3) (ka_cons (ke_op op_addS (ke_op op_addS (ke_ix ix_list (kv 5) (kv 7)) (ke_txt (by kernel_rfl))) (kv 8)) ka_nil))))))))))))
      (kss_cons (ks_for (ki_list (ke_call G_marks (by exact hr.mono (by decide)) T.g_marks T.F_marks.kp T.b_marks pass0 (ka_cons (kv 0) (ka_cons ke_int (ka_cons (ke_ix ix_tup (kv 1) ke_int) (ka_cons (ke_call G_draw (by exact hr.mono (by decide)) T.g_draw T.F_draw.kp T.b_draw pass0 (ka_cons (kv 0) (ka_cons ke_int (ka_cons ke_int ka_nil)))) ka_nil)))))) (kg_name (i:=9) sc_made.nd) (kss_cons (ks_set (i:=10) sc_made.nd (ke_lst (ka_cons (kv 9) (ka_cons (ke_call G_thing (by exact hr.mono (by decide)) T.g_thing T.F_thing.kp T.b_thing pass0 (ka_cons (kv 0) (ka_cons (ke_op op_add ke_int (ke_callB call_len_seq T.n_len PyProof.Rows.Boot.«len» (ka_cons (kv 3) ka_nil))) ka_nil))) ka_nil))))
      (kss_one (ks_expr (ke_bm PySem.F.plainAttrs_list PySem.F.slot_list_append PySem.F.type_list_append mt_append (kv 3) (ka_cons (ke_bm PySem.F.plainAttrs_str PySem.F.slot_str_join PySem.F.type_str_join mt_join (ke_txt (by kernel_rfl)) (ka_cons (ke_op op_cat (kv 10) (ke_op op_rep (ke_lst (ka_cons (ke_txt (by kernel_rfl)) ka_nil)) (ke_call G_draw (by exact hr.mono (by decide)) T.g_draw T.F_draw.kp T.b_draw pass0 (ka_cons (kv 0) (ka_cons (ke_op op_add ke_int (ke_callB call_len_seq T.n_len PyProof.Rows.Boot.«len» (ka_cons (kv 3) ka_nil))) (ka_cons ke_int ka_nil)))))) ka_nil)) ka_nil))))))
      (kss_one (ks_ret (kv 3))))))
theorem sc_spoiled : FnScope ["_law_script", "_law_k", "_law_texts", "_law_some", "_law_at", "_law_way", "_law_text", "_law_place", "_law_sign", "_law_odd", "_law_other", "_law_words"] ["_law_script", "_law_k", "_law_texts"] (defScope s_spoiled) := ⟨rfl, rfl, rfl, by decide +kernel, rfl, by decide +kernel, by decide +kernel⟩
def rd_spoiled (K:PySem.W.Frag) (a:Ad):TS:=
    tSeq (tAsg (tCB (rListOf K) (tCons (tVar 2) tNil)) (gName 3))
      (tSeq (tAsg (tCall (spDraw K) [] E0 (tCons (tVar 0) (tCons (tVar 1) (tCons (tCB (rLenL K) (tCons (tVar 3) tNil)) tNil)))) (gName 4))
      (tSeq (tAsg (tCall (spDraw K) [] E0 (tCons (tVar 0) (tCons (tOp rAddI (tVar 1) (tC (.int 1))) (tCons (tC (.int 9)) tNil)))) (gName 5))
      (tSeq (tAsg (tOp (rIxL K) (tVar 3) (tVar 4)) (gName 6))
      (tSeq (tAsg (tCall (spDraw K) [] E0 (tCons (tVar 0) (tCons (tOp rAddI (tVar 1) (tC (.int 2))) (tCons (tOp rAddI (tCB rLenS (tCons (tVar 6) tNil)) (tC (.int 1))) tNil)))) (gName 7))
      (tSeq (tAsg (tOp rIxStr (tC (.str (txt [97,98,48,49,32,45,122,116,10]))) (tCall (spDraw K) [] E0 (tCons (tVar 0) (tCons (tOp rAddI (tVar 1) (tC (.int 3))) (tCons (tC (.int 9)) tNil))))) (gName 8))
      (tSeq (tIfS (tTest (tOp rEq (tVar 5) (tC (.int 0)))) (tSeq (tAsg (tLst (tCons (tC (.str (txt []))) (tCons (tC (.str (txt [114,101,110,101,119,97,108,32,48]))) (tCons (tC (.str (txt [114,101,110,101,119,97,108,32,49]))) (tCons (tC (.str (txt [98,32,98]))) (tCons (tC (.str (txt [98,32,45]))) (tCons (tC (.str (txt [98,32,98,32,116,97,107,101,110]))) (tCons (tC (.str (txt [122,122,32,97]))) (tCons (tC (.str (txt [98,32,116,97,107,101,110,32,116,97,107,101,110]))) (tCons (tC (.str (txt [50,32,49,32,48]))) tNil)))))))))) (gName 9))
      (tDrop (tBM K "list" rInsert (tVar 3) (tCons (tOp rAddI (tVar 4) (tCall (spDraw K) [] E0 (tCons (tVar 0) (tCons (tOp rAddI (tVar 1) (tC (.int 4))) (tCons (tC (.int 2)) tNil))))) (tCons (tOp (rIxL K) (tVar 9) (tCall (spDraw K) [] E0 (tCons (tVar 0) (tCons (tOp rAddI (tVar 1) (tC (.int 5))) (tCons (tC (.int 9)) tNil))))) tNil))))) (tNext))
      (tSeq (tIfS (tTest (tOp rEq (tVar 5) (tC (.int 1)))) (tDrop (tBM K "list" rInsert (tVar 3) (tCons (tVar 4) (tCons (tVar 6) tNil)))) (tNext))
      (tSeq (tIfS (tTest (tOp rEq (tVar 5) (tC (.int 2)))) (tDrop (tBM K "list" rPopAt (tVar 3) (tCons (tVar 4) tNil))) (tNext))
      (tSeq (tIfS (tTest (tOp rEq (tVar 5) (tC (.int 3)))) (tSeq (tAsg (tCall (spDraw K) [] E0 (tCons (tVar 0) (tCons (tOp rAddI (tVar 1) (tC (.int 4))) (tCons (tCB (rLenL K) (tCons (tVar 3) tNil)) tNil)))) (gName 10))
      (tSeq (tAsg (tOp (rIxL K) (tVar 3) (tVar 10)) (gSub (tVar 3) (tVar 4) rSetL))
      (tAsg (tVar 6) (gSub (tVar 3) (tVar 10) rSetL)))) (tNext))
      (tSeq (tIfS (tTest (tOp rEq (tVar 5) (tC (.int 4)))) (tAsg (tOp rAddS (tOp rAddS (tSl rSlS (tVar 6) tNoPart (tPart (tVar 7))) (tVar 8)) (tSl rSlS (tVar 6) (tPart (tVar 7)) tNoPart)) (gSub (tVar 3) (tVar 4) rSetL)) (tNext))
      (tSeq (tIfS (tTest (tOp rEq (tVar 5) (tC (.int 5)))) (tAsg (tOp rAddS (tSl rSlS (tVar 6) tNoPart (tPart (tVar 7))) (tSl rSlS (tVar 6) (tPart (tOp rAddI (tVar 7) (tC (.int 1)))) tNoPart)) (gSub (tVar 3) (tVar 4) rSetL)) (tNext))
      (tSeq (tIfS (tTest (tOp rEq (tVar 5) (tC (.int 6)))) (tAsg (tOp rAddS (tOp rAddS (tSl rSlS (tVar 6) tNoPart (tPart (tVar 7))) (tVar 8)) (tSl rSlS (tVar 6) (tPart (tOp rAddI (tVar 7) (tC (.int 1)))) tNoPart)) (gSub (tVar 3) (tVar 4) rSetL)) (tNext))
      (tSeq (tIfS (tAnd (tTest (tOp rEq (tVar 5) (tC (.int 7)))) (tTest (tOp rEq (tCall (spDraw K) [] E0 (tCons (tVar 0) (tCons (tOp rAddI (tVar 1) (tC (.int 6))) (tCons (tC (.int 4)) tNil)))) (tC (.int 0))))) (tSeq (tAsg (tBM K "str" rSplit (tOp (rIxL K) (tVar 3) (tC (.int 0))) (tCons (tC (.str (txt [32]))) tNil)) (gName 11))
      (tAsg (tBM K "str" (rJoin K) (tC (.str (txt [32]))) (tCons (tOp rCat (tSl (rSlL K) (tVar 11) tNoPart (tPart (tC (.int 2)))) (tLst (tCons (tOp (rIxL K) (tLst (tCons (tC (.str (txt [49, 48, 48, 48]))) (tCons (tC (.str (txt [49, 48, 48, 49]))) (tCons (tC (.str (txt [51]))) tNil)))) (tCall (spDraw K) [] E0 (tCons (tVar 0) (tCons (tOp rAddI (tVar 1) (tC (.int 7))) (tCons (tC (.int 3)) tNil))))) tNil))) tNil)) (gSub (tVar 3) (tC (.int 0)) rSetL))) (tIfS (tTest (tOp rGtI (tVar 5) (tC (.int 6)))) (tSeq (tAsg (tBM K "str" rSplit (tVar 6) (tCons (tC (.str (txt [32]))) tNil)) (gName 11))
      (tSeq (tAsg (tLst (tCons (tC (.str (txt []))) (tCons (tC (.str (txt [48]))) (tCons (tC (.str (txt [49]))) (tCons (tC (.str (txt [50]))) (tCons (tC (.str (txt [50,55]))) (tCons (tC (.str (txt [49,48,48,49]))) (tCons (tC (.str (txt [48,48]))) (tCons (tC (.str (txt [48,49]))) (tCons (tC (.str (txt [97]))) (tCons (tC (.str (txt [98,97]))) (tCons (tC (.str (txt [45]))) (tCons (tC (.str (txt [116,97,107,101,110]))) (tCons (tC (.str (txt [97,98,99,100,101,102,103,104,105,106,107,108,109]))) (tCons (tC (.str (txt [65]))) (tCons (tC (.str (txt [57,57,57,57,57]))) (tCons (tC (.str (txt [98]))) tNil))))))))))))))))) (gName 9))
      (tSeq (tAsg (tOp (rIxL K) (tVar 9) (tCall (spDraw K) [] E0 (tCons (tVar 0) (tCons (tOp rAddI (tVar 1) (tC (.int 5))) (tCons (tC (.int 16)) tNil))))) (gSub (tVar 11) (tCall (spDraw K) [] E0 (tCons (tVar 0) (tCons (tOp rAddI (tVar 1) (tC (.int 4))) (tCons (tCB (rLenL K) (tCons (tVar 11) tNil)) tNil)))) rSetL))
      (tAsg (tBM K "str" (rJoin K) (tC (.str (txt [32]))) (tCons (tOp rCat (tVar 11) (tOp rRep (tLst (tCons (tC (.str (txt [116,97,107,101,110]))) tNil)) (tOp rSubI (tVar 5) (tC (.int 7))))) tNil)) (gSub (tVar 3) (tVar 4) rSetL))))) (tNext)))
      (tRet (tVar 3)))))))))))))))
theorem pr_spoiled (T : Tx K mg a) (G_draw : FnOk P w K mg base CX0 1 a.f_draw a.fd_draw ["_law_script", "_law_k", "_law_many"] (spDraw K)) (hr : Room 1 (A.deeper (envOfC "_law_spoiled" (defScope s_spoiled) s.heap.objs.size f cdv))) :
    QSs (cxOf CX0 P w K mg base ["_law_script", "_law_k", "_law_texts", "_law_some", "_law_at", "_law_way", "_law_text", "_law_place", "_law_sign", "_law_odd", "_law_other", "_law_words"] "_law_spoiled" (defScope s_spoiled) f cdv A outer s H E).nox (defBody s_spoiled) (rd_spoiled K a) := by
  exact kss_cons (ks_set (i:=3) sc_spoiled.nd (ke_callTy call_list_of T.n_list PyProof.Rows.Boot.«list» (ka_cons (kv 2) ka_nil)))
      (kss_cons (ks_set (i:=4) sc_spoiled.nd (ke_call G_draw (by exact hr.mono (by decide)) T.g_draw T.F_draw.kp T.b_draw pass0 (ka_cons (kv 0) (ka_cons (kv 1) (ka_cons (ke_callB call_len_seq T.n_len PyProof.Rows.Boot.«len» (ka_cons (kv 3) ka_nil)) ka_nil)))))
      (kss_cons (ks_set (i:=5) sc_spoiled.nd (ke_call G_draw (by exact hr.mono (by decide)) T.g_draw T.F_draw.kp T.b_draw pass0 (ka_cons (kv 0) (ka_cons (ke_op op_add (kv 1) ke_int) (ka_cons ke_int ka_nil)))))
      (kss_cons (ks_set (i:=6) sc_spoiled.nd (ke_ix ix_list (kv 3) (kv 4)))
      (kss_cons (ks_set (i:=7) sc_spoiled.nd (ke_call G_draw (by exact hr.mono (by decide)) T.g_draw T.F_draw.kp T.b_draw pass0 (ka_cons (kv 0) (ka_cons (ke_op op_add (kv 1) ke_int) (ka_cons (ke_op op_add (ke_callB call_lenS T.n_len PyProof.Rows.Boot.«len» (ka_cons (kv 6) ka_nil)) ke_int) ka_nil)))))
      (kss_cons (ks_set (i:=8) sc_spoiled.nd (ke_ix ix_strL (ke_txt (by kernel_rfl)) (ke_call G_draw (by exact hr.mono (by decide)) T.g_draw T.F_draw.kp T.b_draw pass0 (ka_cons (kv 0) (ka_cons (ke_op op_add (kv 1) ke_int) (ka_cons ke_int ka_nil))))))
      (kss_cons (ks_if (kt_cmp op_eq (kv 5) ke_int) (kss_cons (ks_set (i:=9) sc_spoiled.nd (ke_lst (ka_cons (ke_txt (by kernel_rfl)) (ka_cons (ke_txt (by kernel_rfl)) (ka_cons (ke_txt (by kernel_rfl)) (ka_cons (ke_txt (by kernel_rfl)) (ka_cons (ke_txt (by kernel_rfl)) (ka_cons (ke_txt (by kernel_rfl)) (ka_cons (ke_txt (by kernel_rfl)) (ka_cons (ke_txt (by kernel_rfl)) (ka_cons (ke_txt (by kernel_rfl)) ka_nil)))))))))))
      (kss_one (ks_expr (ke_bm PySem.F.plainAttrs_list PySem.F.slot_list_insert PySem.F.type_list_insert mt_insert (kv 3) (ka_cons (ke_op op_add (kv 4) (ke_call G_draw (by exact hr.mono (by decide)) T.g_draw T.F_draw.kp T.b_draw pass0 (ka_cons (kv 0) (ka_cons (ke_op op_add (kv 1) ke_int) (ka_cons ke_int ka_nil))))) (ka_cons (ke_ix ix_list (kv 9) (ke_call G_draw (by exact hr.mono (by decide)) T.g_draw T.F_draw.kp T.b_draw pass0 (ka_cons (kv 0) (ka_cons (ke_op op_add (kv 1) ke_int) (ka_cons ke_int ka_nil))))) ka_nil)))))) (kss_nil))
      (kss_cons (ks_if (kt_cmp op_eq (kv 5) ke_int) (kss_one (ks_expr (ke_bm PySem.F.plainAttrs_list PySem.F.slot_list_insert PySem.F.type_list_insert mt_insert (kv 3) (ka_cons (kv 4) (ka_cons (kv 6) ka_nil))))) (kss_nil))
      (kss_cons (ks_if (kt_cmp op_eq (kv 5) ke_int) (kss_one (ks_expr (ke_bm PySem.F.plainAttrs_list PySem.F.slot_list_pop PySem.F.type_list_pop mt_popAt (kv 3) (ka_cons (kv 4) ka_nil)))) (kss_nil))
      (kss_cons (ks_if (kt_cmp op_eq (kv 5) ke_int) (kss_cons (ks_set (i:=10) sc_spoiled.nd (ke_call G_draw (by exact hr.mono (by decide)) T.g_draw T.F_draw.kp T.b_draw pass0 (ka_cons (kv 0) (ka_cons (ke_op op_add (kv 1) ke_int) (ka_cons (ke_callB call_len_seq T.n_len PyProof.Rows.Boot.«len» (ka_cons (kv 3) ka_nil)) ka_nil)))))
      (kss_cons (ks_asg (ke_ix ix_list (kv 3) (kv 10)) (kg_sub (kv 3) (kv 4) set_list))
      (kss_one (ks_asg (kv 6) (kg_sub (kv 3) (kv 10) set_list))))) (kss_nil))
      (kss_cons (ks_if (kt_cmp op_eq (kv 5) ke_int) (kss_one (ks_asg (ke_op op_addS (ke_op op_addS (ke_slice sl_str (kv 6) ko_none (ko_some (kv 7))) (kv 8)) (ke_slice sl_str (kv 6) (ko_some (kv 7)) ko_none)) (kg_sub (kv 3) (kv 4) set_list))) (kss_nil))
      (kss_cons (ks_if (kt_cmp op_eq (kv 5) ke_int) (kss_one (ks_asg (ke_op op_addS (ke_slice sl_str (kv 6) ko_none (ko_some (kv 7))) (ke_slice sl_str (kv 6) (ko_some (ke_op op_add (kv 7) ke_int)) ko_none)) (kg_sub (kv 3) (kv 4) set_list))) (kss_nil))
      (kss_cons (ks_if (kt_cmp op_eq (kv 5) ke_int) (kss_one (ks_asg (ke_op op_addS (ke_op op_addS (ke_slice sl_str (kv 6) ko_none (ko_some (kv 7))) (kv 8)) (ke_slice sl_str (kv 6) (ko_some (ke_op op_add (kv 7) ke_int)) ko_none)) (kg_sub (kv 3) (kv 4) set_list))) (kss_nil))
      (kss_cons (ks_if (kt_w (kw_and (kt_cmp op_eq (kv 5) ke_int) (kw_and1 (kt_cmp op_eq (ke_call G_draw (by exact hr.mono (by decide)) T.g_draw T.F_draw.kp T.b_draw pass0 (ka_cons (kv 0) (ka_cons (ke_op op_add (kv 1) ke_int) (ka_cons ke_int ka_nil)))) ke_int)))) (kss_cons (ks_set (i:=11) sc_spoiled.nd (ke_bm PySem.F.plainAttrs_str PySem.F.slot_str_split PySem.F.type_str_split mt_split (ke_ix ix_list (kv 3) ke_int) (ka_cons (ke_txt (by kernel_rfl)) ka_nil)))
      (kss_one (ks_asg (ke_bm PySem.F.plainAttrs_str PySem.F.slot_str_join PySem.F.type_str_join mt_join (ke_txt (by kernel_rfl)) (ka_cons (ke_op op_cat (ke_slice sl_list (kv 11) ko_none (ko_some ke_int)) (ke_lst (ka_cons (ke_ix ix_list (ke_lst (ka_cons (ke_txt (by kernel_rfl)) (ka_cons (ke_txt (by kernel_rfl)) (ka_cons (ke_txt (by kernel_rfl)) ka_nil)))) (ke_call G_draw (by exact hr.mono (by decide)) T.g_draw T.F_draw.kp T.b_draw pass0 (ka_cons (kv 0) (ka_cons (ke_op op_add (kv 1) ke_int) (ka_cons ke_int ka_nil))))) ka_nil))) ka_nil)) (kg_sub (kv 3) ke_int set_list)))) (kss_one (ks_if (kt_cmp op_gt (kv 5) ke_int) (kss_cons (ks_set (i:=11) sc_spoiled.nd (ke_bm PySem.F.plainAttrs_str PySem.F.slot_str_split PySem.F.type_str_split mt_split (kv 6) (ka_cons (ke_txt (by kernel_rfl)) ka_nil)))
      (kss_cons (ks_set (i:=9) sc_spoiled.nd (ke_lst (ka_cons (ke_txt (by kernel_rfl)) (ka_cons (ke_txt (by kernel_rfl)) (ka_cons (ke_txt (by kernel_rfl)) (ka_cons (ke_txt (by kernel_rfl)) (ka_cons (ke_txt (by kernel_rfl)) (ka_cons (ke_txt (by kernel_rfl)) (ka_cons (ke_txt (by kernel_rfl)) (ka_cons (ke_txt (by kernel_rfl)) (ka_cons (ke_txt (by kernel_rfl)) (ka_cons (ke_txt (by kernel_rfl)) (ka_cons (ke_txt (by kernel_rfl)) (ka_cons (ke_txt (by kernel_rfl)) (ka_cons (ke_txt (by kernel_rfl)) (ka_cons (ke_txt (by kernel_rfl)) (ka_cons (ke_txt (by kernel_rfl)) (ka_cons (ke_txt (by kernel_rfl)) ka_nil))))))))))))))))))
      (kss_cons (ks_asg (ke_ix ix_list (kv 9) (ke_call G_draw (by exact hr.mono (by decide)) T.g_draw T.F_draw.kp T.b_draw pass0 (ka_cons (kv 0) (ka_cons (ke_op op_add (kv 1) ke_int) (ka_cons ke_int ka_nil))))) (kg_sub (kv 11) (ke_call G_draw (by exact hr.mono (by decide)) T.g_draw T.F_draw.kp T.b_draw pass0 (ka_cons (kv 0) (ka_cons (ke_op op_add (kv 1) ke_int) (ka_cons (ke_callB call_len_seq T.n_len PyProof.Rows.Boot.«len» (ka_cons (kv 11) ka_nil)) ka_nil)))) set_list))
      (kss_one (ks_asg (ke_bm PySem.F.plainAttrs_str PySem.F.slot_str_join PySem.F.type_str_join mt_join (ke_txt (by kernel_rfl)) (ka_cons (ke_op op_cat (kv 11) (ke_op op_rep (ke_lst (ka_cons (ke_txt (by kernel_rfl)) ka_nil)) (ke_op op_sub (kv 5) ke_int))) ka_nil)) (kg_sub (kv 3) (kv 4) set_list)))))) (kss_nil))))
      (kss_one (ks_ret (kv 3))))))))))))))))
theorem sc_number : FnScope ["_law_word", "_law_low", "_law_high", "_law_sign"] ["_law_word", "_law_low", "_law_high"] (defScope s_number) := ⟨rfl, rfl, rfl, by decide +kernel, rfl, by decide +kernel, by decide +kernel⟩
def rd_number (K:PySem.W.Frag) (a:Ad):TS:=
    tSeq (tFor (iStr (tVar 0)) (gName 3) (tIfS (tTest (tOp rNotIn1 (tVar 3) (tC (.str (txt [48,49,50,51,52,53,54,55,56,57]))))) (tRet (tC .non)) (tNext)))
      (tSeq (tIfS (tOr (tTest (tOp rEq (tVar 0) (tC (.str (txt []))))) (tOr (tAnd (tTest (tOp rEq (tOp rIxStr (tVar 0) (tC (.int 0))) (tC (.str (txt [48]))))) (tTest (tOp rNe (tVar 0) (tC (.str (txt [48])))))) (tTest (tOp rGtI (tCB rLenS (tCons (tVar 0) tNil)) (tC (.int 9)))))) (tRet (tC .non)) (tNext))
      (tRet (tIf (tTest (tChain rLeI rLeI (tVar 1) (tCB rIntS (tCons (tVar 0) tNil)) (tVar 2))) (tCB rIntS (tCons (tVar 0) tNil)) (tC .non))))
theorem pr_number (T:Tx K mg a) (hr:Room 0 (A.deeper (envOfC "_law_number" (defScope s_number) s.heap.objs.size f cdv))) :
    QSs (cxOf CX0 P w K mg base ["_law_word", "_law_low", "_law_high", "_law_sign"] "_law_number" (defScope s_number) f cdv A outer s H E).nox (defBody s_number) (rd_number K a) := by
  exact kss_cons (ks_for (ki_str (kv 0)) (kg_name (i:=3) sc_number.nd) (kss_one (ks_if (kt_cmp op_notin1 (kv 3) (ke_txt (by kernel_rfl))) (kss_one (ks_ret ke_non)) (kss_nil))))
      (kss_cons (ks_if (kt_w (kw_or (kt_cmp op_eq (kv 0) (ke_txt (by kernel_rfl))) (kw_or (kt_w (kw_and (kt_cmp op_eq (ke_ix ix_strL (kv 0) ke_int) (ke_txt (by kernel_rfl))) (kw_and1 (kt_cmp op_ne (kv 0) (ke_txt (by kernel_rfl)))))) (kw_or1 (kt_cmp op_gt (ke_callB call_lenS T.n_len PyProof.Rows.Boot.«len» (ka_cons (kv 0) ka_nil)) ke_int))))) (kss_one (ks_ret ke_non)) (kss_nil))
      (kss_one (ks_ret (ke_ifExp (kt_chain op_le op_le (kv 1) (ke_callTy call_intS T.n_int PyProof.Rows.Boot.«int» (ka_cons (kv 0) ka_nil)) (kv 2)) (ke_callTy call_intS T.n_int PyProof.Rows.Boot.«int» (ka_cons (kv 0) ka_nil)) ke_non))))
theorem sc_l_is_mark : FnScope ["_law_word", "_law_letters", "_law_sign"] ["_law_word", "_law_letters"] (defScope s_l_is_mark) := ⟨rfl, rfl, rfl, by decide +kernel, rfl, by decide +kernel, by decide +kernel⟩
def rd_l_is_mark (K:PySem.W.Frag) (a:Ad):TS:=
    tSeq (tFor (iStr (tVar 0)) (gName 2) (tIfS (tTest (tOp rNotIn1 (tVar 2) (tSl rSlS (tC (.str (txt ABC))) tNoPart (tPart (tVar 1))))) (tRet (tC (.bl false))) (tNext)))
      (tRet (tAndV (tOp rNe (tVar 0) (tC (.str (txt [])))) (tOp rNe (tOp rIxLast (tVar 0) (tUn rNegI (tC (.int 1)))) (tC (.str (txt [97]))))))
theorem pr_l_is_mark (T:Tx K mg a) (hr:Room 0 (A.deeper (envOfC "_law_is_mark" (defScope s_l_is_mark) s.heap.objs.size f cdv))) :
    QSs (cxOf CX0 P w K mg base ["_law_word", "_law_letters", "_law_sign"] "_law_is_mark" (defScope s_l_is_mark) f cdv A outer s H E).nox (defBody s_l_is_mark) (rd_l_is_mark K a) := by
  exact kss_cons (ks_for (ki_str (kv 0)) (kg_name (i:=2) sc_l_is_mark.nd) (kss_one (ks_if (kt_cmp op_notin1 (kv 2) (ke_slice sl_str (ke_txt small_eq) ko_none (ko_some (kv 1)))) (kss_one (ks_ret ke_bl)) (kss_nil))))
      (kss_one (ks_ret (ke_and (ke_cmp op_ne (kv 0) (ke_txt (by kernel_rfl))) (ke_one (ke_cmp op_ne (ke_ix ix_last (kv 0) (ke_un un_neg ke_int)) (ke_txt (by kernel_rfl)))))))
theorem sc_l_is_thing : FnScope ["_law_word", "_law_sign"] ["_law_word"] (defScope s_l_is_thing) := ⟨rfl, rfl, rfl, by decide +kernel, rfl, by decide +kernel, by decide +kernel⟩
def rd_l_is_thing (K:PySem.W.Frag) (a:Ad):TS:=
    tSeq (tFor (iStr (tVar 0)) (gName 1) (tIfS (tTest (tOp rNotIn1 (tVar 1) (tC (.str (txt [97,98,99,100,101,102,103,104,105,106,107,108,109,110,111,112,113,114,115,116,117,118,119,120,121,122,48,49,50,51,52,53,54,55,56,57]))))) (tRet (tC (.bl false))) (tNext)))
      (tRet (tChain rLtI rLtI (tC (.int 0)) (tCB rLenS (tCons (tVar 0) tNil)) (tC (.int 13))))
theorem pr_l_is_thing (T:Tx K mg a) (hr:Room 0 (A.deeper (envOfC "_law_is_thing" (defScope s_l_is_thing) s.heap.objs.size f cdv))) :
    QSs (cxOf CX0 P w K mg base ["_law_word", "_law_sign"] "_law_is_thing" (defScope s_l_is_thing) f cdv A outer s H E).nox (defBody s_l_is_thing) (rd_l_is_thing K a) := by
  exact kss_cons (ks_for (ki_str (kv 0)) (kg_name (i:=1) sc_l_is_thing.nd) (kss_one (ks_if (kt_cmp op_notin1 (kv 1) (ke_txt (by kernel_rfl))) (kss_one (ks_ret ke_bl)) (kss_nil))))
      (kss_one (ks_ret (ke_chain op_lt op_lt ke_int (ke_callB call_lenS T.n_len PyProof.Rows.Boot.«len» (ka_cons (kv 0) ka_nil)) ke_int)))
theorem sc_row_of : FnScope ["_law_letters", "_law_texts", "_law_at", "_law_rows", "_law_words", "_law_fresh"] ["_law_letters", "_law_texts", "_law_at", "_law_rows"] (defScope s_row_of) := ⟨rfl, rfl, rfl, by decide +kernel, rfl, by decide +kernel, by decide +kernel⟩
def rd_row_of (K:PySem.W.Frag) (a:Ad):TS:=
    tSeq (tAsg (tIf (tTest (tOp rLtI (tVar 2) (tCB (rLenL K) (tCons (tVar 1) tNil)))) (tBM K "str" rSplit (tOp (rIxL K) (tVar 1) (tVar 2)) (tCons (tC (.str (txt [32]))) tNil)) (tLst tNil)) (gName 4))
      (tSeq (tIfS (tOr (tTest (tOp rNe (tCB (rLenL K) (tCons (tVar 4) tNil)) (tC (.int 2)))) (tOr (tNot (tB (tCall spLMark [] E0 (tCons (tOp (rIxL K) (tVar 4) (tC (.int 0))) (tCons (tVar 0) tNil))))) (tAnd (tTest (tOp rGtI (tCB (rLenL K) (tCons (tVar 3) tNil)) (tC (.int 0)))) (tTest (tOp rLeS (tOp (rIxL K) (tVar 4) (tC (.int 0))) (tOp (rIxT K) (tOp (rIxL K) (tVar 3) (tUn rNegI (tC (.int 1)))) (tC (.int 0)))))))) (tRet (tC .non)) (tNext))
      (tSeq (tIfS (tTest (tOp rEq (tOp (rIxL K) (tVar 4) (tC (.int 1))) (tC (.str (txt [45]))))) (tRet (tTup (tCons (tOp (rIxL K) (tVar 4) (tC (.int 0))) (tCons (tC .non) tNil)))) (tNext))
      (tSeq (tCompSet 5 (iList K (tVar 3)) [] (tB (tNotN (tOp (rIxT K) (tVar 0) (tC (.int 1))))) (tOp (rIxT K) (tVar 0) (tC (.int 1))))
      (tSeq (tIfS (tOr (tNot (tB (tCall spLMark [] E0 (tCons (tOp (rIxL K) (tVar 4) (tC (.int 1))) (tCons (tVar 0) tNil))))) (tAnd (tTest (tOp rGtI (tCB (rLenL K) (tCons (tVar 5) tNil)) (tC (.int 0)))) (tTest (tOp rLeS (tOp (rIxL K) (tVar 4) (tC (.int 1))) (tOp (rIxL K) (tVar 5) (tUn rNegI (tC (.int 1)))))))) (tRet (tC .non)) (tNext))
      (tRet (tTup (tCons (tOp (rIxL K) (tVar 4) (tC (.int 0))) (tCons (tOp (rIxL K) (tVar 4) (tC (.int 1))) tNil))))))))
theorem pr_row_of (T : Tx K mg a) (G_l_is_mark : FnOk P w K mg base CX0 1 a.f_l_is_mark a.fd_l_is_mark ["_law_word", "_law_letters"] spLMark) (hr : Room 1 (A.deeper (envOfC "_law_row_of" (defScope s_row_of) s.heap.objs.size f cdv))) :
    QSs (cxOf CX0 P w K mg base ["_law_letters", "_law_texts", "_law_at", "_law_rows", "_law_words", "_law_fresh"] "_law_row_of" (defScope s_row_of) f cdv A outer s H E).nox (defBody s_row_of) (rd_row_of K a) := by
  exact kss_cons (ks_set (i:=4) sc_row_of.nd (ke_ifExp (kt_cmp op_lt (kv 2) (ke_callB call_len_seq T.n_len PyProof.Rows.Boot.«len» (ka_cons (kv 1) ka_nil))) (ke_bm PySem.F.plainAttrs_str PySem.F.slot_str_split PySem.F.type_str_split mt_split (ke_ix ix_list (kv 1) (kv 2)) (ka_cons (ke_txt (by kernel_rfl)) ka_nil)) (ke_lst ka_nil)))
      (kss_cons (ks_if (kt_w (kw_or (kt_cmp op_ne (ke_callB call_len_seq T.n_len PyProof.Rows.Boot.«len» (ka_cons (kv 4) ka_nil)) ke_int) (kw_or (kt_not (kt_val (ke_call G_l_is_mark (by exact hr.mono (by decide)) T.g_l_is_mark T.F_l_is_mark.kp T.b_l_is_mark pass0 (ka_cons (ke_ix ix_list (kv 4) ke_int) (ka_cons (kv 0) ka_nil))))) (kw_or1 (kt_w (kw_and (kt_cmp op_gt (ke_callB call_len_seq T.n_len PyProof.Rows.Boot.«len» (ka_cons (kv 3) ka_nil)) ke_int) (kw_and1 (kt_cmp op_leS (ke_ix ix_list (kv 4) ke_int) (ke_ix ix_tup (ke_ix ix_list (kv 3) (ke_un un_neg ke_int)) ke_int))))))))) (kss_one (ks_ret ke_non)) (kss_nil))
      (kss_cons (ks_if (kt_cmp op_eq (ke_ix ix_list (kv 4) ke_int) (ke_txt (by kernel_rfl))) (kss_one (ks_ret (ke_tup (ka_cons (ke_ix ix_list (kv 4) ke_int) (ka_cons ke_non ka_nil))))) (kss_nil))
      (kss_cons (ks_comp (i:=5) [] sc_row_of.nd (ki_list (kv 3)) (fun _ _ _ _ _=>⟨kts_one (kt_notN (ke_ix ix_tup (kv 0) ke_int)),ke_ix ix_tup (kv 0) ke_int⟩))
      (kss_cons (ks_if (kt_w (kw_or (kt_not (kt_val (ke_call G_l_is_mark (by exact hr.mono (by decide)) T.g_l_is_mark T.F_l_is_mark.kp T.b_l_is_mark pass0 (ka_cons (ke_ix ix_list (kv 4) ke_int) (ka_cons (kv 0) ka_nil))))) (kw_or1 (kt_w (kw_and (kt_cmp op_gt (ke_callB call_len_seq T.n_len PyProof.Rows.Boot.«len» (ka_cons (kv 5) ka_nil)) ke_int) (kw_and1 (kt_cmp op_leS (ke_ix ix_list (kv 4) ke_int) (ke_ix ix_list (kv 5) (ke_un un_neg ke_int))))))))) (kss_one (ks_ret ke_non)) (kss_nil))
      (kss_one (ks_ret (ke_tup (ka_cons (ke_ix ix_list (kv 4) ke_int) (ka_cons (ke_ix ix_list (kv 4) ke_int) ka_nil)))))))))
theorem sc_renewal : FnScope ["_law_letters", "_law_texts", "_law_at", "_law_words", "_law_rows", "_law_row"] ["_law_letters", "_law_texts", "_law_at"] (defScope s_renewal) := ⟨rfl, rfl, rfl, by decide +kernel, rfl, by decide +kernel, by decide +kernel⟩
def rd_renewal (K:PySem.W.Frag) (a:Ad):TS:=
    tSeq (tAsg (tIf (tTest (tOp rLtI (tVar 2) (tCB (rLenL K) (tCons (tVar 1) tNil)))) (tBM K "str" rSplit (tOp (rIxL K) (tVar 1) (tVar 2)) (tCons (tC (.str (txt [32]))) tNil)) (tLst tNil)) (gName 3))
      (tSeq (tIfS (tOr (tTest (tOp rNe (tCB (rLenL K) (tCons (tVar 3) tNil)) (tC (.int 2)))) (tOr (tTest (tOp rNe (tOp (rIxL K) (tVar 3) (tC (.int 0))) (tC (.str (txt [114,101,110,101,119,97,108]))))) (tB (tIsN (tCall spLNum [] E0 (tCons (tOp (rIxL K) (tVar 3) (tC (.int 1))) (tCons (tC (.int 0)) (tCons (tC (.int 1000)) tNil)))))))) (tRet (tVar 2)) (tNext))
      (tSeq (tAsg (tLst tNil) (gName 4))
      (tSeq (tWhile (tTest (tOp rLtI (tCB (rLenL K) (tCons (tVar 4) tNil)) (tCB rIntS (tCons (tOp (rIxL K) (tVar 3) (tC (.int 1))) tNil)))) (tSeq (tAsg (tCall (spRowOf K) [] E0 (tCons (tVar 0) (tCons (tVar 1) (tCons (tOp rAddI (tOp rAddI (tVar 2) (tC (.int 1))) (tCB (rLenL K) (tCons (tVar 4) tNil))) (tCons (tVar 4) tNil))))) (gName 5))
      (tSeq (tIfS (tB (tIsN (tVar 5))) (tRet (tOp rAddI (tOp rAddI (tVar 2) (tC (.int 1))) (tCB (rLenL K) (tCons (tVar 4) tNil)))) (tNext))
      (tDrop (tBM K "list" rAppend (tVar 4) (tCons (tVar 5) tNil))))))
      (tRet (tVar 4)))))
theorem pr_renewal (T : Tx K mg a) (G_number : FnOk P w K mg base CX0 1 a.f_number a.fd_number ["_law_word", "_law_low", "_law_high"] spLNum) (G_row_of : FnOk P w K mg base CX0 2 a.f_row_of a.fd_row_of ["_law_letters", "_law_texts", "_law_at", "_law_rows"] (spRowOf K)) (hr : Room 2 (A.deeper (envOfC "_law_renewal" (defScope s_renewal) s.heap.objs.size f cdv))) :
    QSs (cxOf CX0 P w K mg base ["_law_letters", "_law_texts", "_law_at", "_law_words", "_law_rows", "_law_row"] "_law_renewal" (defScope s_renewal) f cdv A outer s H E).nox (defBody s_renewal) (rd_renewal K a) := by
  exact kss_cons (ks_set (i:=3) sc_renewal.nd (ke_ifExp (kt_cmp op_lt (kv 2) (ke_callB call_len_seq T.n_len PyProof.Rows.Boot.«len» (ka_cons (kv 1) ka_nil))) (ke_bm PySem.F.plainAttrs_str PySem.F.slot_str_split PySem.F.type_str_split mt_split (ke_ix ix_list (kv 1) (kv 2)) (ka_cons (ke_txt (by kernel_rfl)) ka_nil)) (ke_lst ka_nil)))
      (kss_cons (ks_if (kt_w (kw_or (kt_cmp op_ne (ke_callB call_len_seq T.n_len PyProof.Rows.Boot.«len» (ka_cons (kv 3) ka_nil)) ke_int) (kw_or (kt_cmp op_ne (ke_ix ix_list (kv 3) ke_int) (ke_txt (by kernel_rfl))) (kw_or1 (kt_isN (ke_call G_number (by exact hr.mono (by decide)) T.g_number T.F_number.kp T.b_number pass0 (ka_cons (ke_ix ix_list (kv 3) ke_int) (ka_cons ke_int (ka_cons ke_int ka_nil))))))))) (kss_one (ks_ret (kv 2))) (kss_nil))
      (kss_cons (ks_set (i:=4) sc_renewal.nd (ke_lst ka_nil))
      (kss_cons (ks_while (kt_cmp op_lt (ke_callB call_len_seq T.n_len PyProof.Rows.Boot.«len» (ka_cons (kv 4) ka_nil)) (ke_callTy call_intS T.n_int PyProof.Rows.Boot.«int» (ka_cons (ke_ix ix_list (kv 3) ke_int) ka_nil))) (kss_cons (ks_set (i:=5) sc_renewal.nd (ke_call G_row_of (by exact hr.mono (by decide)) T.g_row_of T.F_row_of.kp T.b_row_of pass0 (ka_cons (kv 0) (ka_cons (kv 1) (ka_cons (ke_op op_add (ke_op op_add (kv 2) ke_int) (ke_callB call_len_seq T.n_len PyProof.Rows.Boot.«len» (ka_cons (kv 4) ka_nil))) (ka_cons (kv 4) ka_nil))))))
      (kss_cons (ks_if (kt_isN (kv 5)) (kss_one (ks_ret (ke_op op_add (ke_op op_add (kv 2) ke_int) (ke_callB call_len_seq T.n_len PyProof.Rows.Boot.«len» (ka_cons (kv 4) ka_nil))))) (kss_nil))
      (kss_one (ks_expr (ke_bm PySem.F.plainAttrs_list PySem.F.slot_list_append PySem.F.type_list_append mt_append (kv 4) (ka_cons (kv 5) ka_nil)))))))
      (kss_one (ks_ret (kv 4))))))
theorem sc_due : FnScope ["_law_texts", "_law_words", "_law_letters", "_law_renewals", "_law_at", "_law_rows", "_law_things", "_law_taken", "_law_text", "_law_parts", "_law_good"] ["_law_texts"] (defScope s_due) := ⟨rfl, rfl, rfl, by decide +kernel, rfl, by decide +kernel, by decide +kernel⟩
def rd_due (K:PySem.W.Frag) (a:Ad):TS:=
    tSeq (tAsg (tIf (tTest (tOp rGtI (tCB (rLenL K) (tCons (tVar 0) tNil)) (tC (.int 0)))) (tBM K "str" rSplit (tOp (rIxL K) (tVar 0) (tC (.int 0))) (tCons (tC (.str (txt [32]))) tNil)) (tLst tNil)) (gName 1))
      (tSeq (tAsg (tIf (tTest (tOp rEq (tCB (rLenL K) (tCons (tVar 1) tNil)) (tC (.int 3)))) (tCall spLNum [] E0 (tCons (tOp (rIxL K) (tVar 1) (tC (.int 0))) (tCons (tC (.int 2)) (tCons (tC (.int 26)) tNil)))) (tC .non)) (gName 2))
      (tSeq (tIfS (tOr (tB (tIsN (tVar 2))) (tOr (tB (tIsN (tCall spLNum [] E0 (tCons (tOp (rIxL K) (tVar 1) (tC (.int 1))) (tCons (tC (.int 1)) (tCons (tOp rSubI (tVar 2) (tC (.int 1))) tNil)))))) (tB (tIsN (tCall spLNum [] E0 (tCons (tOp (rIxL K) (tVar 1) (tC (.int 2))) (tCons (tC (.int 0)) (tCons (tC (.int 1000)) tNil)))))))) (tRet (tC (.int 0))) (tNext))
      (tSeq (tAsg (tLst tNil) (gName 3))
      (tSeq (tAsg (tC (.int 1)) (gName 4))
      (tSeq (tWhile (tTest (tOp rLtI (tCB (rLenL K) (tCons (tVar 3) tNil)) (tCB rIntS (tCons (tOp (rIxL K) (tVar 1) (tC (.int 2))) tNil)))) (tSeq (tAsg (tCall (spRenl K) [] E0 (tCons (tVar 2) (tCons (tVar 0) (tCons (tVar 4) tNil)))) (gName 5))
      (tSeq (tIfS (tB (tIsi K "int" (tVar 5))) (tRet (tVar 5)) (tNext))
      (tSeq (tDrop (tBM K "list" rAppend (tVar 3) (tCons (tVar 5) tNil)))
      (tAsg (tOp rAddI (tOp rAddI (tVar 4) (tC (.int 1))) (tCB (rLenL K) (tCons (tVar 5) tNil))) (gName 4))))))
      (tSeq (tAsg (tLst tNil) (gName 6))
      (tSeq (tAsg (tLst tNil) (gName 7))
      (tSeq (tFor (iList K (tSl (rSlL K) (tVar 0) (tPart (tVar 4)) tNoPart)) (gName 8) (tSeq (tAsg (tBM K "str" rSplit (tVar 8) (tCons (tC (.str (txt [32]))) tNil)) (gName 9))
      (tSeq (tAsg (tOrV (tOp rEq (tCB (rLenL K) (tCons (tVar 9) tNil)) (tC (.int 2))) (tAndV (tOp rEq (tCB (rLenL K) (tCons (tVar 9) tNil)) (tC (.int 3))) (tOp rEq (tOp (rIxL K) (tVar 9) (tC (.int 2))) (tC (.str (txt [116,97,107,101,110])))))) (gName 10))
      (tSeq (tIfS (tOr (tNot (tB (tVar 10))) (tOr (tNot (tB (tCall spLMark [] E0 (tCons (tOp (rIxL K) (tVar 9) (tC (.int 0))) (tCons (tVar 2) tNil))))) (tNot (tB (tCall spLThing [] E0 (tCons (tOp (rIxL K) (tVar 9) (tC (.int 1))) tNil)))))) (tRet (tOp rAddI (tVar 4) (tCB (rLenL K) (tCons (tVar 6) tNil)))) (tNext))
      (tSeq (tIfS (tAnd (tTest (tOp rGtI (tCB (rLenL K) (tCons (tVar 6) tNil)) (tC (.int 0)))) (tTest (tOp rLeS (tOp (rIxL K) (tVar 9) (tC (.int 0))) (tOp (rIxT K) (tOp (rIxL K) (tVar 6) (tUn rNegI (tC (.int 1)))) (tC (.int 0)))))) (tRet (tOp rAddI (tVar 4) (tCB (rLenL K) (tCons (tVar 6) tNil)))) (tNext))
      (tSeq (tDrop (tBM K "list" rAppend (tVar 6) (tCons (tTup (tCons (tOp (rIxL K) (tVar 9) (tC (.int 0))) (tCons (tOp (rIxL K) (tVar 9) (tC (.int 1))) tNil))) tNil)))
      (tAsg (tOp rCat (tVar 7) (tOp rRep (tLst (tCons (tOp (rIxL K) (tVar 9) (tC (.int 0))) tNil)) (tOp rSubI (tCB (rLenL K) (tCons (tVar 9) tNil)) (tC (.int 2))))) (gName 7))))))))
      (tRet (tTup (tCons (tVar 2) (tCons (tCB rIntS (tCons (tOp (rIxL K) (tVar 1) (tC (.int 1))) tNil)) (tCons (tVar 3) (tCons (tVar 6) (tCons (tVar 7) tNil)))))))))))))))
theorem pr_due (T : Tx K mg a) (G_number : FnOk P w K mg base CX0 1 a.f_number a.fd_number ["_law_word", "_law_low", "_law_high"] spLNum) (G_renewal : FnOk P w K mg base CX0 3 a.f_renewal a.fd_renewal ["_law_letters", "_law_texts", "_law_at"] (spRenl K)) (G_l_is_mark : FnOk P w K mg base CX0 1 a.f_l_is_mark a.fd_l_is_mark ["_law_word", "_law_letters"] spLMark) (G_l_is_thing : FnOk P w K mg base CX0 1 a.f_l_is_thing a.fd_l_is_thing ["_law_word"] spLThing) (hr : Room 3 (A.deeper (envOfC "_law_due" (defScope s_due) s.heap.objs.size f cdv))) :
    QSs (cxOf CX0 P w K mg base ["_law_texts", "_law_words", "_law_letters", "_law_renewals", "_law_at", "_law_rows", "_law_things", "_law_taken", "_law_text", "_law_parts", "_law_good"] "_law_due" (defScope s_due) f cdv A outer s H E).nox (defBody s_due) (rd_due K a) := by
  exact kss_cons (ks_set (i:=1) sc_due.nd (ke_ifExp (kt_cmp op_gt (ke_callB call_len_seq T.n_len PyProof.Rows.Boot.«len» (ka_cons (kv 0) ka_nil)) ke_int) (ke_bm PySem.F.plainAttrs_str PySem.F.slot_str_split PySem.F.type_str_split mt_split (ke_ix ix_list (kv 0) ke_int) (ka_cons (ke_txt (by kernel_rfl)) ka_nil)) (ke_lst ka_nil)))
      (kss_cons (ks_set (i:=2) sc_due.nd (ke_ifExp (kt_cmp op_eq (ke_callB call_len_seq T.n_len PyProof.Rows.Boot.«len» (ka_cons (kv 1) ka_nil)) ke_int) (ke_call G_number (by exact hr.mono (by decide)) T.g_number T.F_number.kp T.b_number pass0 (ka_cons (ke_ix ix_list (kv 1) ke_int) (ka_cons ke_int (ka_cons ke_int ka_nil)))) ke_non))
      (kss_cons (ks_if (kt_w (kw_or (kt_isN (kv 2)) (kw_or (kt_isN (ke_call G_number (by exact hr.mono (by decide)) T.g_number T.F_number.kp T.b_number pass0 (ka_cons (ke_ix ix_list (kv 1) ke_int) (ka_cons ke_int (ka_cons (ke_op op_sub (kv 2) ke_int) ka_nil))))) (kw_or1 (kt_isN (ke_call G_number (by exact hr.mono (by decide)) T.g_number T.F_number.kp T.b_number pass0 (ka_cons (ke_ix ix_list (kv 1) ke_int) (ka_cons ke_int (ka_cons ke_int ka_nil))))))))) (kss_one (ks_ret ke_int)) (kss_nil))
      (kss_cons (ks_set (i:=3) sc_due.nd (ke_lst ka_nil))
      (kss_cons (ks_set (i:=4) sc_due.nd ke_int)
      (kss_cons (ks_while (kt_cmp op_lt (ke_callB call_len_seq T.n_len PyProof.Rows.Boot.«len» (ka_cons (kv 3) ka_nil)) (ke_callTy call_intS T.n_int PyProof.Rows.Boot.«int» (ka_cons (ke_ix ix_list (kv 1) ke_int) ka_nil))) (kss_cons (ks_set (i:=5) sc_due.nd (ke_call G_renewal (by exact hr.mono (by decide)) T.g_renewal T.F_renewal.kp T.b_renewal pass0 (ka_cons (kv 2) (ka_cons (kv 0) (ka_cons (kv 4) ka_nil)))))
      (kss_cons (ks_if (kt_val (ke_isi T.n_isinstance PyProof.Rows.Boot.«isinstance» T.n_int PyProof.Rows.Boot.«int» (kv 5))) (kss_one (ks_ret (kv 5))) (kss_nil))
      (kss_cons (ks_expr (ke_bm PySem.F.plainAttrs_list PySem.F.slot_list_append PySem.F.type_list_append mt_append (kv 3) (ka_cons (kv 5) ka_nil)))
      (kss_one (ks_set (i:=4) sc_due.nd (ke_op op_add (ke_op op_add (kv 4) ke_int) (ke_callB call_len_seq T.n_len PyProof.Rows.Boot.«len» (ka_cons (kv 5) ka_nil)))))))))
      (kss_cons (ks_set (i:=6) sc_due.nd (ke_lst ka_nil))
      (kss_cons (ks_set (i:=7) sc_due.nd (ke_lst ka_nil))
      (kss_cons (ks_for (ki_list (ke_slice sl_list (kv 0) (ko_some (kv 4)) ko_none)) (kg_name (i:=8) sc_due.nd) (kss_cons (ks_set (i:=9) sc_due.nd (ke_bm PySem.F.plainAttrs_str PySem.F.slot_str_split PySem.F.type_str_split mt_split (kv 8) (ka_cons (ke_txt (by kernel_rfl)) ka_nil)))
      (kss_cons (ks_set (i:=10) sc_due.nd (ke_or (ke_cmp op_eq (ke_callB call_len_seq T.n_len PyProof.Rows.Boot.«len» (ka_cons (kv 9) ka_nil)) ke_int) (ke_one (ke_and (ke_cmp op_eq (ke_callB call_len_seq T.n_len PyProof.Rows.Boot.«len» (ka_cons (kv 9) ka_nil)) ke_int) (ke_one (ke_cmp op_eq (ke_ix ix_list (kv 9) ke_int) (ke_txt (by kernel_rfl))))))))
      (kss_cons (ks_if (kt_w (kw_or (kt_not (kt_val (kv 10))) (kw_or (kt_not (kt_val (ke_call G_l_is_mark (by exact hr.mono (by decide)) T.g_l_is_mark T.F_l_is_mark.kp T.b_l_is_mark pass0 (ka_cons (ke_ix ix_list (kv 9) ke_int) (ka_cons (kv 2) ka_nil))))) (kw_or1 (kt_not (kt_val (ke_call G_l_is_thing (by exact hr.mono (by decide)) T.g_l_is_thing T.F_l_is_thing.kp T.b_l_is_thing pass0 (ka_cons (ke_ix ix_list (kv 9) ke_int) ka_nil)))))))) (kss_one (ks_ret (ke_op op_add (kv 4) (ke_callB call_len_seq T.n_len PyProof.Rows.Boot.«len» (ka_cons (kv 6) ka_nil))))) (kss_nil))
      (kss_cons (ks_if (kt_w (kw_and (kt_cmp op_gt (ke_callB call_len_seq T.n_len PyProof.Rows.Boot.«len» (ka_cons (kv 6) ka_nil)) ke_int) (kw_and1 (kt_cmp op_leS (ke_ix ix_list (kv 9) ke_int) (ke_ix ix_tup (ke_ix ix_list (kv 6) (ke_un un_neg ke_int)) ke_int))))) (kss_one (ks_ret (ke_op op_add (kv 4) (ke_callB call_len_seq T.n_len PyProof.Rows.Boot.«len» (ka_cons (kv 6) ka_nil))))) (kss_nil))
      (kss_cons (ks_expr (ke_bm PySem.F.plainAttrs_list PySem.F.slot_list_append PySem.F.type_list_append mt_append (kv 6) (ka_cons (ke_tup (ka_cons (ke_ix ix_list (kv 9) ke_int) (ka_cons (ke_ix ix_list (kv 9) ke_int) ka_nil))) ka_nil)))
      (kss_one (ks_set (i:=7) sc_due.nd (ke_op op_cat (kv 7) (ke_op op_rep (ke_lst (ka_cons (ke_ix ix_list (kv 9) ke_int) ka_nil)) (ke_op op_sub (ke_callB call_len_seq T.n_len PyProof.Rows.Boot.«len» (ka_cons (kv 9) ka_nil)) ke_int)))))))))))
      (kss_one (ks_ret (ke_tup (ka_cons (kv 2) (ka_cons (ke_callTy call_intS T.n_int PyProof.Rows.Boot.«int» (ka_cons (ke_ix ix_list (kv 1) ke_int) ka_nil)) (ka_cons (kv 3) (ka_cons (kv 6) (ka_cons (kv 7) ka_nil))))))))))))))))
theorem sc_asked : FnScope ["_law_texts", "_law_found", "_law_caught", "e"] ["_law_texts"] (defScope s_asked) := ⟨rfl, rfl, rfl, by decide +kernel, rfl, by decide +kernel, by decide +kernel⟩
def rd_asked (K:PySem.W.Frag) (a:Ad):TS:=
    tSeq (tAsg (tC .non) (gName 1))
      (tSeq (tAsg (tC .non) (gName 2))
      (tSeq (tTryD K a.c_ShelfError 3 (fun Φ=>tAsg (tCallX (spXState K a.c_NoState) Φ (tCons (tVar 0) tNil)) (gName 1)) (tAsg (tVar 3) (gName 2)))
      (tSeq (tIfS (tB (tIsN (tVar 2))) (tRet (tVar 1)) (tNext))
      (tSeq (tIfS (tOr (tNot (tB (tCB (rIsX K) (tCons (tVar 2) (tCons (tC (.ref a.c_NoState)) tNil))))) (tNot (tB (tCB (rIsX K) (tCons (tVar 2) (tCons (tC (.ty "ValueError")) tNil)))))) (tRet (tC (.str (txt [111,116,104,101,114])))) (tNext))
      (tSeq (tIfS (tB (tCB (rIsX K) (tCons (tVar 2) (tCons (tTup (tCons (tC (.ref a.c_NoHand)) (tCons (tC (.ref a.c_NoLetters)) (tCons (tC (.ref a.c_NoLine)) (tCons (tC (.ref a.c_NoPlace)) (tCons (tC (.ref a.c_NoRoom)) (tCons (tC (.ref a.c_NoShelf)) (tCons (tC (.ref a.c_NoThing)) tNil)))))))) tNil)))) (tRet (tC (.str (txt [109,97,110,121])))) (tNext))
      (tRet (tExcFld K a.c_NoState (tVar 2) "row")))))))
theorem pr_asked (T : Tx K mg a) (G_p25 : FnOk P w K mg base (CX1 P w) 5 a.f_p25 a.fd_p25 ["texts"] (spXState K a.c_NoState)) (hr : Room 5 (A.deeper (envOfC "_law_asked" (defScope s_asked) s.heap.objs.size f cdv))) :
    QSs (cxOf CX0 P w K mg base ["_law_texts", "_law_found", "_law_caught", "e"] "_law_asked" (defScope s_asked) f cdv A outer s H E).nox (defBody s_asked) (rd_asked K a) := by
  exact kss_cons (ks_set (i:=1) sc_asked.nd ke_non)
      (kss_cons (ks_set (i:=2) sc_asked.nd ke_non)
      (kss_cons (ks_tryD (i:=3) sc_asked.nd T.m_ShelfError (fun _ _ _ hx=>kss_one (ks_set (i:=1) sc_asked.nd (ke_callX G_p25 (by exact hr.mono (by decide)) T.g_p25 T.F_p25.kp T.b_p25 hx (ka_cons (kv 0) ka_nil)))) (fun _=>kss_one (ks_set (i:=2) sc_asked.nd (kv 3))))
      (kss_cons (ks_if (kt_isN (kv 2)) (kss_one (ks_ret (kv 1))) (kss_nil))
      (kss_cons (ks_if (kt_w (kw_or (kt_not (kt_val (ke_callB call_isX T.n_isinstance PyProof.Rows.Boot.«isinstance» (ka_cons (kv 2) (ka_cons (ke_cls T.m_NoState) ka_nil))))) (kw_or1 (kt_not (kt_val (ke_callB call_isX T.n_isinstance PyProof.Rows.Boot.«isinstance» (ka_cons (kv 2) (ka_cons (ke_ty T.n_ValueError PyProof.Rows.Boot.«ValueError») ka_nil)))))))) (kss_one (ks_ret (ke_txt (by kernel_rfl)))) (kss_nil))
      (kss_cons (ks_if (kt_val (ke_callB call_isX T.n_isinstance PyProof.Rows.Boot.«isinstance» (ka_cons (kv 2) (ka_cons (ke_tup (ka_cons (ke_cls T.m_NoHand) (ka_cons (ke_cls T.m_NoLetters) (ka_cons (ke_cls T.m_NoLine) (ka_cons (ke_cls T.m_NoPlace) (ka_cons (ke_cls T.m_NoRoom) (ka_cons (ke_cls T.m_NoShelf) (ka_cons (ke_cls T.m_NoThing) ka_nil)))))))) ka_nil)))) (kss_one (ks_ret (ke_txt (by kernel_rfl)))) (kss_nil))
      (kss_one (ks_ret (ke_excFld (kv 2) T.e_NoState T.cd_NoState T.nr_NoState))))))))
theorem sc_law : FnScope ["_law_script", "_law_good", "_law_due_here", "_law_texts", "_law_k", "_law_handed"] ["_law_script"] (defScope s_law) := ⟨rfl, rfl, rfl, by decide +kernel, rfl, by decide +kernel, by decide +kernel⟩
def rd_law (K:PySem.W.Frag) (a:Ad):TS:=
    tSeq (tAsg (tCall (spXMade K) [] E0 (tCons (tVar 0) (tCons (tCall (spXSize K) [] E0 (tCons (tVar 0) tNil)) tNil))) (gName 1))
      (tSeq (tAsg (tCall (spDue K) [] E0 (tCons (tVar 1) tNil)) (gName 2))
      (tSeq (tIfS (tOr (tNot (tB (tIsi K "tuple" (tVar 2)))) (tTest (tOp (rNeD K) (tCall (spDue K) [] E0 (tCons (tCB (rListOf K) (tCons (tVar 1) tNil)) tNil)) (tVar 2)))) (tRet (tC (.bl false))) (tNext))
      (tSeq (tAsg (tCB (rListOf K) (tCons (tVar 1) tNil)) (gName 3))
      (tSeq (tFor (iRng1 (tCons (tOp rAddI (tC (.int 1)) (tCall (spDraw K) [] E0 (tCons (tVar 0) (tCons (tC (.int 5)) (tCons (tC (.int 2)) tNil))))) tNil)) (gName 4) (tIfS (tTest (tOp rGtI (tCB (rLenL K) (tCons (tVar 3) tNil)) (tC (.int 0)))) (tAsg (tCall (spSpoil K) [] E0 (tCons (tVar 0) (tCons (tOp rAddI (tC (.int 100)) (tOp rMulI (tC (.int 10)) (tVar 4))) (tCons (tVar 3) tNil)))) (gName 3)) (tNext)))
      (tSeq (tAsg (tCB (rListOf K) (tCons (tVar 3) tNil)) (gName 5))
      (tSeq (tIfS (tOr (tTest (tOp (rNeD K) (tCall (spDue K) [] E0 (tCons (tVar 5) tNil)) (tCall (spDue K) [] E0 (tCons (tVar 3) tNil)))) (tTest (tOp (rNeLS K) (tVar 5) (tVar 3)))) (tRet (tC (.bl false))) (tNext))
      (tRet (tAndV (tOp (rEqD K) (tCall (spDue K) [] E0 (tCons (tLst tNil) tNil)) (tC (.int 0))) (tOp (rEqD K) (tCall (spDue K) [] E0 (tCons (tVar 1) tNil)) (tVar 2))))))))))
theorem pr_law (T : Tx K mg a) (G_size : FnOk P w K mg base CX0 2 a.f_size a.fd_size ["_law_script"] (spXSize K)) (G_made : FnOk P w K mg base CX0 3 a.f_made a.fd_made ["_law_script", "_law_size_here"] (spXMade K)) (G_due : FnOk P w K mg base CX0 4 a.f_due a.fd_due ["_law_texts"] (spDue K)) (G_asked : FnOk P w K mg base CX0 6 a.f_asked a.fd_asked ["_law_texts"] (spDue K)) (G_draw : FnOk P w K mg base CX0 1 a.f_draw a.fd_draw ["_law_script", "_law_k", "_law_many"] (spDraw K)) (G_spoiled : FnOk P w K mg base CX0 2 a.f_spoiled a.fd_spoiled ["_law_script", "_law_k", "_law_texts"] (spSpoil K)) (hr : Room 6 (A.deeper (envOfC "law" (defScope s_law) s.heap.objs.size f cdv))) :
    QSs (cxOf CX0 P w K mg base ["_law_script", "_law_good", "_law_due_here", "_law_texts", "_law_k", "_law_handed"] "law" (defScope s_law) f cdv A outer s H E).nox (defBody s_law) (rd_law K a) := by
  have hu:=Room.units hr
  exact kss_cons (ks_set (i:=1) sc_law.nd (ke_call G_made (by exact hr.mono (by decide)) T.g_made T.F_made.kp T.b_made pass0 (ka_cons (kv 0) (ka_cons (ke_call G_size (by exact hr.mono (by decide)) T.g_size T.F_size.kp T.b_size pass0 (ka_cons (kv 0) ka_nil)) ka_nil))))
      (kss_cons (ks_set (i:=2) sc_law.nd (ke_call G_due (by exact hr.mono (by decide)) T.g_due T.F_due.kp T.b_due pass0 (ka_cons (kv 1) ka_nil)))
      (kss_cons (ks_if (kt_w (kw_or (kt_not (kt_val (ke_isi T.n_isinstance PyProof.Rows.Boot.«isinstance» T.n_tuple PyProof.Rows.Boot.«tuple» (kv 2)))) (kw_or1 (kt_cmp (op_neD hu) (ke_call G_asked (by exact hr.mono (by decide)) T.g_asked T.F_asked.kp T.b_asked pass0 (ka_cons (ke_callTy call_list_of T.n_list PyProof.Rows.Boot.«list» (ka_cons (kv 1) ka_nil)) ka_nil)) (kv 2))))) (kss_one (ks_ret ke_bl)) (kss_nil))
      (kss_cons (ks_set (i:=3) sc_law.nd (ke_callTy call_list_of T.n_list PyProof.Rows.Boot.«list» (ka_cons (kv 1) ka_nil)))
      (kss_cons (ks_for (ki_range1 T.n_range (ka_cons (ke_op op_add ke_int (ke_call G_draw (by exact hr.mono (by decide)) T.g_draw T.F_draw.kp T.b_draw pass0 (ka_cons (kv 0) (ka_cons ke_int (ka_cons ke_int ka_nil))))) ka_nil)) (kg_name (i:=4) sc_law.nd) (kss_one (ks_if (kt_cmp op_gt (ke_callB call_len_seq T.n_len PyProof.Rows.Boot.«len» (ka_cons (kv 3) ka_nil)) ke_int) (kss_one (ks_set (i:=3) sc_law.nd (ke_call G_spoiled (by exact hr.mono (by decide)) T.g_spoiled T.F_spoiled.kp T.b_spoiled pass0 (ka_cons (kv 0) (ka_cons (ke_op op_add ke_int (ke_op op_mulB ke_int (kv 4))) (ka_cons (kv 3) ka_nil)))))) (kss_nil))))
      (kss_cons (ks_set (i:=5) sc_law.nd (ke_callTy call_list_of T.n_list PyProof.Rows.Boot.«list» (ka_cons (kv 3) ka_nil)))
      (kss_cons (ks_if (kt_w (kw_or (kt_cmp (op_neD hu) (ke_call G_asked (by exact hr.mono (by decide)) T.g_asked T.F_asked.kp T.b_asked pass0 (ka_cons (kv 5) ka_nil)) (ke_call G_due (by exact hr.mono (by decide)) T.g_due T.F_due.kp T.b_due pass0 (ka_cons (kv 3) ka_nil))) (kw_or1 (kt_cmp (op_neLS hu) (kv 5) (kv 3))))) (kss_one (ks_ret ke_bl)) (kss_nil))
      (kss_one (ks_ret (ke_and (ke_cmp (op_eqD hu) (ke_call G_asked (by exact hr.mono (by decide)) T.g_asked T.F_asked.kp T.b_asked pass0 (ka_cons (ke_lst ka_nil) ka_nil)) ke_int) (ke_one (ke_cmp (op_eqD hu) (ke_call G_asked (by exact hr.mono (by decide)) T.g_asked T.F_asked.kp T.b_asked pass0 (ka_cons (kv 1) ka_nil)) (kv 2))))))))))))
end
end K71
namespace K71
open PySem PySem.Spec PyProof.Rows L2 MM
variable {K:PySem.W.Frag} {mg:Str→Option Value} {a:Ad} {N:List Str} {vs:List V} {H:Hp} {Q:VK} {E:XK}
theorem read_size (hN:N.length = 3) (h:spXSize K vs H Q E):rd_size K a { nx:=fun _ H'=>Q .non H',rt:=Q } (L2.start N vs) H:=by
  obtain ⟨sc,ns,rfl,hS,hl,q⟩:=h
  unfold rd_size L2.start
  rw [hN]
  refine seq_set fun c hc=>?_
  and_intros
  refine ⟨by decide,fun p hp=>?_⟩
  have s1:=Same.up (o:=HO.lst [V.int 2,V.int 3,V.int 4,V.int 5,V.int 10,V.int 26]) H hp
  refine ⟨sc,ns,_,_,s1.seq hS,hl,by decide,by decide,by decide,fun r h0 h1=>?_⟩
  refine ixI_go (ns:=[2,3,4,5,10,26]) SqL.here h0 (by simp only [List.length_cons,List.length_nil]; omega) fun L hL _=>hc _ _ ?_
  clear hc c
  generalize upd H p _ = H1 at s1 ⊢
  have hS1:=s1.seq hS
  have hL2:2 ≤ L∧L ≤ 26:=by
    simp only [List.mem_cons,List.not_mem_nil,or_false] at hL
    omega
  obtain ⟨L,rfl⟩:=Int.eq_ofNat_of_zero_le (a:=L) (by omega)
  refine seq_set fun c hc=>?_
  and_intros
  refine ⟨4,_,rfl,⟨sc,ns,_,_,hS1,hl,by decide,by decide,by split <;> omega,fun r2 h20 h21=>hc _ _ ?_⟩⟩
  clear hc c
  have hh:1 ≤ 1 + r2∧1 + r2 + 1 ≤ L:=by split at h21 <;> omega
  generalize 1 + r2 = h at hh ⊢
  and_intros
  refine ⟨sc,ns,_,_,hS1,hl,by decide,by decide,by decide,fun r3 h30 h31=>⟨rfl,?_⟩⟩
  by_cases z:r3 = 0
  · rw [if_pos (congrArg V.int z)]
    refine ⟨by decide,fun p2 hp2=>?_⟩
    have:=q _ p2 L (L - 1) (s1.new hp2 (o:=.tup [.int L,.int ((L:Int) - 1)])) (by rw [upd_same]; simp; omega) (by omega) (by omega) (by omega) (by omega)
    exact this
  · rw [if_neg (fun y=>z (V.int.inj y))]
    refine ⟨by decide,fun p2 hp2=>?_⟩
    have:=q _ p2 L h.toNat (s1.new hp2 (o:=.tup [.int L,.int h])) (by rw [upd_same]; simp; omega) (by omega) (by omega) (by omega) (by omega)
    exact this
theorem raised {C:Addr} {i:Nat} (hi:i ≤ 100000) (e:RE C E H i):([V.int i].length ≤ 8∧∀ ea,H ea = none→spNS C (.ref ea :: [.int i]) (upd H ea (excN ea C)) (fun v H2=>v = .non∧∃ d,H2 ea = some (excD ea C d)∧E (.ref C) (some d) (del H2 ea)) E0):=by
  refine ⟨show 1 ≤ 8 by decide,fun ea he=>⟨ea,i,rfl,upd_same,?_,fun d hd hne=>⟨rfl,d,upd_same,?_⟩⟩⟩
  · rw [Int.natAbs_natCast]
    have:i.log2 ≤ i:=Nat.log2_le_self i
    by_cases h:i = 0
    · rw [h]; decide
    · have:=(Nat.log2_lt h).mpr (Nat.lt_of_le_of_lt hi (show 100000 < 2 ^ 1900 by decide +kernel))
      exact this
  rw [upd_ne hne] at hd
  have e2 : del (upd (upd (upd (upd H ea (excN ea C)) ea (excN ea C)) d (.xd [("row", .int (i : Nat))])) ea (excD ea C d)) ea = upd H d (.xd [("row", .int (i : Nat))]) := by
    funext x
    by_cases hx:x = ea
    · subst hx; rw [del_same,upd_ne (Ne.symm hne),he]
    · rw [del_ne hx,upd_ne hx]
      by_cases hy:x = d
      · subst hy; rw [upd_same,upd_same]
      · rw [upd_ne hy,upd_ne hy,upd_ne hx,upd_ne hx]
  rw [e2]
  exact e d _ (Same.up H hd) hd upd_same
theorem read_xask (hN:N.length = 2) (h:spXAsk a.c_NoState vs H Q E):rd_p15 K a E { nx:=fun _ H'=>Q .non H',rt:=Q } (L2.start N vs) H:=by
  obtain ⟨b,i,rfl,hi,q,e⟩:=h
  unfold rd_p15 L2.start
  rw [hN]
  simp? [tRaiseD]
  cases b with
  | true=>exact q rfl
  | false=>exact raised hi (e rfl)
theorem read_xwords (hN:N.length = 2) (h:spXWords K vs H Q E):rd_p27 K a { nx:=fun _ H'=>Q .non H',rt:=Q } (L2.start N vs) H:=by
  obtain ⟨p,ts,i,rfl,hp,T,q⟩:=h
  unfold rd_p27 rdWordsAt L2.start
  rw [hN]
  and_intros
  refine lenL_go hp (kK ?_)
  rw [List.length_map]
  cases ht:ts[i]? with
  | none=>
    rw [if_neg (by have:=List.getElem?_eq_none_iff.mp ht; omega)]
    refine ⟨by decide,fun o ho=>?_⟩
    have:=q o ho
    rw [wAt,ht] at this
    exact this
  | some t=>
    rw [if_pos (by have:=(List.getElem?_eq_some_iff.mp ht).1; omega)]
    refine ixL_go (v:=strV t) hp (by omega) (by rw [Int.toNat_natCast,List.getElem?_map,ht]; rfl) ⟨rfl,t,32,rfl,rfl,by have:=(T.2 t (List.mem_of_getElem? ht)).1; omega,fun o ho=>?_⟩
    have:=q o ho
    rw [wAt,ht] at this
    exact this
theorem read_xnumTo (hN:N.length = 2) (h:spXNumTo vs H Q E):rd_p19 K a { nx:=fun _ H'=>Q .non H',rt:=Q } (L2.start N vs) H:=by
  obtain ⟨w,m,rfl,hw,q⟩:=h
  unfold rd_p19 rdIsNumberTo L2.start
  rw [hN]
  and_intros
  refine ⟨w,rfl,hw,fun H1 s1=>⟨_,rfl,?_⟩⟩
  have q1:=q H1 s1
  unfold numTo at q1
  by_cases hn:isNum w = true
  · rw [hn]
    and_intros
    have hl:=(isNum_iff.mp hn).2.1
    refine ⟨w,_,rfl,by omega,isNum_int hn,kK ?_⟩
    have e:decide ((val w:Int) ≤ (m:Int)) = (if isNum w = true∧0 ≤ val w∧val w ≤ m then some (val w) else none).isSome:=by
      by_cases hm:val w ≤ m
      · rw [if_pos ⟨hn,Nat.zero_le _,hm⟩,decide_eq_true (by omega)]; rfl
      · rw [if_neg fun z=>hm z.2.2,decide_eq_false (by omega)]; rfl
    rw [e]
    exact q1
  · rw [if_neg fun z=>hn z.1] at q1
    rw [Bool.not_eq_true] at hn
    rw [hn]
    exact q1
theorem read_xbehind (hN:N.length = 3) (h:spXBehind vs H Q E):rd_p17 K a { nx:=fun _ H'=>Q .non H',rt:=Q } (L2.start N vs) H:=by
  obtain ⟨L,l,w,rfl,hL,wl,q⟩:=h
  unfold rd_p17 rdMarkBehind L2.start
  rw [hN]
  and_intros
  refine ⟨L,w,rfl,hL,wl,fun H1 s1=>⟨_,rfl,?_⟩⟩
  have q1:=q H1 s1
  by_cases hm:markB L w = true
  · rw [hm] at q1 ⊢
    and_intros
    exact ⟨_,_,rfl,rfl,q1⟩
  · rw [Bool.not_eq_true] at hm
    rw [hm] at q1 ⊢
    exact q1
end K71
namespace K71
open PySem PySem.Spec PyProof.Rows L2 MM
variable {K:PySem.W.Frag} {mg:Str→Option Value} {a:Ad} {N:List Str} {vs:List V} {H:Hp} {Q:VK} {E:XK}
theorem len2 {α:Type} {l:List α} (h:l.length = 2):∃ x y,l = [x,y]:=by
  match l,h with
  | [x,y],_=>exact ⟨x,y,rfl⟩
theorem len3 {α:Type} {l:List α} (h:l.length = 3):∃ x y z,l = [x,y,z]:=by
  match l,h with
  | [x,y,z],_=>exact ⟨x,y,z,rfl⟩
theorem read_xmany (hN:N.length = 3) (h:spXMany K a.c_NoState vs H Q E):rd_p23 K a E { nx:=fun _ H'=>Q .non H',rt:=Q } (L2.start N vs) H:=by
  obtain ⟨p,ts,i,rfl,hp,T,hi,q,e⟩:=h
  unfold rd_p23 L2.start
  rw [hN]
  refine seq_set fun c hc=>?_
  and_intros
  refine ⟨p,ts,i,rfl,hp,T,fun o ho=>hc _ _ ?_⟩
  clear hc c
  have wd:=fun w (hw:w ∈ wAt ts i)=>T.word hw
  unfold manyF at q e
  generalize wAt ts i = ws at wd q e ⊢
  have s1:=Same.up H ho (o:=.lst (ws.map strV))
  have e1:(upd H o (.lst (ws.map strV))) o = some (.lst (ws.map strV)):=upd_same
  generalize upd H o _ = H1 at s1 e1 ⊢
  simp only [List.set_cons_zero,List.set_cons_succ,List.replicate_succ,List.replicate_zero,List.map_cons,List.map_nil,List.cons_append,List.nil_append]
  refine seq_any fun c hc=>?_
  and_intros
  refine lenL_go (SqL.of e1) ⟨rfl,?_⟩
  rw [List.length_map]
  by_cases hl:ws.length = 2
  · rw [if_pos (by rw [hl]; rfl)]
    obtain ⟨k,w,rfl⟩:=len2 hl
    simp only at q e
    refine ixL_go (v:=strV k) (SqL.of e1) (by decide) rfl ⟨rfl,?_⟩
    by_cases hk:k = kRnw
    · rw [if_pos (by rw [hk]; rfl)]
      rw [if_pos hk] at q e
      refine ixL_go (v:=strV w) (SqL.of e1) (by decide) rfl ⟨w,1000,rfl,by have:=(wd w (by simp)).1; omega,fun H2 s2=>?_⟩
      refine ⟨_,i,rfl,hi,fun hb=>hc _ _ ?_,fun hb=>?_⟩
      · obtain ⟨n,hn⟩:=Option.isSome_iff_exists.mp hb
        obtain ⟨hw,hv,_,_⟩:=numTo_some hn
        and_intros
        refine ixL_go (v:=strV w) (SqL.of (s2 _ _ e1)) (by decide) rfl ⟨w,_,rfl,by have:=(isNum_iff.mp hw).2.1; omega,isNum_int hw,?_⟩
        rw [← hv]
        exact q n (by rw [hn]; rfl) _ (s1.trans s2)
      · have hn:numTo 0 1000 w = none:=by cases z:numTo 0 1000 w with
          | none=>rfl
          | some n=>rw [z] at hb; cases hb
        rw [hn] at e
        exact (e rfl).mono (s1.trans s2)
    · rw [if_neg (show ¬ strV k = V.str (txt [114,101,110,101,119,97,108]) from fun z=>hk (txt_inj.mp (V.str.inj z)))]
      rw [if_neg hk] at e
      exact ⟨_,i,rfl,hi,(fun z=>nomatch z),fun _=>(e rfl).mono s1⟩
  · rw [if_neg (fun z=>hl (by injection z with z; omega))]
    refine ⟨_,i,rfl,hi,(fun z=>nomatch z),fun _=>RE.mono (e ?_) s1⟩
    split
    · exact absurd rfl hl
    · rfl
theorem read_xhead (T:Tx K mg a) (hN:N.length = 3) (h:spXHead K a.c_NoState vs H Q E):rd_p22 K a E { nx:=fun _ H'=>Q .non H',rt:=Q } (L2.start N vs) H:=by
  obtain ⟨p,ts,rfl,hp,Tt,q,e⟩:=h
  unfold rd_p22 L2.start
  rw [hN]
  refine seq_set fun c hc=>?_
  and_intros
  refine ⟨p,ts,0,rfl,hp,Tt,fun o ho=>hc _ _ ?_⟩
  clear hc c
  have wd:=fun w (hw:w ∈ wAt ts 0)=>Tt.word hw
  unfold headF at q e
  generalize wAt ts 0 = ws at wd q e ⊢
  have s1:=Same.up H ho (o:=.lst (ws.map strV))
  have e1:(upd H o (.lst (ws.map strV))) o = some (.lst (ws.map strV)):=upd_same
  generalize upd H o _ = H1 at s1 e1 ⊢
  simp only [List.set_cons_zero,List.set_cons_succ,List.replicate_succ,List.replicate_zero,List.map_cons,List.map_nil,List.cons_append,List.nil_append]
  refine seq_any fun c hc=>?_
  suffices main:∀ H2,Same H1 H2→ws.length = 3→ws.all isNum = true→c [some (.ref p),some (.ref o),none] H2 by
    and_intros
    refine lenL_go (SqL.of e1) ⟨rfl,?_⟩
    rw [List.length_map]
    by_cases hl:ws.length = 3
    · rw [if_pos (by rw [hl]; rfl)]
      refine comp_l (a:=o) (xs:=ws.map strV) (fun Q h=>h) (SqL.of e1) (fun i ys H'=>Same H1 H'∧ys = ((ws.take i).map isNum).map V.bl) ⟨Same.refl _,rfl⟩ (fun i ys H' _ p=>⟨SqL.of (p.1 _ _ e1),by rw [p.2,List.length_map,List.length_map,List.length_take]; exact Nat.min_le_left _ _⟩) (by rw [List.length_map,hl]; decide) ?_ ?_
      · rintro i v ys H' hv ⟨s',rfl⟩ W hW
        rw [List.getElem?_map] at hv
        obtain ⟨w,hw,rfl⟩:=Option.map_eq_some_iff.mp hv
        simp? [strV]
        refine ⟨w,rfl,by have:=(wd w (List.mem_of_getElem? hw)).1; omega,fun H2 s2=>hW _ _ ⟨s'.trans s2,?_⟩⟩
        rw [List.take_add_one,hw,List.map_append,List.map_append]
        rfl
      · rintro ys H' ⟨s',rfl⟩ p5 hp5
        rw [List.length_map,List.take_length]
        refine ⟨p5,_,rfl,SqL.here,_,0,rfl,by decide,fun hb=>main _ (s'.new hp5) hl ?_,fun hb=>?_⟩
        · rw [List.all_map] at hb
          exact hb
        · refine RE.mono (e ?_) (s1.trans (s'.new hp5))
          obtain ⟨x,y,z,rfl⟩:=len3 hl
          simp only
          rw [if_neg]
          rintro ⟨h1,h2,h3,_⟩
          simp [h1,h2,h3] at hb
    · rw [if_neg (fun z=>hl (by injection z with z; omega))]
      refine ⟨_,0,rfl,by decide,(fun z=>nomatch z),fun _=>RE.mono (e ?_) s1⟩
      split
      · exact absurd rfl hl
      · rfl
  intro H2 s2 hl hall
  refine hc _ _ ?_
  clear hc c
  obtain ⟨x,y,z,rfl⟩:=len3 hl
  simp only [List.all_cons,List.all_nil,Bool.and_true,Bool.and_eq_true] at hall
  obtain ⟨n1,n2,n3⟩:=hall
  have s12:=s1.trans s2
  have e2:=s2 _ _ e1
  simp only [n1,n2,n3,true_and] at q e
  refine seq_cset fun c hc=>?_
  refine comp_l (a:=o) (xs:=[x,y,z].map strV) (fun Q h=>h) (SqL.of e2) (fun i ys H'=>H' = H2∧ys = (([x,y,z].take i).map fun n=>.int (val n:Nat))) ⟨rfl,rfl⟩ (fun i ys H' _ p=>⟨by rw [p.1]; exact SqL.of e2,by rw [p.2,List.length_map,List.length_take]; exact Nat.min_le_left _ _⟩) (show 3 ≤ sizeLine by decide) ?_ ?_
  · rintro i v ys H' hv ⟨rfl,rfl⟩ W hW
    rw [List.getElem?_map] at hv
    obtain ⟨w,hw,rfl⟩:=Option.map_eq_some_iff.mp hv
    have nw:isNum w = true:=by
      have:=List.mem_of_getElem? hw
      simp only [List.mem_cons,List.not_mem_nil,or_false] at this
      rcases this with rfl | rfl | rfl <;> assumption
    simp? [strV]
    refine ⟨w,_,rfl,by have:=(isNum_iff.mp nw).2.1; omega,isNum_int nw,hW _ _ ⟨rfl,?_⟩⟩
    rw [List.take_add_one,hw,List.map_append]
    rfl
  rintro ys H3 ⟨rfl,rfl⟩ o2 ho2
  refine hc _ _ ?_
  clear hc
  have f3:=s12.free1 ho2
  have e3:(upd H3 o2 (.lst (([x,y,z].take ([x,y,z].map strV).length).map fun n=>.int (val n:Nat)))) o2 = some (.lst [.int (val x:Nat),.int (val y:Nat),.int (val z:Nat)]):=upd_same
  have s3:Same H (upd H3 o2 (.lst (([x,y,z].take ([x,y,z].map strV).length).map fun n=>.int (val n:Nat)))):=s12.new ho2
  generalize upd H3 o2 _ = H4 at s3 e3 ⊢
  simp only [List.set_cons_zero,List.set_cons_succ]
  refine seq_any fun c hc=>?_
  simp? [tTryF,TakenF,tCallX]
  refine ixL_go (v:=.int (val x:Nat)) (SqL.of e3) (by decide) rfl (ixL_go (v:=.int (val y:Nat)) (SqL.of e3) (by decide) rfl ?_)
  refine ⟨_,_,rfl,fun ok=>hc _ _ ?_,fun bad=>?_⟩
  · clear hc c
    refine seq_any fun c hc=>?_
    and_intros
    refine ixL_go (v:=.int (val z:Nat)) (SqL.of e3) (by decide) rfl (kK ⟨_,0,rfl,by decide,fun hb=>hc _ _ ?_,fun hb=>?_⟩)
    · and_intros
      exact q (val x) (val y) (val z) (by rw [if_pos (by have:=of_decide_eq_true hb; omega)]) _ o2 s3 f3 e3
    · exact RE.mono (e (by rw [if_neg (by have:=of_decide_eq_false hb; omega)])) s3
  · refine ⟨rfl,_,rfl,⟨⟨_,_,T.x_NoLetters⟩,⟨_,_,T.x_NoLetters,rfl⟩,T.s_NoLetters_NoLetters⟩,?_⟩
    exact raised (i:=0) (by decide) (RE.mono (e (by rw [if_neg (by omega)])) s3)
end K71
namespace K71
open PySem PySem.Spec PyProof.Rows L2 MM
variable {K:PySem.W.Frag} {mg:Str→Option Value} {a:Ad} {N:List Str} {vs:List V} {H:Hp} {Q:VK} {E:XK}
def XRInv (L i0 n:Nat) (p p4:Addr) (H:Hp) (ts:List (List Nat)):Nat→L2.St→Hp→Prop:=fun i σ H'=>∃ (r:List RwN) (ys:List V) (v7 v8:Option V),Keeps [p4] H H'∧H' p4 = some (.lst ys)∧r.length = i∧ys.length = i∧Prs H' ys (r.map rowP)∧runE (rowF L ts i0) n [] = runE (rowF L ts i0) (n - i) r∧σ = [some (.int L),some (.ref p),some (.int i0),some (.int n),some (.ref p4),some (strV (lastO r)),some (strV (lastN r)),v7,v8]
theorem read_xrows (hN:N.length = 9) (h:spXRows K a.c_NoState vs H Q E):rd_p24 K a E { nx:=fun _ H'=>Q .non H',rt:=Q } (L2.start N vs) H:=by
  obtain ⟨L,p,ts,i0,n,rfl,hL26,hp,T,h0,hn,q,er⟩:=h
  unfold rd_p24 L2.start
  rw [hN]
  refine seq_set fun c hc=>?_
  and_intros
  refine ⟨by decide,fun p4 hp4=>hc _ _ ?_⟩
  clear hc c
  have s1:=Same.up H hp4 (o:=.lst [])
  have e1:(upd H p4 (.lst [])) p4 = some (.lst []):=upd_same
  generalize upd H p4 _ = H1 at s1 e1 ⊢
  have nosub:∀ b ∈ [p4],H b = none:=fun b hb=>by rw [List.mem_singleton.mp hb]; exact hp4
  simp only [List.set_cons_zero,List.set_cons_succ,List.replicate_succ,List.replicate_zero,List.map_cons,List.map_nil,List.cons_append,List.nil_append]
  refine seq_set fun c hc=>?_
  and_intros
  refine hc _ _ ?_
  clear hc c
  refine seq_set fun c hc=>?_
  and_intros
  refine hc _ _ ?_
  clear hc c
  simp only [List.set_cons_zero,List.set_cons_succ]
  refine seq_any fun c hc=>?_
  refine for_r2 (l:=i0) (j:=(i0:Int) + n) (fun Q h=>by and_intros; exact h) (by omega) (by omega) (by omega) (by omega) (XRInv L i0 n p p4 H1 ts) ⟨[],[],none,none,fun b o e _=>e,e1,rfl,rfl,trivial,rfl,rfl⟩ ?_ ?_
  · rintro i σ H' hi ⟨r,ys,v7,v8,k',l',hr,hy,pr',rn,rfl⟩
    have hin:i < n:=by omega
    have sH:=same_keep s1 k' nosub
    obtain ⟨m,hm⟩:∃ m,n - i = m + 1:=⟨n - i - 1,by omega⟩
    have hm2:n - (i + 1) = m:=by omega
    rw [hm] at rn
    refine seq_set fun c1 hc1=>?_
    and_intros
    refine ⟨p,ts,i0 + i,rfl,SqL.of (sH _ _ hp),T,fun o ho=>hc1 _ _ ?_⟩
    clear hc1 c1
    have wd:=fun w (hw:w ∈ wAt ts (i0 + i))=>T.word hw
    have stuck:rRow L (lastO r) (lastN r) (wAt ts (i0 + i)) = none→RE a.c_NoState E H (i0 + i):=fun z=>er _ (by rw [rn,runE_err (e:=i0 + i) (by rw [rowF,hr,z]; rfl)])
    have go:∀ y,rRow L (lastO r) (lastN r) (wAt ts (i0 + i)) = some y→runE (rowF L ts i0) n [] = runE (rowF L ts i0) m (r ++ [y]):=fun y z=>by rw [rn,runE_ok (y:=y) (by rw [rowF,hr,z]; rfl)]
    generalize wAt ts (i0 + i) = ws at wd stuck go ⊢
    have sa:=Same.up H' ho (o:=.lst (ws.map strV))
    have ea:(upd H' o (.lst (ws.map strV))) o = some (.lst (ws.map strV)):=upd_same
    generalize upd H' o _ = Ha at sa ea ⊢
    have sHa:=sH.trans sa
    have app:∀ (y:RwN) (Hc:Hp) (t:Addr),rRow L (lastO r) (lastN r) ws = some y→Same Ha Hc→Hc t = none→XRInv L i0 n p p4 H1 ts (i + 1) [some (.int L),some (.ref p),some (.int i0),some (.int n),some (.ref p4),some (strV y.1),some (strV (y.2.getD (lastN r))),some (.int ((i0:Int) + i)),some (.ref o)] (upd (upd Hc t (.tup [strV y.1,oV y.2])) p4 (.lst (ys ++ [.ref t]))):=by
      intro y Hc t hy2 sc ht
      have lc:=sc _ _ (sa _ _ l')
      have n6:p4 ≠ t:=fun z=>by subst z; rw [lc] at ht; cases ht
      refine ⟨r ++ [y],_,some (.int ((i0:Int) + i)),some (.ref o),((k'.trans ((sa.trans sc).keeps _)).upd (.inr ht)).upd (.inl List.mem_cons_self),upd_same,by rw [List.length_append,hr]; rfl,by rw [List.length_append,hy]; rfl,?_,by rw [hm2]; exact go y hy2,?_⟩
      · rw [List.map_append]
        refine ((pr'.same (sa.trans sc)).keep (keep_list ht lc)).app ⟨⟨t,rfl,?_⟩,trivial⟩
        rw [upd_ne (Ne.symm n6),upd_same]
        rfl
      · rw [lastO_snoc,show r ++ [y] = r ++ [(y.1,y.2)] from rfl,lastN_snoc]
    simp only [List.set_cons_zero,List.set_cons_succ]
    refine seq_any fun c1 hc1=>?_
    suffices main:∀ Hb x w,Same Ha Hb→ws = [x,w]→markB L x = true→lastO r < x→c1 [some (.int L),some (.ref p),some (.int i0),some (.int n),some (.ref p4),some (strV (lastO r)),some (strV (lastN r)),some (.int ((i0:Int) + i)),some (.ref o)] Hb by
      and_intros
      refine lenL_go (SqL.of ea) ⟨rfl,?_⟩
      rw [List.length_map]
      by_cases hl:ws.length = 2
      · rw [if_pos (by rw [hl]; rfl)]
        obtain ⟨x,w,rfl⟩:=len2 hl
        refine ixL_go (v:=strV x) (SqL.of ea) (by decide) rfl ⟨L,lastO r,x,rfl,hL26,by have:=(wd x (by simp)).1; omega,fun Hb sb=>⟨_,i0 + i,rfl,by omega,fun hb=>?_,fun hb=>?_⟩⟩
        · rw [Bool.and_eq_true,decide_eq_true_eq] at hb
          exact main Hb x w sb rfl hb.1 hb.2
        · refine RE.mono (stuck ?_) (sHa.trans sb)
          rw [rRow_two,if_neg]
          rintro ⟨z1,z2⟩
          rw [z1,decide_eq_true z2] at hb
          cases hb
      · rw [if_neg (fun z=>hl (by injection z with z; omega))]
        refine ⟨_,i0 + i,rfl,by omega,(fun z=>nomatch z),fun _=>RE.mono (stuck ?_) sHa⟩
        exact rRow_len hl
    rintro Hb x w sb rfl mx lx
    refine hc1 _ _ ?_
    clear hc1 c1
    have eb:=sb _ _ ea
    refine seq_set fun c1 hc1=>?_
    and_intros
    refine ixL_go (v:=strV x) (SqL.of eb) (by decide) rfl (hc1 _ _ ?_)
    clear hc1 c1
    simp? [List.set_cons_zero,List.set_cons_succ]
    refine ixL_go (v:=strV w) (SqL.of eb) (by decide) rfl ⟨rfl,?_⟩
    by_cases hw:w = [45]
    · rw [if_pos (show strV w = V.str (txt [45]) by rw [hw]; rfl)]
      have lb:=sb _ _ (sa _ _ l')
      refine ⟨.inl ⟨rfl,_,SqL.of lb⟩,ixL_go (v:=strV x) (SqL.of eb) (by decide) rfl ⟨by decide,fun t ht=>?_⟩⟩
      have:=app (x,none) Hb t (by rw [rRow_two,if_pos ⟨mx,lx⟩,if_pos hw]) sb ht
      exact append_go (by rw [upd_ne (fun z=>by subst z; rw [lb] at ht; cases ht)]; exact lb) (by omega) this
    · rw [if_neg (show ¬ strV w = V.str (txt [45]) from fun z=>hw (txt_inj.mp (V.str.inj z)))]
      refine ixL_go (v:=strV w) (SqL.of eb) (by decide) rfl ⟨L,lastN r,w,rfl,hL26,by have:=(wd w (by simp)).1; omega,fun Hc sc=>⟨_,i0 + i,rfl,by omega,fun hb=>?_,fun hb=>?_⟩⟩
      · rw [Bool.and_eq_true,decide_eq_true_eq] at hb
        have ec:=sc _ _ eb
        have sbc:=sb.trans sc
        have lc:=sbc _ _ (sa _ _ l')
        refine ixL_go (v:=strV w) (SqL.of ec) (by decide) rfl ⟨.inl ⟨rfl,_,SqL.of lc⟩,ixL_go (v:=strV x) (SqL.of ec) (by decide) rfl (ixL_go (v:=strV w) (SqL.of ec) (by decide) rfl ⟨by decide,fun t ht=>?_⟩)⟩
        have:=app (x,some w) Hc t (by rw [rRow_two,if_pos ⟨mx,lx⟩,if_neg hw,if_pos hb]) sbc ht
        exact append_go (by rw [upd_ne (fun z=>by subst z; rw [lc] at ht; cases ht)]; exact lc) (by omega) this
      · refine RE.mono (stuck ?_) (sHa.trans (sb.trans sc))
        rw [rRow_two,if_pos ⟨mx,lx⟩,if_neg hw,if_neg]
        rintro ⟨z1,z2⟩
        rw [z1,decide_eq_true z2] at hb
        cases hb
  rintro σ H2 ⟨r,ys,v7,v8,k2,l2,hr,hy,pr2,rn,rfl⟩
  refine hc _ _ ?_
  clear hc c
  have s2:=same_keep s1 k2 nosub
  rw [show ((i0:Int) + n - i0).toNat = n by omega,Nat.sub_self] at rn
  and_intros
  exact q r rn _ p4 ys s2 hp4 l2 pr2
end K71
namespace K71
open PySem PySem.Spec PyProof.Rows L2 MM
variable {K:PySem.W.Frag} {mg:Str→Option Value} {a:Ad} {N:List Str} {vs:List V} {H:Hp} {Q:VK} {E:XK}
theorem cutV_drop (xs:List V) (i:Nat):cutV xs (some (i:Int)) none = xs.drop i:=by
  unfold cutV
  rw [HT.sIx_nat,HT.sIx_none,List.take_of_length_le (by rw [List.length_drop]; exact Nat.le_refl _)]
  by_cases h:i ≤ xs.length
  · rw [Nat.min_eq_left h]
  · rw [Nat.min_eq_right (by omega),List.drop_of_length_le (Nat.le_refl _),List.drop_of_length_le (by omega)]
theorem drop2 {ws:List (List Nat)} (h:ws.drop 2 = [kTkn]):∃ x y,ws = [x,y,kTkn]:=by
  match ws,h with
  | x :: y :: t,h=>exact ⟨x,y,by rw [show t = [kTkn] from h]⟩
theorem thOk_bad {L:Nat} {lo:List Nat} {ws:List (List Nat)} (h2:ws.length ≠ 2) (h3:ws.drop 2 ≠ [kTkn]):thOk L lo ws = false:=by
  unfold thOk
  split
  · exact absurd rfl h2
  · rename_i x y c
    rw [decide_eq_false (fun z=>h3 (by rw [z]; rfl))]
    rfl
  · rfl
theorem thOk_good {L:Nat} {lo:List Nat} {ws:List (List Nat)} (h:ws.length = 2 ∨ ws.drop 2 = [kTkn]):∃ x y,ws[0]? = some x∧ws[1]? = some y∧ws.headD [] = x∧(ws.tail).headD [] = y∧thOk L lo ws = (markB L x && decide (lo < x) && thingB y):=by
  rcases h with h | h
  · obtain ⟨x,y,rfl⟩:=len2 h
    exact ⟨x,y,rfl,rfl,rfl,rfl,rfl⟩
  · obtain ⟨x,y,rfl⟩:=drop2 h
    exact ⟨x,y,rfl,rfl,rfl,rfl,by show (decide (kTkn = kTkn) && _) = _; rw [decide_eq_true rfl]; exact Bool.true_and _⟩
def XTInv (L i0:Nat) (p p3:Addr) (H:Hp) (ts:List (List Nat)):Nat→L2.St→Hp→Prop:=fun i σ H'=>∃ (l:List (List (List Nat))) (as:List Addr) (v5 v6:Option V),Keeps [p3] H H'∧H' p3 = some (.lst (as.map V.ref))∧l.length = i∧Wds H' as l∧(∀ b ∈ as,b ≠ p3)∧runE (thF L ts i0) (ts.length - i0) [] = runE (thF L ts i0) (ts.length - i0 - i) l∧σ = [some (.int L),some (.ref p),some (.int i0),some (.ref p3),some (strV (lastT l)),v5,v6]
theorem read_xthings (hN:N.length = 7) (h:spXThings K a.c_NoState vs H Q E):rd_p26 K a E { nx:=fun _ H'=>Q .non H',rt:=Q } (L2.start N vs) H:=by
  obtain ⟨L,p,ts,i0,rfl,hL26,hp,T,h0,q,er⟩:=h
  have tl:=T.1
  unfold rd_p26 L2.start
  rw [hN]
  refine seq_set fun c hc=>?_
  and_intros
  refine ⟨by decide,fun p3 hp3=>hc _ _ ?_⟩
  clear hc c
  have s1:=Same.up H hp3 (o:=.lst [])
  have e1:(upd H p3 (.lst [])) p3 = some (.lst []):=upd_same
  generalize upd H p3 _ = H1 at s1 e1 ⊢
  have nosub:∀ b ∈ [p3],H b = none:=fun b hb=>by rw [List.mem_singleton.mp hb]; exact hp3
  simp only [List.set_cons_zero,List.set_cons_succ,List.replicate_succ,List.replicate_zero,List.map_cons,List.map_nil,List.cons_append,List.nil_append]
  refine seq_set fun c hc=>?_
  and_intros
  refine hc _ _ ?_
  clear hc c
  simp only [List.set_cons_zero,List.set_cons_succ]
  refine seq_any fun c hc=>?_
  refine for_r2 (l:=i0) (j:=(ts.length:Nat)) (fun Q h=>by and_intros; exact lenL_go (SqL.of (s1 _ _ hp)) (by rw [List.length_map]; exact h)) (by omega) (by omega) (by omega) (by omega) (XTInv L i0 p p3 H1 ts) ⟨[],[],none,none,fun b o e _=>e,e1,rfl,⟨rfl,fun j w e=>by simp at e⟩,fun a ha=>(nomatch ha),rfl,rfl⟩ ?_ ?_
  · rintro i σ H' hi ⟨l,as,v5,v6,k',l',hl',wd',na',rn,rfl⟩
    have sH:=same_keep s1 k' nosub
    obtain ⟨m,hm⟩:∃ m,ts.length - i0 - i = m + 1:=⟨ts.length - i0 - i - 1,by omega⟩
    have hm2:ts.length - i0 - (i + 1) = m:=by omega
    have asl:as.length = i:=by rw [wd'.1,hl']
    rw [hm] at rn
    refine seq_set fun c1 hc1=>?_
    and_intros
    refine ⟨p,ts,i0 + i,rfl,SqL.of (sH _ _ hp),T,fun o ho=>hc1 _ _ ?_⟩
    clear hc1 c1
    have wd:=fun w (hw:w ∈ wAt ts (i0 + i))=>T.word hw
    have stuck:thOk L (lastT l) (wAt ts (i0 + i)) = false→RE a.c_NoState E H (i0 + i):=fun z=>er _ (by rw [rn,runE_err (e:=i0 + i) (by rw [thF,hl',z]; rfl)])
    have go:thOk L (lastT l) (wAt ts (i0 + i)) = true→runE (thF L ts i0) (ts.length - i0) [] = runE (thF L ts i0) m (l ++ [wAt ts (i0 + i)]):=fun z=>by rw [rn,runE_ok (y:=wAt ts (i0 + i)) (by rw [thF,hl',z]; rfl)]
    generalize wAt ts (i0 + i) = ws at wd stuck go ⊢
    have no:o ≠ p3:=fun x=>by rw [x,l'] at ho; cases ho
    have sa:=Same.up H' ho (o:=.lst (ws.map strV))
    have ea:(upd H' o (.lst (ws.map strV))) o = some (.lst (ws.map strV)):=upd_same
    generalize upd H' o _ = Ha at sa ea ⊢
    have sHa:=sH.trans sa
    simp only [List.set_cons_zero,List.set_cons_succ]
    refine seq_any fun c1 hc1=>?_
    suffices main:∀ Hb,Same Ha Hb→(ws.length = 2 ∨ ws.drop 2 = [kTkn])→c1 [some (.int L),some (.ref p),some (.int i0),some (.ref p3),some (strV (lastT l)),some (.int ((i0:Int) + i)),some (.ref o)] Hb by
      and_intros
      refine lenL_go (SqL.of ea) ⟨rfl,?_⟩
      rw [List.length_map]
      by_cases h2:ws.length = 2
      · rw [if_pos (by rw [h2]; rfl)]
        exact ⟨_,i0 + i,rfl,by omega,fun _=>main _ (Same.refl _) (.inl h2),fun z=>nomatch z⟩
      · rw [if_neg (fun z=>h2 (by injection z with z; omega))]
        refine slL_go (SqL.of ea) fun b hb=>⟨by decide,fun b2 hb2=>?_⟩
        have nb:b ≠ b2:=fun x=>by rw [← x,upd_same] at hb2; cases hb2
        refine ⟨b,b2,ws.drop 2,[kTkn],rfl,rfl,SqL.of ?_,SqL.of (by rw [upd_same]; rfl),fun y hy=>strOk_small (wd y (List.mem_of_mem_drop hy)).2,fun y hy=>by rw [List.mem_singleton.mp hy]; decide +kernel,?_⟩
        · rw [upd_ne nb,upd_same,show (2:Int) = ((2:Nat):Int) from rfl,cutV_drop,List.map_drop]
        have sbb:=(Same.up Ha hb).new hb2 (o:=.lst [.str (txt [116,97,107,101,110])])
        refine ⟨_,i0 + i,rfl,by omega,fun hz=>main _ sbb (.inr (of_decide_eq_true hz)),fun hz=>RE.mono (stuck (thOk_bad h2 (of_decide_eq_false hz))) (sHa.trans sbb)⟩
    intro Hb sb hw
    refine hc1 _ _ ?_
    clear hc1 c1
    obtain ⟨x,y,g0,g1,hx,hy,tk⟩:=thOk_good (L:=L) (lo:=lastT l) hw
    rw [tk] at stuck go
    have eb:=sb _ _ ea
    have sab:=sa.trans sb
    have G0:(ws.map strV)[0]? = some (strV x):=by rw [List.getElem?_map,g0]; rfl
    have G1:(ws.map strV)[1]? = some (strV y):=by rw [List.getElem?_map,g1]; rfl
    refine seq_any fun c1 hc1=>?_
    and_intros
    refine ixL_go (v:=strV x) (SqL.of eb) (by decide) G0 ⟨L,lastT l,x,rfl,hL26,by have:=(wd x (List.mem_of_getElem? g0)).1; omega,fun Hc sc=>⟨_,rfl,?_⟩⟩
    have sac:=sab.trans sc
    by_cases hb:(markB L x && decide (lastT l < x)) = true
    · rw [if_pos hb]
      have ec:=sc _ _ eb
      refine ixL_go (v:=strV y) (SqL.of ec) (by decide) G1 ⟨y,rfl,by have:=(wd y (List.mem_of_getElem? g1)).1; omega,fun Hd b sd hB=>⟨_,i0 + i,rfl,by omega,fun z=>hc1 _ _ ?_,fun z=>?_⟩⟩
      · clear hc1 c1
        have ed:=sd _ _ ec
        have sad:=sac.trans sd
        have ty:thingB y = true:=thingB_iff.mpr (hB.mp z)
        refine seq_set fun c1 hc1=>?_
        and_intros
        refine ixL_go (v:=strV x) (SqL.of ed) (by decide) G0 (hc1 _ _ ?_)
        clear hc1 c1
        simp? [List.set_cons_zero,List.set_cons_succ]
        have ld:=sad _ _ l'
        refine ⟨.inl ⟨rfl,_,SqL.of ld⟩,append_go ld (by rw [List.length_map]; omega) ⟨l ++ [ws],as ++ [o],some (.int ((i0:Int) + i)),some (.ref o),(k'.trans (sad.keeps _)).upd (.inl List.mem_cons_self),by rw [upd_same,List.map_append]; rfl,by rw [List.length_append,hl']; rfl,?_,fun a ha=>?_,?_,?_⟩⟩
        · refine Wds.up ((wd'.same sad).add ed) fun a ha=>?_
          rcases List.mem_append.mp ha with h | h
          · exact na' a h
          · rw [List.mem_singleton.mp h]; exact no
        · rcases List.mem_append.mp ha with h | h
          · exact na' a h
          · rw [List.mem_singleton.mp h]; exact no
        · rw [hm2]
          exact go (by rw [hb,ty]; rfl)
        · rw [lastT_snoc,hx]
      · have ty:thingB y = false:=by
          cases e:thingB y with
          | false=>rfl
          | true=>rw [hB.mpr (thingB_iff.mp e)] at z; cases z
        exact RE.mono (stuck (by rw [ty,Bool.and_false])) (sH.trans (sac.trans sd))
    · rw [if_neg hb]
      rw [Bool.not_eq_true] at hb
      exact ⟨_,i0 + i,rfl,by omega,(fun z=>nomatch z),fun _=>RE.mono (stuck (by rw [hb]; rfl)) (sH.trans sac)⟩
  rintro σ H2 ⟨l,as,v5,v6,k2,l2,hl2,wd2,-,rn,rfl⟩
  refine hc _ _ ?_
  clear hc c
  have s2:=same_keep s1 k2 nosub
  rw [show (((ts.length:Nat):Int) - i0).toNat = ts.length - i0 by omega,Nat.sub_self] at rn
  and_intros
  exact q l rn _ p3 as s2 hp3 l2 wd2
end K71
namespace K71
open PySem PySem.Spec PyProof.Rows L2 MM
variable {K:PySem.W.Frag} {mg:Str→Option Value} {a:Ad} {N:List Str} {vs:List V} {H:Hp} {Q:VK} {E:XK}
theorem runE_len {α:Type} {f:List α→Except Nat α}:∀ {n:Nat} {acc l:List α},runE f n acc = .ok l→l.length = acc.length + n
  | 0,acc,l,h=>by cases h; rfl
  | n + 1,acc,l,h=>by
    rw [runE] at h
    split at h
    · cases h
    · rw [runE_len h,List.length_append,List.length_singleton]; omega
theorem runE_all {α:Type} {f:List α→Except Nat α} {P:α→Prop} (hf:∀ acc y,f acc = .ok y→P y):∀ {n:Nat} {acc l:List α},runE f n acc = .ok l→(∀ w ∈ acc,P w)→∀ w ∈ l,P w
  | 0,acc,l,h,ha=>by cases h; exact ha
  | n + 1,acc,l,h,ha=>by
    rw [runE] at h
    split at h
    · cases h
    · rename_i y hy
      refine runE_all hf h fun w hw=>?_
      rcases List.mem_append.mp hw with hw | hw
      · exact ha w hw
      · rw [List.mem_singleton.mp hw]; exact hf _ _ hy
theorem rows_pos {L i0:Nat} {ts:List (List Nat)}:∀ {n:Nat} {acc r:List RwN},runE (rowF L ts i0) n acc = .ok r→i0 + acc.length ≤ ts.length→i0 + r.length ≤ ts.length
  | 0,acc,r,h,ha=>by cases h; exact ha
  | n + 1,acc,r,h,ha=>by
    rw [runE] at h
    split at h
    · cases h
    · rename_i y hy
      refine rows_pos h ?_
      have:=(rowF_ok hy).2
      rw [List.length_append,List.length_singleton]
      omega
theorem ren_ok {L i:Nat} {ts:List (List Nat)} {r:List RwN} (h:renF L ts i = .ok r):i + 1 + r.length ≤ ts.length∧r.length ≤ 1000∧manyF ts i = .ok r.length∧runE (rowF L ts (i + 1)) r.length [] = .ok r:=by
  unfold renF at h
  split at h
  · cases h
  · rename_i n hn
    obtain ⟨h1,h2,_⟩:=manyF_ok hn
    have:=rows_pos h (by simp only [List.length_nil]; omega)
    have e:=runE_len h
    rw [List.length_nil,Nat.zero_add] at e
    refine ⟨by omega,by omega,by rw [hn,e],by rw [e]; exact h⟩
theorem headF_ok {ts:List (List Nat)} {L h g:Nat} (e:headF ts = .ok (L,h,g)):2 ≤ L∧L ≤ 26∧1 ≤ h∧h < L∧g ≤ 1000∧∃ x y z,wAt ts 0 = [x,y,z]∧isNum x = true∧isNum y = true∧isNum z = true∧L = val x∧h = val y∧g = val z:=by
  unfold headF at e
  split at e
  · rename_i x y z hw
    split at e
    · rename_i hc
      cases e
      obtain ⟨c1,c2,c3,c4,c5,c6,c7,c8⟩:=hc
      exact ⟨c4,c5,c6,c7,c8,x,y,z,hw,c1,c2,c3,rfl,rfl,rfl⟩
    · cases e
  · cases e
theorem thF_ok {L i0:Nat} {ts:List (List Nat)} {l:List (List (List Nat))} {w:List (List Nat)} (h:thF L ts i0 l = .ok w):thOk L (lastT l) w = true∧w = wAt ts (i0 + l.length):=by
  unfold thF at h
  split at h
  · rename_i z
    cases h
    exact ⟨z,rfl⟩
  · cases h
def ThW (L:Nat) (w:List (List Nat)):Prop:=∃ x y,w[0]? = some x∧w[1]? = some y∧w.headD [] = x∧(w.tail).headD [] = y∧Mark L x∧Thing y∧(w.length = 2 ∨ w.length = 3)
theorem thOk_w {L:Nat} {lo:List Nat} {w:List (List Nat)} (h:thOk L lo w = true):ThW L w:=by
  have hg:w.length = 2 ∨ w.drop 2 = [kTkn]:=by
    by_cases h2:w.length = 2
    · exact .inl h2
    · by_cases h3:w.drop 2 = [kTkn]
      · exact .inr h3
      · rw [thOk_bad h2 h3] at h; cases h
  obtain ⟨x,y,a1,a2,a3,a4,a5⟩:=thOk_good (L:=L) (lo:=lo) hg
  rw [a5,Bool.and_eq_true,Bool.and_eq_true] at h
  refine ⟨x,y,a1,a2,a3,a4,markB_iff.mp h.1.1,thingB_iff.mp h.2,?_⟩
  rcases hg with hg | hg
  · exact .inl hg
  · obtain ⟨x,y,rfl⟩:=drop2 hg
    exact .inr rfl
def XSInv (p o1 p2:Addr) (H0 H:Hp) (L g:Nat) (ts:List (List Nat)):Nat→L2.St→Hp→Prop:=fun i σ H'=>∃ (R:List (List RwN)) (bs:List Addr) (v4 v5:Option V),Keeps [p2] H H'∧H' p2 = some (.lst (bs.map V.ref))∧RowsC H' bs R∧R.length = i∧(∀ a ∈ bs,a ≠ p2∧H0 a = none)∧posR R ≤ 1001∧runE (fun R=>renF L ts (posR R)) g [] = runE (fun R=>renF L ts (posR R)) (g - i) R∧σ = [some (.ref p),some (.ref o1),some (.ref p2),some (.int (posR R:Nat)),v4,v5,none,none,none]
theorem read_xstate (hN:N.length = 9) (h:spXState K a.c_NoState vs H Q E):rd_p25 K a E { nx:=fun _ H'=>Q .non H',rt:=Q } (L2.start N vs) H:=by
  obtain ⟨p,ts,rfl,hp,T,q,er⟩:=h
  have tl:=T.1
  unfold rd_p25 L2.start
  rw [hN]
  refine seq_set fun c hc=>?_
  and_intros
  unfold stateF at q er
  refine ⟨p,ts,rfl,SqL.of hp,T,fun L h g hh H1 o1 s1 f1 e1=>hc _ _ ?_,fun hh=>er 0 (by rw [hh])⟩
  clear hc c
  obtain ⟨l2,l26,h1,hL,hg,-⟩:=headF_ok hh
  rw [hh] at q er
  simp only at q er
  simp only [List.set_cons_zero,List.set_cons_succ,List.replicate_succ,List.replicate_zero,List.map_cons,List.map_nil,List.cons_append,List.nil_append]
  refine seq_set fun c hc=>?_
  and_intros
  refine ⟨by decide,fun p2 hp2=>hc _ _ ?_⟩
  clear hc c
  have f2:=s1.free1 hp2
  have s2:=Same.up H1 hp2 (o:=.lst [])
  have e2:(upd H1 p2 (.lst [])) p2 = some (.lst []):=upd_same
  generalize upd H1 p2 _ = H2 at s2 e2 ⊢
  have s12:=s1.trans s2
  have nosub:∀ b ∈ [p2],H1 b = none:=fun b hb=>by rw [List.mem_singleton.mp hb]; exact hp2
  refine seq_set fun c hc=>?_
  and_intros
  refine hc _ _ ?_
  clear hc c
  simp only [List.set_cons_zero,List.set_cons_succ]
  refine seq_any fun c hc=>?_
  have o1p:o1 ≠ p2:=fun z=>by rw [z,hp2] at e1; cases e1
  refine for_r1 (j:=(g:Nat)) (fun Q h=>by and_intros; exact ixL_go (v:=.int g) (SqL.of (s2 _ _ e1)) (by decide) rfl h) (by omega) (by omega) (XSInv p o1 p2 H H2 L g ts) ⟨[],[],none,none,fun b o e _=>e,e2,trivial,rfl,fun a ha=>(nomatch ha),by decide,rfl,rfl⟩ ?_ ?_
  · rintro i σ H' hi ⟨R,bs,v4,v5,k',l',rc',hR,na',ps,rn,rfl⟩
    have sH:=same_keep s2 k' nosub
    have hbl:=rc'.len
    obtain ⟨m,hm⟩:∃ m,g - i = m + 1:=⟨g - i - 1,by omega⟩
    have hm2:g - (i + 1) = m:=by omega
    rw [hm] at rn
    have stuck:∀ e,renF L ts (posR R) = .error e→RE a.c_NoState E H e:=fun e z=>er e (by rw [rn,runE_err z])
    refine seq_set fun c1 hc1=>?_
    and_intros
    refine ⟨p,ts,posR R,rfl,SqL.of (sH _ _ (s1 _ _ hp)),T,by omega,fun n hn Ha sa=>hc1 _ _ ?_,fun hn=>RE.mono (stuck _ (by rw [renF,hn])) (s1.trans sH)⟩
    clear hc1 c1
    obtain ⟨n1,n2,-⟩:=manyF_ok hn
    have sa1:=sH.trans sa
    simp only [List.set_cons_zero,List.set_cons_succ]
    refine seq_any fun c1 hc1=>?_
    and_intros
    refine ⟨.inl ⟨rfl,_,SqL.of (sa _ _ l')⟩,ixL_go (v:=.int L) (SqL.of (sa1 _ _ e1)) (by decide) rfl ⟨L,p,ts,posR R + 1,n,rfl,l26,sa1 _ _ (s1 _ _ hp),T,by omega,n2,fun r hr Hb o xs sb ho eo po=>?_,fun e he=>RE.mono (stuck e (by rw [renF,hn]; exact he)) (s1.trans sa1)⟩⟩
    have rl:=runE_len hr
    rw [List.length_nil,Nat.zero_add] at rl
    have pos:=rows_pos hr (by simp only [List.length_nil]; omega)
    have lb:=sb _ _ (sa _ _ l')
    have no:o ≠ p2:=fun z=>by rw [z,sa _ _ l'] at ho; cases ho
    refine append_go lb (by rw [List.length_map]; omega) (hc1 _ _ ?_)
    clear hc1 c1
    and_intros
    refine ⟨R ++ [r],bs ++ [o],some (.int (i:Nat)),some (.int (n:Nat)),(k'.trans ((sa.trans sb).keeps _)).upd (.inl List.mem_cons_self),by rw [upd_same,List.map_append]; rfl,?_,by rw [List.length_append,hR]; rfl,?_,by rw [posR_snoc]; omega,?_,?_⟩
    · refine RowsC.up lb ((rc'.same (sa.trans sb)).app ⟨⟨xs,eo,po⟩,trivial⟩) fun a ha=>?_
      rcases List.mem_append.mp ha with h | h
      · exact (na' a h).1
      · rw [List.mem_singleton.mp h]; exact no
    · intro a ha
      rcases List.mem_append.mp ha with h | h
      · exact na' a h
      · rw [List.mem_singleton.mp h]; exact ⟨no,(s1.trans sa1).free1 ho⟩
    · rw [hm2,rn,runE_ok (y:=r) (by rw [renF,hn]; exact hr)]
    · rw [posR_snoc,rl]
      rfl
  rintro σ H3 ⟨R,bs,v4,v5,k3,l3,rc3,hR,na3,ps,rn,rfl⟩
  refine hc _ _ ?_
  clear hc c
  rw [show ((g:Nat):Int).toNat = g from rfl,Nat.sub_self] at rn
  have rn:runE (fun R=>renF L ts (posR R)) g [] = .ok R:=rn
  rw [rn] at q er
  simp only at q er
  have s3:=same_keep s2 k3 nosub
  have s13:=s1.trans s3
  refine seq_set fun c hc=>?_
  and_intros
  refine ixL_go (v:=.int L) (SqL.of (s3 _ _ e1)) (by decide) rfl ⟨L,p,ts,posR R,rfl,l26,s13 _ _ hp,T,by omega,fun l hl H4 o6 as s4 f6 e6 wd=>hc _ _ ?_,fun e he=>RE.mono (er e (by rw [he])) s13⟩
  clear hc c
  rw [hl] at q
  simp only at q
  have lw:∀ w ∈ l,ThW L w:=runE_all (fun acc y hy=>thOk_w (thF_ok hy).1) hl fun w hw=>(nomatch hw)
  have ll:l.length ≤ 1000:=by have:=runE_len hl; rw [List.length_nil] at this; omega
  simp only [List.set_cons_zero,List.set_cons_succ]
  have s14:=s13.trans s4
  have asl:as.length = l.length:=wd.1
  refine seq_cset fun c hc=>?_
  refine comp_l (a:=o6) (xs:=as.map V.ref) (fun Q h=>h) (SqL.of e6) (fun i ys H'=>Same H4 H'∧ys.length = i∧Prs H' ys ((zsOf (l.take i)).map stP)) ⟨Same.refl _,rfl,trivial⟩ (fun i ys H' _ p=>⟨SqL.of (p.1 _ _ e6),by rw [p.2.1]; exact Nat.le_refl _⟩) (by rw [List.length_map,sizeLine_eq]; omega) ?_ ?_
  · rintro i v ys H' hv ⟨s',yl,pr⟩ W hW
    rw [List.getElem?_map] at hv
    obtain ⟨a,ha,rfl⟩:=Option.map_eq_some_iff.mp hv
    have hia:i < l.length:=by rw [← asl]; exact (List.getElem?_eq_some_iff.mp ha).1
    obtain ⟨z,hz⟩:∃ z,l[i]? = some z:=⟨l[i],List.getElem?_eq_getElem hia⟩
    obtain ⟨a',ha',ea⟩:=wd.2 i z hz
    rw [ha] at ha'
    cases ha'
    have ea':=s' _ _ ea
    obtain ⟨x,y,g0,g1,hx,hy,-,-,-⟩:=lw z (List.mem_of_getElem? hz)
    and_intros
    refine ixL_go (v:=strV x) (SqL.of ea') (by decide) (by rw [List.getElem?_map]; exact congrArg _ g0) (ixL_go (v:=strV y) (SqL.of ea') (by decide) (by rw [List.getElem?_map]; exact congrArg _ g1) ⟨by decide,fun t ht=>hW _ _ ⟨s'.new ht,by rw [List.length_append,yl]; rfl,?_⟩⟩)
    rw [show l.take (i + 1) = l.take i ++ [z] by rw [List.take_add_one,hz]; rfl,zsOf,List.map_append,List.map_append]
    refine (pr.same (Same.up H' ht)).app ⟨⟨t,rfl,?_⟩,trivial⟩
    rw [upd_same]
    show some (HO.tup [strV x,strV y]) = some (HO.tup [strV (z.headD []),strV (z.tail.headD [])])
    rw [hx,hy]
  rintro ys H5 ⟨s5,yl,pr5⟩ o7 ho7
  rw [List.length_map,asl,List.take_length] at pr5
  refine hc _ _ ?_
  clear hc c
  have s6:=s5.new ho7 (o:=.lst ys)
  have e7:(upd H5 o7 (.lst ys)) o7 = some (.lst ys):=upd_same
  have pr6:=pr5.same (Same.up H5 ho7 (o:=.lst ys))
  generalize upd H5 o7 _ = H6 at s6 e7 pr6 ⊢
  simp only [List.set_cons_zero,List.set_cons_succ]
  refine seq_cset fun c hc=>?_
  refine comp_l (a:=o6) (xs:=as.map V.ref) (fun Q h=>h) (SqL.of (s6 _ _ e6)) (fun i ys H'=>H' = H6∧ys = (wsOf (l.take i)).map strV) ⟨rfl,rfl⟩ (fun i ys H' _ p=>⟨by rw [p.1]; exact SqL.of (s6 _ _ e6),by
    rw [p.2,List.length_map,wsOf,List.length_map]
    refine Nat.le_trans (List.length_filter_le _ _) ?_
    rw [List.length_take]
    exact Nat.min_le_left _ _⟩) (by rw [List.length_map,sizeLine_eq]; omega) ?_ ?_
  · rintro i v ys2 H' hv ⟨rfl,rfl⟩ W hW
    rw [List.getElem?_map] at hv
    obtain ⟨a,ha,rfl⟩:=Option.map_eq_some_iff.mp hv
    have hia:i < l.length:=by rw [← asl]; exact (List.getElem?_eq_some_iff.mp ha).1
    obtain ⟨z,hz⟩:∃ z,l[i]? = some z:=⟨l[i],List.getElem?_eq_getElem hia⟩
    obtain ⟨a',ha',ea⟩:=wd.2 i z hz
    rw [ha] at ha'
    cases ha'
    have ea':=s6 _ _ ea
    have etk:l.take (i + 1) = l.take i ++ [z]:=by rw [List.take_add_one,hz]; rfl
    have hW:=fun ys' e=>hW ys' H' ⟨rfl,e⟩
    rw [etk,wsOf,List.filter_append,List.map_append] at hW
    obtain ⟨x,y,g0,g1,hx,hy,-,-,-⟩:=lw z (List.mem_of_getElem? hz)
    and_intros
    refine lenL_go (SqL.of ea') ⟨rfl,?_⟩
    rw [List.length_map]
    by_cases hw:z.length = 3
    · rw [if_pos (by rw [hw]; rfl)]
      refine ixL_go (v:=strV x) (SqL.of ea') (show (0:Int) ≤ 0 by decide) (by rw [List.getElem?_map]; exact congrArg _ g0) (hW _ ?_)
      rw [List.map_append,List.filter_cons,if_pos (decide_eq_true hw),← hx]
      rfl
    · rw [if_neg (fun z'=>hw (by injection z' with z'; omega))]
      refine hW _ ?_
      rw [List.map_append,List.filter_cons,if_neg (by rw [decide_eq_false hw]; decide)]
      exact (List.append_nil _).symm
  rintro ys2 H7 ⟨rfl,rfl⟩ o8 ho8
  rw [List.length_map,asl,List.take_length]
  refine hc _ _ ?_
  clear hc c
  have s7:=Same.up H7 ho8 (o:=.lst ((wsOf l).map strV))
  have e8:(upd H7 o8 (.lst ((wsOf l).map strV))) o8 = some (.lst ((wsOf l).map strV)):=upd_same
  generalize upd H7 o8 _ = H8 at s7 e8 ⊢
  have s4_8:=s6.trans s7
  have s38:=s4.trans s4_8
  have s18:=s3.trans s38
  simp? [List.set_cons_zero,List.set_cons_succ]
  refine ixL_go (v:=.int L) (SqL.of (s18 _ _ e1)) (by decide) rfl (ixL_go (v:=.int h) (SqL.of (s18 _ _ e1)) (by decide) rfl ⟨by decide,fun o ho=>?_⟩)
  have sF:=(s1.trans s18)
  have sU:=Same.up H8 ho (o:=.tup [.int L,.int h,.ref p2,.ref o7,.ref o8])
  exact q L h R l rfl _ o p2 o7 o8 bs ys (sF.trans sU) (sF.free1 ho) ⟨upd_same,sU _ _ (s38 _ _ l3),(rc3.same s38).same sU,sU _ _ (s7 _ _ e7),(pr6.same s7).same sU,sU _ _ e8⟩
end K71
namespace K71
open PySem PySem.Spec PyProof.Rows L2 MM
variable {K:PySem.W.Frag} {mg:Str→Option Value} {a:Ad} {N:List Str} {vs:List V} {H:Hp} {Q:VK} {E:XK}
theorem take_next {P:Nat→Prop} {w:List Nat} {i x:Nat} (hx:w[i]? = some x) (h:∀ c ∈ w.take i,P c) (hp:P x):∀ c ∈ w.take (i + 1),P c:=fun c hc=>by
  rw [List.take_add_one,hx] at hc
  rcases List.mem_append.mp hc with hc | hc
  · exact h c hc
  · rw [List.mem_singleton.mp hc]; exact hp
theorem read_lnum (hN:N.length = 4) (h:spLNum vs H Q E):rd_number K a { nx:=fun _ H'=>Q .non H',rt:=Q } (L2.start N vs) H:=by
  obtain ⟨w,lo,hi,rfl,hw,hh,q⟩:=h
  unfold rd_number L2.start
  rw [hN]
  simp only [List.set_cons_zero,List.set_cons_succ,List.replicate_succ,List.replicate_zero,List.map_cons,List.map_nil,List.cons_append,List.nil_append]
  refine seq_any fun c hc=>?_
  have bad:¬ (w ≠ []∧w.length ≤ 9∧(∀ c ∈ w,c ∈ FIGS)∧(w.head? = some 48→w = [48]))→Q .non H:=fun z=>by rw [numTo_bad z] at q; exact q
  refine for_s (l:=w) (fun Q h=>by and_intros; exact h) (fun i σ H'=>H' = H∧(∀ c ∈ w.take i,c ∈ FIGS)∧∃ v3,σ = [some (.str (txt w)),some (.int lo),some (.int hi),v3]) ⟨rfl,fun c hc=>(nomatch hc),none,rfl⟩ ?_ ?_
  · rintro i x σ H' hx ⟨rfl,hf,v3,rfl⟩
    and_intros
    refine ⟨x,_,rfl,rfl,bK ?_⟩
    by_cases hm:x ∈ FIGS
    · rw [if_neg (by rw [show (decide (x ∈ [48,49,50,51,52,53,54,55,56,57])) = true from decide_eq_true hm]; decide)]
      exact ⟨rfl,take_next hx hf hm,_,rfl⟩
    · rw [if_pos (by rw [show (decide (x ∈ [48,49,50,51,52,53,54,55,56,57])) = false from decide_eq_false hm]; rfl)]
      exact bad fun z=>hm (z.2.2.1 x (List.mem_of_getElem? hx))
  rintro σ H' ⟨rfl,hf,v3,rfl⟩
  rw [List.take_length] at hf
  refine hc _ _ ?_
  clear hc c
  refine seq_any fun c hc=>?_
  suffices main:w ≠ []→w.length ≤ 9→(w.head? = some 48→w = [48])→c [some (.str (txt w)),some (.int lo),some (.int hi),v3] H' by
    and_intros
    refine ⟨rfl,?_⟩
    by_cases h0:w = []
    · rw [if_pos h0]
      exact bad fun z=>z.1 h0
    rw [if_neg h0]
    obtain ⟨x,l,hx⟩:∃ x l,w = x :: l:=by cases w with
      | nil=>exact absurd rfl h0
      | cons x l=>exact ⟨x,l,rfl⟩
    have hlen:(w.head? = some 48→w = [48])→rLenS [V.str (txt w)] H' fun x H1=>intK x fun i=>if 9 < i then Q V.non H1 else c [some (V.str (txt w)),some (V.int lo),some (V.int hi),v3] H1:=fun h3=>by
      refine lenS_go hw (kK ?_)
      by_cases h9:(9:Int) < (w.length:Int)
      · rw [if_pos h9]
        exact bad fun z=>by have:=z.2.1; omega
      · rw [if_neg h9]
        exact main h0 (by omega) h3
    refine ixS_go (c:=x) hw (by decide) (by rw [hx]; rfl) ⟨rfl,?_⟩
    by_cases h48:x = 48
    · rw [if_pos (by rw [h48])]
      refine ⟨rfl,?_⟩
      by_cases hz:w = [48]
      · rw [if_neg (fun z=>z hz)]
        exact hlen fun _=>hz
      · rw [if_pos hz]
        exact bad fun z=>hz (z.2.2.2 (by rw [hx,h48]; rfl))
    · rw [if_neg (fun z=>h48 (by have:=txt_inj.mp (V.str.inj z); injection this))]
      exact hlen fun z=>by rw [hx] at z; injection z with z; exact absurd z h48
  intro h0 h9 h3
  refine hc _ _ ?_
  clear hc c
  rw [numTo_law hh h0 hf h3] at q
  simp? [tChain]
  have rd:∀ {R:VK},R (.int (val w:Nat)) H'→rIntS [V.str (txt w)] H' R:=fun {R} r=>⟨w,_,rfl,by omega,dig_int h0 (by omega) hf,r⟩
  refine rd (kK ?_)
  by_cases h1:lo ≤ val w
  · rw [if_pos (show (lo:Int) ≤ (val w:Int) by omega)]
    refine kK ?_
    by_cases h2:val w ≤ hi
    · rw [if_pos ⟨h1,h2⟩] at q
      rw [if_pos (by omega)]
      exact rd q
    · rw [if_neg fun z=>h2 z.2] at q
      rw [if_neg (by omega)]
      exact q
  · rw [if_neg fun z=>h1 z.1] at q
    rw [if_neg (show ¬ (lo:Int) ≤ (val w:Int) by omega)]
    exact q
theorem markB_or (L:Nat) (w:List Nat):markB L w = (!decide (w = []) && !decide (w.getLast? = some 97) && w.all fun c=>decide (97 ≤ c∧c < 97 + L)):=rfl
theorem abc_mem {L c:Nat} (h:L ≤ 26):c ∈ ABC.take L ↔ 97 ≤ c∧c < 97 + L:=by
  rw [List.mem_iff_getElem?]
  constructor
  · rintro ⟨i,hi⟩
    have hl:i < L:=by
      have:=(List.getElem?_eq_some_iff.mp hi).1
      rw [List.length_take] at this; omega
    rw [abcL h hl] at hi
    injection hi with hi
    omega
  · intro ⟨h1,h2⟩
    exact ⟨c - 97,by rw [abcL h (by omega)]; congr 1; omega⟩
theorem read_lmark (hN:N.length = 3) (h:spLMark vs H Q E):rd_l_is_mark K a { nx:=fun _ H'=>Q .non H',rt:=Q } (L2.start N vs) H:=by
  obtain ⟨w,L,rfl,hL,hw,q⟩:=h
  unfold rd_l_is_mark L2.start
  rw [hN]
  simp only [List.set_cons_zero,List.set_cons_succ,List.replicate_succ,List.replicate_zero,List.map_cons,List.map_nil,List.cons_append,List.nil_append]
  refine seq_any fun c hc=>?_
  refine for_s (l:=w) (fun Q h=>by and_intros; exact h) (fun i σ H'=>H' = H∧(∀ c ∈ w.take i,97 ≤ c∧c < 97 + L)∧∃ v3,σ = [some (.str (txt w)),some (.int L),v3]) ⟨rfl,fun c hc=>(nomatch hc),none,rfl⟩ ?_ ?_
  · rintro i x σ H' hx ⟨rfl,hf,v3,rfl⟩
    and_intros
    refine slTo_go (by rw [abc_len]; decide) (by omega) (by rw [abc_len]; omega) ⟨x,_,rfl,rfl,bK ?_⟩
    rw [Int.toNat_natCast]
    by_cases hm:97 ≤ x∧x < 97 + L
    · rw [if_neg (by rw [decide_eq_true ((abc_mem hL).mpr hm)]; decide)]
      exact ⟨rfl,take_next hx hf hm,_,rfl⟩
    · rw [if_pos (by rw [decide_eq_false (fun z=>hm ((abc_mem hL).mp z))]; rfl)]
      have:markB L w = false:=by
        cases e:markB L w with
        | false=>rfl
        | true=>exact absurd ((markB_iff.mp e).ls x (List.mem_of_getElem? hx)) hm
      rw [this] at q
      exact q
  rintro σ H' ⟨rfl,hf,v3,rfl⟩
  rw [List.take_length] at hf
  refine hc _ _ ?_
  clear hc c
  and_intros
  refine ⟨rfl,?_⟩
  have ha:(w.all fun c=>decide (97 ≤ c∧c < 97 + L)) = true:=List.all_eq_true.mpr fun c hc=>decide_eq_true (hf c hc)
  rw [markB_or,ha,Bool.and_true] at q
  by_cases h0:w = []
  · rw [if_neg (fun z=>z h0)]
    rw [decide_eq_true h0] at q
    exact q
  · rw [if_pos h0]
    rw [decide_eq_false h0] at q
    obtain ⟨c,hc⟩:∃ c,w.getLast? = some c:=by
      cases e:w.getLast? with
      | none=>exact absurd (List.getLast?_eq_none_iff.mp e) h0
      | some c=>exact ⟨c,rfl⟩
    rw [hc] at q
    refine ⟨w,c,rfl,rfl,?_,hc,rfl,?_⟩
    · exact Nat.le_trans hw (by decide)
    rw [show decide (V.str (txt [c]) = V.str (txt [97])) = decide (some c = some 97) by
      by_cases z:c = 97
      · rw [z,decide_eq_true rfl,decide_eq_true rfl]
      · rw [decide_eq_false (fun y=>z (by have:=txt_inj.mp (V.str.inj y); injection this)),decide_eq_false (fun y=>z (by injection y))]]
    exact q
theorem read_lthing (hN:N.length = 2) (h:spLThing vs H Q E):rd_l_is_thing K a { nx:=fun _ H'=>Q .non H',rt:=Q } (L2.start N vs) H:=by
  obtain ⟨w,rfl,hw,q⟩:=h
  unfold rd_l_is_thing L2.start
  rw [hN]
  simp only [List.set_cons_zero,List.set_cons_succ,List.replicate_succ,List.replicate_zero,List.map_cons,List.map_nil,List.cons_append,List.nil_append]
  refine seq_any fun c hc=>?_
  have no:¬ Thing w→Q (.bl false) H:=fun z=>by
    have:thingB w = false:=by
      cases e:thingB w with
      | false=>rfl
      | true=>exact absurd (thingB_iff.mp e) z
    rw [this] at q
    exact q
  refine for_s (l:=w) (fun Q h=>by and_intros; exact h) (fun i σ H'=>H' = H∧(∀ c ∈ w.take i,c ∈ SIGNS)∧∃ v3,σ = [some (.str (txt w)),v3]) ⟨rfl,fun c hc=>(nomatch hc),none,rfl⟩ ?_ ?_
  · rintro i x σ H' hx ⟨rfl,hf,v3,rfl⟩
    and_intros
    refine ⟨x,_,rfl,rfl,bK ?_⟩
    by_cases hm:x ∈ SIGNS
    · rw [if_neg (by rw [Bool.not_eq_true',decide_eq_false_iff_not]; exact fun z=>z hm)]
      exact ⟨rfl,take_next hx hf hm,_,rfl⟩
    · rw [if_pos (by rw [Bool.not_eq_true',decide_eq_false_iff_not]; exact hm)]
      exact no fun z=>hm (z.2.2 x (List.mem_of_getElem? hx))
  rintro σ H' ⟨rfl,hf,v3,rfl⟩
  rw [List.take_length] at hf
  refine hc _ _ ?_
  clear hc c
  simp? [tChain]
  refine lenS_go hw (kK ?_)
  by_cases h0:w = []
  · rw [if_neg (by rw [h0]; decide)]
    exact no fun z=>z.1 h0
  · have hp:0 < w.length:=List.length_pos_iff.mpr h0
    rw [if_pos (show (0:Int) < (w.length:Int) by omega)]
    refine kK ?_
    by_cases h12:w.length ≤ 12
    · rw [thingB_iff.mpr ⟨h0,h12,hf⟩] at q
      rw [decide_eq_true (show (w.length:Int) < 13 by omega)]
      exact q
    · rw [decide_eq_false (show ¬ (w.length:Int) < 13 by omega)]
      exact no fun z=>h12 z.2.1
end K71
namespace K71
open PySem PySem.Spec PyProof.Rows L2 MM
variable {K:PySem.W.Frag} {mg:Str→Option Value} {a:Ad} {N:List Str} {vs:List V} {H:Hp} {Q:VK} {E:XK}
theorem words_go {p:Addr} {ts:List (List Nat)} {i:Nat} {R:VK} (hp:SqL K H p (ts.map strV)) (T:TsOk 1000 3000 ts) (q:∀ o,H o = none→R (.ref o) (upd H o (.lst ((wAt ts i).map strV)))) :
    rLenL K [V.ref p] H fun y H2=>intK y fun j=>if (i:Int) < j then rIxL K (V.ref p) (V.int i) H2 fun x H1=>tyV K "str" x H1∧rSplit x [V.str (txt [32])] H1 R else 0 ≤ sizeLine∧∀ (p:Addr),H2 p = none→R (V.ref p) (upd H2 p (HO.lst [])):=by
  refine lenL_go hp (kK ?_)
  rw [List.length_map]
  unfold wAt at q
  cases ht:ts[i]? with
  | none=>
    rw [if_neg (by have:=List.getElem?_eq_none_iff.mp ht; omega)]
    rw [ht] at q
    exact ⟨by decide,q⟩
  | some t=>
    rw [if_pos (by have:=(List.getElem?_eq_some_iff.mp ht).1; omega)]
    rw [ht] at q
    exact ixL_go (v:=strV t) hp (by omega) (by rw [Int.toNat_natCast,List.getElem?_map,ht]; rfl) ⟨rfl,t,32,rfl,rfl,by have:=(T.2 t (List.mem_of_getElem? ht)).1; omega,q⟩
theorem lastO_get {r:List RwN} {y:RwN} (h:r.getLast? = some y):lastO r = y.1:=by
  unfold lastO
  rw [List.getLast?_map,h]; rfl
theorem read_rowOf (hN:N.length = 6) (h:spRowOf K vs H Q E):rd_row_of K a { nx:=fun _ H'=>Q .non H',rt:=Q } (L2.start N vs) H:=by
  obtain ⟨L,p,ts,i,pr,xs,r,rfl,hL,hp,T,hr,pz,rl,q0,q1⟩:=h
  unfold rd_row_of L2.start
  rw [hN]
  refine seq_set fun c hc=>?_
  and_intros
  refine words_go hp T fun o ho=>hc _ _ ?_
  clear hc c
  have wd:=fun w (hw:w ∈ wAt ts i)=>T.word hw
  generalize wAt ts i = ws at wd q0 q1 ⊢
  have s1:=Same.up H ho (o:=.lst (ws.map strV))
  have e1:(upd H o (.lst (ws.map strV))) o = some (.lst (ws.map strV)):=upd_same
  generalize upd H o _ = H1 at s1 e1 ⊢
  have hr1:=s1 _ _ hr
  have pz1:=pz.same s1
  have xl:=pz1.len
  rw [List.length_map] at xl
  have emp:∀ m,Mark L m→[] < m:=fun m h=>mark_pos h
  simp only [List.set_cons_zero,List.set_cons_succ,List.replicate_succ,List.replicate_zero,List.map_cons,List.map_nil,List.cons_append,List.nil_append]
  refine seq_any fun c hc=>?_
  suffices main:∀ x w,ws = [x,w]→markB L x = true→lastO r < x→c [some (.int L),some (.ref p),some (.int i),some (.ref pr),some (.ref o),none] H1 by
    and_intros
    refine lenL_go (SqL.of e1) ⟨rfl,?_⟩
    rw [List.length_map]
    by_cases hl:ws.length = 2
    · obtain ⟨x,w,rfl⟩:=len2 hl
      rw [if_neg (fun z=>z rfl)]
      refine ixL_go (v:=strV x) (SqL.of e1) (by decide) rfl ⟨x,L,rfl,hL,by have:=(wd x (by simp)).1; omega,bK ?_⟩
      by_cases hm:markB L x = true
      · rw [if_neg (by rw [hm]; decide)]
        refine lenL_go (SqL.of hr1) (kK ?_)
        by_cases h0:r = []
        · rw [if_neg (by rw [xl,h0]; decide)]
          exact main x w rfl hm (by rw [h0]; exact emp x (markB_iff.mp hm))
        · have rp:0 < r.length:=List.length_pos_iff.mpr h0
          rw [if_pos (by omega)]
          obtain ⟨y,hy⟩:∃ y,r.getLast? = some y:=by
            cases e:r.getLast? with
            | none=>exact absurd (List.getLast?_eq_none_iff.mp e) h0
            | some c=>exact ⟨c,rfl⟩
          have hx:∃ v,xs.getLast? = some v:=by
            cases e:xs.getLast? with
            | none=>rw [List.getLast?_eq_none_iff.mp e] at xl; simp only [List.length_nil] at xl; omega
            | some c=>exact ⟨c,rfl⟩
          obtain ⟨v,hv⟩:=hx
          have hv2:=hv
          rw [List.getLast?_eq_getElem?,xl] at hv2
          obtain ⟨pp,t,g1,rfl,g2⟩:=pz1.get hv2
          rw [List.getElem?_map,← List.getLast?_eq_getElem?,hy] at g1
          cases g1
          refine ixL_go (v:=strV x) (SqL.of e1) (by decide) rfl (ixLast_go (SqL.of hr1) hv (ixT_go (v:=strV y.1) (SqT.of g2) (by decide) rfl ⟨_,_,rfl,rfl,bK ?_⟩))
          rw [lastO_get hy] at main q0
          by_cases hle:y.1 < x
          · rw [if_neg (by rw [decide_eq_true hle]; decide)]
            exact main x w rfl hm hle
          · rw [if_pos (by rw [decide_eq_false hle]; rfl)]
            exact q0 (by rw [rRow_two,if_neg fun z=>hle z.2]) _ s1
      · rw [Bool.not_eq_true] at hm
        rw [if_pos hm]
        exact q0 (by rw [rRow_two,if_neg fun z=>by rw [hm] at z; exact (nomatch z.1)]) _ s1
    · rw [if_pos (fun z=>hl (by injection z with z; omega))]
      exact q0 (rRow_len hl) _ s1
  rintro x w rfl mx lx
  refine hc _ _ ?_
  clear hc c
  refine seq_any fun c hc=>?_
  and_intros
  refine ixL_go (v:=strV w) (SqL.of e1) (by decide) rfl ⟨rfl,?_⟩
  by_cases hw:w = [45]
  · rw [if_pos (show strV w = V.str (txt [45]) by rw [hw]; rfl)]
    refine ixL_go (v:=strV x) (SqL.of e1) (by decide) rfl ⟨by decide,fun t ht=>?_⟩
    exact q1 (x,none) (by rw [rRow_two,if_pos ⟨mx,lx⟩,if_pos hw]) _ t (s1.new ht) (s1.free1 ht) upd_same
  rw [if_neg (show ¬ strV w = V.str (txt [45]) from fun z=>hw (txt_inj.mp (V.str.inj z)))]
  refine hc _ _ ?_
  clear hc c
  refine seq_cset fun c hc=>?_
  refine comp_l (a:=pr) (xs:=xs) (fun Q h=>by and_intros; exact h) (SqL.of hr1) (fun i ys H'=>H' = H1∧ys = ((r.take i).filterMap (·.2)).map strV) ⟨rfl,rfl⟩ (fun i ys H' _ p=>⟨by rw [p.1]; exact SqL.of hr1,by
    rw [p.2,List.length_map]
    refine Nat.le_trans (List.length_filterMap_le _ _) ?_
    rw [List.length_take]; exact Nat.min_le_left _ _⟩) (by rw [xl,sizeLine_eq]; omega) ?_ ?_
  · rintro i v ys H' hv ⟨rfl,rfl⟩ W hW
    obtain ⟨pp,t,g1,rfl,g2⟩:=pz1.get hv
    rw [List.getElem?_map] at g1
    obtain ⟨y,hy,rfl⟩:=Option.map_eq_some_iff.mp g1
    have hW:=fun ys' e=>hW ys' H' ⟨rfl,e⟩
    rw [show r.take (i + 1) = r.take i ++ [y] by rw [List.take_add_one,hy]; rfl,List.filterMap_append,List.map_append] at hW
    and_intros
    refine ixT_go (v:=oV y.2) (SqT.of g2) (by decide) rfl ?_
    cases e2:y.2 with
    | none=>
      simp? [oV]
      refine hW _ ?_
      simp [e2]
    | some z=>
      simp? [oV]
      refine ixT_go (v:=oV y.2) (SqT.of g2) (by decide) rfl (hW _ ?_)
      simp [e2,oV,strV]
  rintro ys H2 ⟨rfl,rfl⟩ o5 ho5
  refine hc _ _ ?_
  clear hc c
  rw [xl,List.take_length]
  have s5:=s1.new ho5 (o:=.lst ((r.filterMap (·.2)).map strV))
  have u5:=Same.up H2 ho5 (o:=.lst ((r.filterMap (·.2)).map strV))
  have e5:(upd H2 o5 (.lst ((r.filterMap (·.2)).map strV))) o5 = some (.lst ((r.filterMap (·.2)).map strV)):=upd_same
  generalize upd H2 o5 _ = H5 at s5 u5 e5 ⊢
  have e15:=u5 _ _ e1
  simp only [List.set_cons_zero,List.set_cons_succ]
  refine seq_any fun c hc=>?_
  suffices main:markB L w = true→lastN r < w→c [some (.int L),some (.ref p),some (.int i),some (.ref pr),some (.ref o),some (.ref o5)] H5 by
    and_intros
    refine ixL_go (v:=strV w) (SqL.of e15) (by decide) rfl ⟨w,L,rfl,hL,by have:=(wd w (by simp)).1; omega,bK ?_⟩
    by_cases hm:markB L w = true
    · rw [if_neg (by rw [hm]; decide)]
      refine lenL_go (SqL.of e5) (kK ?_)
      rw [List.length_map]
      cases hy:(r.filterMap (·.2)).getLast? with
      | none=>
        have e0:=List.getLast?_eq_none_iff.mp hy
        rw [if_neg (by rw [e0]; decide)]
        exact main hm (by unfold lastN; rw [hy]; exact emp w (markB_iff.mp hm))
      | some y=>
        have hp:0 < (r.filterMap (·.2)).length:=List.length_pos_iff.mpr fun z=>by rw [z] at hy; cases hy
        rw [if_pos (by omega)]
        have ln:lastN r = y:=by unfold lastN; rw [hy]; rfl
        rw [ln] at main q0
        refine ixL_go (v:=strV w) (SqL.of e15) (by decide) rfl (ixLast_go (v:=strV y) (SqL.of e5) (by rw [List.getLast?_map,hy]; rfl) ⟨_,_,rfl,rfl,bK ?_⟩)
        by_cases hle:y < w
        · rw [if_neg (by rw [decide_eq_true hle]; decide)]
          exact main hm hle
        · rw [if_pos (by rw [decide_eq_false hle]; rfl)]
          exact q0 (by rw [rRow_two,if_pos ⟨mx,lx⟩,if_neg hw,if_neg fun z=>hle z.2]) _ s5
    · rw [Bool.not_eq_true] at hm
      rw [if_pos hm]
      exact q0 (by rw [rRow_two,if_pos ⟨mx,lx⟩,if_neg hw,if_neg fun z=>by rw [hm] at z; exact (nomatch z.1)]) _ s5
  intro mw lw
  refine hc _ _ ?_
  clear hc c
  and_intros
  refine ixL_go (v:=strV x) (SqL.of e15) (by decide) rfl (ixL_go (v:=strV w) (SqL.of e15) (by decide) rfl ⟨by decide,fun t ht=>?_⟩)
  exact q1 (x,some w) (by rw [rRow_two,if_pos ⟨mx,lx⟩,if_neg hw,if_pos ⟨mw,lw⟩]) _ t (s5.new ht) (s5.free1 ht) upd_same
end K71
namespace K71
open PySem PySem.Spec PyProof.Rows L2 MM
variable {K:PySem.W.Frag} {mg:Str→Option Value} {a:Ad} {N:List Str} {vs:List V} {H:Hp} {Q:VK} {E:XK}
def LRInv (L i n:Nat) (p o p4:Addr) (H:Hp) (ts:List (List Nat)):Nat→L2.St→Hp→Prop:=fun m σ H'=>∃ (r:List RwN) (xs:List V) (v5:Option V),Keeps [p4] H H'∧H' p4 = some (.lst xs)∧Prs H' xs (r.map rowP)∧r.length + m = n∧runE (rowF L ts (i + 1)) n [] = runE (rowF L ts (i + 1)) m r∧σ = [some (.int L),some (.ref p),some (.int i),some (.ref o),some (.ref p4),v5]
theorem read_renl (hN:N.length = 6) (h:spRenl K vs H Q E):rd_renewal K a { nx:=fun _ H'=>Q .non H',rt:=Q } (L2.start N vs) H:=by
  obtain ⟨L,p,ts,i,rfl,hL,hp,T,hi,q1,q0⟩:=h
  unfold rd_renewal L2.start
  rw [hN]
  refine seq_set fun c hc=>?_
  and_intros
  refine words_go hp T fun o ho=>hc _ _ ?_
  clear hc c
  have wd:=fun w (hw:w ∈ wAt ts i)=>T.word hw
  unfold renF manyF at q0 q1
  generalize wAt ts i = ws at wd q0 q1 ⊢
  have s1:=Same.up H ho (o:=.lst (ws.map strV))
  have e1:(upd H o (.lst (ws.map strV))) o = some (.lst (ws.map strV)):=upd_same
  generalize upd H o _ = H1 at s1 e1 ⊢
  simp only [List.set_cons_zero,List.set_cons_succ,List.replicate_succ,List.replicate_zero,List.map_cons,List.map_nil,List.cons_append,List.nil_append]
  refine seq_any fun c hc=>?_
  suffices main:∀ w n,ws = [kRnw,w]→numTo 0 1000 w = some n→c [some (.int L),some (.ref p),some (.int i),some (.ref o),none,none] H1 by
    and_intros
    refine lenL_go (SqL.of e1) ⟨rfl,?_⟩
    rw [List.length_map]
    by_cases hl:ws.length = 2
    · obtain ⟨x,w,rfl⟩:=len2 hl
      rw [if_neg (fun z=>z rfl)]
      refine ixL_go (v:=strV x) (SqL.of e1) (by decide) rfl ⟨rfl,?_⟩
      simp only at q0
      by_cases hk:x = kRnw
      · rw [if_neg (fun z=>z (by rw [hk]; rfl))]
        rw [if_pos hk] at q0
        refine ixL_go (v:=strV w) (SqL.of e1) (by decide) rfl ⟨w,0,1000,rfl,by have:=(wd w (by simp)).1; omega,by decide,?_⟩
        cases hn:numTo 0 1000 w with
        | none=>
          rw [hn] at q0
          simp? [nV]
          exact q0 i rfl _ s1
        | some n=>
          simp? [nV]
          exact main w n (by rw [hk]) hn
      · rw [if_pos (show ¬ strV x = V.str (txt [114,101,110,101,119,97,108]) from fun z=>hk (txt_inj.mp (V.str.inj z)))]
        rw [if_neg hk] at q0
        exact q0 i rfl _ s1
    · rw [if_pos (fun z=>hl (by injection z with z; omega))]
      refine q0 i ?_ _ s1
      split
      · rename_i e
        split at e
        · exact absurd rfl hl
        · cases e; rfl
      · rename_i e
        split at e
        · exact absurd rfl hl
        · cases e
  rintro w n rfl hn
  refine hc _ _ ?_
  clear hc c
  simp only [hn,ordE,↓reduceIte] at q0 q1
  obtain ⟨nw,hv,-,n1⟩:=numTo_some hn
  have nl:=(isNum_iff.mp nw).2.1
  refine seq_set fun c hc=>?_
  and_intros
  refine ⟨by decide,fun p4 hp4=>hc _ _ ?_⟩
  clear hc c
  have s2:=s1.new hp4 (o:=.lst [])
  have u2:=Same.up H1 hp4 (o:=.lst [])
  have e2:=u2 _ _ e1
  have e4:(upd H1 p4 (.lst [])) p4 = some (.lst []):=upd_same
  have hp4':=s1.free1 hp4
  have o4:o ≠ p4:=fun z=>by rw [← z,e1] at hp4; cases hp4
  generalize upd H1 p4 _ = H2 at s2 u2 e2 e4 ⊢
  have nosub:∀ b ∈ [p4],H b = none:=fun b hb=>by rw [List.mem_singleton.mp hb]; exact hp4'
  simp only [List.set_cons_zero,List.set_cons_succ]
  refine seq_any fun c hc=>?_
  refine while_of (LRInv L i n p o p4 H2 ts) n ⟨[],[],none,fun b o e _=>e,e4,trivial,by rw [List.length_nil]; omega,rfl,rfl⟩ ?_
  rintro m σ H' ⟨r,xs,v5,k',l',pr',hrm,rn,rfl⟩ R ht hf
  have sH:=same_keep s2 k' nosub
  have eo:H' o = some (.lst ([kRnw,w].map strV)):=k' o _ e2 (fun z=>o4 (List.mem_singleton.mp z))
  have xl:=pr'.len
  rw [List.length_map] at xl
  and_intros
  refine lenL_go (SqL.of l') (ixL_go (v:=strV w) (SqL.of eo) (by decide) rfl ⟨w,_,rfl,by omega,isNum_int nw,kK (kK ?_)⟩)
  rw [xl,← hv]
  cases m with
  | zero=>
    rw [decide_eq_false (by omega)]
    refine hf _ (hc _ _ ?_)
    and_intros
    exact q1 r rn _ p4 xs sH hp4' l' pr'
  | succ m=>
    rw [decide_eq_true (by omega)]
    refine ht _ ?_
    clear ht hf hc
    refine seq_set fun c1 hc1=>?_
    and_intros
    refine lenL_go (SqL.of l') ⟨L,p,ts,i + 1 + r.length,p4,xs,r,by rw [xl]; rfl,hL,sH.seq hp,T,l',pr',by omega,fun hz Ha sa=>hc1 _ _ ?_,fun y hy Ha t sa ht ea=>hc1 _ _ ?_⟩
    · simp? [List.set_cons_zero,List.set_cons_succ]
      refine lenL_go (SqL.of (sa _ _ l')) ?_
      rw [xl]
      have:=q0 (i + 1 + r.length) (by rw [rn,runE_err (e:=i + 1 + r.length) (by rw [rowF,hz]; rfl)]) Ha (sH.trans sa)
      exact this
    · clear hc1 c1
      have la:=sa _ _ l'
      simp? [List.set_cons_zero,List.set_cons_succ]
      refine ⟨.inl ⟨rfl,_,SqL.of la⟩,append_go la (by omega) ⟨m,Nat.lt_succ_self m,r ++ [y],xs ++ [.ref t],some (.ref t),(k'.trans (sa.keeps _)).upd (.inl List.mem_cons_self),upd_same,?_,by rw [List.length_append,List.length_singleton]; omega,?_,rfl⟩⟩
      · rw [List.map_append]
        have n6:t ≠ p4:=fun z=>by rw [z,l'] at ht; cases ht
        refine ((pr'.same sa).keep fun u ys e=>?_).app ⟨⟨t,rfl,?_⟩,trivial⟩
        · rw [upd_ne (fun z=>by rw [z,la] at e; cases e)]; exact e
        · rw [upd_ne n6]; exact ea
      · rw [rn,runE_ok (y:=y) (by rw [rowF,hy]; rfl)]
end K71
namespace K71
open PySem PySem.Spec PyProof.Rows L2 MM
variable {K:PySem.W.Frag} {mg:Str→Option Value} {a:Ad} {N:List Str} {vs:List V} {H:Hp} {Q:VK} {E:XK}
theorem headF_of {ts:List (List Nat)} {x y z:List Nat} {L h g:Nat} (e:wAt ts 0 = [x,y,z]) (h1:numTo 2 26 x = some L) (h2:numTo 1 (L - 1) y = some h) (h3:numTo 0 1000 z = some g):headF ts = .ok (L,h,g):=by
  obtain ⟨a1,b1,c1,d1⟩:=numTo_some h1
  obtain ⟨a2,b2,c2,d2⟩:=numTo_some h2
  obtain ⟨a3,b3,c3,d3⟩:=numTo_some h3
  unfold headF
  rw [e]
  simp only
  rw [if_pos ⟨a1,a2,a3,by omega,by omega,by omega,by omega,by omega⟩,← b1,← b2,← b3]
theorem numTo_none {lo hi:Nat} {w:List Nat} (h:numTo lo hi w = none):¬ (isNum w = true∧lo ≤ val w∧val w ≤ hi):=fun z=>by
  unfold numTo at h
  rw [if_pos z] at h
  cases h
theorem headF_no {ts:List (List Nat)} (h:∀ x y z,wAt ts 0 = [x,y,z]→numTo 2 26 x = none ∨ ∃ L,numTo 2 26 x = some L∧(numTo 1 (L - 1) y = none ∨ numTo 0 1000 z = none)):headF ts = .error 0:=by
  unfold headF
  split
  · rename_i x y z e
    rw [if_neg]
    rintro ⟨a1,a2,a3,c1,c2,c3,c4,c5⟩
    rcases h x y z e with h | ⟨L,h1,h | h⟩
    · exact numTo_none h ⟨a1,c1,c2⟩
    · obtain ⟨-,b1,-,-⟩:=numTo_some h1
      exact numTo_none h ⟨a2,c3,by omega⟩
    · exact numTo_none h ⟨a3,by omega,c5⟩
  · rfl
theorem isTy_list_int:isTy "list" "int" = some false:=by kernel_rfl
theorem isiI_int {e:Nat} {R:VK} (q:R (.bl true) H):rIsi K "int" (.int e) H R:=⟨_,_,.int _,isTy_int_int,q⟩
theorem isiI_lst {o:Addr} {xs:List V} {R:VK} (h:H o = some (.lst xs)) (q:R (.bl false) H):rIsi K "int" (.ref o) H R:=⟨_,_,.lst h,isTy_list_int,q⟩
def LSInv (L g:Nat) (p o p3:Addr) (H:Hp) (ts:List (List Nat)):Nat→L2.St→Hp→Prop:=fun m σ H'=>∃ (R:List (List RwN)) (bs:List Addr) (v5:Option V),Keeps [p3] H H'∧H' p3 = some (.lst (bs.map V.ref))∧RowsC H' bs R∧(∀ b ∈ bs,b ≠ p3)∧R.length + m = g∧posR R ≤ 1001∧runE (fun R=>renF L ts (posR R)) g [] = runE (fun R=>renF L ts (posR R)) m R∧σ = [some (.ref p),some (.ref o),some (.int L),some (.ref p3),some (.int (posR R:Nat)),v5,none,none,none,none,none]
def LTInv (L i0:Nat) (p o p3 p6:Addr) (v5:Option V) (H:Hp) (ts:List (List Nat)):Nat→L2.St→Hp→Prop:=fun i σ H'=>∃ (l:List (List (List Nat))) (xs:List V) (q7:Addr) (v8 v9 v10:Option V),Keeps [p6] H H'∧H' p6 = some (.lst xs)∧Prs H' xs ((zsOf l).map stP)∧H' q7 = some (.lst ((wsOf l).map strV))∧q7 ≠ p6∧l.length = i∧(∀ w ∈ l,ThW L w)∧runE (thF L ts i0) (ts.length - i0) [] = runE (thF L ts i0) (ts.length - i0 - i) l∧σ = [some (.ref p),some (.ref o),some (.int L),some (.ref p3),some (.int (i0:Nat)),v5,some (.ref p6),some (.ref q7),v8,v9,v10]
theorem read_due (hN:N.length = 11) (h:spDue K vs H Q E):rd_due K a { nx:=fun _ H'=>Q .non H',rt:=Q } (L2.start N vs) H:=by
  obtain ⟨p,ts,rfl,hp,T,q1,q0⟩:=h
  have tl:=T.1
  unfold rd_due L2.start
  rw [hN]
  refine seq_set fun c hc=>?_
  suffices main:∀ o,H o = none→c (.ref o) (upd H o (.lst ((wAt ts 0).map strV))) by
    and_intros
    refine lenL_go (SqL.of hp) (kK ?_)
    rw [List.length_map]
    unfold wAt at main
    cases ht:ts[0]? with
    | none=>
      rw [if_neg (by have:=List.getElem?_eq_none_iff.mp ht; omega)]
      rw [ht] at main
      exact ⟨by decide,main⟩
    | some t=>
      rw [if_pos (by have:=(List.getElem?_eq_some_iff.mp ht).1; omega)]
      rw [ht] at main
      exact ixL_go (v:=strV t) (SqL.of hp) (by omega) (by rw [show (0:Int).toNat = 0 from rfl,List.getElem?_map,ht]; rfl) ⟨rfl,t,32,rfl,rfl,by have:=(T.2 t (List.mem_of_getElem? ht)).1; omega,main⟩
  intro o ho
  refine hc _ _ ?_
  clear hc c
  have wd:=fun w (hw:w ∈ wAt ts 0)=>T.word hw
  have hno:=headF_no (ts:=ts)
  have hof:=fun x y z L h g=>headF_of (ts:=ts) (x:=x) (y:=y) (z:=z) (L:=L) (h:=h) (g:=g)
  have stop:headF ts = .error 0→∀ H',Same H H'→Q (.int 0) H':=fun e H' s=>q0 0 (by unfold stateF; rw [e]) H' s
  generalize wAt ts 0 = ws at wd hno hof ⊢
  have s1:=Same.up H ho (o:=.lst (ws.map strV))
  have e1:(upd H o (.lst (ws.map strV))) o = some (.lst (ws.map strV)):=upd_same
  generalize upd H o _ = H1 at s1 e1 ⊢
  simp only [List.set_cons_zero,List.set_cons_succ,List.replicate_succ,List.replicate_zero,List.map_cons,List.map_nil,List.cons_append,List.nil_append]
  refine seq_set fun c hc=>?_
  suffices main:∀ v,(∀ x y z,ws = [x,y,z]→v = nV (numTo 2 26 x))→(ws.length ≠ 3→v = .non)→c v H1 by
    and_intros
    refine lenL_go (SqL.of e1) ⟨rfl,?_⟩
    rw [List.length_map]
    by_cases hl:ws.length = 3
    · obtain ⟨x,y,z,rfl⟩:=len3 hl
      rw [if_pos (by rfl)]
      exact ixL_go (v:=strV x) (SqL.of e1) (by decide) rfl ⟨x,2,26,rfl,by have:=(wd x (by simp)).1; omega,by decide,main _ (fun x' y' z' e=>by cases e; rfl) fun e=>absurd rfl e⟩
    · rw [if_neg (fun z=>hl (by injection z with z; omega))]
      exact main _ (fun x y z e=>absurd (by rw [e]; rfl) hl) fun _=>rfl
  intro v hv hv0
  refine hc _ _ ?_
  clear hc c
  simp only [List.set_cons_zero,List.set_cons_succ]
  refine seq_any fun c hc=>?_
  suffices main:∀ L h g,headF ts = .ok (L,h,g)→∀ x y z,ws = [x,y,z]→isNum y = true→val y = h→isNum z = true→val z = g→c [some (.ref p),some (.ref o),some (.int L),none,none,none,none,none,none,none,none] H1 by
    and_intros
    by_cases hl:ws.length = 3
    · obtain ⟨x,y,z,rfl⟩:=len3 hl
      cases h1:numTo 2 26 x with
      | none=>
        rw [hv x y z rfl,h1]
        simp? [nV]
        exact stop (hno fun x' y' z' e=>by cases e; exact .inl h1) _ s1
      | some L=>
        rw [hv x y z rfl,h1]
        obtain ⟨-,-,L1,L26⟩:=numTo_some h1
        simp? [nV]
        refine ixL_go (v:=strV y) (SqL.of e1) (by decide) rfl ⟨y,1,L - 1,by rw [show ((L - 1:Nat):Int) = (L:Int) - 1 by omega]; rfl,by have:=(wd y (by simp)).1; omega,by omega,?_⟩
        cases h2:numTo 1 (L - 1) y with
        | none=>
          simp? [nV]
          exact stop (hno fun x' y' z' e=>by cases e; exact .inr ⟨L,h1,.inl h2⟩) _ s1
        | some h=>
          simp? [nV]
          refine ixL_go (v:=strV z) (SqL.of e1) (by decide) rfl ⟨z,0,1000,rfl,by have:=(wd z (by simp)).1; omega,by decide,?_⟩
          cases h3:numTo 0 1000 z with
          | none=>
            simp? [nV]
            exact stop (hno fun x' y' z' e=>by cases e; exact .inr ⟨L,h1,.inr h3⟩) _ s1
          | some g=>
            simp? [nV]
            obtain ⟨a2,b2,-,-⟩:=numTo_some h2
            obtain ⟨a3,b3,-,-⟩:=numTo_some h3
            exact main L h g (hof x y z L h g rfl h1 h2 h3) x y z rfl a2 b2.symm a3 b3.symm
    · rw [hv0 hl]
      and_intros
      exact stop (hno fun x y z e=>absurd (by rw [e]; rfl) hl) _ s1
  rintro L h g hh x y z rfl ny hy nz hz
  refine hc _ _ ?_
  clear hc c hv hv0 hno hof stop
  obtain ⟨l2,l26,h1,hL,hg,-⟩:=headF_ok hh
  have yl:=(isNum_iff.mp ny).2.1
  have zl:=(isNum_iff.mp nz).2.1
  unfold stateF at q1 q0
  rw [hh] at q1 q0
  simp only at q1 q0
  refine seq_set fun c hc=>?_
  and_intros
  refine ⟨by decide,fun p3 hp3=>hc _ _ ?_⟩
  clear hc c
  have s2:=s1.new hp3 (o:=.lst [])
  have u2:=Same.up H1 hp3 (o:=.lst [])
  have e2:=u2 _ _ e1
  have e3:(upd H1 p3 (.lst [])) p3 = some (.lst []):=upd_same
  have hp3':=s1.free1 hp3
  have o3:o ≠ p3:=fun z=>by rw [← z,e1] at hp3; cases hp3
  have hpp:p ≠ p3:=fun z=>by rw [← z,hp] at hp3'; cases hp3'
  generalize upd H1 p3 _ = H2 at s2 u2 e2 e3 ⊢
  have nosub:∀ b ∈ [p3],H b = none:=fun b hb=>by rw [List.mem_singleton.mp hb]; exact hp3'
  simp only [List.set_cons_zero,List.set_cons_succ]
  refine seq_set fun c hc=>?_
  and_intros
  refine hc _ _ ?_
  clear hc c
  simp only [List.set_cons_zero,List.set_cons_succ]
  refine seq_any fun c hc=>?_
  suffices main:∀ H' R bs v5,runE (fun R=>renF L ts (posR R)) g [] = .ok R→Keeps [p3] H2 H'→H' p3 = some (.lst (bs.map V.ref))→RowsC H' bs R→(∀ b ∈ bs,b ≠ p3)→posR R ≤ 1001→c [some (.ref p),some (.ref o),some (.int L),some (.ref p3),some (.int (posR R:Nat)),v5,none,none,none,none,none] H' by
    refine while_of (LSInv L g p o p3 H2 ts) g ⟨[],[],none,fun b o e _=>e,e3,trivial,fun b hb=>(nomatch hb),by rw [List.length_nil]; omega,by decide,rfl,rfl⟩ ?_
    rintro m σ H' ⟨R,bs,v5,k',l',rc',nb,hRm,ps,rn,rfl⟩ W ht hf
    have sH:=same_keep s2 k' nosub
    have eo:H' o = some (.lst ([x,y,z].map strV)):=k' o _ e2 (fun z=>o3 (List.mem_singleton.mp z))
    have bl:=rc'.len
    and_intros
    refine lenL_go (SqL.of l') (ixL_go (v:=strV z) (SqL.of eo) (by decide) rfl ⟨z,_,rfl,by omega,isNum_int nz,kK (kK ?_)⟩)
    rw [List.length_map,hz]
    cases m with
    | zero=>
      rw [decide_eq_false (by omega)]
      exact hf _ (main H' R bs v5 rn k' l' rc' nb ps)
    | succ m=>
      rw [decide_eq_true (by omega)]
      refine ht _ ?_
      clear ht hf hc main
      refine seq_set fun c1 hc1=>?_
      and_intros
      refine ⟨L,p,ts,posR R,rfl,l26,SqL.of (sH _ _ hp),T,by omega,fun r hr Ha ob xs sa fo eo2 pr=>hc1 _ _ ?_,fun e he Ha sa=>hc1 _ _ ?_⟩
      · clear hc1 c1
        obtain ⟨r1,r2,-,-⟩:=ren_ok hr
        have la:=sa _ _ l'
        have no:ob ≠ p3:=fun z=>by rw [z,l'] at fo; cases fo
        simp only [List.set_cons_zero,List.set_cons_succ]
        refine seq_any fun c1 hc1=>?_
        and_intros
        refine isiI_lst eo2 (bK ?_)
        rw [if_neg (by decide)]
        refine hc1 _ _ ?_
        clear hc1 c1
        refine seq_any fun c1 hc1=>?_
        and_intros
        refine ⟨.inl ⟨rfl,_,SqL.of la⟩,append_go la (by rw [List.length_map]; omega) (hc1 _ _ ?_)⟩
        clear hc1 c1
        and_intros
        refine lenL_go (SqL.of (show (upd Ha p3 _) ob = some (.lst xs) by rw [upd_ne no]; exact eo2)) ⟨m,Nat.lt_succ_self m,R ++ [r],bs ++ [ob],some (.ref ob),(k'.trans (sa.keeps _)).upd (.inl List.mem_cons_self),by rw [upd_same,List.map_append]; rfl,?_,?_,by rw [List.length_append,List.length_singleton]; omega,by rw [posR_snoc]; omega,by rw [rn,runE_ok hr],?_⟩
        · refine RowsC.up la ((rc'.same sa).app ⟨⟨xs,eo2,pr⟩,trivial⟩) fun a ha=>?_
          rcases List.mem_append.mp ha with h | h
          · exact nb a h
          · rw [List.mem_singleton.mp h]; exact no
        · intro a ha
          rcases List.mem_append.mp ha with h | h
          · exact nb a h
          · rw [List.mem_singleton.mp h]; exact no
        · have xl:=pr.len
          rw [List.length_map] at xl
          rw [posR_snoc,xl]
          rfl
      · simp only [List.set_cons_zero,List.set_cons_succ]
        refine seq_any fun c1 hc1=>?_
        and_intros
        refine isiI_int (bK ?_)
        rw [if_pos rfl]
        exact q0 e (by rw [rn,runE_err he]) Ha (sH.trans sa)
  intro H3 R bs v5 rn k3 l3 rc3 nb ps
  refine hc _ _ ?_
  clear hc c
  have s3:=same_keep s2 k3 nosub
  have eo3:H3 o = some (.lst ([x,y,z].map strV)):=k3 o _ e2 (fun z=>o3 (List.mem_singleton.mp z))
  rw [rn] at q1 q0
  simp only at q1 q0
  refine seq_set fun c hc=>?_
  and_intros
  refine ⟨by decide,fun p6 hp6=>hc _ _ ?_⟩
  clear hc c
  have s4:=s3.new hp6 (o:=.lst [])
  have u4:=Same.up H3 hp6 (o:=.lst [])
  have e6:(upd H3 p6 (.lst [])) p6 = some (.lst []):=upd_same
  have f6:=s3.free1 hp6
  generalize upd H3 p6 _ = H4 at s4 u4 e6 ⊢
  simp only [List.set_cons_zero,List.set_cons_succ]
  refine seq_set fun c hc=>?_
  and_intros
  refine ⟨by decide,fun q7 hq7=>hc _ _ ?_⟩
  clear hc c
  have n76:q7 ≠ p6:=fun z=>by rw [z,e6] at hq7; cases hq7
  have s5:=s4.new hq7 (o:=.lst [])
  have u5:=u4.new hq7 (o:=.lst [])
  have e7:(upd H4 q7 (.lst [])) q7 = some (.lst []):=upd_same
  have e65:=Same.up H4 hq7 (o:=.lst []) _ _ e6
  generalize upd H4 q7 _ = H5 at s5 u5 e7 e65 ⊢
  simp only [List.set_cons_zero,List.set_cons_succ]
  refine seq_any fun c hc=>?_
  refine for_pre ?_
  and_intros
  refine slL_go (SqL.of (s5 _ _ hp)) fun o7 ho7=>?_
  rw [cutV_drop,← List.map_drop]
  have v6:=Same.up H5 ho7 (o:=.lst ((ts.drop (posR R)).map strV))
  have s6:=s5.trans v6
  have u6:=u5.trans v6
  have eo7:(upd H5 o7 (.lst ((ts.drop (posR R)).map strV))) o7 = some (.lst ((ts.drop (posR R)).map strV)):=upd_same
  have e66:=v6 _ _ e65
  have e76:=v6 _ _ e7
  have n67:o7 ≠ p6:=fun z=>by rw [z,e65] at ho7; cases ho7
  generalize upd H5 o7 _ = H6 at v6 s6 u6 eo7 e66 e76 ⊢
  have nosub6:∀ b ∈ [p6],H3 b = none:=fun b hb=>by rw [List.mem_singleton.mp hb]; exact hp6
  refine for_l (a:=o7) (xs:=(ts.drop (posR R)).map strV) (fun Q h=>h) (SqL.of eo7) (LTInv L (posR R) p o p3 p6 v5 H6 ts) ⟨[],[],q7,none,none,none,fun b o e _=>e,e66,trivial,e76,n76,rfl,fun w hw=>(nomatch hw),rfl,rfl⟩ ?_ ?_ ?_
  · rintro i σ H' hi ⟨l,xs,q7,v8,v9,v10,k',-⟩
    exact SqL.of (k' o7 _ eo7 fun z=>n67 (List.mem_singleton.mp z))
  · rintro i vx σ H' hx ⟨l,xs,q7,v8,v9,v10,k',l',pr',t',nq,hl',lw,rn',rfl⟩
    rw [List.getElem?_map] at hx
    obtain ⟨t,ht,rfl⟩:=Option.map_eq_some_iff.mp hx
    rw [List.getElem?_drop] at ht
    have sH:=s3.trans (same_keep u6 k' nosub6)
    have il:=(List.getElem?_eq_some_iff.mp ht).1
    have tm:=T.2 t (List.mem_of_getElem? ht)
    have xl:xs.length = i:=by have:=pr'.len; rw [List.length_map,zsOf,List.length_map] at this; omega
    obtain ⟨m,hm⟩:∃ m,ts.length - posR R - i = m + 1:=⟨ts.length - posR R - i - 1,by omega⟩
    have hm2:ts.length - posR R - (i + 1) = m:=by omega
    rw [hm] at rn'
    have ew:wAt ts (posR R + i) = splitL 32 t:=by rw [wAt,ht]
    have stuck:thOk L (lastT l) (wAt ts (posR R + i)) = false→∀ Hx,Same H Hx→Q (.int ((posR R:Int) + i)) Hx:=fun z Hx sx=>by
      have:=q0 (posR R + i) (by rw [rn',runE_err (e:=posR R + i) (by rw [thF,hl',z]; rfl)]) Hx sx
      exact this
    have go:thOk L (lastT l) (wAt ts (posR R + i)) = true→runE (thF L ts (posR R)) (ts.length - posR R) [] = runE (thF L ts (posR R)) m (l ++ [wAt ts (posR R + i)]):=fun z=>by rw [rn',runE_ok (y:=wAt ts (posR R + i)) (by rw [thF,hl',z]; rfl)]
    have wd:=fun w (hw:w ∈ wAt ts (posR R + i))=>T.word hw
    rw [ew] at stuck go wd
    show tSeq _ _ _ _ _
    simp only [List.set_cons_zero,List.set_cons_succ]
    refine seq_set fun c1 hc1=>?_
    simp? [strV]
    refine ⟨rfl,t,32,rfl,rfl,by omega,fun o9 ho9=>hc1 _ _ ?_⟩
    clear hc1 c1
    generalize splitL 32 t = ws at stuck go wd ew ⊢
    have sa:=Same.up H' ho9 (o:=.lst (ws.map strV))
    have ea:(upd H' o9 (.lst (ws.map strV))) o9 = some (.lst (ws.map strV)):=upd_same
    generalize upd H' o9 _ = Ha at sa ea ⊢
    have sHa:=sH.trans sa
    have la:=sa _ _ l'
    simp only [List.set_cons_zero,List.set_cons_succ]
    refine seq_set fun c1 hc1=>?_
    suffices main:∀ b:Bool,(b = true→ws.length = 2 ∨ ws.drop 2 = [kTkn])→(b = false→thOk L (lastT l) ws = false)→c1 (.bl b) Ha by
      and_intros
      refine lenL_go (SqL.of ea) ⟨rfl,?_⟩
      rw [List.length_map]
      by_cases h2:ws.length = 2
      · rw [if_pos (by rw [h2]; rfl)]
        exact main true (fun _=>.inl h2) fun z=>nomatch z
      · rw [if_neg (fun z=>h2 (by injection z with z; omega))]
        refine lenL_go (SqL.of ea) ⟨rfl,?_⟩
        rw [List.length_map]
        by_cases h3:ws.length = 3
        · obtain ⟨x,y,z,rfl⟩:=len3 h3
          rw [if_pos (by rfl)]
          refine ixL_go (v:=strV z) (SqL.of ea) (by decide) rfl ⟨rfl,main _ (fun hb=>.inr ?_) fun hb=>thOk_bad h2 fun e=>?_⟩
          · have:=txt_inj.mp (V.str.inj (of_decide_eq_true hb))
            rw [this]; rfl
          · refine of_decide_eq_false hb ?_
            have:z = kTkn:=List.singleton_inj.mp e
            rw [this]; rfl
        · rw [if_neg (fun z=>h3 (by injection z with z; omega))]
          refine main false (fun z=>nomatch z) fun _=>thOk_bad h2 fun e=>?_
          obtain ⟨x,y,e⟩:=drop2 e
          exact h3 (by rw [e]; rfl)
    intro b hb1 hb0
    refine hc1 _ _ ?_
    clear hc1 c1
    simp only [List.set_cons_zero,List.set_cons_succ]
    have fin:thOk L (lastT l) ws = false→∀ Hx,Same Ha Hx→rLenL K [V.ref p6] Hx fun v H1=>intK v fun n=>Q (.int ((posR R:Int) + n)) H1:=fun z Hx sx=>by
      refine lenL_go (SqL.of (sx _ _ la)) (kK ?_)
      rw [xl]
      exact stuck z Hx (sHa.trans sx)
    refine seq_any fun c1 hc1=>?_
    and_intros
    cases b with
    | false=>
      simp only [if_true]
      exact fin (hb0 rfl) _ (Same.refl _)
    | true=>
      obtain ⟨x,y,g0,g1,hx,hy,tk⟩:=thOk_good (L:=L) (lo:=lastT l) (hb1 rfl)
      rw [tk] at fin go
      have G0:(ws.map strV)[0]? = some (strV x):=by rw [List.getElem?_map,g0]; rfl
      have G1:(ws.map strV)[1]? = some (strV y):=by rw [List.getElem?_map,g1]; rfl
      rw [if_neg (by decide)]
      refine ixL_go (v:=strV x) (SqL.of ea) (by decide) G0 ⟨x,L,rfl,l26,by have:=(wd x (List.mem_of_getElem? g0)).1; omega,bK ?_⟩
      by_cases mx:markB L x = true
      · rw [if_neg (by rw [mx]; decide)]
        rw [mx] at fin go
        refine ixL_go (v:=strV y) (SqL.of ea) (by decide) G1 ⟨y,rfl,by have:=(wd y (List.mem_of_getElem? g1)).1; omega,bK ?_⟩
        by_cases ty:thingB y = true
        · rw [if_neg (by rw [ty]; decide)]
          rw [ty,Bool.and_true,Bool.true_and] at fin go
          refine hc1 _ _ ?_
          clear hc1 c1
          refine seq_any fun c1 hc1=>?_
          suffices main:lastT l < x→c1 [some (V.ref p),some (V.ref o),some (V.int L),some (V.ref p3),some (V.int (posR R:Nat)),v5,some (V.ref p6),some (V.ref q7),some (strV t),some (V.ref o9),some (.bl true)] Ha by
            and_intros
            refine lenL_go (SqL.of la) (kK ?_)
            by_cases h0:l = []
            · rw [if_neg (by rw [xl,← hl',h0]; decide)]
              exact main (by rw [h0]; exact mark_pos (markB_iff.mp mx))
            · have lp:0 < l.length:=List.length_pos_iff.mpr h0
              rw [if_pos (by omega)]
              obtain ⟨u,hu⟩:∃ u,l.getLast? = some u:=by
                cases e:l.getLast? with
                | none=>exact absurd (List.getLast?_eq_none_iff.mp e) h0
                | some c=>exact ⟨c,rfl⟩
              have lt:lastT l = u.headD []:=by unfold lastT; rw [List.getLast?_map,hu]; rfl
              obtain ⟨v,hv⟩:∃ v,xs.getLast? = some v:=by
                cases e:xs.getLast? with
                | none=>rw [List.getLast?_eq_none_iff.mp e] at xl; simp only [List.length_nil] at xl; omega
                | some c=>exact ⟨c,rfl⟩
              have hv2:=hv
              rw [List.getLast?_eq_getElem?,xl,← hl'] at hv2
              obtain ⟨pp,tt,w1,rfl,w2⟩:=(pr'.same sa).get hv2
              rw [List.getElem?_map,zsOf,List.getElem?_map,← List.getLast?_eq_getElem?,hu] at w1
              cases w1
              refine ixL_go (v:=strV x) (SqL.of ea) (by decide) G0 (ixLast_go (SqL.of la) hv (ixT_go (v:=strV (u.headD [])) (SqT.of w2) (by decide) rfl ⟨_,_,rfl,rfl,bK ?_⟩))
              rw [lt] at main fin
              by_cases hle:u.headD [] < x
              · rw [if_neg (by rw [decide_eq_true hle]; decide)]
                exact main hle
              · rw [if_pos (by rw [decide_eq_false hle]; rfl)]
                exact fin (decide_eq_false hle) _ (Same.refl _)
          intro hlt
          refine hc1 _ _ ?_
          clear hc1 c1
          refine seq_any fun c1 hc1=>?_
          and_intros
          refine ⟨.inl ⟨rfl,_,SqL.of la⟩,ixL_go (v:=strV x) (SqL.of ea) (by decide) G0 (ixL_go (v:=strV y) (SqL.of ea) (by decide) G1 ⟨by decide,fun tt htt=>?_⟩)⟩
          have n6t:p6 ≠ tt:=fun z=>by rw [← z,la] at htt; cases htt
          refine append_go (xs:=xs) (by rw [upd_ne n6t]; exact la) (by omega) (hc1 _ _ ?_)
          clear hc1 c1
          have prb:Prs (upd (upd Ha tt (.tup [strV x,strV y])) p6 (.lst (xs ++ [.ref tt]))) (xs ++ [.ref tt]) ((zsOf (l ++ [ws])).map stP):=by
            rw [zsOf,List.map_append,List.map_append]
            refine ((pr'.same sa).keep (keep_list htt la)).app ⟨⟨tt,rfl,?_⟩,trivial⟩
            rw [upd_ne (Ne.symm n6t),upd_same]
            show some (HO.tup [strV x,strV y]) = some (.tup [strV (ws.headD []),strV (ws.tail.headD [])])
            rw [hx,hy]
          have kb:Keeps [p6] H6 (upd (upd Ha tt (.tup [strV x,strV y])) p6 (.lst (xs ++ [.ref tt]))):=((k'.trans (sa.keeps _)).upd (.inr htt)).upd (.inl List.mem_cons_self)
          have lb:(upd (upd Ha tt (.tup [strV x,strV y])) p6 (.lst (xs ++ [.ref tt]))) p6 = some (.lst (xs ++ [.ref tt])):=upd_same
          have oth:∀ b u,b ≠ p6→Ha b = some u→(upd (upd Ha tt (.tup [strV x,strV y])) p6 (.lst (xs ++ [.ref tt]))) b = some u:=fun b u nb e=>by
            rw [upd_ne nb,upd_ne (fun z=>by rw [z,htt] at e; cases e)]; exact e
          have n9:o9 ≠ p6:=fun z=>by rw [z,l'] at ho9; cases ho9
          have eb:=oth o9 _ n9 ea
          have tb:=oth q7 _ nq (sa _ _ t')
          generalize upd (upd Ha tt _) p6 _ = Hb at prb kb lb eb tb ⊢
          and_intros
          refine ixL_go (v:=strV x) (SqL.of eb) (by decide) G0 ⟨by decide,fun pa hpa=>?_⟩
          have sc:=Same.up Hb hpa (o:=.lst [strV x])
          have epa:(upd Hb pa (.lst [strV x])) pa = some (.lst [strV x]):=upd_same
          generalize upd Hb pa _ = Hc at sc epa ⊢
          refine lenL_go (SqL.of (sc _ _ eb)) (kK ?_)
          rw [List.length_map]
          have wl:ws.length = 2 ∨ ws.length = 3:=by
            rcases hb1 rfl with h | h
            · exact .inl h
            · obtain ⟨_,_,e⟩:=drop2 h
              rw [e]; exact .inr rfl
          have rep:(List.replicate ((ws.length:Int) - 2).toNat [strV x]).flatten = (if ws.length = 3 then [x] else []).map strV:=by
            rcases wl with e | e <;> rw [e] <;> rfl
          have wse:wsOf (l ++ [ws]) = wsOf l ++ (if ws.length = 3 then [x] else []):=by
            unfold wsOf
            rw [List.filter_append,List.map_append]
            congr 1
            rw [List.filter_cons]
            by_cases e:ws.length = 3
            · rw [if_pos (decide_eq_true e),if_pos e,← hx]; rfl
            · rw [if_neg (by rw [decide_eq_false e]; decide),if_neg e]; rfl
          have wsl:(wsOf l).length ≤ i:=by
            unfold wsOf
            rw [List.length_map,← hl']
            exact List.length_filter_le _ _
          refine ⟨pa,_,_,rfl,rfl,epa,by omega,by omega,by rw [sizeLine_eq]; simp only [List.length_cons,List.length_nil]; omega,fun pb hpb=>?_⟩
          rw [rep]
          have sd:=Same.up Hc hpb (o:=.lst ((if ws.length = 3 then [x] else []).map strV))
          have epb:(upd Hc pb (.lst ((if ws.length = 3 then [x] else []).map strV))) pb = some (.lst ((if ws.length = 3 then [x] else []).map strV)):=upd_same
          generalize upd Hc pb _ = Hd at sd epb ⊢
          have scd:=sc.trans sd
          refine cat_go (a:=q7) (b:=pb) (scd _ _ tb) epb (by rw [List.length_map,List.length_map]; split <;> simp only [List.length_cons,List.length_nil] <;> omega) fun pc hpc=>?_
          have sce:=scd.new hpc (o:=.lst ((wsOf l).map strV ++ (if ws.length = 3 then [x] else []).map strV))
          refine ⟨l ++ [ws],xs ++ [.ref tt],pc,some (strV t),some (.ref o9),some (.bl true),kb.trans (sce.keeps _),sce _ _ lb,prb.same sce,by rw [upd_same,wse,List.map_append],(fun z=>by rw [z,scd _ _ lb] at hpc; cases hpc),by rw [List.length_append,hl']; rfl,fun w hw=>?_,by rw [hm2]; exact go (decide_eq_true hlt),rfl⟩
          rcases List.mem_append.mp hw with hw | hw
          · exact lw w hw
          · rw [List.mem_singleton.mp hw]
            exact thOk_w (L:=L) (lo:=lastT l) (by rw [tk,mx,ty,decide_eq_true hlt]; rfl)
        · rw [Bool.not_eq_true] at ty
          rw [if_pos ty]
          exact fin (by rw [ty,Bool.and_false]) _ (Same.refl _)
      · rw [Bool.not_eq_true] at mx
        rw [if_pos mx]
        exact fin (by rw [mx]; rfl) _ (Same.refl _)
  rintro σ H7 ⟨l,xs,q8,v8,v9,v10,k7,l7,pr7,t7,nq,hl7,lw,rn7,rfl⟩
  refine hc _ _ ?_
  clear hc c
  have u7:=same_keep u6 k7 nosub6
  have s7:=s3.trans u7
  rw [List.length_map,List.length_drop,Nat.sub_self] at rn7
  have rn7:runE (thF L ts (posR R)) (ts.length - posR R) [] = .ok l:=rn7
  rw [rn7] at q1
  and_intros
  refine ixL_go (v:=strV y) (SqL.of (u7 _ _ eo3)) (by decide) rfl ⟨y,_,rfl,by omega,isNum_int ny,by decide,fun oo hoo=>?_⟩
  rw [hy]
  have sU:=Same.up H7 hoo (o:=.tup [.int L,.int h,.ref p3,.ref p6,.ref q8])
  exact q1 L h R l rfl _ oo p3 p6 q8 bs xs (s7.trans sU) (s7.free1 hoo) ⟨upd_same,sU _ _ (u7 _ _ l3),(rc3.same u7).same sU,sU _ _ l7,pr7.same sU,sU _ _ t7⟩
end K71
namespace K71
open PySem PySem.Spec PyProof.Rows L2 MM
variable {K:PySem.W.Frag} {mg:Str→Option Value} {a:Ad} {N:List Str} {vs:List V} {H:Hp} {Q:VK} {E:XK}
theorem read_asked (T:Tx K mg a) (hN:N.length = 4) (h:spDue K vs H Q E):rd_asked K a { nx:=fun _ H'=>Q .non H',rt:=Q } (L2.start N vs) H:=by
  obtain ⟨p,ts,rfl,hp,Tt,q1,q0⟩:=h
  unfold rd_asked L2.start
  rw [hN]
  refine seq_set fun c hc=>?_
  and_intros
  refine hc _ _ ?_
  clear hc c
  simp only [List.set_cons_zero,List.set_cons_succ,List.replicate_succ,List.replicate_zero,List.map_cons,List.map_nil,List.cons_append,List.nil_append]
  refine seq_set fun c hc=>?_
  and_intros
  refine hc _ _ ?_
  clear hc c
  simp only [List.set_cons_zero,List.set_cons_succ]
  refine seq_any fun c hc=>?_
  simp? [tTryD,TakenD,tCallX]
  refine ⟨p,ts,rfl,hp,Tt,fun L h R l hst H' o p1 p2 p3 bs xs s1 f1 A=>hc _ _ ?_,fun e he d H1 s1 fd ed=>?_⟩
  · clear hc c
    refine seq_any fun c hc=>?_
    and_intros
    exact q1 L h R l hst H' o p1 p2 p3 bs xs s1 f1 A
  · refine ⟨_,rfl,T.i_NoState.subD ⟨_,_,T.x_ShelfError,rfl⟩ T.s_NoState_ShelfError,fun ea hea=>?_⟩
    simp? [List.set_cons_zero,List.set_cons_succ]
    refine hc _ _ ?_
    clear hc c
    have s2:=s1.new hea (o:=excX ea a.c_NoState (some d))
    have e1:(upd H1 ea (excX ea a.c_NoState (some d))) ea = some (excX ea a.c_NoState (some d)):=upd_same
    have ed2:=Same.up H1 hea (o:=excX ea a.c_NoState (some d)) _ _ ed
    generalize upd H1 ea _ = H2 at s2 e1 ed2 ⊢
    refine seq_any fun c hc=>?_
    and_intros
    refine hc _ _ ?_
    clear hc c
    refine seq_any fun c hc=>?_
    and_intros
    refine isX_go e1 T.e_NoState T.j_0 (bK ?_)
    rw [if_neg (by decide)]
    refine isXT_go e1 T.e_NoState T.j_1 (bK ?_)
    rw [if_neg (by decide)]
    refine hc _ _ ?_
    clear hc c
    refine seq_any fun c hc=>?_
    and_intros
    refine ⟨by decide,fun t ht=>?_⟩
    have s3:=s2.new ht (o:=.tup ([a.c_NoHand,a.c_NoLetters,a.c_NoLine,a.c_NoPlace,a.c_NoRoom,a.c_NoShelf,a.c_NoThing].map V.ref))
    have u3:=Same.up H2 ht (o:=.tup ([a.c_NoHand,a.c_NoLetters,a.c_NoLine,a.c_NoPlace,a.c_NoRoom,a.c_NoShelf,a.c_NoThing].map V.ref))
    refine isXs_go (ds:=[a.c_NoHand,a.c_NoLetters,a.c_NoLine,a.c_NoPlace,a.c_NoRoom,a.c_NoShelf,a.c_NoThing]) (u3 _ _ e1) T.e_NoState upd_same T.j_2 (bK ?_)
    rw [if_neg (by decide)]
    refine hc _ _ ?_
    clear hc c
    simp? [tExcFld]
    exact ⟨d,u3 _ _ e1,_,u3 _ _ ed2,_,by rfl,q0 e he _ s3⟩
end K71
namespace K71
open PySem PySem.Spec PyProof.Rows L2 MM
variable {K:PySem.W.Frag} {mg:Str→Option Value} {a:Ad} {N:List Str} {vs:List V} {H:Hp} {Q:VK} {E:XK}
theorem read_xmarks (hN:N.length = 9) (h:spTMarks K vs H Q E):rd_marks K a { nx:=fun _ H'=>Q .non H',rt:=Q } (L2.start N vs) H:=by
  obtain ⟨sc,ns,b,L,n,rfl,hS,hl,hb0,hb1,hL,hL26,hn,q⟩:=h
  unfold rd_marks L2.start
  rw [hN]
  refine seq_set fun c hc=>?_
  and_intros
  refine slTo_go (by rw [abc_len]; decide) (by omega) (by rw [abc_len]; omega) (hc _ _ ?_)
  clear hc c
  rw [Int.toNat_natCast]
  simp only [List.set_cons_zero,List.set_cons_succ,List.replicate_succ,List.replicate_zero,List.map_cons,List.map_nil,List.cons_append,List.nil_append]
  refine seq_set fun c hc=>?_
  and_intros
  refine ⟨by decide,fun p hp=>hc _ _ ?_⟩
  clear hc c
  refine seq_any fun c hc=>?_
  simp? [List.set_cons_zero,List.set_cons_succ]
  refine for_r1 (j:=n) (fun Q h=>h) (by omega) (by omega) (TMInv sc p b L n H) ⟨[],_,_,_,Same.up _ hp,upd_same,rfl,List.nodup_nil,fun m h=>(nomatch h),Nat.le_refl _⟩ ?_ ?_
  · rintro i σ H1 hi ⟨ms,v5,v6,v7,s1,hM,rfl,nd,hm,hml⟩
    have hS1:=s1.seq hS
    refine seq_set fun c hc=>?_
    and_intros
    refine ⟨mulB_l (by decide) (by decide),sc,ns,_,_,hS1,hl,by omega,by omega,by decide,fun z hz0 hz1=>hc _ _ ?_⟩
    clear hc c
    simp only [List.set_cons_zero,List.set_cons_succ]
    refine seq_set fun c hc=>?_
    suffices main:∀ (H3:Hp) (t:List Nat),Same H1 H3→Ls L t→t.length ≤ 299→c (.str (txt t)) H3 by
      and_intros
      refine ⟨rfl,?_⟩
      refine comp_r1 (j:=z) (fun Q h=>h) (by omega) (by omega) (Nat.le_trans (show z.toNat ≤ 100000 by omega) (by decide))
        (fun i ys H'=>H' = H1∧∃ t:List Nat,ys = (t.map fun c=>strV [c])∧t.length = i∧Ls L t) ⟨rfl,[],rfl,rfl,Ls.nil L⟩
        (fun i ys H' _ p=>by obtain ⟨_,t,e,e2,_⟩:=p; rw [e,List.length_map,e2]; exact Nat.le_refl _) ?_ ?_
      · rintro j ys H' hj ⟨rfl,t,rfl,et,ht⟩ R hR
        and_intros
        refine ⟨mulB_l (by decide) (by decide),sc,ns,_,_,hS1,hl,by omega,by omega,by omega,fun r h0 h1=>?_⟩
        refine ixABL_go hL26 h0 (by omega) (hR _ _ ⟨rfl,t ++ [97 + r.toNat],by rw [List.map_append]; rfl,by rw [List.length_append,et]; rfl,ht.app fun c hc=>?_⟩)
        rw [List.mem_singleton.mp hc]; omega
      · rintro ys H' ⟨rfl,t,rfl,et,ht⟩ p3 hp3
        refine ⟨[],p3,t.map fun c=>[c],rfl,rfl,?_,?_,?_⟩
        · refine .inl (.inl ?_)
          rw [upd_same,List.map_map]
          rfl
        · rw [sum_ones]
          simp only [List.length_nil]; omega
        · rw [joinL_nil,flat_ones]
          exact main _ t (Same.up _ hp3) ht (by omega)
    intro H2 t s2 ht htl
    refine hc _ _ ?_
    clear hc c
    have hM2:=s2 _ _ hM
    have s12:=s1.trans s2
    have hS2:=s12.seq hS
    refine seq_set fun c hc=>?_
    suffices main:∀ mk:List Nat,Mark L mk→mk.length ≤ 300→c (.str (txt mk)) H2 by
      and_intros
      refine ⟨mulB_l (by decide) (by decide),sc,ns,_,_,hS2,hl,by omega,by omega,by omega,fun r h0 h1=>?_⟩
      and_intros
      refine ixABL_go (i:=1 + r) hL26 (by omega) (by omega) (addS_go (by simp only [List.length_cons,List.length_nil]; omega) (main _ ⟨ht.app fun c hc=>?_,Na.app (Na.one (show 97 + (1 + r).toNat ≠ 97 by omega)) (by simp),by simp⟩ ?_))
      · rw [List.mem_singleton.mp hc]; omega
      · rw [List.length_append]; simp only [List.length_cons,List.length_nil]; omega
    intro mk Mk zk
    refine hc _ _ ?_
    simp? [List.set_cons_zero,List.set_cons_succ]
    refine ⟨p,_,rfl,.inl (SqL.of hM2),rfl,flat_strs _,?_⟩
    rw [inV_strs]
    and_intros
    by_cases hin:mk ∈ ms
    · rw [if_neg (fun z=>z hin)]
      exact ⟨ms,_,_,_,s12,hM2,rfl,nd,hm,by omega⟩
    · rw [if_pos hin]
      refine ⟨.inl ⟨rfl,_,SqL.of hM2⟩,p,_,_,rfl,rfl,hM2,by rw [List.length_map,sizeLine_eq]; omega,?_⟩
      refine ⟨ms ++ [mk],_,_,_,s12.set hp,by rw [upd_same,List.map_append]; rfl,rfl,?_,fun m h=>?_,by rw [List.length_append]; simp; omega⟩
      · rw [List.nodup_append]
        refine ⟨nd,by simp,fun a ha b hb e=>?_⟩
        rw [List.mem_singleton.mp hb] at e
        subst e
        exact hin ha
      · rcases List.mem_append.mp h with h | h
        · exact hm m h
        · rw [List.mem_singleton.mp h]; exact ⟨Mk,zk⟩
  · rintro σ H1 ⟨ms,v5,v6,v7,s1,hM,rfl,nd,hm,hml⟩
    refine hc _ _ ?_
    and_intros
    rw [Int.toNat_natCast] at hml
    refine ⟨p,ms,rfl,SqL.of hM,by omega,fun r zs hr hpm hle=>?_⟩
    exact q _ r zs s1 hr (fun m h=>hm m (hpm.mem_iff.mp h)) (by rw [hpm.length_eq]; exact hml) (lt_of_sorted hle (hpm.nodup_iff.mpr nd))
end K71
namespace K71
open PySem PySem.Spec PyProof.Rows L2 MM
theorem val_num:∀ n,n < 64→val (num n) = n:=by decide +kernel
theorem runE_list {α:Type} {f:List α→Except Nat α} {l:List α} (h:∀ i y,l[i]? = some y→f (l.take i) = .ok y):∀ k,k ≤ l.length→runE f k (l.take (l.length - k)) = .ok l
  | 0,_=>by rw [Nat.sub_zero,List.take_length]; rfl
  | k + 1,hk=>by
    have hi:l.length - (k + 1) < l.length:=by omega
    rw [runE_ok (h _ _ (List.getElem?_eq_getElem hi)),show l.take (l.length - (k + 1)) ++ [l[l.length - (k + 1)]] = l.take (l.length - k) by
      rw [show l.length - k = l.length - (k + 1) + 1 by omega,List.take_add_one,List.getElem?_eq_getElem hi]; rfl]
    exact runE_list h k (by omega)
theorem runE_all_ok {α:Type} {f:List α→Except Nat α} {l:List α} (h:∀ i y,l[i]? = some y→f (l.take i) = .ok y):runE f l.length [] = .ok l:=by
  have:=runE_list h l.length (Nat.le_refl _)
  rw [Nat.sub_self,List.take_zero] at this
  exact this
theorem last_lt {xs ys:List (List Nat)} {x:List Nat} (up:(xs ++ x :: ys).Pairwise (· < ·)) (h0:[] < x):(xs.getLast?).getD [] < x:=by
  cases e:xs.getLast? with
  | none=>exact h0
  | some y=>exact (List.pairwise_append.mp up).2.2 y (List.mem_of_getLast? e) x List.mem_cons_self
theorem split_at {α:Type} {l:List α} {i:Nat} {y:α} (h:l[i]? = some y):l = l.take i ++ y :: l.drop (i + 1):=by
  conv=>lhs; rw [← List.take_append_drop i l,drop_get h]
theorem numTo_num {n lo hi:Nat} (h:n < 64) (h1:lo ≤ n) (h2:n ≤ hi):numTo lo hi (num n) = some n:=by
  unfold numTo
  rw [val_num n h,if_pos ⟨(num_ok n h).2.1,h1,h2⟩]
theorem posR_take {R:List (List RwN)}:∀ i,i ≤ R.length→posR (R.take i) = posT R i
  | 0,_=>rfl
  | i + 1,h=>by
    obtain ⟨r,hr⟩:∃ r,R[i]? = some r:=⟨R[i],List.getElem?_eq_getElem (by omega)⟩
    rw [posT_succ hr,List.take_add_one,hr]
    show posR (R.take i ++ [r]) = _
    rw [posR_snoc,posR_take i (by omega)]
def WOk (L:Nat) (w:List (List Nat)):Prop:=∃ m t,(w = [m,t] ∨ w = [m,t,kTkn])∧Mark L m∧Thing t
theorem WOk.free {L:Nat} {w:List (List Nat)} (h:WOk L w):w ≠ []∧∀ x ∈ w,32 ∉ x:=by
  obtain ⟨m,t,h | h,hm,ht⟩:=h
  · subst h
    refine ⟨by simp,fun x hx=>?_⟩
    simp only [List.mem_cons,List.not_mem_nil,or_false] at hx
    rcases hx with rfl | rfl
    · exact free_mark hm
    · exact free_thing ht
  · subst h
    refine ⟨by simp,fun x hx=>?_⟩
    simp only [List.mem_cons,List.not_mem_nil,or_false] at hx
    rcases hx with rfl | rfl | rfl
    · exact free_mark hm
    · exact free_thing ht
    · decide
theorem WOk.ok {L:Nat} {lo:List Nat} {w:List (List Nat)} (h:WOk L w) (hl:lo < w.headD []):thOk L lo w = true:=by
  obtain ⟨m,t,h | h,hm,ht⟩:=h
  · subst h
    show (markB L m && decide (lo < m) && thingB t) = true
    rw [markB_iff.mpr hm,thingB_iff.mpr ht,decide_eq_true (show lo < m from hl)]; rfl
  · subst h
    show (decide (kTkn = kTkn) && (markB L m && decide (lo < m) && thingB t)) = true
    rw [markB_iff.mpr hm,thingB_iff.mpr ht,decide_eq_true (show lo < m from hl),decide_eq_true rfl]; rfl
theorem WOk.pos {L:Nat} {w:List (List Nat)} (h:WOk L w):[] < w.headD []:=by
  obtain ⟨m,t,h | h,hm,ht⟩:=h <;> subst h <;> exact mark_pos hm
theorem state_ok {L h:Nat} {R:List (List RwN)} {l:List (List (List Nat))} (l2:2 ≤ L) (l26:L ≤ 26) (h1:1 ≤ h) (hL:h < L) (few:R.length ≤ 60) (rows:∀ r ∈ R,RowsT L r) (ok:∀ w ∈ l,WOk L w) (up:(l.map (·.headD [])).Pairwise (· < ·)) :
    stateF (headT L h R.length :: (R.flatMap renT ++ l.map (joinL [32]))) = .ok (L,h,R,l):=by
  have hd:headF (headT L h R.length :: (R.flatMap renT ++ l.map (joinL [32]))) = .ok (L,h,R.length):=by
    refine headF_of (x:=num L) (y:=num h) (z:=num R.length) ?_ (numTo_num (by omega) l2 l26) (numTo_num (by omega) h1 (by omega)) (numTo_num (by omega) (Nat.zero_le _) (by omega))
    show splitL 32 (headT L h R.length) = _
    rw [head_join,splitL_join _ (by simp) fun w hw=>?_]
    simp only [List.mem_cons,List.not_mem_nil,or_false] at hw
    rcases hw with rfl | rfl | rfl
    · exact num_free (by omega)
    · exact num_free (by omega)
    · exact num_free (by omega)
  have hr:runE (fun R'=>renF L (headT L h R.length :: (R.flatMap renT ++ l.map (joinL [32]))) (posR R')) R.length [] = .ok R:=by
    refine runE_all_ok fun i r hi=>?_
    have il:=(List.getElem?_eq_some_iff.mp hi).1
    have T:=rows r (List.mem_of_getElem? hi)
    have rf:=T.few
    rw [posR_take i (by omega)]
    have at0:=st_at hi (headT L h R.length) (l.map (joinL [32])) (k:=0) (by rw [renT]; exact Nat.succ_pos _)
    rw [Nat.add_zero] at at0
    have mn:manyF (headT L h R.length :: (R.flatMap renT ++ l.map (joinL [32]))) (posT R i) = .ok r.length:=by
      unfold manyF wAt
      rw [at0]
      show (match splitL 32 (kRnw ++ [32] ++ num r.length) with
        | [k,w]=>if k = kRnw then ordE (numTo 0 1000 w) (posT R i) else .error (posT R i)
        | _=>.error (posT R i)) = _
      rw [show kRnw ++ [32] ++ num r.length = joinL [32] [kRnw,num r.length] from rfl,splitL_join _ (by simp) fun w hw=>by
        simp only [List.mem_cons,List.not_mem_nil,or_false] at hw
        rcases hw with rfl | rfl
        · decide
        · exact num_free (by omega)]
      simp only [if_true]
      rw [numTo_num (by omega) (Nat.zero_le _) (by omega)]
      rfl
    unfold renF
    rw [mn]
    simp only
    refine runE_all_ok fun j y hj=>?_
    have jl:=(List.getElem?_eq_some_iff.mp hj).1
    have ym:=List.mem_of_getElem? hj
    have atj:=st_at hi (headT L h R.length) (l.map (joinL [32])) (k:=j + 1) (by rw [renT,List.length_cons,List.length_map]; omega)
    unfold rowF
    have lt:(r.take j).length = j:=by rw [List.length_take]; omega
    have wy:wAt (headT L h R.length :: (R.flatMap renT ++ l.map (joinL [32]))) (posT R i + 1 + (r.take j).length) = [y.1,w2 y]:=by
      unfold wAt
      rw [lt,show posT R i + 1 + j = posT R i + (j + 1) by omega,atj,renT,List.getElem?_cons_succ,List.getElem?_map,hj]
      show splitL 32 (rowT y) = _
      rw [row_join,rowW_eq,splitL_join _ (by simp) fun w hw=>?_]
      simp only [List.mem_cons,List.not_mem_nil,or_false] at hw
      rcases hw with rfl | rfl
      · exact free_mark (T.old y ym).1
      · unfold w2
        cases e:y.2 with
        | none=>decide
        | some z=>exact free_mark (T.new y ym z e).1
    rw [wy,rRow_two]
    have e:=split_at hj
    have lo:lastO (r.take j) < y.1:=by
      have:=T.oup
      rw [e,List.map_append,List.map_cons] at this
      exact last_lt this (mark_pos (T.old y ym).1)
    rw [if_pos ⟨markB_iff.mpr (T.old y ym).1,lo⟩]
    cases ey:y.2 with
    | none=>
      rw [if_pos (by unfold w2; rw [ey]; rfl)]
      show Except.ok (y.1,none) = Except.ok y
      rw [← ey]
    | some z=>
      have ew:w2 y = z:=by unfold w2; rw [ey]; rfl
      have mz:=(T.new y ym z ey).1
      have ln:lastN (r.take j) < z:=by
        have:=T.nup
        rw [e,List.filterMap_append,List.filterMap_cons,ey] at this
        exact last_lt this (mark_pos mz)
      rw [ew,if_neg (fun x=>by
        rw [x] at mz
        have:=mz.ls 45 List.mem_cons_self
        omega),if_pos ⟨markB_iff.mpr mz,ln⟩]
      show Except.ok (y.1,some z) = Except.ok y
      rw [← ey]
  have ht:runE (thF L (headT L h R.length :: (R.flatMap renT ++ l.map (joinL [32]))) (posR R)) l.length [] = .ok l:=by
    refine runE_all_ok fun j w hj=>?_
    have jl:=(List.getElem?_eq_some_iff.mp hj).1
    have ow:=ok w (List.mem_of_getElem? hj)
    have lt:(l.take j).length = j:=by rw [List.length_take]; omega
    have pe:posR R = posT R R.length:=by
      have:=posR_take (R:=R) R.length (Nat.le_refl _)
      rw [List.take_length] at this
      exact this
    have wy:wAt (headT L h R.length :: (R.flatMap renT ++ l.map (joinL [32]))) (posR R + (l.take j).length) = w:=by
      unfold wAt
      rw [lt,pe,th_at,List.getElem?_map,hj]
      show splitL 32 (joinL [32] w) = w
      exact splitL_join _ ow.free.1 ow.free.2
    unfold thF
    rw [wy,if_pos]
    refine ow.ok ?_
    have:=up
    rw [split_at hj,List.map_append,List.map_cons] at this
    exact last_lt this ow.pos
  have len:(headT L h R.length :: (R.flatMap renT ++ l.map (joinL [32]))).length - posR R = l.length:=by
    have pe:posR R = posT R R.length:=by
      have:=posR_take (R:=R) R.length (Nat.le_refl _)
      rw [List.take_length] at this
      exact this
    rw [pe,posT,List.take_length,List.length_cons,List.length_append,List.length_map]
    omega
  unfold stateF
  rw [hd]
  simp only
  rw [hr]
  simp only
  rw [len,ht]
end K71
namespace K71
open PySem PySem.Spec PyProof.Rows L2 MM
variable {K:PySem.W.Frag} {mg:Str→Option Value} {a:Ad} {N:List Str} {vs:List V} {H:Hp} {Q:VK} {E:XK}
def Sm (l:List Nat):Prop:=∀ c ∈ l,c < 200
theorem Sm.app {l m:List Nat} (a:Sm l) (b:Sm m):Sm (l ++ m):=fun c hc=>by
  rcases List.mem_append.mp hc with h | h
  · exact a c h
  · exact b c h
theorem Sm.nil:Sm []:=fun c hc=>(nomatch hc)
theorem num_small:∀ n,n < 64→(num n).all (fun c=>decide (c < 200)) = true:=by decide +kernel
theorem sm_num {n:Nat} (h:n < 64):Sm (num n):=fun c hc=>of_decide_eq_true (List.all_eq_true.mp (num_small n h) c hc)
theorem sm_mark {L:Nat} {m:List Nat} (l26:L ≤ 26) (h:Mark L m):Sm m:=fun c hc=>by have:=h.ls c hc; omega
theorem sm_thing {t:List Nat} (h:Thing t):Sm t:=fun c hc=>signs_small c (h.2.2 c hc)
theorem sm_sp:Sm [32]:=by unfold Sm; decide
theorem made_ok {L h:Nat} {R:List (List RwN)} {l:List (List (List Nat))} {ms:List (List Nat)} (l26:L ≤ 26) (hL:h < L) (few:R.length ≤ 2) (rok:∀ r ∈ R,RowsT L r∧r.length ≤ 3∧∀ y ∈ r,y.1.length ≤ 300∧∀ z,y.2 = some z→z.length ≤ 300) (ok:∀ w ∈ l,WOk L w) (lh:l.map (·.headD []) = ms) (ml:ms.length ≤ 4) (mk:∀ m ∈ ms,m.length ≤ 300) :
    TsOk 200 1000 (headT L h R.length :: R.flatMap renT ++ l.map (joinL [32])):=by
  have rl:=ren_len (R:=R) fun r hr=>(rok r hr).1
  have ll:l.length = ms.length:=by rw [← lh,List.length_map]
  have n1:=(num_ok L (by omega)).2.2
  have n2:=(num_ok h (by omega)).2.2
  have n3:=(num_ok R.length (by omega)).2.2
  refine ⟨by rw [List.length_append,List.length_cons,List.length_map]; omega,fun t ht=>?_⟩
  rcases List.mem_append.mp ht with ht | ht
  · rcases List.mem_cons.mp ht with rfl | ht
    · refine ⟨?_,((((sm_num (by omega)).app sm_sp).app (sm_num (by omega))).app sm_sp).app (sm_num (by omega))⟩
      unfold headT
      simp only [List.length_append,List.length_cons,List.length_nil]
      omega
    · obtain ⟨r,hr,ht⟩:=List.mem_flatMap.mp ht
      obtain ⟨T,r3,ry⟩:=rok r hr
      have n4:=(num_ok r.length (by omega)).2.2
      unfold renT at ht
      rcases List.mem_cons.mp ht with rfl | ht
      · refine ⟨by simp only [List.length_append,List.length_cons,List.length_nil,kRnw]; omega,(Sm.app (by unfold Sm; decide) sm_sp).app (sm_num (by omega))⟩
      · obtain ⟨y,hy,rfl⟩:=List.mem_map.mp ht
        obtain ⟨y1,y2⟩:=ry y hy
        unfold rowT
        cases e:y.2 with
        | none=>exact ⟨by simp only [List.length_append,List.length_cons,List.length_nil]; omega,(sm_mark l26 (T.old y hy).1).app (by unfold Sm; decide)⟩
        | some z=>
          have:=y2 z e
          exact ⟨by simp only [List.length_append,List.length_cons,List.length_nil]; omega,((sm_mark l26 (T.old y hy).1).app sm_sp).app (sm_mark l26 (T.new y hy z e).1)⟩
  · obtain ⟨w,hw,rfl⟩:=List.mem_map.mp ht
    have hd:=mk (w.headD []) (by rw [← lh]; exact List.mem_map_of_mem hw)
    obtain ⟨m,t,h | h,hm,th⟩:=ok w hw
    · subst h
      have tl:=th.2.1
      have hd:m.length ≤ 300:=hd
      rw [joinL_cons]
      show (m ++ [32] ++ t).length ≤ 1000∧Sm (m ++ [32] ++ t)
      exact ⟨by simp only [List.length_append,List.length_cons,List.length_nil]; omega,((sm_mark l26 hm).app sm_sp).app (sm_thing th)⟩
    · subst h
      have tl:=th.2.1
      have hd:m.length ≤ 300:=hd
      rw [joinL_cons,joinL_cons]
      show (m ++ [32] ++ (t ++ [32] ++ kTkn)).length ≤ 1000∧Sm (m ++ [32] ++ (t ++ [32] ++ kTkn))
      exact ⟨by simp only [List.length_append,List.length_cons,List.length_nil,kTkn]; omega,((sm_mark l26 hm).app sm_sp).app (((sm_thing th).app sm_sp).app (by unfold Sm; decide))⟩
def MOInv (sc ps:Addr) (H:Hp) (L h g:Nat) (p3:Addr):Nat→L2.St→Hp→Prop:=fun i σ H'=>∃ (R:List (List RwN)) (v4 v5 v6 v7 v8:Option V),Keeps [p3] H H'∧H' p3 = some (.lst ((headT L h g :: R.flatMap renT).map strV))∧R.length = i∧(∀ r ∈ R,RowsT L r∧r.length ≤ 3∧∀ y ∈ r,y.1.length ≤ 300∧∀ z,y.2 = some z→z.length ≤ 300)∧σ = [some (.ref sc),some (.ref ps),some (.int g),some (.ref p3),v4,v5,v6,v7,v8,none,none]
def MNInv (sc ps:Addr) (H:Hp) (g k:Nat) (p3 p5 p6:Addr) (tx olds news:List (List Nat)):Nat→L2.St→Hp→Prop:=fun j σ H'=>∃ (r:List RwN) (v7 v8:Option V),Keeps [p3] H H'∧H' p3 = some (.lst ((tx ++ r.map rowT).map strV))∧r.map (·.1) = olds.take j∧(r.filterMap (·.2)).Sublist (news.take j)∧σ = [some (.ref sc),some (.ref ps),some (.int g),some (.ref p3),some (.int k),some (.ref p5),some (.ref p6),v7,v8,none,none]
def MTInv (sc ps:Addr) (H:Hp) (L g:Nat) (p3:Addr) (v4 v5 v6 v7 v8:Option V) (tx ms:List (List Nat)):Nat→L2.St→Hp→Prop:=fun i σ H'=>∃ (l:List (List (List Nat))) (v9 v10:Option V),Keeps [p3] H H'∧H' p3 = some (.lst ((tx ++ l.map (joinL [32])).map strV))∧l.map (·.headD []) = ms.take i∧(∀ w ∈ l,WOk L w)∧σ = [some (.ref sc),some (.ref ps),some (.int g),some (.ref p3),v4,v5,v6,v7,v8,v9,v10]
theorem read_xmade (hN:N.length = 11) (h:spXMade K vs H Q E):rd_made K a { nx:=fun _ H'=>Q .non H',rt:=Q } (L2.start N vs) H:=by
  obtain ⟨sc,ps,ns,L,h,rfl,hS,hl,hps,l2,l26,h1,hL,q⟩:=h
  unfold rd_made L2.start
  rw [hN]
  refine seq_set fun c hc=>?_
  and_intros
  refine ⟨sc,ns,_,_,hS,hl,by decide,by decide,by decide,fun g hg0 hg1=>hc _ _ ?_⟩
  clear hc c
  obtain ⟨g,rfl⟩:=Int.eq_ofNat_of_zero_le hg0
  have n1:=(num_ok L (by omega)).2.2
  have n2:=(num_ok h (by omega)).2.2
  have n3:=(num_ok g (by omega)).2.2
  simp only [List.set_cons_zero,List.set_cons_succ,List.replicate_succ,List.replicate_zero,List.map_cons,List.map_nil,List.cons_append,List.nil_append]
  refine seq_set fun c hc=>?_
  and_intros
  refine ⟨rfl,ixT_go (v:=.int L) (SqT.of hps) (by decide) rfl (strN_go (by omega) (ixT_go (v:=.int h) (SqT.of hps) (by decide) rfl (strN_go (by omega) (strN_go (by omega) ⟨by decide,fun q0 hq0=>join_go (ys:=[num L,num h,num g]) upd_same (by simp only [List.map_cons,List.map_nil,List.sum_cons,List.sum_nil,List.length_cons,List.length_nil]; omega) ⟨by decide,fun p3 hp3=>hc _ _ ?_⟩⟩))))⟩
  clear hc c
  rw [← head_join]
  have s0:=Same.up H hq0 (o:=.lst [strV (num L),strV (num h),strV (num g)])
  have f3:=s0.free1 hp3
  have s1:=s0.new hp3 (o:=.lst [.str (txt (headT L h g))])
  have e1:(upd (upd H q0 (.lst [strV (num L),strV (num h),strV (num g)])) p3 (.lst [.str (txt (headT L h g))])) p3 = some (.lst ((headT L h g :: ([]:List (List RwN)).flatMap renT).map strV)):=upd_same
  have nosub:∀ b ∈ [p3],H b = none:=fun b hb=>by rw [List.mem_singleton.mp hb]; exact f3
  simp only [strV] at s1 e1
  generalize upd (upd H q0 _) p3 _ = H1 at s1 e1 ⊢
  simp only [List.set_cons_zero,List.set_cons_succ]
  refine seq_any fun c hc=>?_
  refine for_r1 (j:=(g:Nat)) (fun Q h=>by and_intros; exact h) (by omega) (by omega) (MOInv sc ps H1 L h g p3) ⟨[],none,none,none,none,none,fun b o e _=>e,e1,rfl,fun r hr=>(nomatch hr),rfl⟩ ?_ ?_
  · rintro i σ H' hi ⟨R,v4,v5,v6,v7,v8,k',l',hR,rok,rfl⟩
    have sH:=same_keep s1 k' nosub
    have hS':=sH.seq hS
    have hps':=sH _ _ hps
    simp only [List.set_cons_zero,List.set_cons_succ]
    refine seq_set fun c1 hc1=>?_
    and_intros
    refine ⟨mulB_l (by decide) (by decide),ixT_go (v:=.int L) (SqT.of hps') (by decide) rfl ⟨sc,ns,_,_,hS',hl,by omega,by omega,by decide,fun n hn0 hn1=>?_⟩⟩
    obtain ⟨n,rfl⟩:=Int.eq_ofNat_of_zero_le hn0
    refine ⟨sc,ns,_,L,n,rfl,hS',hl,by omega,by omega,l2,l26,by omega,fun Ha p5 olds sa ha5 om ol ou=>hc1 _ _ ?_⟩
    clear hc1 c1
    have sHa:=sH.trans (sa.new ha5 (o:=.lst (olds.map strV)))
    have k2:Keeps [p3] H1 (upd Ha p5 (.lst (olds.map strV))):=(k'.trans (sa.keeps _)).upd (.inr ha5)
    have n53:p3 ≠ p5:=fun z=>by rw [← z,sa _ _ l'] at ha5; cases ha5
    have l2':(upd Ha p5 (.lst (olds.map strV))) p3 = some (.lst ((headT L h g :: R.flatMap renT).map strV)):=by rw [upd_ne n53]; exact sa _ _ l'
    have e5:(upd Ha p5 (.lst (olds.map strV))) p5 = some (.lst (olds.map strV)):=upd_same
    generalize upd Ha p5 _ = Hb at sHa k2 l2' e5 ⊢
    simp only [List.set_cons_zero,List.set_cons_succ]
    refine seq_set fun c1 hc1=>?_
    and_intros
    refine ⟨mulB_l (by decide) (by decide),ixT_go (v:=.int L) (SqT.of (sHa _ _ hps)) (by decide) rfl (lenL_go (SqL.of e5) ?_)⟩
    rw [List.length_map]
    refine ⟨sc,ns,_,L,olds.length,rfl,sHa.seq hS,hl,by omega,by omega,l2,l26,by omega,fun Hc p6 news sc' hc6 nm nl nu=>hc1 _ _ ?_⟩
    clear hc1 c1
    have sHc:=sHa.trans (sc'.new hc6 (o:=.lst (news.map strV)))
    have k3:Keeps [p3] H1 (upd Hc p6 (.lst (news.map strV))):=(k2.trans (sc'.keeps _)).upd (.inr hc6)
    have n63:p3 ≠ p6:=fun z=>by rw [← z,sc' _ _ l2'] at hc6; cases hc6
    have n65:p5 ≠ p6:=fun z=>by rw [← z,sc' _ _ e5] at hc6; cases hc6
    have l3':(upd Hc p6 (.lst (news.map strV))) p3 = some (.lst ((headT L h g :: R.flatMap renT).map strV)):=by rw [upd_ne n63]; exact sc' _ _ l2'
    have e53:(upd Hc p6 (.lst (news.map strV))) p5 = some (.lst (olds.map strV)):=by rw [upd_ne n65]; exact sc' _ _ e5
    have e6:(upd Hc p6 (.lst (news.map strV))) p6 = some (.lst (news.map strV)):=upd_same
    generalize upd Hc p6 _ = Hd at sHc k3 l3' e53 e6 ⊢
    have len1:=ren_len (R:=R) fun r hr=>(rok r hr).1
    have nr:=(num_ok olds.length (by omega)).2.2
    simp only [List.set_cons_zero,List.set_cons_succ]
    refine seq_any fun c1 hc1=>?_
    and_intros
    refine ⟨.inl ⟨rfl,_,SqL.of l3'⟩,lenL_go (SqL.of e53) ?_⟩
    rw [List.length_map]
    refine strN_go (by omega) (addS_go (by simp only [List.length_cons,List.length_nil]; omega) (append_go l3' (by rw [List.length_map,List.length_cons]; omega) (hc1 _ _ ?_)))
    clear hc1 c1
    have k4:Keeps [p3] H1 (upd Hd p3 (.lst (((headT L h g :: R.flatMap renT).map strV) ++ [.str (txt ([114,101,110,101,119,97,108,32] ++ num olds.length))]))):=k3.upd (.inl List.mem_cons_self)
    have l4:(upd Hd p3 (.lst (((headT L h g :: R.flatMap renT).map strV) ++ [.str (txt ([114,101,110,101,119,97,108,32] ++ num olds.length))]))) p3 = some (.lst ((((headT L h g :: R.flatMap renT) ++ [kRnw ++ [32] ++ num olds.length]) ++ ([]:List RwN).map rowT).map strV)):=by
      rw [upd_same,List.map_nil,List.append_nil,List.map_append]
      rfl
    have e54:(upd Hd p3 (.lst (((headT L h g :: R.flatMap renT).map strV) ++ [.str (txt ([114,101,110,101,119,97,108,32] ++ num olds.length))]))) p5 = some (.lst (olds.map strV)):=by rw [upd_ne (Ne.symm n53)]; exact e53
    have e64:(upd Hd p3 (.lst (((headT L h g :: R.flatMap renT).map strV) ++ [.str (txt ([114,101,110,101,119,97,108,32] ++ num olds.length))]))) p6 = some (.lst (news.map strV)):=by rw [upd_ne (Ne.symm n63)]; exact e6
    generalize upd Hd p3 _ = H4 at k4 l4 e54 e64 ⊢
    refine for_r1 (j:=(olds.length:Nat)) (fun Q h=>by and_intros; exact lenL_go (SqL.of e54) (by rw [List.length_map]; exact h)) (by omega) (by omega) (MNInv sc ps H4 g i p3 p5 p6 ((headT L h g :: R.flatMap renT) ++ [kRnw ++ [32] ++ num olds.length]) olds news) ⟨[],v7,v8,fun b o e _=>e,l4,rfl,List.Sublist.refl _,rfl⟩ ?_ ?_
    · rintro j σ H5 hj ⟨r,v7,v8,k5,l5,ro,rn,rfl⟩
      have jl:j < olds.length:=by omega
      have rl:r.length = j:=by
        have:=congrArg List.length ro
        rw [List.length_map,List.length_take] at this; omega
      have s5:=same_keep s1 (k4.trans k5) nosub
      have e55:=k5 p5 _ e54 (fun z=>n53 (List.mem_singleton.mp z).symm)
      have e65:=k5 p6 _ e64 (fun z=>n63 (List.mem_singleton.mp z).symm)
      obtain ⟨m,hm⟩:∃ m,olds[j]? = some m:=⟨olds[j],List.getElem?_eq_getElem jl⟩
      have mm:=om m (List.mem_of_getElem? hm)
      simp only [List.set_cons_zero,List.set_cons_succ]
      refine seq_set fun c2 hc2=>?_
      and_intros
      refine hc2 _ _ ?_
      clear hc2 c2
      have app:∀ (o:Option (List Nat)) (f:List Nat),rowT (m,o) = m ++ [32] ++ f→f.length ≤ 300→((r ++ [(m,o)]).filterMap (·.2)).Sublist (news.take (j + 1))→rIxL K (V.ref p5) (V.int j) H5 (fun x H1=>rAddS x (V.str (txt [32])) H1 fun y H2=>rAddS y (.str (txt f)) H2 fun z H3=>rAppend (.ref p3) [z] H3 fun _ H6=>MNInv sc ps H4 g i p3 p5 p6 ((headT L h g :: R.flatMap renT) ++ [kRnw ++ [32] ++ num olds.length]) olds news (j + 1) [some (.ref sc),some (.ref ps),some (.int g),some (.ref p3),some (.int i),some (.ref p5),some (.ref p6),some (.int j),some (.str (txt f)),none,none] H6):=by
        intro o f er fl sub
        refine ixL_go (v:=strV m) (SqL.of e55) (by omega) (by rw [Int.toNat_natCast,List.getElem?_map,hm]; rfl) (addS_go (by have:=mm.2; simp only [List.length_cons,List.length_nil]; omega) (addS_go (by have:=mm.2; rw [List.length_append]; simp only [List.length_cons,List.length_nil]; omega) (append_go l5 (by rw [List.length_map,List.length_append,List.length_append,List.length_cons,List.length_map]; simp only [List.length_cons,List.length_nil]; omega) ⟨r ++ [(m,o)],_,_,k5.upd (.inl List.mem_cons_self),?_,?_,sub,rfl⟩)))
        · rw [upd_same,List.map_append (l₁:=r),← er,← List.append_assoc,List.map_append (l₂:=[(m,o)].map rowT)]
          rfl
        · rw [List.map_append,ro,List.take_add_one,hm]
          rfl
      refine seq_any fun c2 hc2=>?_
      suffices main:∀ (o:Option (List Nat)) (f:List Nat),rowT (m,o) = m ++ [32] ++ f→f.length ≤ 300→((r ++ [(m,o)]).filterMap (·.2)).Sublist (news.take (j + 1))→c2 [some (.ref sc),some (.ref ps),some (.int g),some (.ref p3),some (.int i),some (.ref p5),some (.ref p6),some (.int j),some (.str (txt f)),none,none] H5 by
        have nope:=main none [45] (by show m ++ [32,45] = m ++ [32] ++ [45]; simp) (by decide) (by
          rw [List.filterMap_append]
          show (r.filterMap (fun y:RwN=>y.2) ++ []).Sublist _
          rw [List.append_nil]
          exact rn.trans (List.take_sublist_take_left (by omega)))
        and_intros
        refine lenL_go (SqL.of e65) (kK ?_)
        rw [List.length_map]
        by_cases hjn:j < news.length
        · rw [if_pos (by omega)]
          refine ⟨mulB_l (by decide) (by decide),sc,ns,_,_,s5.seq hS,hl,by omega,by omega,by decide,fun d hd0 hd1=>kK ?_⟩
          obtain ⟨f,hf⟩:∃ f,news[j]? = some f:=⟨news[j],List.getElem?_eq_getElem hjn⟩
          by_cases hd:0 < d
          · rw [if_pos hd]
            refine ixL_go (v:=strV f) (SqL.of e65) (by omega) (by rw [Int.toNat_natCast,List.getElem?_map,hf]; rfl) ?_
            refine main (some f) f rfl (nm f (List.mem_of_getElem? hf)).2 ?_
            rw [List.filterMap_append,List.take_add_one,hf]
            exact rn.append (List.Sublist.refl _)
          · rw [if_neg hd]
            exact nope
        · rw [if_neg (by omega)]
          exact nope
      intro o f er fl sub
      refine hc2 _ _ ?_
      clear hc2 c2
      and_intros
      exact ⟨.inl ⟨rfl,_,SqL.of l5⟩,app o f er fl sub⟩
    · rintro σ H5 ⟨r,v7,v8,k5,l5,ro,rn,rfl⟩
      rw [show ((olds.length:Nat):Int).toNat = olds.length from rfl,List.take_length] at ro
      have rn:=rn.trans (List.take_sublist _ _)
      have rl:r.length = olds.length:=by rw [← ro,List.length_map]
      have old:∀ y ∈ r,Mark L y.1∧y.1.length ≤ 300:=fun y hy=>om _ (by rw [← ro]; exact List.mem_map_of_mem hy)
      have new:∀ y ∈ r,∀ z,y.2 = some z→Mark L z∧z.length ≤ 300:=fun y hy z hz=>nm _ (rn.subset (List.mem_filterMap.mpr ⟨y,hy,hz⟩))
      refine ⟨R ++ [r],_,_,_,_,_,k4.trans k5,?_,by rw [List.length_append,hR]; rfl,fun r' hr'=>?_,rfl⟩
      · rw [l5,List.flatMap_append,List.flatMap_cons,List.flatMap_nil,List.append_nil,renT,rl]
        simp only [List.cons_append,List.append_assoc,List.nil_append]
      · rcases List.mem_append.mp hr' with hr' | hr'
        · exact rok r' hr'
        · rw [List.mem_singleton.mp hr']
          exact ⟨⟨by omega,fun y hy=>⟨(old y hy).1,by have:=(old y hy).2; omega⟩,fun y hy z hz=>⟨(new y hy z hz).1,by have:=(new y hy z hz).2; omega⟩,by rw [ro]; exact ou,nu.sublist rn⟩,by omega,fun y hy=>⟨(old y hy).2,fun z hz=>(new y hy z hz).2⟩⟩
  rintro σ H2 ⟨R,v4,v5,v6,v7,v8,k2,l2',hR,rok,rfl⟩
  refine hc _ _ ?_
  clear hc c
  rw [show ((g:Nat):Int).toNat = g from rfl] at hR
  have s2:=same_keep s1 k2 nosub
  have len1:=ren_len (R:=R) fun r hr=>(rok r hr).1
  refine seq_any fun c hc=>?_
  refine for_pre ?_
  and_intros
  refine ixT_go (v:=.int L) (SqT.of (s2 _ _ hps)) (by decide) rfl ⟨sc,ns,_,_,s2.seq hS,hl,by decide,by decide,by decide,fun n hn0 hn1=>?_⟩
  obtain ⟨n,rfl⟩:=Int.eq_ofNat_of_zero_le hn0
  refine ⟨sc,ns,_,L,n,rfl,s2.seq hS,hl,by omega,by omega,l2,l26,by omega,fun H3 pm ms s3 hpm mk ml mu=>?_⟩
  have s3':=s2.trans (s3.new hpm (o:=.lst (ms.map strV)))
  have n3m:p3 ≠ pm:=fun z=>by rw [← z,s3 _ _ l2'] at hpm; cases hpm
  have l3:(upd H3 pm (.lst (ms.map strV))) p3 = some (.lst (((headT L h g :: R.flatMap renT) ++ ([]:List (List (List Nat))).map (joinL [32])).map strV)):=by rw [upd_ne n3m,List.map_nil,List.append_nil]; exact s3 _ _ l2'
  have k3:Keeps [p3] H1 (upd H3 pm (.lst (ms.map strV))):=(k2.trans (s3.keeps _)).upd (.inr hpm)
  have em:(upd H3 pm (.lst (ms.map strV))) pm = some (.lst (ms.map strV)):=upd_same
  generalize upd H3 pm _ = H4 at s3' l3 k3 em ⊢
  refine for_l (a:=pm) (xs:=ms.map strV) (fun Q h=>h) (SqL.of em) (MTInv sc ps H4 L g p3 v4 v5 v6 v7 v8 (headT L h g :: R.flatMap renT) ms) ⟨[],none,none,fun b o e _=>e,l3,rfl,fun w hw=>(nomatch hw),rfl⟩ ?_ ?_ ?_
  · rintro i σ H' hi ⟨l,v9,v10,k',-⟩
    exact SqL.of (k' pm _ em fun z=>n3m (List.mem_singleton.mp z).symm)
  · rintro i vx σ H' hx ⟨l,v9,v10,k',l',lh,lw,rfl⟩
    rw [List.getElem?_map] at hx
    obtain ⟨m,hm,rfl⟩:=Option.map_eq_some_iff.mp hx
    have mm:=mk m (List.mem_of_getElem? hm)
    have il:=(List.getElem?_eq_some_iff.mp hm).1
    have ll:l.length = i:=by
      have:=congrArg List.length lh
      rw [List.length_map,List.length_take] at this; omega
    have sH:=same_keep s1 (k3.trans k') nosub
    show tSeq _ _ _ _ _
    simp only [List.set_cons_zero,List.set_cons_succ]
    refine seq_set fun c1 hc1=>?_
    simp? [strV]
    refine lenL_go (SqL.of l') ?_
    rw [List.length_map,List.length_append,List.length_cons,List.length_map]
    refine kK ⟨sc,ns,_,rfl,sH.seq hS,hl,by omega,by omega,fun Ha t sa th tl=>⟨by decide,fun pw hpw=>hc1 _ _ ?_⟩⟩
    clear hc1 c1
    have sb:=sa.new hpw (o:=.lst [.str (txt m),.str (txt t)])
    have epw:(upd Ha pw (.lst [.str (txt m),.str (txt t)])) pw = some (.lst ([m,t].map strV)):=upd_same
    generalize upd Ha pw _ = Hb at sb epw ⊢
    have lb:=sb _ _ l'
    have sHb:=sH.trans sb
    simp? [List.set_cons_zero,List.set_cons_succ]
    refine ⟨.inl ⟨rfl,_,SqL.of lb⟩,rfl,by decide,fun pt hpt=>?_⟩
    have sc1:=Same.up Hb hpt (o:=.lst [.str (txt [116,97,107,101,110])])
    have ept:(upd Hb pt (.lst [.str (txt [116,97,107,101,110])])) pt = some (.lst [strV kTkn]):=upd_same
    generalize upd Hb pt _ = Hc at sc1 ept ⊢
    refine lenL_go (SqL.of (sc1 _ _ lb)) ?_
    rw [List.length_map,List.length_append,List.length_cons,List.length_map]
    refine kK ⟨sc,ns,_,_,(sHb.trans sc1).seq hS,hl,by omega,by omega,by decide,fun d hd0 hd1=>?_⟩
    refine ⟨pt,_,_,rfl,rfl,ept,by omega,by omega,by rw [sizeLine_eq]; simp only [List.length_cons,List.length_nil]; omega,fun pr hpr=>?_⟩
    obtain ⟨w,hw,ow,e⟩:∃ w:List (List Nat),w = [m,t] ++ (if d = 1 then [kTkn] else [])∧WOk L w∧(List.replicate d.toNat [strV kTkn]).flatten = (if d = 1 then [kTkn] else []).map strV:=by
      rcases (show d = 0 ∨ d = 1 by omega) with rfl | rfl
      · exact ⟨[m,t],rfl,⟨m,t,.inl rfl,mm.1,th⟩,rfl⟩
      · exact ⟨[m,t,kTkn],rfl,⟨m,t,.inr rfl,mm.1,th⟩,rfl⟩
    rw [e]
    have sd:=(sc1.trans (Same.up Hc hpr (o:=.lst ((if d = 1 then [kTkn] else []).map strV))))
    have epr:(upd Hc pr (.lst ((if d = 1 then [kTkn] else []).map strV))) pr = some (.lst ((if d = 1 then [kTkn] else []).map strV)):=upd_same
    generalize upd Hc pr _ = Hd at sd epr ⊢
    refine cat_go (a:=pw) (b:=pr) (sd _ _ epw) epr (by rw [List.length_map,List.length_map]; split <;> simp only [List.length_cons,List.length_nil] <;> omega) fun px hpx=>?_
    have se:=sd.new hpx (o:=.lst ([m,t].map strV ++ (if d = 1 then [kTkn] else []).map strV))
    have epx:(upd Hd px (.lst ([m,t].map strV ++ (if d = 1 then [kTkn] else []).map strV))) px = some (.lst (w.map strV)):=by rw [upd_same,hw,List.map_append]
    generalize upd Hd px _ = He at se epx ⊢
    have wl:(w.map (·.length)).sum + w.length * [32].length ≤ 400:=by
      have m1:=mm.2
      rw [hw]
      split <;> simp [kTkn] <;> omega
    refine join_go epx (by omega) ?_
    have le:=se _ _ lb
    refine append_go le (by rw [List.length_map,List.length_append,List.length_cons,List.length_map]; omega) ⟨l ++ [w],some (.str (txt m)),some (.ref pw),(k'.trans ((sb.trans se).keeps _)).upd (.inl List.mem_cons_self),?_,?_,fun w' hw'=>?_,rfl⟩
    · rw [upd_same,List.map_append (l₁:=l),← List.append_assoc,List.map_append (l₂:=[w].map (joinL [32]))]
      rfl
    · rw [List.map_append,lh,List.take_add_one,hm,hw]
      rfl
    · rcases List.mem_append.mp hw' with hw' | hw'
      · exact lw w' hw'
      · rw [List.mem_singleton.mp hw']; exact ow
  rintro σ H5 ⟨l,v9,v10,k5,l5,lh,lw,rfl⟩
  refine hc _ _ ?_
  clear hc c
  have s5:=same_keep s1 (k3.trans k5) nosub
  rw [List.length_map,List.take_length] at lh
  have ll:l.length = ms.length:=by rw [← lh,List.length_map]
  and_intros
  subst hR
  exact q _ p3 _ s5 f3 l5 (made_ok l26 (by omega) (by omega) rok lw lh (by omega) fun m hm=>(mk m hm).2) (by simp) ⟨_,state_ok l2 l26 h1 (by omega) (by omega) (fun r hr=>(rok r hr).1) lw (by rw [lh]; exact mu)⟩
end K71
namespace K71
open PySem PySem.Spec PyProof.Rows L2 MM
variable {K:PySem.W.Frag} {mg:Str→Option Value} {a:Ad} {N:List Str} {vs:List V} {H:Hp} {Q:VK} {E:XK}
theorem cutV_take (xs:List V) (i:Nat):cutV xs none (some (i:Int)) = xs.take i:=by
  unfold cutV
  rw [HT.sIx_nat,HT.sIx_none,List.drop_zero,Nat.sub_zero]
  by_cases h:i ≤ xs.length
  · rw [Nat.min_eq_left h]
  · rw [Nat.min_eq_right (by omega),List.take_of_length_le (Nat.le_refl _),List.take_of_length_le (by omega)]
theorem cutL_takeN (l:List Nat) (k:Nat):cutL l none (some (k:Int)) = l.take k:=by
  unfold cutL
  rw [HT.sIx_nat,HT.sIx_none,List.drop_zero,Nat.sub_zero]
  by_cases h:k ≤ l.length
  · rw [Nat.min_eq_left h]
  · rw [Nat.min_eq_right (by omega),List.take_of_length_le (Nat.le_refl _),List.take_of_length_le (by omega)]
theorem cutL_dropN (l:List Nat) (k:Nat):cutL l (some (k:Int)) none = l.drop k:=by
  unfold cutL
  rw [HT.sIx_nat,HT.sIx_none,List.take_of_length_le (by rw [List.length_drop]; exact Nat.le_refl _)]
  by_cases h:k ≤ l.length
  · rw [Nat.min_eq_left h]
  · rw [Nat.min_eq_right (by omega),List.drop_of_length_le (Nat.le_refl _),List.drop_of_length_le (by omega)]
def ODD0:List (List Nat):=[[],[114,101,110,101,119,97,108,32,48],[114,101,110,101,119,97,108,32,49],[98,32,98],[98,32,45],[98,32,98,32,116,97,107,101,110],[122,122,32,97],[98,32,116,97,107,101,110,32,116,97,107,101,110],[50,32,49,32,48]]
theorem odd0:∀ x ∈ ODD0,x.length ≤ 20∧∀ c ∈ x,c < 200:=by decide
def ODD1:List (List Nat):=[[],[48],[49],[50],[50,55],[49,48,48,49],[48,48],[48,49],[97],[98,97],[45],[116,97,107,101,110],[97,98,99,100,101,102,103,104,105,106,107,108,109],[65],[57,57,57,57,57],[98]]
theorem odd1:∀ x ∈ ODD1,x.length ≤ 20∧∀ c ∈ x,c < 200:=by decide
def ODD2:List (List Nat):=[[49,48,48,48],[49,48,48,49],[51]]
theorem odd2:∀ x ∈ ODD2,x.length ≤ 20∧∀ c ∈ x,c < 200:=by decide
theorem er_map (f:List Nat→V):∀ (l:List (List Nat)) (i:Nat),(l.map f).eraseIdx i = (l.eraseIdx i).map f
  | [],_=>rfl
  | _ :: _,0=>rfl
  | x :: l,i + 1=>by simp [er_map f l i]
theorem ins_map (ts:List (List Nat)) (i:Nat) (x:List Nat):(ts.map strV).take i ++ strV x :: (ts.map strV).drop i = (ts.take i ++ x :: ts.drop i).map strV:=by
  rw [List.map_append,List.map_cons,List.map_take,List.map_drop]
theorem split_sum {c:Nat}:∀ t:List Nat,((splitL c t).map (·.length)).sum + (splitL c t).length = t.length + 1
  | []=>rfl
  | x :: l=>by
    have ih:=split_sum (c:=c) l
    unfold splitL
    by_cases h:x = c
    · rw [if_pos h]
      simp only [List.map_cons,List.sum_cons,List.length_cons,List.length_nil]
      omega
    · rw [if_neg h]
      cases e:splitL c l with
      | nil=>exact absurd e (splitL_ne l)
      | cons v vs=>
        rw [e] at ih
        simp only [List.map_cons,List.sum_cons,List.length_cons] at ih ⊢
        omega
theorem join_len:∀ ys:List (List Nat),(joinL [32] ys).length ≤ (ys.map (·.length)).sum + ys.length
  | []=>Nat.le_refl _
  | [y]=>by
    show y.length ≤ y.length + 0 + 1
    omega
  | y :: z :: r=>by
    have ih:=join_len (z :: r)
    rw [joinL_cons]
    simp only [List.map_cons,List.sum_cons,List.length_cons,List.length_append,List.length_nil] at ih ⊢
    omega
theorem sm_join:∀ ys:List (List Nat),(∀ y ∈ ys,Sm y)→Sm (joinL [32] ys)
  | [],_=>Sm.nil
  | [y],h=>h y List.mem_cons_self
  | y :: z :: r,h=>by
    rw [joinL_cons]
    exact ((h y List.mem_cons_self).app sm_sp).app (sm_join (z :: r) fun x hx=>h x (List.mem_cons_of_mem _ hx))
theorem sum_set:∀ (l:List (List Nat)) (j:Nat) (d:List Nat),((l.set j d).map (·.length)).sum ≤ (l.map (·.length)).sum + d.length
  | [],_,d=>Nat.zero_le _
  | x :: l,0,d=>by
    simp only [List.set_cons_zero,List.map_cons,List.sum_cons]
    omega
  | x :: l,j + 1,d=>by
    have ih:=sum_set l j d
    simp only [List.set_cons_succ,List.map_cons,List.sum_cons]
    omega
theorem sum_take (l:List (List Nat)) (j:Nat):((l.take j).map (·.length)).sum ≤ (l.map (·.length)).sum:=by
  conv=>rhs; rw [← List.take_append_drop j l,List.map_append,List.sum_append]
  omega
theorem setL_go {H:Hp} {p:Addr} {xs:List V} {i:Nat} {v:V} {Q:Hp→Prop} (h:H p = some (.lst xs)) (hi:i < xs.length) (q:Q (upd H p (.lst (xs.set i v)))):rSetL (.ref p) (.int i) v H Q:=
  ⟨p,xs,i,i,rfl,rfl,h,by unfold ixN; rw [if_pos (by omega),if_pos (by omega)]; rfl,q⟩
theorem ixC_go {K:PySem.W.Frag} {H:Hp} {o:Addr} {od:List (List Nat)} {d:Int} {Q:VK} (h:H o = some (.lst (od.map strV))) (h0:0 ≤ d) (h1:d < od.length) (q:∀ x ∈ od,Q (strV x) H):rIxL K (.ref o) (.int d) H Q:=by
  have hl:d.toNat < od.length:=by omega
  exact ixL_go (v:=strV od[d.toNat]) (SqL.of h) h0 (by rw [List.getElem?_map,List.getElem?_eq_getElem hl]; rfl) (q _ (List.getElem_mem hl))
theorem TsOk.chg {n m:Nat} {ts ts':List (List Nat)} (T:TsOk n m ts) (hl:ts'.length ≤ n + 1) (h:∀ t ∈ ts',t ∈ ts ∨ (t.length ≤ m + 100∧Sm t)):TsOk (n + 1) (m + 100) ts':=⟨hl,fun t ht=>by
  rcases h t ht with h | h
  · have:=T.2 t h
    exact ⟨by omega,this.2⟩
  · exact h⟩
theorem TsOk.set {n m i:Nat} {x:List Nat} {ts:List (List Nat)} (T:TsOk n m ts) (hx:x.length ≤ m + 100∧Sm x):TsOk (n + 1) (m + 100) (ts.set i x):=TsOk.chg T (by rw [List.length_set]; exact Nat.le_succ_of_le T.1) fun t ht=>by
  rcases List.mem_or_eq_of_mem_set ht with h | h
  · exact .inl h
  · rw [h]; exact .inr hx
theorem TsOk.ins {n m i:Nat} {x:List Nat} {ts:List (List Nat)} (T:TsOk n m ts) (hx:x.length ≤ m + 100∧Sm x):TsOk (n + 1) (m + 100) (ts.take i ++ x :: ts.drop i):=TsOk.chg T (by
  have:=congrArg List.length (List.take_append_drop i ts)
  rw [List.length_append] at this
  rw [List.length_append,List.length_cons]
  have:=T.1
  omega) fun t ht=>by
  rcases List.mem_append.mp ht with h | h
  · exact .inl (List.mem_of_mem_take h)
  · rcases List.mem_cons.mp h with h | h
    · rw [h]; exact .inr hx
    · exact .inl (List.mem_of_mem_drop h)
def SI (sc p p3:Addr) (H:Hp) (k:Int) (A:Nat) (W pl:Int) (sg:Nat) (t:List Nat) (ts:List (List Nat)) (n m:Nat) (j:Int):L2.St→Hp→Prop:=fun σ H'=>∃ (ts':List (List Nat)) (v9 v10 v11:Option V),Keeps [p3] H H'∧H' p3 = some (.lst (ts'.map strV))∧TsOk (n + 1) (m + 100) ts'∧(j ≤ W→ts' = ts)∧σ = [some (.ref sc),some (.int k),some (.ref p),some (.ref p3),some (.int (A:Nat)),some (.int W),some (.str (txt t)),some (.int pl),some (.str (txt [sg])),v9,v10,v11]
theorem read_spoil (hN:N.length = 12) (h:spSpoil K vs H Q E):rd_spoiled K a { nx:=fun _ H'=>Q .non H',rt:=Q } (L2.start N vs) H:=by
  obtain ⟨sc,ns,k,p,ts,n,m,rfl,hS,hl,k0,k1,hp,T,hne,hn,hm0,hm1,q⟩:=h
  have tp:0 < ts.length:=List.length_pos_iff.mpr hne
  have tn:=T.1
  unfold rd_spoiled L2.start
  rw [hN]
  refine seq_set fun c hc=>?_
  and_intros
  refine ⟨p,_,rfl,.inl (SqL.of hp),fun p3 hp3=>hc _ _ ?_⟩
  clear hc c
  have s1:=Same.up H hp3 (o:=.lst (ts.map strV))
  have e3:(upd H p3 (.lst (ts.map strV))) p3 = some (.lst (ts.map strV)):=upd_same
  generalize upd H p3 _ = H1 at s1 e3 ⊢
  have hS1:=s1.seq hS
  have nosub:∀ b ∈ [p3],H b = none:=fun b hb=>by rw [List.mem_singleton.mp hb]; exact hp3
  simp only [List.set_cons_zero,List.set_cons_succ,List.replicate_succ,List.replicate_zero,List.map_cons,List.map_nil,List.cons_append,List.nil_append]
  refine seq_set fun c hc=>?_
  and_intros
  refine lenL_go (SqL.of e3) ?_
  rw [List.length_map]
  refine ⟨sc,ns,_,_,hS1,hl,by omega,by omega,by omega,fun A A0 A1=>hc _ _ ?_⟩
  clear hc c
  obtain ⟨A,rfl⟩:=Int.eq_ofNat_of_zero_le A0
  have Al:A < ts.length:=by omega
  simp only [List.set_cons_zero,List.set_cons_succ]
  refine seq_set fun c hc=>?_
  and_intros
  refine ⟨sc,ns,_,_,hS1,hl,by omega,by omega,by decide,fun W W0 W1=>hc _ _ ?_⟩
  clear hc c
  simp only [List.set_cons_zero,List.set_cons_succ]
  obtain ⟨t,ht⟩:∃ t,ts[A]? = some t:=⟨ts[A],List.getElem?_eq_getElem Al⟩
  obtain ⟨tl,tS⟩:=T.2 t (List.mem_of_getElem? ht)
  have tS:Sm t:=tS
  refine seq_set fun c hc=>?_
  and_intros
  refine ixL_go (v:=strV t) (SqL.of e3) (by omega) (by rw [Int.toNat_natCast,List.getElem?_map,ht]; rfl) (hc _ _ ?_)
  clear hc c
  simp only [List.set_cons_zero,List.set_cons_succ]
  refine seq_set fun c hc=>?_
  simp? [strV]
  refine lenS_go (by omega) (kK ⟨sc,ns,_,_,hS1,hl,by omega,by omega,by omega,fun pl pl0 pl1=>hc _ _ ?_⟩)
  clear hc c
  obtain ⟨P,rfl⟩:=Int.eq_ofNat_of_zero_le pl0
  simp only [List.set_cons_zero,List.set_cons_succ]
  refine seq_set fun c hc=>?_
  and_intros
  refine ⟨sc,ns,_,_,hS1,hl,by omega,by omega,by decide,fun d d0 d1=>?_⟩
  obtain ⟨sg,hsg⟩:∃ sg,[97,98,48,49,32,45,122,116,10][d.toNat]? = some sg:=⟨_,List.getElem?_eq_getElem (by simp only [List.length_cons,List.length_nil]; omega)⟩
  have sgS:Sm [sg]:=fun c hc=>by
    rw [List.mem_singleton.mp hc]
    have:=List.mem_of_getElem? hsg
    simp only [List.mem_cons,List.not_mem_nil,or_false] at this
    omega
  refine ixS_go (c:=sg) (by decide) d0 hsg (hc _ _ ?_)
  clear hc c d0 d1 hsg d
  simp only [List.set_cons_zero,List.set_cons_succ]
  have sm:∀ {H'},Keeps [p3] H1 H'→Same H H':=fun k'=>same_keep s1 k' nosub
  refine seq_any fun c hc=>?_
  suffices main:∀ σ H',SI sc p p3 H1 k A W (P:Int) sg t ts n m 1 σ H'→c σ H' by
    have k':Keeps [p3] H1 H1:=fun b o e _=>e
    have l':=e3
    have hS':=hS1
    simp? [gSub]
    refine ⟨rfl,?_⟩
    by_cases hW:W = 0
    · rw [if_pos hW]
      refine ⟨by decide,fun p9 hp9=>?_⟩
      generalize hG:upd H1 p9 _ = H3
      have s9:Same H1 H3:=by rw [← hG]; exact Same.up H1 hp9
      have e9:H3 p9 = some (.lst (ODD0.map strV)):=by rw [← hG]; exact upd_same
      have l3:=s9 _ _ l'
      refine ⟨.inl ⟨rfl,_,SqL.of l3⟩,sc,ns,_,_,s9.seq hS',hl,by omega,by omega,by decide,fun d d0 d1=>kK ⟨sc,ns,_,_,s9.seq hS',hl,by omega,by omega,by decide,fun f f0 f1=>ixC_go e9 f0 (show f < ((9:Nat):Int) by omega) fun x hx=>?_⟩⟩
      obtain ⟨x1,x2⟩:=odd0 x hx
      exact ⟨p3,_,A + d.toNat,_,rfl,by rw [show ((A + d.toNat:Nat):Int) = (A:Int) + d by omega],l3,by rw [List.length_map]; omega,by rw [List.length_map]; omega,main _ _ ⟨ts.take (A + d.toNat) ++ x :: ts.drop (A + d.toNat),some (.ref p9),none,none,(k'.trans (s9.keeps _)).upd (.inl List.mem_cons_self),by rw [upd_same,ins_map],TsOk.ins T ⟨by omega,x2⟩,fun z=>absurd z (by omega),rfl⟩⟩
    · rw [if_neg hW]
      exact main _ _ ⟨ts,none,none,none,k',l',⟨by omega,fun x hx=>⟨by have:=(T.2 x hx).1; omega,(T.2 x hx).2⟩⟩,fun z=>rfl,rfl⟩
  intro σ H2 start
  refine hc _ _ ?_
  clear hc c
  refine seq_any fun c hc=>?_
  suffices main:∀ σ H',SI sc p p3 H1 k A W (P:Int) sg t ts n m 2 σ H'→c σ H' by
    obtain ⟨ts',v9,v10,v11,k',l',T',h',rfl⟩:=start
    have hS':=(sm k').seq hS
    simp? [gSub]
    refine ⟨rfl,?_⟩
    by_cases hW:W = 1
    · rw [if_pos hW]
      rw [h' (by omega)] at l'
      exact ⟨.inl ⟨rfl,_,SqL.of l'⟩,p3,_,A,_,rfl,rfl,l',by rw [List.length_map]; omega,by rw [List.length_map]; omega,main _ _ ⟨ts.take A ++ t :: ts.drop A,v9,v10,v11,k'.upd (.inl List.mem_cons_self),by rw [upd_same,← ins_map]; rfl,TsOk.ins T ⟨by omega,tS⟩,fun z=>absurd z (by omega),rfl⟩⟩
    · rw [if_neg hW]
      exact main _ _ ⟨ts',v9,v10,v11,k',l',T',fun z=>h' (by omega),rfl⟩
  clear start
  intro σ H2 start
  refine hc _ _ ?_
  clear hc c
  refine seq_any fun c hc=>?_
  suffices main:∀ σ H',SI sc p p3 H1 k A W (P:Int) sg t ts n m 3 σ H'→c σ H' by
    obtain ⟨ts',v9,v10,v11,k',l',T',h',rfl⟩:=start
    have hS':=(sm k').seq hS
    simp? [gSub]
    refine ⟨rfl,?_⟩
    by_cases hW:W = 2
    · rw [if_pos hW]
      rw [h' (by omega)] at l'
      exact ⟨.inl ⟨rfl,_,SqL.of l'⟩,p3,_,A,A,strV t,rfl,rfl,l',by omega,by omega,(ixN_seq (by unfold ixN; rw [List.length_map,if_pos (by omega),if_pos (by omega)]; rfl)).1,by rw [List.getElem?_map,ht]; rfl,main _ _ ⟨ts.eraseIdx A,v9,v10,v11,k'.upd (.inl List.mem_cons_self),by rw [upd_same,er_map],TsOk.chg T (Nat.le_trans (List.length_eraseIdx_le _ _) (by omega)) fun x hx=>.inl (List.mem_of_mem_eraseIdx hx),fun z=>absurd z (by omega),rfl⟩⟩
    · rw [if_neg hW]
      exact main _ _ ⟨ts',v9,v10,v11,k',l',T',fun z=>h' (by omega),rfl⟩
  clear start
  intro σ H2 start
  refine hc _ _ ?_
  clear hc c
  refine seq_any fun c hc=>?_
  suffices main:∀ σ H',SI sc p p3 H1 k A W (P:Int) sg t ts n m 4 σ H'→c σ H' by
    obtain ⟨ts',v9,v10,v11,k',l',T',h',rfl⟩:=start
    have hS':=(sm k').seq hS
    simp? [gSub]
    refine ⟨rfl,?_⟩
    by_cases hW:W = 3
    · rw [if_pos hW]
      rw [h' (by omega)] at l'
      refine lenL_go (SqL.of l') ?_
      rw [List.length_map]
      refine ⟨sc,ns,_,_,hS',hl,by omega,by omega,by omega,fun O O0 O1=>?_⟩
      obtain ⟨O,rfl⟩:=Int.eq_ofNat_of_zero_le O0
      obtain ⟨x,hx⟩:∃ x,ts[O]? = some x:=⟨ts[O],List.getElem?_eq_getElem (by omega)⟩
      have xo:=T.2 x (List.mem_of_getElem? hx)
      refine ixL_go (v:=strV x) (SqL.of l') (by omega) (by rw [Int.toNat_natCast,List.getElem?_map,hx]; rfl) (setL_go l' (by rw [List.length_map]; omega) ?_)
      rw [← List.map_set]
      refine setL_go upd_same (by rw [List.length_map,List.length_set]; omega) ?_
      rw [show V.str (txt t) = strV t from rfl,← List.map_set]
      refine main _ _ ⟨(ts.set A x).set O t,v9,some (.int (O:Nat)),v11,(k'.upd (.inl List.mem_cons_self)).upd (.inl List.mem_cons_self),upd_same,TsOk.chg T (by rw [List.length_set,List.length_set]; omega) fun y hy=>?_,fun z=>absurd z (by omega),rfl⟩
      rcases List.mem_or_eq_of_mem_set hy with h | h
      · rcases List.mem_or_eq_of_mem_set h with h | h
        · exact .inl h
        · exact .inr (by rw [h]; exact ⟨by omega,xo.2⟩)
      · exact .inr (by rw [h]; exact ⟨by omega,tS⟩)
    · rw [if_neg hW]
      exact main _ _ ⟨ts',v9,v10,v11,k',l',T',fun z=>h' (by omega),rfl⟩
  clear start
  intro σ H2 start
  refine hc _ _ ?_
  clear hc c
  refine seq_any fun c hc=>?_
  suffices main:∀ σ H',SI sc p p3 H1 k A W (P:Int) sg t ts n m 5 σ H'→c σ H' by
    obtain ⟨ts',v9,v10,v11,k',l',T',h',rfl⟩:=start
    have hS':=(sm k').seq hS
    simp? [gSub]
    refine ⟨rfl,?_⟩
    by_cases hW:W = 4
    · rw [if_pos hW]
      rw [h' (by omega)] at l'
      refine slS_go (by omega) ?_
      rw [cutL_takeN]
      refine addS_go (by simp only [List.length_take,List.length_cons,List.length_nil]; omega) (slS_go (by omega) ?_)
      rw [cutL_dropN]
      refine addS_go (by simp only [List.length_append,List.length_take,List.length_drop,List.length_cons,List.length_nil]; omega) ?_
      refine setL_go l' (by rw [List.length_map]; omega) ?_
      rw [show V.str (txt (t.take P ++ [sg] ++ t.drop P)) = strV (t.take P ++ [sg] ++ t.drop P) from rfl,← List.map_set]
      exact main _ _ ⟨ts.set A (t.take P ++ [sg] ++ t.drop P),v9,v10,v11,k'.upd (.inl List.mem_cons_self),upd_same,TsOk.set T ⟨by simp only [List.length_append,List.length_take,List.length_drop,List.length_cons,List.length_nil]; omega,Sm.app (Sm.app (fun c hc=>tS c (List.mem_of_mem_take hc)) sgS) (fun c hc=>tS c (List.mem_of_mem_drop hc))⟩,fun z=>absurd z (by omega),rfl⟩
    · rw [if_neg hW]
      exact main _ _ ⟨ts',v9,v10,v11,k',l',T',fun z=>h' (by omega),rfl⟩
  clear start
  intro σ H2 start
  refine hc _ _ ?_
  clear hc c
  refine seq_any fun c hc=>?_
  suffices main:∀ σ H',SI sc p p3 H1 k A W (P:Int) sg t ts n m 6 σ H'→c σ H' by
    obtain ⟨ts',v9,v10,v11,k',l',T',h',rfl⟩:=start
    have hS':=(sm k').seq hS
    simp? [gSub]
    refine ⟨rfl,?_⟩
    by_cases hW:W = 5
    · rw [if_pos hW]
      rw [h' (by omega)] at l'
      refine slS_go (by omega) ?_
      rw [cutL_takeN]
      refine slS_go (by omega) ?_
      rw [show (P:Int) + 1 = ((P + 1:Nat):Int) from rfl,cutL_dropN]
      refine addS_go (by simp only [List.length_take,List.length_drop]; omega) ?_
      refine setL_go l' (by rw [List.length_map]; omega) ?_
      rw [show V.str (txt (t.take P ++ t.drop (P + 1))) = strV (t.take P ++ t.drop (P + 1)) from rfl,← List.map_set]
      exact main _ _ ⟨ts.set A (t.take P ++ t.drop (P + 1)),v9,v10,v11,k'.upd (.inl List.mem_cons_self),upd_same,TsOk.set T ⟨by simp only [List.length_append,List.length_take,List.length_drop,List.length_cons,List.length_nil]; omega,Sm.app (fun c hc=>tS c (List.mem_of_mem_take hc)) (fun c hc=>tS c (List.mem_of_mem_drop hc))⟩,fun z=>absurd z (by omega),rfl⟩
    · rw [if_neg hW]
      exact main _ _ ⟨ts',v9,v10,v11,k',l',T',fun z=>h' (by omega),rfl⟩
  clear start
  intro σ H2 start
  refine hc _ _ ?_
  clear hc c
  refine seq_any fun c hc=>?_
  suffices main:∀ σ H',SI sc p p3 H1 k A W (P:Int) sg t ts n m 7 σ H'→c σ H' by
    obtain ⟨ts',v9,v10,v11,k',l',T',h',rfl⟩:=start
    have hS':=(sm k').seq hS
    simp? [gSub]
    refine ⟨rfl,?_⟩
    by_cases hW:W = 6
    · rw [if_pos hW]
      rw [h' (by omega)] at l'
      refine slS_go (by omega) ?_
      rw [cutL_takeN]
      refine addS_go (by simp only [List.length_take,List.length_cons,List.length_nil]; omega) (slS_go (by omega) ?_)
      rw [show (P:Int) + 1 = ((P + 1:Nat):Int) from rfl,cutL_dropN]
      refine addS_go (by simp only [List.length_append,List.length_take,List.length_drop,List.length_cons,List.length_nil]; omega) ?_
      refine setL_go l' (by rw [List.length_map]; omega) ?_
      rw [show V.str (txt (t.take P ++ [sg] ++ t.drop (P + 1))) = strV (t.take P ++ [sg] ++ t.drop (P + 1)) from rfl,← List.map_set]
      exact main _ _ ⟨ts.set A (t.take P ++ [sg] ++ t.drop (P + 1)),v9,v10,v11,k'.upd (.inl List.mem_cons_self),upd_same,TsOk.set T ⟨by simp only [List.length_append,List.length_take,List.length_drop,List.length_cons,List.length_nil]; omega,Sm.app (Sm.app (fun c hc=>tS c (List.mem_of_mem_take hc)) sgS) (fun c hc=>tS c (List.mem_of_mem_drop hc))⟩,fun z=>absurd z (by omega),rfl⟩
    · rw [if_neg hW]
      exact main _ _ ⟨ts',v9,v10,v11,k',l',T',fun z=>h' (by omega),rfl⟩
  clear start
  intro σ H2 start
  refine hc _ _ ?_
  clear hc c
  refine seq_any fun c hc=>?_
  suffices main:∀ σ H',SI sc p p3 H1 k A W (P:Int) sg t ts n m 9 σ H'→c σ H' by
    obtain ⟨ts',v9,v10,v11,k',l',T',h',rfl⟩:=start
    have hS':=(sm k').seq hS
    show tAnd _ _ _ _ (fun b H'=>if b = true then _ else _)
    generalize hB:tIfS _ _ _ = tY
    generalize hA:tSeq _ _ = tX
    have goB:∀ H',H' = H2→tY { nx:=c,rt:=Q } [some (.ref sc),some (.int k),some (.ref p),some (.ref p3),some (.int (A:Nat)),some (.int W),some (.str (txt t)),some (.int (P:Nat)),some (.str (txt [sg])),v9,v10,v11] H':=by
      rintro H' rfl
      rw [← hB]
      simp? [gSub]
      by_cases hW:6 < W
      · rw [if_pos hW]
        have ets:=h' (by omega)
        rw [ets] at l'
        refine ⟨rfl,t,32,rfl,rfl,by omega,fun p11 hp11=>?_⟩
        have ssum:=split_sum (c:=32) t
        have wsm:∀ w ∈ splitL 32 t,Sm w:=fun w hw c hc=>tS c ((mem_splitL hw).2 c hc)
        have wne:=splitL_ne (c:=32) t
        generalize splitL 32 t = ws at ssum wsm wne ⊢
        have s11:=Same.up H' hp11 (o:=.lst (ws.map strV))
        have e11:(upd H' p11 (.lst (ws.map strV))) p11 = some (.lst (ws.map strV)):=upd_same
        have n11:p3 ≠ p11:=fun z=>by rw [← z,l'] at hp11; cases hp11
        generalize upd H' p11 _ = Ha at s11 e11 ⊢
        refine ⟨by decide,fun p9 hp9=>?_⟩
        generalize hG:upd Ha p9 _ = Hb
        have s9:Same Ha Hb:=by rw [← hG]; exact Same.up Ha hp9
        have e9:Hb p9 = some (.lst (ODD1.map strV)):=by rw [← hG]; exact upd_same
        have sb:=s11.trans s9
        refine ⟨sc,ns,_,_,sb.seq hS',hl,by omega,by omega,by decide,fun d d0 d1=>ixC_go e9 d0 (show d < ((16:Nat):Int) by omega) fun x hx=>?_⟩
        obtain ⟨x1,x2⟩:=odd1 x hx
        refine lenL_go (SqL.of (s9 _ _ e11)) ?_
        rw [List.length_map]
        have wp:0 < ws.length:=List.length_pos_iff.mpr wne
        refine ⟨sc,ns,_,_,sb.seq hS',hl,by omega,by omega,by omega,fun j j0 j1=>?_⟩
        obtain ⟨j,rfl⟩:=Int.eq_ofNat_of_zero_le j0
        refine setL_go (s9 _ _ e11) (by rw [List.length_map]; omega) ?_
        rw [← List.map_set]
        have e11c:(upd Hb p11 (.lst ((ws.set j x).map strV))) p11 = some (.lst ((ws.set j x).map strV)):=upd_same
        have l3c:(upd Hb p11 (.lst ((ws.set j x).map strV))) p3 = some (.lst (ts.map strV)):=by rw [upd_ne n11]; exact sb _ _ l'
        have kc:Keeps [p3] H1 (upd Hb p11 (.lst ((ws.set j x).map strV))):=fun b o e nb=>by
          have e':=k' b o e nb
          rw [upd_ne (fun z=>by rw [z,hp11] at e'; cases e')]
          exact sb _ _ e'
        generalize upd Hb p11 _ = Hc at e11c l3c kc ⊢
        refine ⟨rfl,by decide,fun pt hpt=>?_⟩
        have sc1:=Same.up Hc hpt (o:=.lst [.str (txt [116,97,107,101,110])])
        have ept:(upd Hc pt (.lst [.str (txt [116,97,107,101,110])])) pt = some (.lst [strV kTkn]):=upd_same
        generalize upd Hc pt _ = Hd at sc1 ept ⊢
        refine ⟨pt,_,_,rfl,rfl,ept,by omega,by omega,by rw [sizeLine_eq]; simp only [List.length_cons,List.length_nil]; omega,fun pr hpr=>?_⟩
        have rep:(List.replicate (W - 7).toNat [strV kTkn]).flatten = (if W = 8 then [kTkn] else []).map strV:=by
          rcases (show W = 7 ∨ W = 8 by omega) with rfl | rfl <;> rfl
        rw [rep]
        have sd:=(sc1.trans (Same.up Hd hpr (o:=.lst ((if W = 8 then [kTkn] else []).map strV))))
        have epr:(upd Hd pr (.lst ((if W = 8 then [kTkn] else []).map strV))) pr = some (.lst ((if W = 8 then [kTkn] else []).map strV)):=upd_same
        generalize upd Hd pr _ = He at sd epr ⊢
        have ikt:((if W = 8 then [kTkn] else []).map (·.length)).sum + (if W = 8 then [kTkn] else []).length ≤ 6:=by split <;> decide
        refine cat_go (a:=p11) (b:=pr) (sd _ _ e11c) epr (by rw [List.length_map,List.length_map,List.length_set]; omega) fun px hpx=>?_
        rw [← List.map_append]
        have se:=sd.new hpx (o:=.lst ((ws.set j x ++ (if W = 8 then [kTkn] else [])).map strV))
        have epx:(upd He px (.lst ((ws.set j x ++ (if W = 8 then [kTkn] else [])).map strV))) px = some (.lst ((ws.set j x ++ (if W = 8 then [kTkn] else [])).map strV)):=upd_same
        generalize upd He px _ = Hf at se epx ⊢
        have sset:=sum_set ws j x
        have tot:((ws.set j x ++ (if W = 8 then [kTkn] else [])).map (·.length)).sum + (ws.set j x ++ (if W = 8 then [kTkn] else [])).length ≤ m + 100:=by
          rw [List.map_append,List.sum_append,List.length_append,List.length_set]
          omega
        refine join_go epx (by simp only [List.length_cons,List.length_nil]; omega) (setL_go (se _ _ l3c) (by rw [List.length_map]; omega) ?_)
        have jl:=join_len (ws.set j x ++ (if W = 8 then [kTkn] else []))
        have js:Sm (joinL [32] (ws.set j x ++ (if W = 8 then [kTkn] else []))):=sm_join _ fun y hy=>by
          rcases List.mem_append.mp hy with hy | hy
          · rcases List.mem_or_eq_of_mem_set hy with h | h
            · exact wsm y h
            · rw [h]; exact x2
          · split at hy
            · rw [List.mem_singleton.mp hy]; unfold Sm; decide
            · exact (nomatch hy)
        generalize joinL [32] (ws.set j x ++ (if W = 8 then [kTkn] else [])) = y at jl js ⊢
        rw [show V.str (txt y) = strV y from rfl,← List.map_set]
        exact main _ _ ⟨ts.set A y,some (.ref p9),v10,some (.ref p11),(kc.trans (se.keeps _)).upd (.inl List.mem_cons_self),upd_same,TsOk.set T ⟨by omega,js⟩,fun z=>absurd z (by omega),rfl⟩
      · rw [if_neg hW]
        exact main _ _ ⟨ts',v9,v10,v11,k',l',T',fun z=>absurd z (by omega),rfl⟩
    have goA:W = 7→∀ H',H' = H2→tX { nx:=c,rt:=Q } [some (.ref sc),some (.int k),some (.ref p),some (.ref p3),some (.int (A:Nat)),some (.int W),some (.str (txt t)),some (.int (P:Nat)),some (.str (txt [sg])),v9,v10,v11] H':=by
      rintro hW H' rfl
      rw [← hA]
      simp? [gSub]
      have ets:=h' (by omega)
      rw [ets] at l'
      obtain ⟨t0,ht0⟩:∃ t,ts[0]? = some t:=⟨ts[0],List.getElem?_eq_getElem tp⟩
      obtain ⟨t0l,t0S⟩:=T.2 t0 (List.mem_of_getElem? ht0)
      refine ixL_go (v:=strV t0) (SqL.of l') (by decide) (by rw [show (0:Int).toNat = 0 from rfl,List.getElem?_map,ht0]; rfl) ⟨rfl,t0,32,rfl,rfl,by omega,fun p11 hp11=>?_⟩
      have ssum:=split_sum (c:=32) t0
      have wsm:∀ w ∈ splitL 32 t0,Sm w:=fun w hw c hc=>t0S c ((mem_splitL hw).2 c hc)
      generalize splitL 32 t0 = ws at ssum wsm ⊢
      have s11:=Same.up H' hp11 (o:=.lst (ws.map strV))
      have e11:(upd H' p11 (.lst (ws.map strV))) p11 = some (.lst (ws.map strV)):=upd_same
      generalize upd H' p11 _ = Ha at s11 e11 ⊢
      refine ⟨rfl,slL_go (SqL.of e11) fun pz hpz=>?_⟩
      rw [show (2:Int) = ((2:Nat):Int) from rfl,cutV_take,← List.map_take]
      have sz:=Same.up Ha hpz (o:=.lst ((ws.take 2).map strV))
      have ez:(upd Ha pz (.lst ((ws.take 2).map strV))) pz = some (.lst ((ws.take 2).map strV)):=upd_same
      generalize upd Ha pz _ = Hz at sz ez ⊢
      refine ⟨by decide,fun p9 hp9=>?_⟩
      generalize hG:upd Hz p9 _ = Hb
      have s9:Same Hz Hb:=by rw [← hG]; exact Same.up Hz hp9
      have e9:Hb p9 = some (.lst (ODD2.map strV)):=by rw [← hG]; exact upd_same
      have sb:=(s11.trans sz).trans s9
      refine ⟨sc,ns,_,_,sb.seq hS',hl,by omega,by omega,by decide,fun d d0 d1=>ixC_go e9 d0 (show d < ((3:Nat):Int) by omega) fun x hx=>⟨by decide,fun pd hpd=>?_⟩⟩
      obtain ⟨x1,x2⟩:=odd2 x hx
      have sd:=Same.up Hb hpd (o:=.lst [strV x])
      have ed:(upd Hb pd (.lst [strV x])) pd = some (.lst [strV x]):=upd_same
      generalize upd Hb pd _ = Hd at sd ed ⊢
      refine cat_go (a:=pz) (b:=pd) (sd _ _ (s9 _ _ ez)) ed (by rw [List.length_map,List.length_take]; show min 2 ws.length + 1 ≤ 100000; omega) fun px hpx=>?_
      rw [show (ws.take 2).map strV ++ [strV x] = (ws.take 2 ++ [x]).map strV by rw [List.map_append]; rfl]
      have se:=(sb.trans sd).new hpx (o:=.lst ((ws.take 2 ++ [x]).map strV))
      have epx:(upd Hd px (.lst ((ws.take 2 ++ [x]).map strV))) px = some (.lst ((ws.take 2 ++ [x]).map strV)):=upd_same
      generalize upd Hd px _ = Hf at se epx ⊢
      have stk:=sum_take ws 2
      have tot:((ws.take 2 ++ [x]).map (·.length)).sum + (ws.take 2 ++ [x]).length ≤ m + 100:=by
        rw [List.map_append,List.sum_append,List.length_append,List.length_take]
        simp only [List.map_cons,List.map_nil,List.sum_cons,List.sum_nil,List.length_cons,List.length_nil]
        omega
      refine join_go epx (by simp only [List.length_cons,List.length_nil]; omega) (setL_go (i:=0) (se _ _ l') (by rw [List.length_map]; omega) ?_)
      have jl:=join_len (ws.take 2 ++ [x])
      have js:Sm (joinL [32] (ws.take 2 ++ [x])):=sm_join _ fun y hy=>by
        rcases List.mem_append.mp hy with hy | hy
        · exact wsm y (List.mem_of_mem_take hy)
        · rw [List.mem_singleton.mp hy]; exact x2
      generalize joinL [32] (ws.take 2 ++ [x]) = y at jl js ⊢
      rw [show V.str (txt y) = strV y from rfl,← List.map_set]
      exact main _ _ ⟨ts.set 0 y,v9,v10,some (.ref p11),(k'.trans (se.keeps _)).upd (.inl List.mem_cons_self),upd_same,TsOk.set T ⟨by omega,js⟩,fun z=>absurd z (by omega),rfl⟩
    and_intros
    refine ⟨rfl,?_⟩
    by_cases hW:W = 7
    · rw [if_pos hW]
      refine ⟨sc,ns,_,_,hS',hl,by omega,by omega,by decide,fun d d0 d1=>⟨rfl,?_⟩⟩
      by_cases hd:V.int d = V.int 0
      · rw [if_pos hd]; exact goA hW _ rfl
      · rw [if_neg hd]; exact goB _ rfl
    · rw [if_neg hW]
      exact goB _ rfl
  intro σ H2 start
  obtain ⟨ts',v9,v10,v11,k',l',T',h',rfl⟩:=start
  refine hc _ _ ?_
  and_intros
  exact q _ p3 ts' (sm k') hp3 l' T'
end K71
namespace L2
open PySem PySem.Spec PyProof.Rows MM
theorem for_r1x {ta:TA} {g:TG} {tb:TS} {D:Ends} {σ:St} {H:Hp} {B:Int} (ha:∀ R:List V→Hp→Prop,(∀ j:Int,0 ≤ j→j < B→R [.int j] H)→ta σ H R) (hB:B ≤ 1000000)
    (Pv:Nat→St→Hp→Prop) (h0:Pv 0 σ H) (hs:∀ (i:Nat) σ H,(i:Int) < B→Pv i σ H→g (.int i) σ H fun σ2 H2=>tb { D with nx:=Pv (i + 1),ct:=Pv (i + 1),bk:=D.nx } σ2 H2)
    (hd:∀ (i:Nat) σ H,(i:Int) < B→Pv i σ H→D.nx σ H):tFor (iRng1 ta) g tb D σ H:=by
  refine ha _ fun j j0 j1=>⟨j,rfl,by omega,by omega,?_⟩
  refine for_range (lo:=0) (n:=j.toNat) Pv h0 (fun i σ H hi p=>?_) (fun σ H p=>hd _ σ H (by omega) p)
  rw [Int.zero_add]
  exact hs i σ H (by omega) p
end L2
namespace K71
open PySem PySem.Spec PyProof.Rows L2 MM
variable {K:PySem.W.Frag} {mg:Str→Option Value} {a:Ad} {N:List Str} {vs:List V} {H:Hp} {Q:VK} {E:XK}
theorem isiT_go {o:Addr} {xs:List V} {R:VK} (h:H o = some (.tup xs)) (q:R (.bl true) H):rIsi K "tuple" (.ref o) H R:=⟨_,_,.tup h,isTy_tuple_tuple,q⟩
theorem st_ok {ts:List (List Nat)} {L h:Nat} {R:List (List RwN)} {l:List (List (List Nat))} (e:stateF ts = .ok (L,h,R,l)):StOk R (zsOf l) (wsOf l):=by
  unfold stateF at e
  split at e
  · cases e
  · rename_i L' h' g hh
    split at e
    · cases e
    · rename_i R' hR
      split at e
      · cases e
      · rename_i l' hl
        cases e
        obtain ⟨-,l26,-⟩:=headF_ok hh
        have rows:∀ r ∈ R,∀ y ∈ r,Mark L y.1∧∀ z,y.2 = some z→Mark L z:=runE_all (fun acc r hr=>runE_all (fun acc y hy=>by
          obtain ⟨h1,-⟩:=rowF_ok hy
          obtain ⟨-,h2,-,h3⟩:=rRow_some h1
          exact ⟨h2,fun z hz=>(h3 z hz).1⟩) (ren_ok hr).2.2.2 fun w hw=>(nomatch hw)) hR fun w hw=>(nomatch hw)
        have things:∀ w ∈ l,ThW L w:=runE_all (fun acc y hy=>thOk_w (thF_ok hy).1) hl fun w hw=>(nomatch hw)
        have sm:∀ m,Mark L m→PyData.strOk (txt m) = true:=fun m hm=>strOk_mark l26 hm.ls
        refine ⟨fun r hr y hy=>⟨sm _ (rows r hr y hy).1,fun z hz=>sm _ ((rows r hr y hy).2 z hz)⟩,fun z hz=>?_,fun w hw=>?_⟩
        · obtain ⟨w,hw,rfl⟩:=List.mem_map.mp hz
          obtain ⟨x,y,-,-,hx,hy,mx,ty,-⟩:=things w hw
          exact ⟨by show PyData.strOk (txt (w.headD [])) = true; rw [hx]; exact sm x mx,by show PyData.strOk (txt (w.tail.headD [])) = true; rw [hy]; exact strOk_thing ty⟩
        · obtain ⟨w',hw',rfl⟩:=List.mem_map.mp hw
          obtain ⟨x,y,-,-,hx,hy,mx,ty,-⟩:=things w' (List.mem_filter.mp hw').1
          show PyData.strOk (txt (w'.headD [])) = true
          rw [hx]; exact sm x mx
theorem neI_go {e:Nat} {R:VK} (q:R (.bl false) H):rNeD K (.int e) (.int e) H R:=by
  refine ⟨_,_,.int _,.int _,rfl,rfl,?_⟩
  have:PyData.eqv (.int (e:Int)) (.int e) = true:=by simp [PyData.eqv]
  rw [this]
  exact q
theorem eqI_go {e:Nat} {R:VK} (q:R (.bl true) H):rEqD K (.int e) (.int e) H R:=by
  refine ⟨_,_,.int _,.int _,rfl,rfl,?_⟩
  have:PyData.eqv (.int (e:Int)) (.int e) = true:=by simp [PyData.eqv]
  rw [this]
  exact q
theorem neLS_go {p p2:Addr} {xs:List (List Nat)} {R:VK} (h1:H p = some (.lst (xs.map strV))) (h2:H p2 = some (.lst (xs.map strV))) (ok:∀ y ∈ xs,PyData.strOk (txt y) = true) (q:R (.bl false) H):rNeLS K (.ref p) (.ref p2) H R:=by
  refine ⟨p,p2,xs,xs,rfl,rfl,SqL.of h1,SqL.of h2,ok,ok,?_⟩
  rw [show (!decide (xs = xs)) = false by simp]
  exact q
theorem TsOk.up {n m n' m':Nat} {ts:List (List Nat)} (T:TsOk n m ts) (hn:n ≤ n') (hm:m ≤ m'):TsOk n' m' ts:=⟨Nat.le_trans T.1 hn,fun t ht=>⟨Nat.le_trans (T.2 t ht).1 hm,(T.2 t ht).2⟩⟩
theorem no_texts:stateF [] = .error 0:=rfl
def LWInv (sc p1 o:Addr) (H:Hp):Nat→L2.St→Hp→Prop:=fun i σ H'=>∃ (p3:Addr) (ts:List (List Nat)) (v4:Option V),Same H H'∧H' p3 = some (.lst (ts.map strV))∧TsOk (200 + i) (1000 + 100 * i) ts∧σ = [some (.ref sc),some (.ref p1),some (.ref o),some (.ref p3),v4,none]
theorem read_law (hN:N.length = 6) (h:spLaw K vs H Q E):rd_law K a { nx:=fun _ H'=>Q .non H',rt:=Q } (L2.start N vs) H:=by
  obtain ⟨sc,ns,rfl,hS,hl,q⟩:=h
  unfold rd_law L2.start
  rw [hN]
  refine seq_set fun c hc=>?_
  and_intros
  refine ⟨sc,ns,rfl,hS,hl,fun H0 pz L h s0 ez l2 l26 h1 hL=>⟨sc,pz,ns,L,h,rfl,s0.seq hS,hl,ez,l2,l26,h1,hL,fun H1 p1 ts s1 f1 e1 T hne ⟨⟨L,h,R,l⟩,hst⟩=>hc _ _ ?_⟩⟩
  clear hc c
  have s01:=s0.trans s1
  have T3:TsOk 1000 3000 ts:=TsOk.up T (by decide) (by decide)
  have ok:=st_ok hst
  simp only [List.set_cons_zero,List.set_cons_succ,List.replicate_succ,List.replicate_zero,List.map_cons,List.map_nil,List.cons_append,List.nil_append]
  refine seq_set fun c hc=>?_
  and_intros
  refine ⟨p1,ts,rfl,e1,T3,fun L' h' R' l' e H2 o pa pb pc bs xs s2 f2 A=>?_,fun e he=>by rw [hst] at he; cases he⟩
  rw [hst] at e
  cases e
  refine hc _ _ ?_
  clear hc c
  have s02:=s01.trans s2
  have e12:=s2 _ _ e1
  simp only [List.set_cons_zero,List.set_cons_succ]
  refine seq_any fun c hc=>?_
  and_intros
  refine isiT_go A.top (bK ?_)
  rw [if_neg (by decide)]
  refine ⟨p1,_,rfl,.inl (SqL.of e12),fun pg hpg=>?_⟩
  have sg:=Same.up H2 hpg (o:=.lst (ts.map strV))
  have eg:(upd H2 pg (.lst (ts.map strV))) pg = some (.lst (ts.map strV)):=upd_same
  generalize upd H2 pg _ = Hg at sg eg ⊢
  refine ⟨pg,ts,rfl,eg,T3,fun L' h' R' l' e H3 o' pa' pb' pc' bs' xs' s3 f3 A'=>?_,fun e he=>by rw [hst] at he; cases he⟩
  rw [hst] at e
  cases e
  have s23:=sg.trans s3
  refine ne_states A' (A.same s23) ok (bK ?_)
  rw [if_neg (by decide)]
  refine hc _ _ ?_
  clear hc c
  have s03:=s02.trans s23
  have A3:=A.same s23
  have e13:=s23 _ _ e12
  refine seq_set fun c hc=>?_
  and_intros
  refine ⟨p1,_,rfl,.inl (SqL.of e13),fun p3 hp3=>hc _ _ ?_⟩
  clear hc c
  have s4:=Same.up H3 hp3 (o:=.lst (ts.map strV))
  have e3:(upd H3 p3 (.lst (ts.map strV))) p3 = some (.lst (ts.map strV)):=upd_same
  generalize upd H3 p3 _ = H4 at s4 e3 ⊢
  have s04:=s03.trans s4
  simp only [List.set_cons_zero,List.set_cons_succ]
  refine seq_any fun c hc=>?_
  refine for_r1x (B:=3) (fun R hR=>by
    and_intros
    refine ⟨sc,ns,_,_,s04.seq hS,hl,by decide,by decide,by decide,fun d d0 d1=>hR _ (by omega) (by omega)⟩) (by decide) (LWInv sc p1 o H4) ⟨p3,ts,none,Same.refl _,e3,T,rfl⟩ ?_ ?_
  · rintro i σ H5 hi ⟨p5,t5,v4,s5,e5,T5,rfl⟩
    simp? [List.set_cons_zero,List.set_cons_succ]
    refine lenL_go (SqL.of e5) (kK ?_)
    rw [List.length_map]
    by_cases h0:t5 = []
    · rw [if_neg (by rw [h0]; decide)]
      exact ⟨p5,t5,_,s5,e5,TsOk.up T5 (by omega) (by omega),rfl⟩
    · have tp:0 < t5.length:=List.length_pos_iff.mpr h0
      rw [if_pos (by omega)]
      refine ⟨mulB_l (by decide) (by decide),sc,ns,_,p5,t5,200 + i,1000 + 100 * i,rfl,(s04.trans s5).seq hS,hl,by omega,by omega,e5,T5,h0,by omega,by omega,by omega,fun H6 o6 t6 s6 f6 e6 T6=>?_⟩
      exact ⟨o6,t6,_,s5.trans s6,e6,TsOk.up T6 (by omega) (by omega),rfl⟩
  rintro i σ H5 hi ⟨p5,t5,v4,s5,e5,T5,rfl⟩
  refine hc _ _ ?_
  clear hc c
  have s05:=s04.trans s5
  have T53:TsOk 1000 3000 t5:=TsOk.up T5 (by omega) (by omega)
  have s35:=s4.trans s5
  have A5:=A3.same s35
  have e15:=s35 _ _ e13
  refine seq_set fun c hc=>?_
  and_intros
  refine ⟨p5,_,rfl,.inl (SqL.of e5),fun p6 hp6=>hc _ _ ?_⟩
  clear hc c
  have s6:=Same.up H5 hp6 (o:=.lst (t5.map strV))
  have e6:(upd H5 p6 (.lst (t5.map strV))) p6 = some (.lst (t5.map strV)):=upd_same
  generalize upd H5 p6 _ = H6 at s6 e6 ⊢
  have e56:=s6 _ _ e5
  simp only [List.set_cons_zero,List.set_cons_succ]
  refine seq_any fun c hc=>?_
  suffices main:∀ H',Same H6 H'→c [some (.ref sc),some (.ref p1),some (.ref o),some (.ref p5),v4,some (.ref p6)] H' by
    and_intros
    have last:∀ H',Same H6 H'→rNeLS K (.ref p6) (.ref p5) H' fun x H'=>blK x fun k=>if k = true then Q (.bl false) H' else c [some (.ref sc),some (.ref p1),some (.ref o),some (.ref p5),v4,some (.ref p6)] H':=fun H' s'=>by
      refine neLS_go (s' _ _ e6) (s' _ _ e56) (fun y hy=>strOk_small (T5.2 y hy).2) (bK ?_)
      rw [if_neg (by decide)]
      exact main H' s'
    refine ⟨p6,t5,rfl,e6,T53,fun L' h' R' l' e H7 o7 pa7 pb7 pc7 bs7 xs7 s7 f7 A7=>⟨p5,t5,rfl,s7 _ _ e56,T53,fun L'' h'' R'' l'' e' H8 o8 pa8 pb8 pc8 bs8 xs8 s8 f8 A8=>?_,fun e' he'=>by rw [e] at he'; cases he'⟩,fun e he H7 s7=>⟨p5,t5,rfl,s7 _ _ e56,T53,fun L'' h'' R'' l'' e' H8 o8 pa8 pb8 pc8 bs8 xs8 s8 f8 A8=>(by rw [he] at e'; cases e'),fun e' he' H8 s8=>?_⟩⟩
    · rw [e] at e'
      cases e'
      refine ne_states (A7.same s8) A8 (st_ok e) (bK ?_)
      rw [if_neg (by decide)]
      exact last _ (s7.trans s8)
    · rw [he] at he'
      cases he'
      refine neI_go (bK ?_)
      rw [if_neg (by decide)]
      exact last _ (s7.trans s8)
  intro H7 s7
  refine hc _ _ ?_
  clear hc c
  have s57:=s6.trans s7
  have A7:=A5.same s57
  have e17:=s57 _ _ e15
  and_intros
  refine ⟨by decide,fun p8 hp8=>?_⟩
  have s8:=Same.up H7 hp8 (o:=.lst [])
  have e8:(upd H7 p8 (.lst [])) p8 = some (.lst (([]:List (List Nat)).map strV)):=upd_same
  generalize upd H7 p8 _ = H8 at s8 e8 ⊢
  refine ⟨p8,[],rfl,e8,⟨Nat.zero_le _,fun t ht=>(nomatch ht)⟩,fun L' h' R' l' e=>(by rw [no_texts] at e; cases e),fun e he H9 s9=>?_⟩
  rw [no_texts] at he
  cases he
  refine eqI_go (e:=0) ⟨_,rfl,?_⟩
  have s79:=s8.trans s9
  rw [if_pos rfl]
  refine ⟨p1,ts,rfl,s79 _ _ e17,T3,fun L' h' R' l' e H10 o10 pa pb pc bs xs s10 f10 A10=>?_,fun e he=>by rw [hst] at he; cases he⟩
  rw [hst] at e
  cases e
  exact eq_states A10 ((A7.same s79).same s10) ok (q _)
end K71
def PySem.W.Fast.tw10367670153721073590:Nat:=0
def PySem.W.Fast.tw11961935478498177330:Nat:=0
def PySem.W.Fast.tw2549077843191750555:Nat:=0
def PySem.W.Fast.tw6008629236048262905:Nat:=0
def PySem.W.Fast.tw8898000301377741710:Nat:=0
def PySem.W.Fast.tw13415840371303717779:Nat:=0
def PySem.W.Fast.tw17809754805136727877:Nat:=0
def PySem.W.Fast.tw11222685204454341117:Nat:=0
def PySem.W.Fast.tw5003815496485556256:Nat:=0
def PySem.W.Fast.tw129073440684795200:Nat:=0
def PySem.W.Fast.tw10942637195109634303:Nat:=0
def PySem.W.Fast.tw13837980812826489429:Nat:=0
def PySem.W.Fast.tw8172504723516149772:Nat:=0
def PySem.W.Fast.tw2056447580150639682:Nat:=0
def PySem.W.Fast.tw12187853110340930790:Nat:=0
def PySem.W.Fast.tw7762511363012861336:Nat:=0
def PySem.W.Fast.tw1408064842059806536:Nat:=0
def PySem.W.Fast.tw16178214489194237859:Nat:=0
def PySem.W.Fast.tw14838855775883112547:Nat:=0
def PySem.W.Fast.tw4064059986980110833:Nat:=0
def PySem.W.Fast.tw4385017654100888581:Nat:=0
def PySem.W.Fast.tw12824857303195370558:Nat:=0
def PySem.W.Fast.tw681721470222020989:Nat:=0
def PySem.W.Fast.tw2272226070091819402:Nat:=0
def PySem.W.Fast.tw4457446632754183729:Nat:=0
def PySem.W.Fast.tw2137109376532398898:Nat:=0
def PySem.W.Fast.tw13987363215916553370:Nat:=0
def PySem.W.Fast.tw1246210560666633290:Nat:=0
def PySem.W.Fast.tw12602922148578772182:Nat:=0
def PySem.W.Fast.tw9537101082014543467:Nat:=0
def PySem.W.Fast.tw10429078931123186857:Nat:=0
def PySem.W.Fast.tw8171531905578197043:Nat:=0
def PySem.W.Fast.tw1721827266655386174:Nat:=0
def PySem.W.Fast.tw5818502856257100949:Nat:=0
def PySem.W.Fast.tw4260951965623362314:Nat:=0
def PySem.W.Fast.tw8758930066730430148:Nat:=0
def PySem.W.Fast.tw18123159854955156895:Nat:=0
def PySem.W.Fast.tw85759002541649170:Nat:=0
def PySem.W.Fast.tw15910954143497586230:Nat:=0
def PySem.W.Fast.tw10398992692787413948:Nat:=0
def PySem.W.Fast.tw11746670366353631465:Nat:=0
def PySem.W.Fast.tw15263676799865304692:Nat:=0
def PySem.W.Fast.tw18264700233409423184:Nat:=0
def PySem.W.Fast.tw4256705747007180498:Nat:=0
def PySem.W.Fast.tw10534064079833556778:Nat:=0
def PySem.W.Fast.tw7761300750940817309:Nat:=0
def PySem.W.Fast.tw10002639976722167735:Nat:=0
def PySem.W.Fast.tw7590283764554894177:Nat:=0
def PySem.W.Fast.tw13870872912376873463:Nat:=0
def PySem.W.Fast.tw3341090045299851071:Nat:=0
def PySem.W.Fast.tw802693343564062022:Nat:=0
def PySem.W.Fast.tw16588358139150976531:Nat:=0
def PySem.W.Fast.tw9302986712445771773:Nat:=0
def PySem.W.Fast.tw728581758741453708:Nat:=0
def PySem.W.Fast.tw1285267407362000997:Nat:=0
def PySem.W.Fast.tw5689762153454149246:Nat:=0
def PySem.W.Fast.tw17985276958329868509:Nat:=0
def PySem.W.Fast.tw10735495650459308140:Nat:=0
namespace K71
open PySem PySem.Spec PyProof.Rows L2 MM
section
variable {P:Program} {w:World} {K:PySem.W.Frag} {mg:Str→Option Value} {base:Heap} {a:Ad}
theorem okH_p0 (T : Tx K mg a) : FnOkH P w K mg base 1 a.f_p0 a.fd_p0 ["self", "row"] (spNS a.c_NoState) :=
  T.F_p0.okH sc_p0 (fun _ _ _ _ ⟨_,_,e,_⟩=>by rw [e]; rfl) (fun _ _ _ _ _ _ _=>prH_p0 T) fun _ _ _ _ h=>read_ns (by decide) rfl h
theorem ok_p0 (T : Tx K mg a) : FnOk P w K mg base CX0 1 a.f_p0 a.fd_p0 ["self", "row"] (spNS a.c_NoState) :=
  T.F_p0.okQ sc_p0 (fun _ _ _ _ h=>by first | (cases h; rfl) | (obtain ⟨_,_,e,_⟩:=h; rw [e]; rfl)) (fun _ _ _ _ _ _ hr=>pr_p0 T  hr) fun _ _ _ _ h=>read_ns (by decide) rfl h
theorem ok_p14 (T : Tx K mg a) : FnOk P w K mg base (CX1 P w) 1 a.f_p14 a.fd_p14 ["letters", "hands"] (spAskL a.c_NoLetters) :=
  T.F_p14.okX sc_p14 (fun _ _ _ _ h=>by first | (cases h; rfl) | (obtain ⟨_,_,e,_⟩:=h; rw [e]; rfl)) (fun _ _ _ _ _ _ hr=>pr_p14 T  hr) fun _ _ _ _ h=>read_askL rfl h
theorem ok_p16 (T : Tx K mg a) : FnOk P w K mg base CX0 1 a.f_p16 a.fd_p16 ["letters", "text"] spIsMark :=
  T.F_p16.okQ sc_p16 (fun _ _ _ _ h=>by first | (cases h; rfl) | (obtain ⟨_,_,e,_⟩:=h; rw [e]; rfl)) (fun _ _ _ _ _ _ hr=>pr_p16 T  hr) fun _ _ _ _ h=>read_isMark rfl h
theorem ok_p20 (T:Tx K mg a):FnOk P w K mg base CX0 1 a.f_p20 a.fd_p20 ["text"] spIsThing:=
  T.F_p20.okQ sc_p20 (fun _ _ _ _ h=>by first | (cases h; rfl) | (obtain ⟨_,e,_⟩:=h; rw [e]; rfl)) (fun _ _ _ _ _ _ hr=>pr_p20 T  hr) fun _ _ _ _ h=>read_isThing rfl h
theorem ok_p18 (T:Tx K mg a):FnOk P w K mg base CX0 1 a.f_p18 a.fd_p18 ["word"] spIsNumber:=
  T.F_p18.okQ sc_p18 (fun _ _ _ _ h=>by first | (cases h; rfl) | (obtain ⟨_,e,_⟩:=h; rw [e]; rfl)) (fun _ _ _ _ _ _ hr=>pr_p18 T  hr) fun _ _ _ _ h=>read_isNumber rfl h
theorem ok_p15 (T : Tx K mg a) : FnOk P w K mg base (CX1 P w) 3 a.f_p15 a.fd_p15 ["good", "place"] (spXAsk a.c_NoState) :=
  T.F_p15.okX sc_p15 (fun _ _ _ _ h=>by first | (cases h; rfl) | (obtain ⟨_,_,e,_⟩:=h; rw [e]; rfl)) (fun _ _ _ _ _ _ hr=>pr_p15 T (ok_p0 T) hr) fun _ _ _ _ h=>read_xask rfl h
theorem ok_p27 (T : Tx K mg a) : FnOk P w K mg base CX0 1 a.f_p27 a.fd_p27 ["texts", "place"] (spXWords K) :=
  T.F_p27.okQ sc_p27 (fun _ _ _ _ h=>by first | (cases h; rfl) | (obtain ⟨_,_,_,e,_⟩:=h; rw [e]; rfl)) (fun _ _ _ _ _ _ hr=>pr_p27 T  hr) fun _ _ _ _ h=>read_xwords rfl h
theorem ok_p19 (T : Tx K mg a) : FnOk P w K mg base CX0 2 a.f_p19 a.fd_p19 ["word", "most"] spXNumTo :=
  T.F_p19.okQ sc_p19 (fun _ _ _ _ h=>by first | (cases h; rfl) | (obtain ⟨_,_,e,_⟩:=h; rw [e]; rfl)) (fun _ _ _ _ _ _ hr=>pr_p19 T (ok_p18 T) hr) fun _ _ _ _ h=>read_xnumTo rfl h
theorem ok_p17 (T : Tx K mg a) : FnOk P w K mg base CX0 2 a.f_p17 a.fd_p17 ["letters", "last", "word"] spXBehind :=
  T.F_p17.okQ sc_p17 (fun _ _ _ _ h=>by first | (cases h; rfl) | (obtain ⟨_,_,_,e,_⟩:=h; rw [e]; rfl)) (fun _ _ _ _ _ _ hr=>pr_p17 T (ok_p16 T) hr) fun _ _ _ _ h=>read_xbehind rfl h
theorem ok_p22 (T:Tx K mg a):FnOk P w K mg base (CX1 P w) 4 a.f_p22 a.fd_p22 ["texts"] (spXHead K a.c_NoState):=
  T.F_p22.okX sc_p22 (fun _ _ _ _ h=>by first | (cases h; rfl) | (obtain ⟨_,_,e,_⟩:=h; rw [e]; rfl)) (fun _ _ _ _ _ _ hr=>pr_p22 T (ok_p27 T) (ok_p18 T) (ok_p15 T) (ok_p14 T) (okH_p0 T) hr) fun _ _ _ _ h=>read_xhead T rfl h
theorem ok_p23 (T : Tx K mg a) : FnOk P w K mg base (CX1 P w) 4 a.f_p23 a.fd_p23 ["texts", "place"] (spXMany K a.c_NoState) :=
  T.F_p23.okX sc_p23 (fun _ _ _ _ h=>by first | (cases h; rfl) | (obtain ⟨_,_,_,e,_⟩:=h; rw [e]; rfl)) (fun _ _ _ _ _ _ hr=>pr_p23 T (ok_p27 T) (ok_p19 T) (ok_p15 T) hr) fun _ _ _ _ h=>read_xmany rfl h
theorem ok_p24 (T : Tx K mg a) : FnOk P w K mg base (CX1 P w) 4 a.f_p24 a.fd_p24 ["letters", "texts", "place", "many"] (spXRows K a.c_NoState) :=
  T.F_p24.okX sc_p24 (fun _ _ _ _ h=>by first | (cases h; rfl) | (obtain ⟨_,_,_,_,_,e,_⟩:=h; rw [e]; rfl)) (fun _ _ _ _ _ _ hr=>pr_p24 T (ok_p27 T) (ok_p17 T) (ok_p15 T) hr) fun _ _ _ _ h=>read_xrows rfl h
theorem ok_p26 (T : Tx K mg a) : FnOk P w K mg base (CX1 P w) 4 a.f_p26 a.fd_p26 ["letters", "texts", "place"] (spXThings K a.c_NoState) :=
  T.F_p26.okX sc_p26 (fun _ _ _ _ h=>by first | (cases h; rfl) | (obtain ⟨_,_,_,_,e,_⟩:=h; rw [e]; rfl)) (fun _ _ _ _ _ _ hr=>pr_p26 T (ok_p27 T) (ok_p15 T) (ok_p17 T) (ok_p20 T) hr) fun _ _ _ _ h=>read_xthings rfl h
theorem ok_p25 (T:Tx K mg a):FnOk P w K mg base (CX1 P w) 5 a.f_p25 a.fd_p25 ["texts"] (spXState K a.c_NoState):=
  T.F_p25.okX sc_p25 (fun _ _ _ _ h=>by first | (cases h; rfl) | (obtain ⟨_,_,e,_⟩:=h; rw [e]; rfl)) (fun _ _ _ _ _ _ hr=>pr_p25 T (ok_p22 T) (ok_p23 T) (ok_p24 T) (ok_p26 T) hr) fun _ _ _ _ h=>read_xstate rfl h
theorem ok_draw (T : Tx K mg a) : FnOk P w K mg base CX0 1 a.f_draw a.fd_draw ["_law_script", "_law_k", "_law_many"] (spDraw K) :=
  T.F_draw.okQ sc_draw (fun _ _ _ _ h=>by first | (cases h; rfl) | (obtain ⟨_,_,_,_,e,_⟩:=h; rw [e]; rfl)) (fun _ _ _ _ _ _ hr=>pr_draw T  hr) fun _ _ _ _ h=>read_draw rfl h
theorem ok_size (T:Tx K mg a):FnOk P w K mg base CX0 2 a.f_size a.fd_size ["_law_script"] (spXSize K):=
  T.F_size.okQ sc_size (fun _ _ _ _ h=>by first | (cases h; rfl) | (obtain ⟨_,_,e,_⟩:=h; rw [e]; rfl)) (fun _ _ _ _ _ _ hr=>pr_size T (ok_draw T) hr) fun _ _ _ _ h=>read_size rfl h
theorem ok_thing (T : Tx K mg a) : FnOk P w K mg base CX0 2 a.f_thing a.fd_thing ["_law_script", "_law_k"] (spHThing K) :=
  T.F_thing.okQ sc_thing (fun _ _ _ _ h=>by first | (cases h; rfl) | (obtain ⟨_,_,_,e,_⟩:=h; rw [e]; rfl)) (fun _ _ _ _ _ _ hr=>pr_thing T (ok_draw T) hr) fun _ _ _ _ h=>read_hthing rfl h
theorem ok_marks (T : Tx K mg a) : FnOk P w K mg base CX0 2 a.f_marks a.fd_marks ["_law_script", "_law_k", "_law_letters", "_law_many"] (spTMarks K) :=
  T.F_marks.okQ sc_marks (fun _ _ _ _ h=>by first | (cases h; rfl) | (obtain ⟨_,_,_,_,_,e,_⟩:=h; rw [e]; rfl)) (fun _ _ _ _ _ _ hr=>pr_marks T (ok_draw T) hr) fun _ _ _ _ h=>read_xmarks rfl h
theorem ok_made (T : Tx K mg a) : FnOk P w K mg base CX0 3 a.f_made a.fd_made ["_law_script", "_law_size_here"] (spXMade K) :=
  T.F_made.okQ sc_made (fun _ _ _ _ h=>by first | (cases h; rfl) | (obtain ⟨_,_,_,_,_,e,_⟩:=h; rw [e]; rfl)) (fun _ _ _ _ _ _ hr=>pr_made T (ok_draw T) (ok_marks T) (ok_thing T) hr) fun _ _ _ _ h=>read_xmade rfl h
theorem ok_spoiled (T : Tx K mg a) : FnOk P w K mg base CX0 2 a.f_spoiled a.fd_spoiled ["_law_script", "_law_k", "_law_texts"] (spSpoil K) :=
  T.F_spoiled.okQ sc_spoiled (fun _ _ _ _ h=>by first | (cases h; rfl) | (obtain ⟨_,_,_,_,_,_,_,e,_⟩:=h; rw [e]; rfl)) (fun _ _ _ _ _ _ hr=>pr_spoiled T (ok_draw T) hr) fun _ _ _ _ h=>read_spoil rfl h
theorem ok_number (T : Tx K mg a) : FnOk P w K mg base CX0 1 a.f_number a.fd_number ["_law_word", "_law_low", "_law_high"] spLNum :=
  T.F_number.okQ sc_number (fun _ _ _ _ h=>by first | (cases h; rfl) | (obtain ⟨_,_,_,e,_⟩:=h; rw [e]; rfl)) (fun _ _ _ _ _ _ hr=>pr_number T  hr) fun _ _ _ _ h=>read_lnum rfl h
theorem ok_l_is_mark (T : Tx K mg a) : FnOk P w K mg base CX0 1 a.f_l_is_mark a.fd_l_is_mark ["_law_word", "_law_letters"] spLMark :=
  T.F_l_is_mark.okQ sc_l_is_mark (fun _ _ _ _ h=>by first | (cases h; rfl) | (obtain ⟨_,_,e,_⟩:=h; rw [e]; rfl)) (fun _ _ _ _ _ _ hr=>pr_l_is_mark T  hr) fun _ _ _ _ h=>read_lmark rfl h
theorem ok_l_is_thing (T:Tx K mg a):FnOk P w K mg base CX0 1 a.f_l_is_thing a.fd_l_is_thing ["_law_word"] spLThing:=
  T.F_l_is_thing.okQ sc_l_is_thing (fun _ _ _ _ h=>by first | (cases h; rfl) | (obtain ⟨_,e,_⟩:=h; rw [e]; rfl)) (fun _ _ _ _ _ _ hr=>pr_l_is_thing T  hr) fun _ _ _ _ h=>read_lthing rfl h
theorem ok_row_of (T : Tx K mg a) : FnOk P w K mg base CX0 2 a.f_row_of a.fd_row_of ["_law_letters", "_law_texts", "_law_at", "_law_rows"] (spRowOf K) :=
  T.F_row_of.okQ sc_row_of (fun _ _ _ _ h=>by first | (cases h; rfl) | (obtain ⟨_,_,_,_,_,_,_,e,_⟩:=h; rw [e]; rfl)) (fun _ _ _ _ _ _ hr=>pr_row_of T (ok_l_is_mark T) hr) fun _ _ _ _ h=>read_rowOf rfl h
theorem ok_renewal (T : Tx K mg a) : FnOk P w K mg base CX0 3 a.f_renewal a.fd_renewal ["_law_letters", "_law_texts", "_law_at"] (spRenl K) :=
  T.F_renewal.okQ sc_renewal (fun _ _ _ _ h=>by first | (cases h; rfl) | (obtain ⟨_,_,_,_,e,_⟩:=h; rw [e]; rfl)) (fun _ _ _ _ _ _ hr=>pr_renewal T (ok_number T) (ok_row_of T) hr) fun _ _ _ _ h=>read_renl rfl h
theorem ok_due (T:Tx K mg a):FnOk P w K mg base CX0 4 a.f_due a.fd_due ["_law_texts"] (spDue K):=
  T.F_due.okQ sc_due (fun _ _ _ _ h=>by first | (cases h; rfl) | (obtain ⟨_,_,e,_⟩:=h; rw [e]; rfl)) (fun _ _ _ _ _ _ hr=>pr_due T (ok_number T) (ok_renewal T) (ok_l_is_mark T) (ok_l_is_thing T) hr) fun _ _ _ _ h=>read_due rfl h
theorem ok_asked (T:Tx K mg a):FnOk P w K mg base CX0 6 a.f_asked a.fd_asked ["_law_texts"] (spDue K):=
  T.F_asked.okQ sc_asked (fun _ _ _ _ h=>by first | (cases h; rfl) | (obtain ⟨_,_,e,_⟩:=h; rw [e]; rfl)) (fun _ _ _ _ _ _ hr=>pr_asked T (ok_p25 T) hr) fun _ _ _ _ h=>read_asked T rfl h
theorem ok_law (T:Tx K mg a):FnOk P w K mg base CX0 7 a.f_law a.fd_law ["_law_script"] (spLaw K):=
  T.F_law.okQ sc_law (fun _ _ _ _ h=>by first | (cases h; rfl) | (obtain ⟨_,_,e,_⟩:=h; rw [e]; rfl)) (fun _ _ _ _ _ _ hr=>pr_law T (ok_size T) (ok_made T) (ok_due T) (ok_asked T) (ok_draw T) (ok_spoiled T) hr) fun _ _ _ _ h=>read_law rfl h
end
theorem tx_mk {K:PySem.W.Frag} {h:Heap} {mg:Str→Option Value} (X:K.In h) (G:h.Ns mainGlobals mg)
    {f_p0 od_p0 an_p0 sl_p0 oc_p0 kV_p0 dc_p0 pm_p0 cd_p0 ct_p0}
    (i_p0 : PySem.W.isFn K (.ref f_p0) = true) (l_p0 : K.lookup f_p0 = some ⟨oc_p0, od_p0, .func (PySem.W.fnOf "__init__" "NoState.__init__" (defArgs s_p0) (defBody s_p0) (defScope s_p0) .none kV_p0 dc_p0 pm_p0 an_p0 cd_p0 ct_p0), sl_p0⟩) (c_p0 : PySem.W.codeIn K cd_p0 "NoState.__init__" = true) (k_p0 : PySem.W.keepIn K (.ref f_p0) = true)
    {f_p14 od_p14 an_p14 sl_p14 oc_p14 kV_p14 dc_p14 pm_p14 cd_p14 ct_p14}
    (a_p14 : PySem.W.nsIn K mainGlobals "ask_letters" = some (some (.ref f_p14))) (l_p14 : K.lookup f_p14 = some ⟨oc_p14, od_p14, .func (PySem.W.fnOf "ask_letters" "ask_letters" (defArgs s_p14) (defBody s_p14) (defScope s_p14) .none kV_p14 dc_p14 pm_p14 an_p14 cd_p14 ct_p14), sl_p14⟩) (c_p14 : PySem.W.codeIn K cd_p14 "ask_letters" = true) (k_p14 : PySem.W.keepIn K (.ref f_p14) = true)
    {f_p16 od_p16 an_p16 sl_p16 oc_p16 kV_p16 dc_p16 pm_p16 cd_p16 ct_p16}
    (a_p16 : PySem.W.nsIn K mainGlobals "is_mark" = some (some (.ref f_p16))) (l_p16 : K.lookup f_p16 = some ⟨oc_p16, od_p16, .func (PySem.W.fnOf "is_mark" "is_mark" (defArgs s_p16) (defBody s_p16) (defScope s_p16) .none kV_p16 dc_p16 pm_p16 an_p16 cd_p16 ct_p16), sl_p16⟩) (c_p16 : PySem.W.codeIn K cd_p16 "is_mark" = true) (k_p16 : PySem.W.keepIn K (.ref f_p16) = true)
    {f_p20 od_p20 an_p20 sl_p20 oc_p20 kV_p20 dc_p20 pm_p20 cd_p20 ct_p20}
    (a_p20 : PySem.W.nsIn K mainGlobals "is_thing" = some (some (.ref f_p20))) (l_p20 : K.lookup f_p20 = some ⟨oc_p20, od_p20, .func (PySem.W.fnOf "is_thing" "is_thing" (defArgs s_p20) (defBody s_p20) (defScope s_p20) .none kV_p20 dc_p20 pm_p20 an_p20 cd_p20 ct_p20), sl_p20⟩) (c_p20 : PySem.W.codeIn K cd_p20 "is_thing" = true) (k_p20 : PySem.W.keepIn K (.ref f_p20) = true)
    {f_p18 od_p18 an_p18 sl_p18 oc_p18 kV_p18 dc_p18 pm_p18 cd_p18 ct_p18}
    (a_p18 : PySem.W.nsIn K mainGlobals "is_number" = some (some (.ref f_p18))) (l_p18 : K.lookup f_p18 = some ⟨oc_p18, od_p18, .func (PySem.W.fnOf "is_number" "is_number" (defArgs s_p18) (defBody s_p18) (defScope s_p18) .none kV_p18 dc_p18 pm_p18 an_p18 cd_p18 ct_p18), sl_p18⟩) (c_p18 : PySem.W.codeIn K cd_p18 "is_number" = true) (k_p18 : PySem.W.keepIn K (.ref f_p18) = true)
    {f_p15 od_p15 an_p15 sl_p15 oc_p15 kV_p15 dc_p15 pm_p15 cd_p15 ct_p15}
    (a_p15 : PySem.W.nsIn K mainGlobals "ask_text" = some (some (.ref f_p15))) (l_p15 : K.lookup f_p15 = some ⟨oc_p15, od_p15, .func (PySem.W.fnOf "ask_text" "ask_text" (defArgs s_p15) (defBody s_p15) (defScope s_p15) .none kV_p15 dc_p15 pm_p15 an_p15 cd_p15 ct_p15), sl_p15⟩) (c_p15 : PySem.W.codeIn K cd_p15 "ask_text" = true) (k_p15 : PySem.W.keepIn K (.ref f_p15) = true)
    {f_p27 od_p27 an_p27 sl_p27 oc_p27 kV_p27 dc_p27 pm_p27 cd_p27 ct_p27}
    (a_p27 : PySem.W.nsIn K mainGlobals "words_at" = some (some (.ref f_p27))) (l_p27 : K.lookup f_p27 = some ⟨oc_p27, od_p27, .func (PySem.W.fnOf "words_at" "words_at" (defArgs s_p27) (defBody s_p27) (defScope s_p27) .none kV_p27 dc_p27 pm_p27 an_p27 cd_p27 ct_p27), sl_p27⟩) (c_p27 : PySem.W.codeIn K cd_p27 "words_at" = true) (k_p27 : PySem.W.keepIn K (.ref f_p27) = true)
    {f_p19 od_p19 an_p19 sl_p19 oc_p19 kV_p19 dc_p19 pm_p19 cd_p19 ct_p19}
    (a_p19 : PySem.W.nsIn K mainGlobals "is_number_to" = some (some (.ref f_p19))) (l_p19 : K.lookup f_p19 = some ⟨oc_p19, od_p19, .func (PySem.W.fnOf "is_number_to" "is_number_to" (defArgs s_p19) (defBody s_p19) (defScope s_p19) .none kV_p19 dc_p19 pm_p19 an_p19 cd_p19 ct_p19), sl_p19⟩) (c_p19 : PySem.W.codeIn K cd_p19 "is_number_to" = true) (k_p19 : PySem.W.keepIn K (.ref f_p19) = true)
    {f_p17 od_p17 an_p17 sl_p17 oc_p17 kV_p17 dc_p17 pm_p17 cd_p17 ct_p17}
    (a_p17 : PySem.W.nsIn K mainGlobals "is_mark_behind" = some (some (.ref f_p17))) (l_p17 : K.lookup f_p17 = some ⟨oc_p17, od_p17, .func (PySem.W.fnOf "is_mark_behind" "is_mark_behind" (defArgs s_p17) (defBody s_p17) (defScope s_p17) .none kV_p17 dc_p17 pm_p17 an_p17 cd_p17 ct_p17), sl_p17⟩) (c_p17 : PySem.W.codeIn K cd_p17 "is_mark_behind" = true) (k_p17 : PySem.W.keepIn K (.ref f_p17) = true)
    {f_p22 od_p22 an_p22 sl_p22 oc_p22 kV_p22 dc_p22 pm_p22 cd_p22 ct_p22}
    (a_p22 : PySem.W.nsIn K mainGlobals "read_head" = some (some (.ref f_p22))) (l_p22 : K.lookup f_p22 = some ⟨oc_p22, od_p22, .func (PySem.W.fnOf "read_head" "read_head" (defArgs s_p22) (defBody s_p22) (defScope s_p22) .none kV_p22 dc_p22 pm_p22 an_p22 cd_p22 ct_p22), sl_p22⟩) (c_p22 : PySem.W.codeIn K cd_p22 "read_head" = true) (k_p22 : PySem.W.keepIn K (.ref f_p22) = true)
    {f_p23 od_p23 an_p23 sl_p23 oc_p23 kV_p23 dc_p23 pm_p23 cd_p23 ct_p23}
    (a_p23 : PySem.W.nsIn K mainGlobals "read_many" = some (some (.ref f_p23))) (l_p23 : K.lookup f_p23 = some ⟨oc_p23, od_p23, .func (PySem.W.fnOf "read_many" "read_many" (defArgs s_p23) (defBody s_p23) (defScope s_p23) .none kV_p23 dc_p23 pm_p23 an_p23 cd_p23 ct_p23), sl_p23⟩) (c_p23 : PySem.W.codeIn K cd_p23 "read_many" = true) (k_p23 : PySem.W.keepIn K (.ref f_p23) = true)
    {f_p24 od_p24 an_p24 sl_p24 oc_p24 kV_p24 dc_p24 pm_p24 cd_p24 ct_p24}
    (a_p24 : PySem.W.nsIn K mainGlobals "read_rows" = some (some (.ref f_p24))) (l_p24 : K.lookup f_p24 = some ⟨oc_p24, od_p24, .func (PySem.W.fnOf "read_rows" "read_rows" (defArgs s_p24) (defBody s_p24) (defScope s_p24) .none kV_p24 dc_p24 pm_p24 an_p24 cd_p24 ct_p24), sl_p24⟩) (c_p24 : PySem.W.codeIn K cd_p24 "read_rows" = true) (k_p24 : PySem.W.keepIn K (.ref f_p24) = true)
    {f_p26 od_p26 an_p26 sl_p26 oc_p26 kV_p26 dc_p26 pm_p26 cd_p26 ct_p26}
    (a_p26 : PySem.W.nsIn K mainGlobals "read_things" = some (some (.ref f_p26))) (l_p26 : K.lookup f_p26 = some ⟨oc_p26, od_p26, .func (PySem.W.fnOf "read_things" "read_things" (defArgs s_p26) (defBody s_p26) (defScope s_p26) .none kV_p26 dc_p26 pm_p26 an_p26 cd_p26 ct_p26), sl_p26⟩) (c_p26 : PySem.W.codeIn K cd_p26 "read_things" = true) (k_p26 : PySem.W.keepIn K (.ref f_p26) = true)
    {f_p25 od_p25 an_p25 sl_p25 oc_p25 kV_p25 dc_p25 pm_p25 cd_p25 ct_p25}
    (a_p25 : PySem.W.nsIn K mainGlobals "read_state" = some (some (.ref f_p25))) (l_p25 : K.lookup f_p25 = some ⟨oc_p25, od_p25, .func (PySem.W.fnOf "read_state" "read_state" (defArgs s_p25) (defBody s_p25) (defScope s_p25) .none kV_p25 dc_p25 pm_p25 an_p25 cd_p25 ct_p25), sl_p25⟩) (c_p25 : PySem.W.codeIn K cd_p25 "read_state" = true) (k_p25 : PySem.W.keepIn K (.ref f_p25) = true)
    {f_draw od_draw an_draw sl_draw oc_draw kV_draw dc_draw pm_draw cd_draw ct_draw}
    (a_draw : PySem.W.nsIn K mainGlobals "_law_draw" = some (some (.ref f_draw))) (l_draw : K.lookup f_draw = some ⟨oc_draw, od_draw, .func (PySem.W.fnOf "_law_draw" "_law_draw" (defArgs s_draw) (defBody s_draw) (defScope s_draw) .none kV_draw dc_draw pm_draw an_draw cd_draw ct_draw), sl_draw⟩) (c_draw : PySem.W.codeIn K cd_draw "_law_draw" = true) (k_draw : PySem.W.keepIn K (.ref f_draw) = true)
    {f_size od_size an_size sl_size oc_size kV_size dc_size pm_size cd_size ct_size}
    (a_size : PySem.W.nsIn K mainGlobals "_law_size" = some (some (.ref f_size))) (l_size : K.lookup f_size = some ⟨oc_size, od_size, .func (PySem.W.fnOf "_law_size" "_law_size" (defArgs s_size) (defBody s_size) (defScope s_size) .none kV_size dc_size pm_size an_size cd_size ct_size), sl_size⟩) (c_size : PySem.W.codeIn K cd_size "_law_size" = true) (k_size : PySem.W.keepIn K (.ref f_size) = true)
    {f_thing od_thing an_thing sl_thing oc_thing kV_thing dc_thing pm_thing cd_thing ct_thing}
    (a_thing : PySem.W.nsIn K mainGlobals "_law_thing" = some (some (.ref f_thing))) (l_thing : K.lookup f_thing = some ⟨oc_thing, od_thing, .func (PySem.W.fnOf "_law_thing" "_law_thing" (defArgs s_thing) (defBody s_thing) (defScope s_thing) .none kV_thing dc_thing pm_thing an_thing cd_thing ct_thing), sl_thing⟩) (c_thing : PySem.W.codeIn K cd_thing "_law_thing" = true) (k_thing : PySem.W.keepIn K (.ref f_thing) = true)
    {f_marks od_marks an_marks sl_marks oc_marks kV_marks dc_marks pm_marks cd_marks ct_marks}
    (a_marks : PySem.W.nsIn K mainGlobals "_law_marks" = some (some (.ref f_marks))) (l_marks : K.lookup f_marks = some ⟨oc_marks, od_marks, .func (PySem.W.fnOf "_law_marks" "_law_marks" (defArgs s_marks) (defBody s_marks) (defScope s_marks) .none kV_marks dc_marks pm_marks an_marks cd_marks ct_marks), sl_marks⟩) (c_marks : PySem.W.codeIn K cd_marks "_law_marks" = true) (k_marks : PySem.W.keepIn K (.ref f_marks) = true)
    {f_made od_made an_made sl_made oc_made kV_made dc_made pm_made cd_made ct_made}
    (a_made : PySem.W.nsIn K mainGlobals "_law_made" = some (some (.ref f_made))) (l_made : K.lookup f_made = some ⟨oc_made, od_made, .func (PySem.W.fnOf "_law_made" "_law_made" (defArgs s_made) (defBody s_made) (defScope s_made) .none kV_made dc_made pm_made an_made cd_made ct_made), sl_made⟩) (c_made : PySem.W.codeIn K cd_made "_law_made" = true) (k_made : PySem.W.keepIn K (.ref f_made) = true)
    {f_spoiled od_spoiled an_spoiled sl_spoiled oc_spoiled kV_spoiled dc_spoiled pm_spoiled cd_spoiled ct_spoiled}
    (a_spoiled : PySem.W.nsIn K mainGlobals "_law_spoiled" = some (some (.ref f_spoiled))) (l_spoiled : K.lookup f_spoiled = some ⟨oc_spoiled, od_spoiled, .func (PySem.W.fnOf "_law_spoiled" "_law_spoiled" (defArgs s_spoiled) (defBody s_spoiled) (defScope s_spoiled) .none kV_spoiled dc_spoiled pm_spoiled an_spoiled cd_spoiled ct_spoiled), sl_spoiled⟩) (c_spoiled : PySem.W.codeIn K cd_spoiled "_law_spoiled" = true) (k_spoiled : PySem.W.keepIn K (.ref f_spoiled) = true)
    {f_number od_number an_number sl_number oc_number kV_number dc_number pm_number cd_number ct_number}
    (a_number : PySem.W.nsIn K mainGlobals "_law_number" = some (some (.ref f_number))) (l_number : K.lookup f_number = some ⟨oc_number, od_number, .func (PySem.W.fnOf "_law_number" "_law_number" (defArgs s_number) (defBody s_number) (defScope s_number) .none kV_number dc_number pm_number an_number cd_number ct_number), sl_number⟩) (c_number : PySem.W.codeIn K cd_number "_law_number" = true) (k_number : PySem.W.keepIn K (.ref f_number) = true)
    {f_l_is_mark od_l_is_mark an_l_is_mark sl_l_is_mark oc_l_is_mark kV_l_is_mark dc_l_is_mark pm_l_is_mark cd_l_is_mark ct_l_is_mark}
    (a_l_is_mark : PySem.W.nsIn K mainGlobals "_law_is_mark" = some (some (.ref f_l_is_mark))) (l_l_is_mark : K.lookup f_l_is_mark = some ⟨oc_l_is_mark, od_l_is_mark, .func (PySem.W.fnOf "_law_is_mark" "_law_is_mark" (defArgs s_l_is_mark) (defBody s_l_is_mark) (defScope s_l_is_mark) .none kV_l_is_mark dc_l_is_mark pm_l_is_mark an_l_is_mark cd_l_is_mark ct_l_is_mark), sl_l_is_mark⟩) (c_l_is_mark : PySem.W.codeIn K cd_l_is_mark "_law_is_mark" = true) (k_l_is_mark : PySem.W.keepIn K (.ref f_l_is_mark) = true)
    {f_l_is_thing od_l_is_thing an_l_is_thing sl_l_is_thing oc_l_is_thing kV_l_is_thing dc_l_is_thing pm_l_is_thing cd_l_is_thing ct_l_is_thing}
    (a_l_is_thing : PySem.W.nsIn K mainGlobals "_law_is_thing" = some (some (.ref f_l_is_thing))) (l_l_is_thing : K.lookup f_l_is_thing = some ⟨oc_l_is_thing, od_l_is_thing, .func (PySem.W.fnOf "_law_is_thing" "_law_is_thing" (defArgs s_l_is_thing) (defBody s_l_is_thing) (defScope s_l_is_thing) .none kV_l_is_thing dc_l_is_thing pm_l_is_thing an_l_is_thing cd_l_is_thing ct_l_is_thing), sl_l_is_thing⟩) (c_l_is_thing : PySem.W.codeIn K cd_l_is_thing "_law_is_thing" = true) (k_l_is_thing : PySem.W.keepIn K (.ref f_l_is_thing) = true)
    {f_row_of od_row_of an_row_of sl_row_of oc_row_of kV_row_of dc_row_of pm_row_of cd_row_of ct_row_of}
    (a_row_of : PySem.W.nsIn K mainGlobals "_law_row_of" = some (some (.ref f_row_of))) (l_row_of : K.lookup f_row_of = some ⟨oc_row_of, od_row_of, .func (PySem.W.fnOf "_law_row_of" "_law_row_of" (defArgs s_row_of) (defBody s_row_of) (defScope s_row_of) .none kV_row_of dc_row_of pm_row_of an_row_of cd_row_of ct_row_of), sl_row_of⟩) (c_row_of : PySem.W.codeIn K cd_row_of "_law_row_of" = true) (k_row_of : PySem.W.keepIn K (.ref f_row_of) = true)
    {f_renewal od_renewal an_renewal sl_renewal oc_renewal kV_renewal dc_renewal pm_renewal cd_renewal ct_renewal}
    (a_renewal : PySem.W.nsIn K mainGlobals "_law_renewal" = some (some (.ref f_renewal))) (l_renewal : K.lookup f_renewal = some ⟨oc_renewal, od_renewal, .func (PySem.W.fnOf "_law_renewal" "_law_renewal" (defArgs s_renewal) (defBody s_renewal) (defScope s_renewal) .none kV_renewal dc_renewal pm_renewal an_renewal cd_renewal ct_renewal), sl_renewal⟩) (c_renewal : PySem.W.codeIn K cd_renewal "_law_renewal" = true) (k_renewal : PySem.W.keepIn K (.ref f_renewal) = true)
    {f_due od_due an_due sl_due oc_due kV_due dc_due pm_due cd_due ct_due}
    (a_due : PySem.W.nsIn K mainGlobals "_law_due" = some (some (.ref f_due))) (l_due : K.lookup f_due = some ⟨oc_due, od_due, .func (PySem.W.fnOf "_law_due" "_law_due" (defArgs s_due) (defBody s_due) (defScope s_due) .none kV_due dc_due pm_due an_due cd_due ct_due), sl_due⟩) (c_due : PySem.W.codeIn K cd_due "_law_due" = true) (k_due : PySem.W.keepIn K (.ref f_due) = true)
    {f_asked od_asked an_asked sl_asked oc_asked kV_asked dc_asked pm_asked cd_asked ct_asked}
    (a_asked : PySem.W.nsIn K mainGlobals "_law_asked" = some (some (.ref f_asked))) (l_asked : K.lookup f_asked = some ⟨oc_asked, od_asked, .func (PySem.W.fnOf "_law_asked" "_law_asked" (defArgs s_asked) (defBody s_asked) (defScope s_asked) .none kV_asked dc_asked pm_asked an_asked cd_asked ct_asked), sl_asked⟩) (c_asked : PySem.W.codeIn K cd_asked "_law_asked" = true) (k_asked : PySem.W.keepIn K (.ref f_asked) = true)
    {f_law od_law an_law sl_law oc_law kV_law dc_law pm_law cd_law ct_law}
    (a_law : PySem.W.nsIn K mainGlobals "law" = some (some (.ref f_law))) (l_law : K.lookup f_law = some ⟨oc_law, od_law, .func (PySem.W.fnOf "law" "law" (defArgs s_law) (defBody s_law) (defScope s_law) .none kV_law dc_law pm_law an_law cd_law ct_law), sl_law⟩) (c_law : PySem.W.codeIn K cd_law "law" = true) (k_law : PySem.W.keepIn K (.ref f_law) = true)
    {c_NoLetters : Addr} (ac_NoLetters : PySem.W.nsIn K mainGlobals "NoLetters" = some (some (.ref c_NoLetters))) (xc_NoLetters : PySem.W.excIn K c_NoLetters [.type "ValueError", .type "Exception", .type "BaseException", .type "object"] "ValueError.__new__" = true)
    {c_ShelfError : Addr} (ac_ShelfError : PySem.W.nsIn K mainGlobals "ShelfError" = some (some (.ref c_ShelfError))) (xc_ShelfError : PySem.W.excIn K c_ShelfError [.type "ValueError", .type "Exception", .type "BaseException", .type "object"] "ValueError.__new__" = true)
    {c_NoHand:Addr} (ac_NoHand:PySem.W.nsIn K mainGlobals "NoHand" = some (some (.ref c_NoHand)))
    {c_NoLine:Addr} (ac_NoLine:PySem.W.nsIn K mainGlobals "NoLine" = some (some (.ref c_NoLine)))
    {c_NoPlace:Addr} (ac_NoPlace:PySem.W.nsIn K mainGlobals "NoPlace" = some (some (.ref c_NoPlace)))
    {c_NoRoom:Addr} (ac_NoRoom:PySem.W.nsIn K mainGlobals "NoRoom" = some (some (.ref c_NoRoom)))
    {c_NoShelf:Addr} (ac_NoShelf:PySem.W.nsIn K mainGlobals "NoShelf" = some (some (.ref c_NoShelf)))
    {c_NoState:Addr} (ac_NoState:PySem.W.nsIn K mainGlobals "NoState" = some (some (.ref c_NoState)))
    {c_NoThing:Addr} (ac_NoThing:PySem.W.nsIn K mainGlobals "NoThing" = some (some (.ref c_NoThing)))
    (e1_NoState : PySem.W.findIn K (.ref c_NoState) "__getattribute__" = some (some (.builtin "BaseException.__getattribute__"))) (e2_NoState : PySem.W.findIn K (.ref c_NoState) "__getattr__" = some none) (e3_NoState : PySem.W.findIn K (.ref c_NoState) "__class__" = some (some (.builtin "object.__class__")))
    (e4_NoState : PySem.W.mroIn K c_NoState (.type "object") = some true) (e5_NoState : PySem.W.mroIn K c_NoState (.type "BaseException") = some true)
    (mv_NoState_ValueError:PySem.W.mroIn K c_NoState (.type "ValueError") = some true)
    (ty_NoThing:PySem.W.typeIn K (.ref c_NoThing) = some (.type "type"))
    (mo_NoThing:PySem.W.mroIn K c_NoThing (.type "object") = some true)
    (mr_NoState_NoThing:PySem.W.mroIn K c_NoState (.ref c_NoThing) = some false)
    (ne_NoState_NoThing:(c_NoState == c_NoThing) = false)
    (ty_NoShelf:PySem.W.typeIn K (.ref c_NoShelf) = some (.type "type"))
    (mo_NoShelf:PySem.W.mroIn K c_NoShelf (.type "object") = some true)
    (mr_NoState_NoShelf:PySem.W.mroIn K c_NoState (.ref c_NoShelf) = some false)
    (ne_NoState_NoShelf:(c_NoState == c_NoShelf) = false)
    (ty_NoRoom:PySem.W.typeIn K (.ref c_NoRoom) = some (.type "type"))
    (mo_NoRoom:PySem.W.mroIn K c_NoRoom (.type "object") = some true)
    (mr_NoState_NoRoom:PySem.W.mroIn K c_NoState (.ref c_NoRoom) = some false)
    (ne_NoState_NoRoom:(c_NoState == c_NoRoom) = false)
    (ty_NoPlace:PySem.W.typeIn K (.ref c_NoPlace) = some (.type "type"))
    (mo_NoPlace:PySem.W.mroIn K c_NoPlace (.type "object") = some true)
    (mr_NoState_NoPlace:PySem.W.mroIn K c_NoState (.ref c_NoPlace) = some false)
    (ne_NoState_NoPlace:(c_NoState == c_NoPlace) = false)
    (ty_NoLine:PySem.W.typeIn K (.ref c_NoLine) = some (.type "type"))
    (mo_NoLine:PySem.W.mroIn K c_NoLine (.type "object") = some true)
    (mr_NoState_NoLine:PySem.W.mroIn K c_NoState (.ref c_NoLine) = some false)
    (ne_NoState_NoLine:(c_NoState == c_NoLine) = false)
    (ty_NoLetters:PySem.W.typeIn K (.ref c_NoLetters) = some (.type "type"))
    (mo_NoLetters:PySem.W.mroIn K c_NoLetters (.type "object") = some true)
    (mr_NoState_NoLetters:PySem.W.mroIn K c_NoState (.ref c_NoLetters) = some false)
    (ne_NoState_NoLetters:(c_NoState == c_NoLetters) = false)
    (ty_NoHand:PySem.W.typeIn K (.ref c_NoHand) = some (.type "type"))
    (mo_NoHand:PySem.W.mroIn K c_NoHand (.type "object") = some true)
    (mr_NoState_NoHand:PySem.W.mroIn K c_NoState (.ref c_NoHand) = some false)
    (ne_NoState_NoHand:(c_NoState == c_NoHand) = false)
    {dx_NoState nx_NoState bx_NoState Nx_NoState qx_NoState sx_NoState ux_NoState ax_NoState ox_NoState w0_NoState w1_NoState w2_NoState w3_NoState w5_NoState} (li_NoState : K.lookup c_NoState = some ⟨.type "type", dx_NoState, .cls ⟨nx_NoState, bx_NoState, .ref c_NoState :: .ref c_ShelfError :: [.type "ValueError", .type "Exception", .type "BaseException", .type "object"], Nx_NoState, qx_NoState, true, sx_NoState, ux_NoState, ax_NoState, ox_NoState, false⟩, #[w0_NoState, w1_NoState, w2_NoState, w3_NoState, some (.builtin "ValueError.__new__"), w5_NoState]⟩)
    (ni_NoState:PySem.W.nsIn K Nx_NoState "__init__" = some (some (.ref f_p0))) (no_NoState:PySem.W.nsOkIn K Nx_NoState = true)
    (sa_NoState : PySem.W.findIn K (.ref c_NoState) "__setattr__" = some (some (.builtin "object.__setattr__"))) (nr_NoState : PySem.W.findIn K (.ref c_NoState) "row" = some none)
    (b1_ShelfError : PySem.W.specialIn K (.ref c_ShelfError) "__getattribute__" = some (some (.builtin "type.__getattribute__"))) (b2_ShelfError : PySem.W.readsIn K c_ShelfError (.type "type") = true) (b3_ShelfError : PySem.W.findCls K (.ref c_ShelfError) (.type "type") "__init__" = some (.val (.builtin "ValueError.__init__")))
    (sc_NoLetters_NoLetters:PySem.W.mroIn K c_NoLetters (.ref c_NoLetters) = some true)
    (sc_NoState_ShelfError:PySem.W.mroIn K c_NoState (.ref c_ShelfError) = some true)
    {t_SMALL:Tok} (q_SMALL:PySem.W.nsIn K mainGlobals "SMALL" = some (some (.str "abcdefghijklmnopqrstuvwxyz" t_SMALL)))
    {t_THING_SIGNS:Tok} (q_THING_SIGNS:PySem.W.nsIn K mainGlobals "THING_SIGNS" = some (some (.str "abcdefghijklmnopqrstuvwxyz0123456789" t_THING_SIGNS)))
    {t_LONGEST_THING:Tok} (q_LONGEST_THING:PySem.W.nsIn K mainGlobals "LONGEST_THING" = some (some (.int 12 t_LONGEST_THING)))
    {t_FIGURES:Tok} (q_FIGURES:PySem.W.nsIn K mainGlobals "FIGURES" = some (some (.str "0123456789" t_FIGURES)))
    {t_MOST_FIGURES:Tok} (q_MOST_FIGURES:PySem.W.nsIn K mainGlobals "MOST_FIGURES" = some (some (.int 4 t_MOST_FIGURES)))
    {t_MOST_RENEWALS:Tok} (q_MOST_RENEWALS:PySem.W.nsIn K mainGlobals "MOST_RENEWALS" = some (some (.int 1000 t_MOST_RENEWALS)))
    {t_MOST_ROWS:Tok} (q_MOST_ROWS:PySem.W.nsIn K mainGlobals "MOST_ROWS" = some (some (.int 1000 t_MOST_ROWS)))
    (z_ValueError:PySem.W.nsIn K mainGlobals "ValueError" = some none)
    (z_all:PySem.W.nsIn K mainGlobals "all" = some none)
    (z_int:PySem.W.nsIn K mainGlobals "int" = some none)
    (z_isinstance:PySem.W.nsIn K mainGlobals "isinstance" = some none)
    (z_len:PySem.W.nsIn K mainGlobals "len" = some none)
    (z_list:PySem.W.nsIn K mainGlobals "list" = some none)
    (z_min:PySem.W.nsIn K mainGlobals "min" = some none)
    (z_range:PySem.W.nsIn K mainGlobals "range" = some none)
    (z_sorted:PySem.W.nsIn K mainGlobals "sorted" = some none)
    (z_str:PySem.W.nsIn K mainGlobals "str" = some none)
    (z_tuple:PySem.W.nsIn K mainGlobals "tuple" = some none)
    : ∃ a : Ad, Tx K mg a ∧ mg "law" = some (.ref a.f_law) ∧ ∀ (s : Shared) (v : Value), BindsTo s a.fd_law ⟨[v], []⟩ [("_law_script", v)] := by
  have F_p0:=fun_mk (st:=s_p0) l_p0 c_p0 k_p0
  have b_p0 := F_p0.binds (ps := ["self", "row"]) fun _ _ _ _ _ _ us hl => by obtain ⟨_, _, e⟩ := ex2 hl; subst e; rfl
  have F_p14:=fun_mk (st:=s_p14) l_p14 c_p14 k_p14
  have b_p14 := F_p14.binds (ps := ["letters", "hands"]) fun _ _ _ _ _ _ us hl => by obtain ⟨_, _, e⟩ := ex2 hl; subst e; rfl
  have F_p16:=fun_mk (st:=s_p16) l_p16 c_p16 k_p16
  have b_p16 := F_p16.binds (ps := ["letters", "text"]) fun _ _ _ _ _ _ us hl => by obtain ⟨_, _, e⟩ := ex2 hl; subst e; rfl
  have F_p20:=fun_mk (st:=s_p20) l_p20 c_p20 k_p20
  have b_p20:=F_p20.binds (ps:=["text"]) fun _ _ _ _ _ _ us hl=>by obtain ⟨_,e⟩:=ex1 hl; subst e; rfl
  have F_p18:=fun_mk (st:=s_p18) l_p18 c_p18 k_p18
  have b_p18:=F_p18.binds (ps:=["word"]) fun _ _ _ _ _ _ us hl=>by obtain ⟨_,e⟩:=ex1 hl; subst e; rfl
  have F_p15:=fun_mk (st:=s_p15) l_p15 c_p15 k_p15
  have b_p15 := F_p15.binds (ps := ["good", "place"]) fun _ _ _ _ _ _ us hl => by obtain ⟨_, _, e⟩ := ex2 hl; subst e; rfl
  have F_p27:=fun_mk (st:=s_p27) l_p27 c_p27 k_p27
  have b_p27 := F_p27.binds (ps := ["texts", "place"]) fun _ _ _ _ _ _ us hl => by obtain ⟨_, _, e⟩ := ex2 hl; subst e; rfl
  have F_p19:=fun_mk (st:=s_p19) l_p19 c_p19 k_p19
  have b_p19 := F_p19.binds (ps := ["word", "most"]) fun _ _ _ _ _ _ us hl => by obtain ⟨_, _, e⟩ := ex2 hl; subst e; rfl
  have F_p17:=fun_mk (st:=s_p17) l_p17 c_p17 k_p17
  have b_p17 := F_p17.binds (ps := ["letters", "last", "word"]) fun _ _ _ _ _ _ us hl => by obtain ⟨_, _, _, e⟩ := ex3 hl; subst e; rfl
  have F_p22:=fun_mk (st:=s_p22) l_p22 c_p22 k_p22
  have b_p22:=F_p22.binds (ps:=["texts"]) fun _ _ _ _ _ _ us hl=>by obtain ⟨_,e⟩:=ex1 hl; subst e; rfl
  have F_p23:=fun_mk (st:=s_p23) l_p23 c_p23 k_p23
  have b_p23 := F_p23.binds (ps := ["texts", "place"]) fun _ _ _ _ _ _ us hl => by obtain ⟨_, _, e⟩ := ex2 hl; subst e; rfl
  have F_p24:=fun_mk (st:=s_p24) l_p24 c_p24 k_p24
  have b_p24 := F_p24.binds (ps := ["letters", "texts", "place", "many"]) fun _ _ _ _ _ _ us hl => by obtain ⟨_, _, _, _, e⟩ := ex4 hl; subst e; rfl
  have F_p26:=fun_mk (st:=s_p26) l_p26 c_p26 k_p26
  have b_p26 := F_p26.binds (ps := ["letters", "texts", "place"]) fun _ _ _ _ _ _ us hl => by obtain ⟨_, _, _, e⟩ := ex3 hl; subst e; rfl
  have F_p25:=fun_mk (st:=s_p25) l_p25 c_p25 k_p25
  have b_p25:=F_p25.binds (ps:=["texts"]) fun _ _ _ _ _ _ us hl=>by obtain ⟨_,e⟩:=ex1 hl; subst e; rfl
  have F_draw:=fun_mk (st:=s_draw) l_draw c_draw k_draw
  have b_draw := F_draw.binds (ps := ["_law_script", "_law_k", "_law_many"]) fun _ _ _ _ _ _ us hl => by obtain ⟨_, _, _, e⟩ := ex3 hl; subst e; rfl
  have F_size:=fun_mk (st:=s_size) l_size c_size k_size
  have b_size:=F_size.binds (ps:=["_law_script"]) fun _ _ _ _ _ _ us hl=>by obtain ⟨_,e⟩:=ex1 hl; subst e; rfl
  have F_thing:=fun_mk (st:=s_thing) l_thing c_thing k_thing
  have b_thing := F_thing.binds (ps := ["_law_script", "_law_k"]) fun _ _ _ _ _ _ us hl => by obtain ⟨_, _, e⟩ := ex2 hl; subst e; rfl
  have F_marks:=fun_mk (st:=s_marks) l_marks c_marks k_marks
  have b_marks := F_marks.binds (ps := ["_law_script", "_law_k", "_law_letters", "_law_many"]) fun _ _ _ _ _ _ us hl => by obtain ⟨_, _, _, _, e⟩ := ex4 hl; subst e; rfl
  have F_made:=fun_mk (st:=s_made) l_made c_made k_made
  have b_made := F_made.binds (ps := ["_law_script", "_law_size_here"]) fun _ _ _ _ _ _ us hl => by obtain ⟨_, _, e⟩ := ex2 hl; subst e; rfl
  have F_spoiled:=fun_mk (st:=s_spoiled) l_spoiled c_spoiled k_spoiled
  have b_spoiled := F_spoiled.binds (ps := ["_law_script", "_law_k", "_law_texts"]) fun _ _ _ _ _ _ us hl => by obtain ⟨_, _, _, e⟩ := ex3 hl; subst e; rfl
  have F_number:=fun_mk (st:=s_number) l_number c_number k_number
  have b_number := F_number.binds (ps := ["_law_word", "_law_low", "_law_high"]) fun _ _ _ _ _ _ us hl => by obtain ⟨_, _, _, e⟩ := ex3 hl; subst e; rfl
  have F_l_is_mark:=fun_mk (st:=s_l_is_mark) l_l_is_mark c_l_is_mark k_l_is_mark
  have b_l_is_mark := F_l_is_mark.binds (ps := ["_law_word", "_law_letters"]) fun _ _ _ _ _ _ us hl => by obtain ⟨_, _, e⟩ := ex2 hl; subst e; rfl
  have F_l_is_thing:=fun_mk (st:=s_l_is_thing) l_l_is_thing c_l_is_thing k_l_is_thing
  have b_l_is_thing:=F_l_is_thing.binds (ps:=["_law_word"]) fun _ _ _ _ _ _ us hl=>by obtain ⟨_,e⟩:=ex1 hl; subst e; rfl
  have F_row_of:=fun_mk (st:=s_row_of) l_row_of c_row_of k_row_of
  have b_row_of := F_row_of.binds (ps := ["_law_letters", "_law_texts", "_law_at", "_law_rows"]) fun _ _ _ _ _ _ us hl => by obtain ⟨_, _, _, _, e⟩ := ex4 hl; subst e; rfl
  have F_renewal:=fun_mk (st:=s_renewal) l_renewal c_renewal k_renewal
  have b_renewal := F_renewal.binds (ps := ["_law_letters", "_law_texts", "_law_at"]) fun _ _ _ _ _ _ us hl => by obtain ⟨_, _, _, e⟩ := ex3 hl; subst e; rfl
  have F_due:=fun_mk (st:=s_due) l_due c_due k_due
  have b_due:=F_due.binds (ps:=["_law_texts"]) fun _ _ _ _ _ _ us hl=>by obtain ⟨_,e⟩:=ex1 hl; subst e; rfl
  have F_asked:=fun_mk (st:=s_asked) l_asked c_asked k_asked
  have b_asked:=F_asked.binds (ps:=["_law_texts"]) fun _ _ _ _ _ _ us hl=>by obtain ⟨_,e⟩:=ex1 hl; subst e; rfl
  have F_law:=fun_mk (st:=s_law) l_law c_law k_law
  have b_law:=F_law.binds (ps:=["_law_script"]) fun _ _ _ _ _ _ us hl=>by obtain ⟨_,e⟩:=ex1 hl; subst e; rfl
  exact ⟨⟨c_NoLetters,c_ShelfError,c_NoHand,c_NoLine,c_NoPlace,c_NoRoom,c_NoShelf,c_NoState,c_NoThing,f_p0,f_p14,f_p16,f_p20,f_p18,f_p15,f_p27,f_p19,f_p17,f_p22,f_p23,f_p24,f_p26,f_p25,f_draw,f_size,f_thing,f_marks,f_made,f_spoiled,f_number,f_l_is_mark,f_l_is_thing,f_row_of,f_renewal,f_due,f_asked,f_law,_,_,_,_,_,_,_,_,_,_,_,_,_,_,_,_,_,_,_,_,_,_,_,_,_,_,_,_⟩,⟨PySem.W.mg_none_of X G z_ValueError,PySem.W.mg_none_of X G z_all,PySem.W.mg_none_of X G z_int,PySem.W.mg_none_of X G z_isinstance,PySem.W.mg_none_of X G z_len,PySem.W.mg_none_of X G z_list,PySem.W.mg_none_of X G z_min,PySem.W.mg_none_of X G z_range,PySem.W.mg_none_of X G z_sorted,PySem.W.mg_none_of X G z_str,PySem.W.mg_none_of X G z_tuple,⟨_,PySem.W.mg_of X G q_SMALL⟩,⟨_,PySem.W.mg_of X G q_THING_SIGNS⟩,⟨_,PySem.W.mg_of X G q_LONGEST_THING⟩,⟨_,PySem.W.mg_of X G q_FIGURES⟩,⟨_,PySem.W.mg_of X G q_MOST_FIGURES⟩,⟨_,PySem.W.mg_of X G q_MOST_RENEWALS⟩,⟨_,PySem.W.mg_of X G q_MOST_ROWS⟩,PySem.W.mg_of X G ac_NoLetters,xc_NoLetters,PySem.W.mg_of X G ac_ShelfError,xc_ShelfError,PySem.W.mg_of X G ac_NoHand,PySem.W.mg_of X G ac_NoLine,PySem.W.mg_of X G ac_NoPlace,PySem.W.mg_of X G ac_NoRoom,PySem.W.mg_of X G ac_NoShelf,PySem.W.mg_of X G ac_NoState,PySem.W.mg_of X G ac_NoThing,⟨e1_NoState,e2_NoState,e3_NoState,e4_NoState,e5_NoState⟩,excI_mk li_NoState xc_ShelfError ni_NoState no_NoState i_p0,sa_NoState,nr_NoState,cls_has li_NoState,b1_ShelfError,b2_ShelfError,b3_ShelfError,(kit_self),(kit_ty (by kernel_rfl) mv_NoState_ValueError),(kit_no (kit_cl ty_NoHand mo_NoHand mr_NoState_NoHand ne_NoState_NoHand) (kit_no (kit_cl ty_NoLetters mo_NoLetters mr_NoState_NoLetters ne_NoState_NoLetters) (kit_no (kit_cl ty_NoLine mo_NoLine mr_NoState_NoLine ne_NoState_NoLine) (kit_no (kit_cl ty_NoPlace mo_NoPlace mr_NoState_NoPlace ne_NoState_NoPlace) (kit_no (kit_cl ty_NoRoom mo_NoRoom mr_NoState_NoRoom ne_NoState_NoRoom) (kit_no (kit_cl ty_NoShelf mo_NoShelf mr_NoState_NoShelf ne_NoState_NoShelf) (kit_no (kit_cl ty_NoThing mo_NoThing mr_NoState_NoThing ne_NoState_NoThing) (kit_nil)))))))),sc_NoLetters_NoLetters,sc_NoState_ShelfError,F_p0,b_p0,PySem.W.mg_of X G a_p14,F_p14,b_p14,PySem.W.mg_of X G a_p16,F_p16,b_p16,PySem.W.mg_of X G a_p20,F_p20,b_p20,PySem.W.mg_of X G a_p18,F_p18,b_p18,PySem.W.mg_of X G a_p15,F_p15,b_p15,PySem.W.mg_of X G a_p27,F_p27,b_p27,PySem.W.mg_of X G a_p19,F_p19,b_p19,PySem.W.mg_of X G a_p17,F_p17,b_p17,PySem.W.mg_of X G a_p22,F_p22,b_p22,PySem.W.mg_of X G a_p23,F_p23,b_p23,PySem.W.mg_of X G a_p24,F_p24,b_p24,PySem.W.mg_of X G a_p26,F_p26,b_p26,PySem.W.mg_of X G a_p25,F_p25,b_p25,PySem.W.mg_of X G a_draw,F_draw,b_draw,PySem.W.mg_of X G a_size,F_size,b_size,PySem.W.mg_of X G a_thing,F_thing,b_thing,PySem.W.mg_of X G a_marks,F_marks,b_marks,PySem.W.mg_of X G a_made,F_made,b_made,PySem.W.mg_of X G a_spoiled,F_spoiled,b_spoiled,PySem.W.mg_of X G a_number,F_number,b_number,PySem.W.mg_of X G a_l_is_mark,F_l_is_mark,b_l_is_mark,PySem.W.mg_of X G a_l_is_thing,F_l_is_thing,b_l_is_thing,PySem.W.mg_of X G a_row_of,F_row_of,b_row_of,PySem.W.mg_of X G a_renewal,F_renewal,b_renewal,PySem.W.mg_of X G a_due,F_due,b_due,PySem.W.mg_of X G a_asked,F_asked,b_asked,PySem.W.mg_of X G a_law,F_law,b_law⟩,PySem.W.mg_of X G a_law,fun s v=>.of_eq rfl⟩
theorem walk {l:PySem.W.OpenLaw} {q:Program} {loose:List Str} {XP:(Str→Option Value)→Heap→Prop} {YP:World→Heap→Prop} {d:DefRec} {K:Params→PySem.W.Frag} (hn:l.most = some 63) (hdf:d.params.defaults = [])
    (hY:∀ (w:World) (h:Heap),YP w h→(K w.params).In h)
    (F:∀ (w:World) (mg:Str→Option Value) (fa:Addr) (h:Heap),(K w.params).In h→h.Ns mainGlobals mg→mg d.name = some (.ref fa)→
      ∃ fd : FuncData, (∀ (s : Shared) (u : Value), BindsTo s fd ⟨[u], []⟩ [("_law_script", u)]) ∧ ∀ base : Heap, (K w.params).In base → base.Ns mainGlobals mg → FnOk l.prog w (K w.params) mg base CX0 7 fa fd ["_law_script"] (spLaw (K w.params))) :
    PySem.W.WalkO q loose XP YP l.row.toRowW d [] (fun f vs=>PySem.call f vs):=
  L2.walk_of (n:=63) (k:=7) (x:="_law_script") (CX:=fun _=>CX0) (sp:=fun w=>spLaw (K w.params)) hn (by decide) hdf ⟨rfl,by decide,by decide⟩ hY F (fun _ _ a ns hl _ hS=>⟨a,ns,rfl,hS,hl,fun _=>rfl⟩) fun _ _ _ _ _ z=>z
end K71
open PySem PySem.W PyProof.Rows
set_option maxRecDepth 100000 in
set_option maxHeartbeats 0 in
theorem PySem.Challenge.cw_shelfmark_k71_texts_refused_holds : PySem.Challenge.rw_shelfmark_k71_texts_refused.Holds := by
  w_on; o_law; k_head; (case hw=>w_witness2)
  k_fill
  refine K71.walk (l:=PySem.Challenge.rw_shelfmark_k71_texts_refused) rfl rfl (fun w h Y=>PySem.W.kIn_of Y) ?F
  case F=>
    intro w mg fa h KX G hmg
    have M : ∃ a : K71.Ad, K71.Tx (L2.KOf KX) mg a ∧ mg "law" = some (.ref a.f_law) ∧ ∀ (s : Shared) (v : Value), BindsTo s a.fd_law ⟨[v], []⟩ [("_law_script", v)] := by
      dsimp only [L2.KOf]
      refine' K71.tx_mk KX G (ac_ShelfError:=?ac_ShelfError) (ac_NoState:=?ac_NoState) (li_NoState:=?li_NoState) (ni_NoState:=?ni_NoState) (no_NoState:=?no_NoState) (i_p0:=?i_p0) (l_p0:=?l_p0) (c_p0:=?c_p0) (k_p0:=?k_p0) (a_p14:=?a_p14) (l_p14:=?l_p14) (c_p14:=?c_p14) (k_p14:=?k_p14) (a_p16:=?a_p16) (l_p16:=?l_p16) (c_p16:=?c_p16) (k_p16:=?k_p16) (a_p20:=?a_p20) (l_p20:=?l_p20) (c_p20:=?c_p20) (k_p20:=?k_p20) (a_p18:=?a_p18) (l_p18:=?l_p18) (c_p18:=?c_p18) (k_p18:=?k_p18) (a_p15:=?a_p15) (l_p15:=?l_p15) (c_p15:=?c_p15) (k_p15:=?k_p15) (a_p27:=?a_p27) (l_p27:=?l_p27) (c_p27:=?c_p27) (k_p27:=?k_p27) (a_p19:=?a_p19) (l_p19:=?l_p19) (c_p19:=?c_p19) (k_p19:=?k_p19) (a_p17:=?a_p17) (l_p17:=?l_p17) (c_p17:=?c_p17) (k_p17:=?k_p17) (a_p22:=?a_p22) (l_p22:=?l_p22) (c_p22:=?c_p22) (k_p22:=?k_p22) (a_p23:=?a_p23) (l_p23:=?l_p23) (c_p23:=?c_p23) (k_p23:=?k_p23) (a_p24:=?a_p24) (l_p24:=?l_p24) (c_p24:=?c_p24) (k_p24:=?k_p24) (a_p26:=?a_p26) (l_p26:=?l_p26) (c_p26:=?c_p26) (k_p26:=?k_p26) (a_p25:=?a_p25) (l_p25:=?l_p25) (c_p25:=?c_p25) (k_p25:=?k_p25) (a_draw:=?a_draw) (l_draw:=?l_draw) (c_draw:=?c_draw) (k_draw:=?k_draw) (a_size:=?a_size) (l_size:=?l_size) (c_size:=?c_size) (k_size:=?k_size) (a_thing:=?a_thing) (l_thing:=?l_thing) (c_thing:=?c_thing) (k_thing:=?k_thing) (a_marks:=?a_marks) (l_marks:=?l_marks) (c_marks:=?c_marks) (k_marks:=?k_marks) (a_made:=?a_made) (l_made:=?l_made) (c_made:=?c_made) (k_made:=?k_made) (a_spoiled:=?a_spoiled) (l_spoiled:=?l_spoiled) (c_spoiled:=?c_spoiled) (k_spoiled:=?k_spoiled) (a_number:=?a_number) (l_number:=?l_number) (c_number:=?c_number) (k_number:=?k_number) (a_l_is_mark:=?a_l_is_mark) (l_l_is_mark:=?l_l_is_mark) (c_l_is_mark:=?c_l_is_mark) (k_l_is_mark:=?k_l_is_mark) (a_l_is_thing:=?a_l_is_thing) (l_l_is_thing:=?l_l_is_thing) (c_l_is_thing:=?c_l_is_thing) (k_l_is_thing:=?k_l_is_thing) (a_row_of:=?a_row_of) (l_row_of:=?l_row_of) (c_row_of:=?c_row_of) (k_row_of:=?k_row_of) (a_renewal:=?a_renewal) (l_renewal:=?l_renewal) (c_renewal:=?c_renewal) (k_renewal:=?k_renewal) (a_due:=?a_due) (l_due:=?l_due) (c_due:=?c_due) (k_due:=?k_due) (a_asked:=?a_asked) (l_asked:=?l_asked) (c_asked:=?c_asked) (k_asked:=?k_asked) (a_law:=?a_law) (l_law:=?l_law) (c_law:=?c_law) (k_law:=?k_law) (ac_NoLetters:=?ac_NoLetters) (xc_NoLetters:=?xc_NoLetters) (xc_ShelfError:=?xc_ShelfError) (ac_NoHand:=?ac_NoHand) (ac_NoLine:=?ac_NoLine) (ac_NoPlace:=?ac_NoPlace) (ac_NoRoom:=?ac_NoRoom) (ac_NoShelf:=?ac_NoShelf) (ac_NoThing:=?ac_NoThing) (sa_NoState:=?sa_NoState) (nr_NoState:=?nr_NoState) (b1_ShelfError:=?b1_ShelfError) (b2_ShelfError:=?b2_ShelfError) (b3_ShelfError:=?b3_ShelfError) (e1_NoState:=?e1_NoState) (e2_NoState:=?e2_NoState) (e3_NoState:=?e3_NoState) (e4_NoState:=?e4_NoState) (e5_NoState:=?e5_NoState) (mv_NoState_ValueError:=?mv_NoState_ValueError) (ty_NoThing:=?ty_NoThing) (mo_NoThing:=?mo_NoThing) (mr_NoState_NoThing:=?mr_NoState_NoThing) (ne_NoState_NoThing:=?ne_NoState_NoThing) (ty_NoShelf:=?ty_NoShelf) (mo_NoShelf:=?mo_NoShelf) (mr_NoState_NoShelf:=?mr_NoState_NoShelf) (ne_NoState_NoShelf:=?ne_NoState_NoShelf) (ty_NoRoom:=?ty_NoRoom) (mo_NoRoom:=?mo_NoRoom) (mr_NoState_NoRoom:=?mr_NoState_NoRoom) (ne_NoState_NoRoom:=?ne_NoState_NoRoom) (ty_NoPlace:=?ty_NoPlace) (mo_NoPlace:=?mo_NoPlace) (mr_NoState_NoPlace:=?mr_NoState_NoPlace) (ne_NoState_NoPlace:=?ne_NoState_NoPlace) (ty_NoLine:=?ty_NoLine) (mo_NoLine:=?mo_NoLine) (mr_NoState_NoLine:=?mr_NoState_NoLine) (ne_NoState_NoLine:=?ne_NoState_NoLine) (ty_NoLetters:=?ty_NoLetters) (mo_NoLetters:=?mo_NoLetters) (mr_NoState_NoLetters:=?mr_NoState_NoLetters) (ne_NoState_NoLetters:=?ne_NoState_NoLetters) (ty_NoHand:=?ty_NoHand) (mo_NoHand:=?mo_NoHand) (mr_NoState_NoHand:=?mr_NoState_NoHand) (ne_NoState_NoHand:=?ne_NoState_NoHand) (sc_NoLetters_NoLetters:=?sc_NoLetters_NoLetters) (sc_NoState_ShelfError:=?sc_NoState_ShelfError) (q_SMALL:=?q_SMALL) (q_THING_SIGNS:=?q_THING_SIGNS) (q_LONGEST_THING:=?q_LONGEST_THING) (q_FIGURES:=?q_FIGURES) (q_MOST_FIGURES:=?q_MOST_FIGURES) (q_MOST_RENEWALS:=?q_MOST_RENEWALS) (q_MOST_ROWS:=?q_MOST_ROWS) (z_ValueError:=?z_ValueError) (z_all:=?z_all) (z_int:=?z_int) (z_isinstance:=?z_isinstance) (z_len:=?z_len) (z_list:=?z_list) (z_min:=?z_min) (z_range:=?z_range) (z_sorted:=?z_sorted) (z_str:=?z_str) (z_tuple:=?z_tuple)
      (case ac_ShelfError=>k_is)
      (case ac_NoState=>k_is)
      (case li_NoState=>k_is)
      (case ni_NoState=>k_is)
      (case no_NoState=>kernel_rfl)
      (case i_p0=>k_is)
      (case l_p0=>k_is)
      (case c_p0=>k_is)
      (case k_p0=>k_is)
      (case a_p14=>k_is)
      (case l_p14=>k_is)
      (case c_p14=>k_is)
      (case k_p14=>k_is)
      (case a_p16=>k_is)
      (case l_p16=>k_is)
      (case c_p16=>k_is)
      (case k_p16=>k_is)
      (case a_p20=>k_is)
      (case l_p20=>k_is)
      (case c_p20=>k_is)
      (case k_p20=>k_is)
      (case a_p18=>k_is)
      (case l_p18=>k_is)
      (case c_p18=>k_is)
      (case k_p18=>k_is)
      (case a_p15=>k_is)
      (case l_p15=>k_is)
      (case c_p15=>k_is)
      (case k_p15=>k_is)
      (case a_p27=>k_is)
      (case l_p27=>k_is)
      (case c_p27=>k_is)
      (case k_p27=>k_is)
      (case a_p19=>k_is)
      (case l_p19=>k_is)
      (case c_p19=>k_is)
      (case k_p19=>k_is)
      (case a_p17=>k_is)
      (case l_p17=>k_is)
      (case c_p17=>k_is)
      (case k_p17=>k_is)
      (case a_p22=>k_is)
      (case l_p22=>k_is)
      (case c_p22=>k_is)
      (case k_p22=>k_is)
      (case a_p23=>k_is)
      (case l_p23=>k_is)
      (case c_p23=>k_is)
      (case k_p23=>k_is)
      (case a_p24=>k_is)
      (case l_p24=>k_is)
      (case c_p24=>k_is)
      (case k_p24=>k_is)
      (case a_p26=>k_is)
      (case l_p26=>k_is)
      (case c_p26=>k_is)
      (case k_p26=>k_is)
      (case a_p25=>k_is)
      (case l_p25=>k_is)
      (case c_p25=>k_is)
      (case k_p25=>k_is)
      (case a_draw=>k_is)
      (case l_draw=>k_is)
      (case c_draw=>k_is)
      (case k_draw=>k_is)
      (case a_size=>k_is)
      (case l_size=>k_is)
      (case c_size=>k_is)
      (case k_size=>k_is)
      (case a_thing=>k_is)
      (case l_thing=>k_is)
      (case c_thing=>k_is)
      (case k_thing=>k_is)
      (case a_marks=>k_is)
      (case l_marks=>k_is)
      (case c_marks=>k_is)
      (case k_marks=>k_is)
      (case a_made=>k_is)
      (case l_made=>k_is)
      (case c_made=>k_is)
      (case k_made=>k_is)
      (case a_spoiled=>k_is)
      (case l_spoiled=>k_is)
      (case c_spoiled=>k_is)
      (case k_spoiled=>k_is)
      (case a_number=>k_is)
      (case l_number=>k_is)
      (case c_number=>k_is)
      (case k_number=>k_is)
      (case a_l_is_mark=>k_is)
      (case l_l_is_mark=>k_is)
      (case c_l_is_mark=>k_is)
      (case k_l_is_mark=>k_is)
      (case a_l_is_thing=>k_is)
      (case l_l_is_thing=>k_is)
      (case c_l_is_thing=>k_is)
      (case k_l_is_thing=>k_is)
      (case a_row_of=>k_is)
      (case l_row_of=>k_is)
      (case c_row_of=>k_is)
      (case k_row_of=>k_is)
      (case a_renewal=>k_is)
      (case l_renewal=>k_is)
      (case c_renewal=>k_is)
      (case k_renewal=>k_is)
      (case a_due=>k_is)
      (case l_due=>k_is)
      (case c_due=>k_is)
      (case k_due=>k_is)
      (case a_asked=>k_is)
      (case l_asked=>k_is)
      (case c_asked=>k_is)
      (case k_asked=>k_is)
      (case a_law=>k_is)
      (case l_law=>k_is)
      (case c_law=>k_is)
      (case k_law=>k_is)
      (case ac_NoLetters=>k_is)
      (case xc_NoLetters=>k_exc)
      (case xc_ShelfError=>k_exc)
      (case ac_NoHand=>k_is)
      (case ac_NoLine=>k_is)
      (case ac_NoPlace=>k_is)
      (case ac_NoRoom=>k_is)
      (case ac_NoShelf=>k_is)
      (case ac_NoThing=>k_is)
      (case sa_NoState=>k_is)
      (case nr_NoState=>k_is)
      (case b1_ShelfError=>k_is)
      (case b2_ShelfError=>k_is)
      (case b3_ShelfError=>k_is)
      (case e1_NoState=>k_is)
      (case e2_NoState=>k_is)
      (case e3_NoState=>k_is)
      (case e4_NoState=>k_is)
      (case e5_NoState=>k_is)
      (case mv_NoState_ValueError=>k_is)
      (case ty_NoThing=>k_is)
      (case mo_NoThing=>k_is)
      (case mr_NoState_NoThing=>k_is)
      (case ne_NoState_NoThing=>rfl)
      (case ty_NoShelf=>k_is)
      (case mo_NoShelf=>k_is)
      (case mr_NoState_NoShelf=>k_is)
      (case ne_NoState_NoShelf=>rfl)
      (case ty_NoRoom=>k_is)
      (case mo_NoRoom=>k_is)
      (case mr_NoState_NoRoom=>k_is)
      (case ne_NoState_NoRoom=>rfl)
      (case ty_NoPlace=>k_is)
      (case mo_NoPlace=>k_is)
      (case mr_NoState_NoPlace=>k_is)
      (case ne_NoState_NoPlace=>rfl)
      (case ty_NoLine=>k_is)
      (case mo_NoLine=>k_is)
      (case mr_NoState_NoLine=>k_is)
      (case ne_NoState_NoLine=>rfl)
      (case ty_NoLetters=>k_is)
      (case mo_NoLetters=>k_is)
      (case mr_NoState_NoLetters=>k_is)
      (case ne_NoState_NoLetters=>rfl)
      (case ty_NoHand=>k_is)
      (case mo_NoHand=>k_is)
      (case mr_NoState_NoHand=>k_is)
      (case ne_NoState_NoHand=>rfl)
      (case sc_NoLetters_NoLetters=>k_is)
      (case sc_NoState_ShelfError=>k_is)
      (case q_SMALL=>k_is)
      (case q_THING_SIGNS=>k_is)
      (case q_LONGEST_THING=>k_is)
      (case q_FIGURES=>k_is)
      (case q_MOST_FIGURES=>k_is)
      (case q_MOST_RENEWALS=>k_is)
      (case q_MOST_ROWS=>k_is)
      (case z_ValueError=>k_is)
      (case z_all=>k_is)
      (case z_int=>k_is)
      (case z_isinstance=>k_is)
      (case z_len=>k_is)
      (case z_list=>k_is)
      (case z_min=>k_is)
      (case z_range=>k_is)
      (case z_sorted=>k_is)
      (case z_str=>k_is)
      (case z_tuple=>k_is)
    obtain ⟨a,T,hl,hb⟩:=M
    have e0:=hmg.symm.trans hl
    cases e0
    exact ⟨_,hb,fun base _ _=>K71.ok_law T⟩
