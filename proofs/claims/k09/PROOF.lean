import PyProof.Rows.All
import Wide.All
import OpenK.AllK
import Wide.FinOn
import Lean
import PyProof.EqAt
import PyProof.EqKinds
import PyProof.TupleCall
import KE.IntBitsLaws
import PyProof.Rows.CallKwBuiltin
import KE.KRevIter
import KE.KDictSum
import PyProof.AttrMissHeap
import KE.KDictOf
import KE.KSortTup
import KE.KItemsList
import PyProof.LongRange
import PyProof.Rows.FStr
import PyProof.Rows.StrNews
import PyProof.StrLawsTight
import PyProof.StrLawsChain
import KE.KIntText
import PySem.Challenge.RW_shelfmark_k09_refusals_apart
set_option Elab.async false
set_option linter.all false
set_option maxRecDepth 100000
set_option maxHeartbeats 4000000
namespace L2
open PySem PySem.Spec PyProof.Rows
inductive Key where
  | inl (i:Int) | inr (x:Str) | non
deriving DecidableEq
def isNon:Value→Bool
  | .none=>true
  | _=>false
def keyIs:Key→Value→Bool
  | .inl k,v=>Value.isInt k v
  | .inr x,v=>Value.isStrOf x v
  | .non,v=>isNon v
def keyH (w:World):Key→Int
  | .inl k=>hashInt k
  | .inr x=>hashStr w x
  | .non=>(reduceHash 4238894112)
theorem keyIs_shape:∀ {k:Key} {v:Value},keyIs k v = true→(∃ i t,k = Key.inl i∧v = Value.int i t) ∨ (∃ x t,k = Key.inr x∧v = Value.str x t) ∨ (k = Key.non∧v = Value.none)
  | .inl i,v,h=>by
    obtain ⟨t,e⟩:=Value.isInt_shape (k:=i) (v:=v) h
    exact .inl ⟨i,t,rfl,e⟩
  | .inr x,v,h=>by
    obtain ⟨t,e⟩:=Value.isStrOf_shape (x:=x) (v:=v) h
    exact .inr (.inl ⟨x,t,rfl,e⟩)
  | .non,v,h=>by
    cases v <;> first | exact .inr (.inr ⟨rfl,rfl⟩) | exact nomatch (show false = true from h)
theorem key_ll (a b:Int):decide (Key.inl a = Key.inl b) = (a == b):=by
  by_cases e:a = b
  · subst e; simp
  · rw [decide_eq_false (fun q=>e (Key.inl.inj q))]; exact (beq_eq_false_iff_ne.mpr e).symm
theorem key_rr (a b:Str):decide (Key.inr a = Key.inr b) = decide (a = b):=by
  by_cases e:a = b
  · subst e; simp
  · rw [decide_eq_false (fun q=>e (Key.inr.inj q)),decide_eq_false e]
theorem hash_non {prog:Program} {w:World} {A:Around} {E:Value→Shared→Prop} {s:Shared} {Q:Int→Shared→Prop} (h:Q (reduceHash 4238894112) { s with toks:=s.toks + 1 }):wpAny (model prog w) A (pyHash .none) Q E s:=
  W.pyHash_slot (T:="NoneType") rfl F.slot_NoneType_hash F.entry_NoneType_hash (F.args_NoneType_hash_1 _) (beq_builtin_none _) (.inl rfl) (wpAny_bind (wpAny_pure (wpAny_bind (wpAny_mkInt (wpAny_pure ⟨_,_,rfl,h⟩)))))
theorem eq_non {prog:Program} {w:World} {A:Around} {E:Value→Shared→Prop} {s:Shared} {Q:Bool→Shared→Prop} (h:Q true s):wpAny (model prog w) A (eqBool .none .none) Q E s:=by
  unfold eqBool
  refine wpAny_holding ?_
  rw [if_pos (by decide)]
  exact wpAny_bind (wpAny_rule (wpAny_pure h))
def mixKind (prog:Program) (w:World):PySem.KeyKind prog w Key where
  is:=keyIs
  hash:=keyH w
  inj:=fun v a b ha hb=>by
    rcases keyIs_shape ha with ⟨i,t,rfl,rfl⟩ | ⟨x,t,rfl,rfl⟩ | ⟨rfl,rfl⟩ <;> rcases keyIs_shape hb with ⟨j,u,rfl,e⟩ | ⟨y,u,rfl,e⟩ | ⟨rfl,e⟩ <;>
      first | (cases e; rfl) | cases e
  byValue:=fun k v h=>by
    rcases keyIs_shape h with ⟨i,t,rfl,rfl⟩ | ⟨x,t,rfl,rfl⟩ | ⟨rfl,rfl⟩ <;> rfl
  pyHash:=fun hv h=>by
    rcases keyIs_shape hv with ⟨i,t,rfl,rfl⟩ | ⟨x,t,rfl,rfl⟩ | ⟨rfl,rfl⟩
    · exact wpAny_pyHash_int h
    · exact wpAny_pyHash_str h
    · exact hash_non h
  eqBool:=fun hu hv h=>by
    rcases keyIs_shape hu with ⟨i,t,rfl,rfl⟩ | ⟨x,t,rfl,rfl⟩ | ⟨rfl,rfl⟩ <;> rcases keyIs_shape hv with ⟨j,u,rfl,rfl⟩ | ⟨y,u,rfl,rfl⟩ | ⟨rfl,rfl⟩
    · rw [key_ll] at h; exact wpAny_eqBool_int h
    · exact SeqAt.EqAt.int_str i t y u _ _ _ _ h
    · exact SeqAt.EqAt.int_none i t _ _ _ _ h
    · exact SeqAt.EqAt.str_int x t j u _ _ _ _ h
    · rw [key_rr] at h; exact wpAny_eqBool_str h
    · exact SeqAt.EqAt.str_none x t _ _ _ _ h
    · exact SeqAt.EqAt.none_int j u _ _ _ _ h
    · exact SeqAt.EqAt.none_str y u _ _ _ _ h
    · exact eq_non h
  «strs»:=fun k x t v h=>by
    rcases keyIs_shape h with ⟨i,u,rfl,e⟩ | ⟨y,u,rfl,e⟩ | ⟨rfl,e⟩
    · exact nomatch e
    · injection e with e1 _
      subst e1
      cases v <;> rfl
    · exact nomatch e
inductive V where
  | non | bl (b:Bool) | int (i:Int) | str (x:Str) | byt (b:Array UInt8) | flt (b:UInt64) | ref (a:Addr) | ty (n:String)
  deriving DecidableEq
def RelV:V→Value→Prop
  | .non,u=>u = Value.none
  | .bl b,u=>u = Value.bool b
  | .int i,u=>∃ t,u = Value.int i t
  | .str x,u=>∃ t,u = Value.str x t
  | .byt b,u=>∃ t,u = Value.bytes b t
  | .flt b,u=>∃ t,u = Value.float b t
  | .ref a,u=>u = Value.ref a
  | .ty n,u=>u = Value.type n
abbrev Vals:List V→List Value→Prop:=Paired RelV
theorem Vals.length {xs:List V} {us:List Value} (r:Vals xs us):xs.length = us.length:=Paired.length r
theorem Vals.get:∀ {xs:List V} {us:List Value} {i:Nat} {x:V},Vals xs us→xs[i]? = some x→∃ u,us[i]? = some u∧RelV x u
  | _,_,_,_,.nil,e=>by simp at e
  | _,_,0,_,.cons r _,e=>by simp at e; subst e; exact ⟨_,rfl,r⟩
  | _,_,i + 1,x,.cons _ t,e=>by
    obtain ⟨u,h1,h2⟩:=Vals.get (i:=i) (x:=x) t (by simpa using e)
    exact ⟨u,by simpa using h1,h2⟩
theorem Vals.append:∀ {xs ys:List V} {us ws:List Value},Vals xs us→Vals ys ws→Vals (xs ++ ys) (us ++ ws)
  | _,_,_,_,.nil,s=>s
  | _,_,_,_,.cons r t,s=>.cons r (Vals.append t s)
def RelO:Option V→Option Value→Prop
  | some v,some u=>RelV v u
  | none,none=>True
  | _,_=>False
def KV {κ:Type}:List (κ × V)→List (κ × Value)→Prop:=Paired fun (p:κ × V) (q:κ × Value)=>p.1 = q.1∧RelV p.2 q.2
def kV:Key→V
  | .inl i=>.int i
  | .inr x=>.str x
  | .non=>.non
inductive HO where
  /-- a list -/
  | lst (xs:List V)
  /-- a tuple (never changes) -/
  | tup (xs:List V)
  /-- a dict whose keys are ints and texts; one whose keys are tuples of ints and texts (the empty one is both) -/
  | dK (kvs:List (Key × V)) | dT (kvs:List (List Key × V))
  /-- a set of ints: its members,its size -/
  | set (S:Int→Bool) (n:Nat)
  /-- an instance of the class at C,its dict at dx,its attributes -/
  | ins (C dx:Addr) (fs:List (Str × V))
  /-- the dict of the instance at x -/
  | own (x:Addr)
  /-- the dict of an exception -/
  | xd (fs:List (Str × V))
  /-- a bound method,f of x -/
  | met (f x:Addr)
  /-- a range object lo,lo + 1,.. below hi -/
  | rng (lo hi:Int)
  /-- a thing that is known to the object (the script; a dict while a loop walks it): read,never written while it is so -/
  | frz (o:Obj) (u:HO)
  /-- a code object's table -/
  | tbl (ps:Array Value)
  /-- any other thing,by what is true of its one object (a def of one's own: SetO a S n:=HO.ext fun h=>..) -/
  | ext (φ:Heap→Prop)
abbrev Hp:=Addr→Option HO
def upd (H:Hp) (a:Addr) (o:HO):Hp:=fun b=>if b = a then some o else H b
theorem upd_same {H:Hp} {a:Addr} {o:HO}:upd H a o a = some o:=by unfold upd; rw [if_pos rfl]
theorem upd_ne {H:Hp} {a b:Addr} {o:HO} (h:b ≠ a):upd H a o b = H b:=by unfold upd; rw [if_neg h]
theorem upd_upd {H:Hp} {a:Addr} {o u:HO}:upd (upd H a o) a u = upd H a u:=by
  funext b; unfold upd; split <;> rfl
theorem ne_of_none {H:Hp} {a b:Addr} {o:HO} (h:H a = some o) (h':H b = none):a ≠ b:=by
  intro e; subst e; rw [h] at h'; cases h'
section
variable (P:Program) (w:World)
def ObjOk (H:Hp) (h:Heap) (a:Addr):HO→Prop
  | .lst xs=>xs.length ≤ sizeLine∧∃ (its:List Value) (n:Nat),Vals xs its∧h.get? a = some { cls:=.type "list",data:=.seq its.toArray n }
  | .tup xs=>xs.length ≤ sizeLine∧∃ its:List Value,Vals xs its∧IsTup h a its.toArray
  | .dK kvs=>kvs.length ≤ sizeLine∧(a == sysModules) = false∧∃ vs,KV kvs vs∧h.DictOf (mixKind P w) a vs
  | .dT kvs=>kvs.length ≤ sizeLine∧(a == sysModules) = false∧∃ xs:List (List Key × Addr × Value),
      Paired (fun (p:List Key × V) (q:List Key × Addr × Value)=>p.1 = q.1∧H q.2.1 = some (.tup (p.1.map kV))∧RelV p.2 q.2.2) kvs xs∧
      ∃ o es ep,h.get? a = some o∧o.ExactDict∧o.data = .dict es ep∧es.toList = xs.map (entryOfKey (tupleKind (mixKind P w)))∧(xs.map (·.1)).Nodup
  | .set S n=>h.SetOf (intKind P w) a S n
  | .ins C dx fs=>H dx = some (.own a)∧fs.length ≤ 1000∧dx ≠ a∧h.get? a = some (PySem.W.instObj C dx)∧
      ∃ mA,h.Ns1 dx mA∧(∀ f,RelO (fs.lookup f) (mA f))∧PySem.Within mA (fs.map (·.1))
  | .own _=>∃ o,h.get? a = some o
  | .xd fs=>∃ mA,h.Ns1 a mA∧∀ f,RelO (fs.lookup f) (mA f)
  | .rng lo hi=>∃ t u v,h.get? a = some { cls:=.type "range",data:=.fields #[.int lo t,.int hi u,.int 1 v] }
  | .frz o u=>h.get? a = some o∧ObjOk H h a u
  | .tbl ps=>h.get? a = some { cls:=.none,data:=.fields ps }
  | .met f x=>h.get? a = some (PySem.W.methodObj (.ref f) (.ref x))
  | .ext φ=>φ h∧(∃ o,h.get? a = some o)∧∀ h1 h2:Heap,φ h1→(∀ o,h1.get? a = some o→h2.get? a = some o)→φ h2
def HOk (H:Hp) (h:Heap):Prop:=∀ a o,H a = some o→ObjOk P w H h a o
end
section
variable {P:Program} {w:World} {H H':Hp} {h h':Heap} {a:Addr} {o:HO}
theorem ObjOk.lt (x:ObjOk P w H h a o):a < h.objs.size:=by
  cases o with
  | lst xs=>obtain ⟨_,_,_,_,e⟩:=x; exact Heap.lt_size e
  | tup xs=>obtain ⟨_,_,_,p⟩:=x; exact p.lt
  | dK kvs=>obtain ⟨_,_,_,_,o,_,_,e,_⟩:=x; exact Heap.lt_size e
  | dT kvs=>obtain ⟨_,_,_,_,o,_,_,e,_⟩:=x; exact Heap.lt_size e
  | set S n=>obtain ⟨o,_,_,_,e,_⟩:=x; exact Heap.lt_size e
  | ins C dx fs=>obtain ⟨_,_,_,e,_⟩:=x; exact Heap.lt_size e
  | own y=>obtain ⟨_,e⟩:=x; exact Heap.lt_size e
  | xd fs=>obtain ⟨_,⟨_,_,_,e,_⟩,_⟩:=x; exact Heap.lt_size e
  | rng lo hi=>obtain ⟨_,_,_,e⟩:=x; exact Heap.lt_size e
  | frz ob u=>obtain ⟨e,_⟩:=x; exact Heap.lt_size e
  | tbl ps=>exact Heap.lt_size (show h.get? a = some _ from x)
  | met f y=>exact Heap.lt_size (show h.get? a = some _ from x)
  | ext φ=>obtain ⟨_,⟨_,e⟩,_⟩:=x; exact Heap.lt_size e
theorem Paired.mapP {α β:Type} {F G:α→β→Prop}:∀ {l₁:List α} {l₂:List β},Paired F l₁ l₂→(∀ a b,F a b→G a b)→Paired G l₁ l₂
  | _,_,.nil,_=>.nil
  | _,_,.cons r t,f=>.cons (f _ _ r) (Paired.mapP t f)
theorem ObjOk.stay (x:ObjOk P w H h a o) (k:∀ b u,(b = a ∨ H b = some (.own a))→h.get? b = some u→h'.get? b = some u)
    (ho:∀ b,H b = some (.own a)→H' b = some (.own a)) (ht:∀ b xs,H b = some (.tup xs)→H' b = some (.tup xs)):ObjOk P w H' h' a o:=by
  induction o with
  | lst xs=>obtain ⟨z,its,n,r,e⟩:=x; exact ⟨z,its,n,r,k _ _ (.inl rfl) e⟩
  | tup xs=>obtain ⟨z,its,r,ob,e,c⟩:=x; exact ⟨z,its,r,ob,k _ _ (.inl rfl) e,c⟩
  | dK kvs=>obtain ⟨z,y,vs,r,ob,es,ep,e,c⟩:=x; exact ⟨z,y,vs,r,ob,es,ep,k _ _ (.inl rfl) e,c⟩
  | dT kvs=>
    obtain ⟨z,y,xs,r,ob,es,ep,e,c⟩:=x
    exact ⟨z,y,xs,Paired.mapP r fun p q z=>⟨z.1,ht _ _ z.2.1,z.2.2⟩,ob,es,ep,k _ _ (.inl rfl) e,c⟩
  | set S n=>obtain ⟨ob,es,ep,t,e,c⟩:=x; exact ⟨ob,es,ep,t,k _ _ (.inl rfl) e,c⟩
  | ins C dx fs=>
    obtain ⟨d,z,ne,e,mA,⟨od,es,ep,e2,c⟩,r⟩:=x
    exact ⟨ho _ d,z,ne,k _ _ (.inl rfl) e,mA,⟨od,es,ep,k _ _ (.inr d) e2,c⟩,r⟩
  | own y=>obtain ⟨ob,e⟩:=x; exact ⟨ob,k _ _ (.inl rfl) e⟩
  | xd fs=>obtain ⟨mA,⟨od,es,ep,e,c⟩,r⟩:=x; exact ⟨mA,⟨od,es,ep,k _ _ (.inl rfl) e,c⟩,r⟩
  | rng lo hi=>obtain ⟨t,u,v,e⟩:=x; exact ⟨t,u,v,k _ _ (.inl rfl) e⟩
  | frz ob u ih=>obtain ⟨e,q⟩:=x; exact ⟨k _ _ (.inl rfl) e,ih q⟩
  | tbl ps=>
    have e:h.get? a = some { cls:=.none,data:=.fields ps }:=x
    show h'.get? a = some { cls:=.none,data:=.fields ps }
    exact k a _ (.inl rfl) e
  | met f y=>
    have e:h.get? a = some (PySem.W.methodObj (.ref f) (.ref y)):=x
    show h'.get? a = some (PySem.W.methodObj (.ref f) (.ref y))
    exact k a _ (.inl rfl) e
  | ext φ=>obtain ⟨p,⟨o,e⟩,st⟩:=x; exact ⟨st _ _ p fun o q=>k _ _ (.inl rfl) q,⟨o,k _ _ (.inl rfl) e⟩,st⟩
theorem HOk.lt (x:HOk P w H h) (e:H a = some o):a < h.objs.size:=(x a o e).lt
theorem HOk.fresh (x:HOk P w H h) (e:h.objs.size ≤ a):H a = none:=by
  cases q:H a with
  | none=>rfl
  | some u=>exact absurd (Nat.lt_of_lt_of_le (x.lt q) e) (Nat.lt_irrefl _)
theorem HOk.kept (x:HOk P w H h) (k:∀ b u,h.get? b = some u→h'.get? b = some u):HOk P w H h':=fun a o e=>
  (x a o e).stay (fun b u _ q=>k b u q) (fun _ q=>q) fun _ _ q=>q
theorem HOk.laid (x:HOk P w H h) (k:∀ b u,h.get? b = some u→h'.get? b = some u) (hp:h.objs.size ≤ a) (new:ObjOk P w (upd H a o) h' a o):HOk P w (upd H a o) h':=fun b u e=>by
  have hn:=x.fresh hp
  by_cases hb:b = a
  · subst hb; rw [upd_same] at e; cases e; exact new
  · rw [upd_ne hb] at e
    exact (x b u e).stay (fun c v _ q=>k c v q) (fun c q=>by rw [upd_ne (ne_of_none q hn)]; exact q) fun c xs q=>by rw [upd_ne (ne_of_none q hn)]; exact q
end
def Rd (H:Hp) (a:Addr) (u:HO):Prop:=H a = some u ∨ ∃ o,H a = some (.frz o u)
theorem Rd.ok {P:Program} {w:World} {H:Hp} {h:Heap} {a:Addr} {u:HO} (r:Rd H a u) (x:HOk P w H h):ObjOk P w H h a u:=by
  rcases r with r | ⟨o,r⟩
  · exact x a u r
  · obtain ⟨_,q⟩:=x a _ r
    exact q
def Mut:Option HO→Prop
  | some (.lst _)=>True
  | some (.dK _)=>True
  | some (.dT _)=>True
  | some (.set _ _)=>True
  | some (.ins _ _ _)=>True
  | some (.ext _)=>True
  | _=>False
section
variable {P:Program} {w:World} {H:Hp} {h h':Heap} {x e:Addr} {o':HO}
theorem HOk.write (ok:HOk P w H h) (mu:Mut (H x)) (he:e = x ∨ H e = some (.own x)) (k:∀ b u,b ≠ e→h.get? b = some u→h'.get? b = some u) (heo:∃ u,h'.get? e = some u)
    (new:ObjOk P w (upd H x o') h' x o'):HOk P w (upd H x o') h':=fun b u q=>by
  have nown:∀ c y,H c = some (.own y)→c ≠ x:=fun c y r z=>by subst z; rw [r] at mu; exact mu
  have ntup:∀ c xs,H c = some (.tup xs)→c ≠ x:=fun c xs r z=>by subst z; rw [r] at mu; exact mu
  by_cases hb:b = x
  · subst hb; rw [upd_same] at q; cases q; exact new
  · rw [upd_ne hb] at q
    by_cases hbe:b = e
    · have q':H b = some (.own x):=by
        rcases he with z | z
        · exact absurd (hbe.trans z) hb
        · rw [hbe]; exact z
      rw [q] at q'; cases q'
      obtain ⟨v,hv⟩:=heo
      exact ⟨v,by rw [hbe]; exact hv⟩
    · refine (ok b u q).stay (fun c v hc r=>k c v ?_ r) (fun c r=>by rw [upd_ne (nown c b r)]; exact r) fun c xs r=>by rw [upd_ne (ntup c xs r)]; exact r
      rcases hc with rfl | hc
      · exact hbe
      · rintro rfl
        rcases he with z | z
        · exact nown c b hc z
        · rw [hc] at z; cases z; exact hb rfl
end
structure Un (fs ex:List Addr) (H H':Hp) (h h':Heap):Prop where
  keep:∀ b o,h.get? b = some o→H b = none→b ∉ fs→b ∉ ex→h'.get? b = some o
  slot:∀ b o,h.get? b = some o→H b = none→b ∈ fs→b ∉ ex→∃ sl,h'.get? b = some { o with slots:=sl }
  free:∀ b o,h.get? b = some o→H b = none→b ∉ ex→H' b = none
  there:∀ b o,h.get? b = some o→b ∉ ex→∃ o',h'.get? b = some o'
  tups:∀ b xs,H b = some (.tup xs)→H' b = some (.tup xs)
  frzs:∀ b o u,H b = some (.frz o u)→H' b = some (.frz o u)
  tbls:∀ b ps,H b = some (.tbl ps)→∃ more,H' b = some (.tbl (ps ++ more))
section
variable {fs fs' ex ex':List Addr} {H H1 H2:Hp} {h h1 h2 h':Heap} {a x e:Addr} {o:HO}
theorem Un.any (u:Un fs ex H H1 h h1) {b:Addr} {ob:Obj} (q:h.get? b = some ob) (n:H b = none) (hx:b ∉ ex):∃ sl,h1.get? b = some { ob with slots:=sl }:=by
  by_cases hb:b ∈ fs
  · exact u.slot b ob q n hb hx
  · exact ⟨ob.slots,u.keep b ob q n hb hx⟩
theorem Un.kept (k:∀ b u,h.get? b = some u→h'.get? b = some u):Un fs ex H H h h':=
  ⟨fun b ob q _ _ _=>k b ob q,fun b ob q _ _ _=>⟨ob.slots,k b ob q⟩,fun _ _ _ n _=>n,fun b ob q _=>⟨ob,k b ob q⟩,fun _ _ q=>q,fun _ _ _ q=>q,fun _ ps q=>⟨#[],by rw [q]; simp⟩⟩
theorem Un.refl:Un fs ex H H h h:=Un.kept fun _ _ q=>q
theorem Un.laid (k:∀ b u,h.get? b = some u→h'.get? b = some u) (hp:h.objs.size ≤ a) (hn:H a = none):Un fs ex H (upd H a o) h h' where
  keep:=fun b u q _ _ _=>k b u q
  slot:=fun b u q _ _ _=>⟨u.slots,k b u q⟩
  free:=fun b u q n _=>by rw [upd_ne (Nat.ne_of_lt (Nat.lt_of_lt_of_le (Heap.lt_size q) hp))]; exact n
  there:=fun b u q _=>⟨u,k b u q⟩
  tups:=fun b xs q=>by rw [upd_ne (ne_of_none q hn)]; exact q
  frzs:=fun b u xs q=>by rw [upd_ne (ne_of_none q hn)]; exact q
  tbls:=fun b ps q=>⟨#[],by rw [upd_ne (ne_of_none q hn),q]; simp⟩
theorem Un.write (mu:Mut (H x)) (he:e = x ∨ H e = some (.own x)) (k:∀ b u,b ≠ e→h.get? b = some u→h'.get? b = some u) (heo:∃ u,h'.get? e = some u):Un fs ex H (upd H x o) h h':=by
  have hx:∀ b,H b = none→b ≠ x:=fun b n z=>by subst z; rw [n] at mu; exact mu
  have hb:∀ b,H b = none→b ≠ e:=fun b n z=>by
    subst z
    rcases he with r | r
    · exact hx b n r
    · rw [n] at r; cases r
  have hm:∀ b u,H b = some u→¬ Mut (some u)→b ≠ x:=fun b u q nm z=>by subst z; rw [q] at mu; exact nm mu
  refine ⟨fun b u q n _ _=>k b u (hb b n) q,fun b u q n _ _=>⟨u.slots,k b u (hb b n) q⟩,fun b u q n _=>by rw [upd_ne (hx b n)]; exact n,fun b u q _=>?_,
    fun b xs q=>by rw [upd_ne (hm b _ q fun z=>z)]; exact q,fun b u xs q=>by rw [upd_ne (hm b _ q fun z=>z)]; exact q,fun b ps q=>⟨#[],by rw [upd_ne (hm b _ q fun z=>z),q]; simp⟩⟩
  by_cases hbe:b = e
  · subst hbe; exact heo
  · exact ⟨u,k b u hbe q⟩
end
def trk (h:Heap) (H:Hp):List Addr:=(List.range h.objs.size).filter fun a=>(H a).isSome
def hidT (h:Heap) (H:Hp):Heap:=PySem.W.hideAll h (trk h H)
theorem hidT_size (h:Heap) (H:Hp):(hidT h H).objs.size = h.objs.size:=PySem.W.hideAll_size _ _
theorem hidT_get {h:Heap} {H:Hp} {b:Addr} {o:Obj} (e:h.get? b = some o) (n:H b = none):(hidT h H).get? b = some o:=
  PySem.W.hideAll_get _ e fun hm=>by
    have q:(H b).isSome = true:=(List.mem_filter.mp hm).2
    rw [n] at q; simp at q
theorem of_hidT {h:Heap} {H:Hp} {b:Addr} {o:Obj} (e:(hidT h H).get? b = some o):h.get? b = some o∧H b = none:=by
  have e':h.get? b = some o:=PySem.W.of_hideAll (trk h H) e
  refine ⟨e',?_⟩
  cases q:H b with
  | none=>rfl
  | some x=>
    have hm:b ∈ trk h H:=List.mem_filter.mpr ⟨List.mem_range.mpr (Heap.lt_size e'),by simp [q]⟩
    have z:(hidT h H).get? b = none:=PySem.W.hideAll_none (trk h H) hm
    rw [z] at e; cases e
structure Mod (K:PySem.W.Frag) (mg:Str→Option Value) (base:Heap):Prop where
  kin:K.In base
  glob:base.Ns mainGlobals mg
  blt:∃ mb,base.Ns builtinsNs mb∧∀ x:Str,x ≠ "__name__"→mb x = bootBuiltins x
  nolimit:base.NoLimit
structure Cx where
  prog:Program
  w:World
  K:PySem.W.Frag
  mg:Str→Option Value
  base:Heap
  A:Around
  N:List Str
  s₀:Shared
  H₀:Hp
  env:Env
  outer:List Env
  stack:List Env
  ex:List Addr
  fn:Str→Bool
  calm:Bool
  pn:List (Addr × Obj)
  xe:Value→Shared→Prop
def frs (l:List Env):List Addr:=l.filterMap (·.frame)
abbrev Cx.fs (X:Cx):List Addr:=frs X.outer
def Vis (sc:Scope) (x:Str):Prop:=sc.names.lookup x = some .local ∨ sc.names.lookup x = some .cell ∨ sc.names.lookup x = some .free
def Loc (sc:Scope) (x:Str):Prop:=sc.names.lookup x = some .local ∨ sc.names.lookup x = some .cell
def Look (env:Env) (h:Heap) (m:Str→Option Value) (x:Str) (u:Value):Prop:=
  (env.kindOf x = some .local∧m x = some u) ∨ ((env.kindOf x = some .cell ∨ env.kindOf x = some .free)∧∃ c,env.cells.lookup x = some c∧h.IsCell c (some u))
structure Cx.Ok (X:Cx):Prop where
  mod:Mod X.K X.mg X.base
  kind:X.env.scope.kind = .function
  glob:X.env.globals = mainGlobals
  blt:X.env.builtins = builtinsNs
  above:X.s₀.heap.objs.size ≤ X.env.locals
  inj:∀ x y c,X.env.cells.lookup x = some c→X.env.cells.lookup y = some c→x = y
  has:∀ x,(X.env.kindOf x = some .cell ∨ X.env.kindOf x = some .free)→∃ c,X.env.cells.lookup x = some c
  cab:∀ x c,X.fn x = true→X.env.cells.lookup x = some c→X.s₀.heap.objs.size ≤ c
  hd:X.calm = true→X.A.handled = none
  frames:X.A.frames = some X.stack
  stk:X.stack = X.outer ∨ (X.stack = X.env :: X.outer∧X.env.frame = some X.env.locals)
  exf:∀ b ∈ X.ex,b ≠ X.env.locals∧∀ x c,X.env.cells.lookup x = some c→c ≠ b
  bs:∀ b o,X.base.get? b = some o→X.s₀.heap.get? b = some o∧X.H₀ b = none
  bsz:X.base.objs.size ≤ X.s₀.heap.objs.size
  noex:∀ b o,X.base.get? b = some o→b ∉ X.ex
  exfs:∀ b ∈ X.ex,b ∉ X.fs
  funs:X.s₀.heap.FunFrames X.base X.outer
  frf:∀ b ∈ X.fs,X.H₀ b = none
structure Inv (X:Cx) (pins:List (Addr × Obj)) (σ:List (Option V)) (H:Hp) (s:Shared):Prop where
  ok:X.Ok
  os:s.os = X.s₀.os
  bare:AllBare s.gens
  base:Un X.fs X.ex X.H₀ H X.s₀.heap s.heap
  loc:∃ m,s.heap.Ns X.env.locals m∧∀ (i:Nat) (x:Str) (v:V),X.N[i]? = some x→σ[i]? = some (some v)→Vis X.env.scope x→∃ u,RelV v u∧Look X.env s.heap m x u
  cell:∀ x c,X.env.cells.lookup x = some c→∃ v,s.heap.IsCell c v
  free:H X.env.locals = none
  freeC:∀ x c,X.env.cells.lookup x = some c→H c = none
  pin:∀ p ∈ X.pn ++ pins,s.heap.get? p.1 = some p.2∧H p.1 = none∧p.1 ≠ X.env.locals∧p.1 ∉ X.fs∧∀ v,p.2.data ≠ .cell v
  hok:HOk X.prog X.w H s.heap
  len:σ.length = X.N.length
section
variable {X:Cx} {pins:List (Addr × Obj)} {σ:List (Option V)} {H H':Hp} {s:Shared} {h':Heap}
theorem Cx.Ok.nofr (ok:X.Ok) {b:Addr} {o:Obj} (e:X.base.get? b = some o):b ∉ X.fs:=fun hb=>by
  have:=(ok.funs.mem hb).1
  rw [e] at this; cases this
theorem Inv.bs (I:Inv X pins σ H s):∀ b o,X.base.get? b = some o→s.heap.get? b = some o∧H b = none:=fun b o e=>
  ⟨I.base.keep b o (I.ok.bs b o e).1 (I.ok.bs b o e).2 (I.ok.nofr e) (I.ok.noex b o e),I.base.free b o (I.ok.bs b o e).1 (I.ok.bs b o e).2 (I.ok.noex b o e)⟩
theorem Inv.bk (I:Inv X pins σ H s):∀ b o,X.base.get? b = some o→s.heap.get? b = some o:=fun b o e=>(I.bs b o e).1
theorem Inv.mod (I:Inv X pins σ H s):Mod X.K X.mg X.base:=I.ok.mod
theorem Inv.kIn (I:Inv X pins σ H s):X.K.In s.heap:=I.ok.mod.kin.keeps I.bk
theorem Inv.lt (I:Inv X pins σ H s):X.env.locals < s.heap.objs.size:=let ⟨_,hn,_⟩:=I.loc; hn.lt
theorem Inv.sz (I:Inv X pins σ H s):X.s₀.heap.objs.size ≤ s.heap.objs.size:=Nat.le_trans I.ok.above (Nat.le_of_lt I.lt)
theorem Inv.nofs (I:Inv X pins σ H s) {a:Addr} (h:s.heap.objs.size ≤ a):a ∉ X.fs:=fun hb=>by
  obtain ⟨_,o,ho,_⟩:=I.ok.funs.mem hb
  exact absurd (Nat.lt_of_lt_of_le (Heap.lt_size ho) (Nat.le_trans I.sz h)) (Nat.lt_irrefl _)
theorem Inv.cne (I:Inv X pins σ H s):∀ x c,X.env.cells.lookup x = some c→c ≠ X.env.locals:=fun x c e z=>by
  obtain ⟨v,o,ho,hd⟩:=I.cell x c e
  obtain ⟨m,⟨o',es,ep,ho',hd',_⟩,_⟩:=I.loc
  rw [z,ho'] at ho; cases ho; rw [hd'] at hd; cases hd
theorem Inv.funs (I:Inv X pins σ H s):s.heap.FunFrames X.base X.outer:=by
  have all:∀ (l:List Env),(∀ b ∈ frs l,b ∈ X.fs)→X.s₀.heap.FunFrames X.base l→s.heap.FunFrames X.base l:=by
    intro l
    induction l with
    | nil=>intro _ _; trivial
    | cons env r ih=>
      intro hs hl
      obtain ⟨hk,⟨L,o,hf,hn,ho,hd⟩,hr⟩:=hl
      have hL:L ∈ X.fs:=hs L (by unfold frs; rw [List.filterMap_cons,hf]; exact List.mem_cons_self)
      obtain ⟨sl,e⟩:=I.base.slot L o ho (I.ok.frf L hL) hL fun z=>I.ok.exfs L z hL
      exact ⟨hk,⟨L,_,hf,hn,e,hd⟩,ih (fun b hb=>hs b (by unfold frs; rw [List.filterMap_cons,hf]; exact List.mem_cons_of_mem _ hb)) hr⟩
  exact all X.outer (fun _ hb=>hb) I.ok.funs
theorem Inv.stack (I:Inv X pins σ H s):s.heap.FunFrames X.base X.stack:=by
  rcases I.ok.stk with e | ⟨e,hf⟩
  · rw [e]; exact I.funs
  · rw [e]
    obtain ⟨m,hn,_⟩:=I.loc
    refine .cons (by rw [I.ok.kind]; decide) hf hn ?_ I.funs
    exact Heap.get?_none_of_le (Nat.le_trans I.ok.bsz I.ok.above)
theorem Inv.stkSub (I:Inv X pins σ H s):∀ b ∈ frs X.stack,b ∈ X.env.locals :: X.fs:=fun b hb=>by
  rcases I.ok.stk with e | ⟨e,hf⟩
  · rw [e] at hb; exact List.mem_cons_of_mem _ hb
  · rw [e] at hb
    unfold frs at hb
    rw [List.filterMap_cons,hf] at hb
    exact hb
theorem Inv.stkFree (I:Inv X pins σ H s):∀ b ∈ frs X.stack,H b = none:=fun b hb=>by
  rcases List.mem_cons.mp (I.stkSub b hb) with e | hb
  · rw [e]; exact I.free
  · obtain ⟨_,o,ho,_⟩:=I.ok.funs.mem hb
    exact I.base.free b o ho (I.ok.frf b hb) fun z=>I.ok.exfs b z hb
theorem Inv.step {g':Array GenState} {t':Nat} {d':Drawn} {ch:List Addr} (I:Inv X pins σ H s)
    (hch:∀ b ∈ ch,(b ∈ X.ex ∨ X.s₀.heap.objs.size ≤ b)∧b ≠ X.env.locals∧(∀ x c,X.env.cells.lookup x = some c→c ≠ b)∧∀ p ∈ X.pn ++ pins,p.1 ≠ b)
    (keep:∀ b o,b ≠ X.env.locals→b ∉ X.fs→b ∉ ch→s.heap.get? b = some o→H b = none→h'.get? b = some o)
    (slot:∀ b o,b ≠ X.env.locals→b ∈ X.fs→b ∉ ch→s.heap.get? b = some o→H b = none→∃ sl,h'.get? b = some { o with slots:=sl }) (free:∀ b o,b ∉ ch→s.heap.get? b = some o→H b = none→H' b = none)
    (there:∀ b o,b ∉ ch→s.heap.get? b = some o→∃ o',h'.get? b = some o')
    (tups:∀ b xs,H b = some (.tup xs)→H' b = some (.tup xs)) (frzs:∀ b o u,H b = some (.frz o u)→H' b = some (.frz o u)) (tbls:∀ b ps,H b = some (.tbl ps)→∃ more,H' b = some (.tbl (ps ++ more)))
    (ns:∀ m,s.heap.Ns X.env.locals m→h'.Ns X.env.locals m) (hok:HOk X.prog X.w H' h') (hg:AllBare g') :
    Inv X pins σ H' { s with heap:=h',gens:=g',drawn:=d',toks:=t' }:=by
  have neL:∀ b o,X.s₀.heap.get? b = some o→b ≠ X.env.locals:=fun b o e=>Nat.ne_of_lt (Nat.lt_of_lt_of_le (Heap.lt_size e) I.ok.above)
  have neC:∀ b o,X.s₀.heap.get? b = some o→b ∉ X.ex→b ∉ ch:=fun b o e hx hb=>by
    rcases (hch b hb).1 with z | z
    · exact hx z
    · exact absurd (Nat.lt_of_lt_of_le (Heap.lt_size e) z) (Nat.lt_irrefl _)
  have cellK:∀ x c,X.env.cells.lookup x = some c→∀ v,s.heap.IsCell c v→h'.IsCell c v:=fun x c e v ⟨o,ho,hd⟩=>by
    have nch:c ∉ ch:=fun z=>(hch c z).2.2.1 x c e rfl
    by_cases hc:c ∈ X.fs
    · obtain ⟨sl,q⟩:=slot c o (I.cne x c e) hc nch ho (I.freeC x c e)
      exact ⟨_,q,hd⟩
    · exact ⟨o,keep c o (I.cne x c e) hc nch ho (I.freeC x c e),hd⟩
  refine ⟨I.ok,I.os,hg,⟨fun b o e n hb hx=>?_,fun b o e n hb hx=>?_,fun b o e n hx=>?_,fun b o e hx=>?_,fun b xs e=>tups b xs (I.base.tups b xs e),fun b o xs e=>frzs b o xs (I.base.frzs b o xs e),fun b ps e=>?_⟩,?_,fun x c e=>?_,?_,fun x c e=>?_,fun p hp=>?_,hok,I.len⟩
  · exact keep b o (neL b o e) hb (neC b o e hx) (I.base.keep b o e n hb hx) (I.base.free b o e n hx)
  · obtain ⟨sl,e1⟩:=I.base.slot b o e n hb hx
    obtain ⟨sl',e2⟩:=slot b _ (neL b o e) hb (neC b o e hx) e1 (I.base.free b o e n hx)
    exact ⟨sl',e2⟩
  · obtain ⟨o',e1⟩:=I.base.there b o e hx
    exact free b o' (neC b o e hx) e1 (I.base.free b o e n hx)
  · obtain ⟨o',e1⟩:=I.base.there b o e hx
    exact there b o' (neC b o e hx) e1
  · obtain ⟨m1,e1⟩:=I.base.tbls b ps e
    obtain ⟨m2,e2⟩:=tbls b _ e1
    exact ⟨m1 ++ m2,by rw [e2,Array.append_assoc]⟩
  · obtain ⟨m,hn,hl⟩:=I.loc
    refine ⟨m,ns m hn,fun i x v e1 e2 e3=>?_⟩
    obtain ⟨u,r,l⟩:=hl i x v e1 e2 e3
    refine ⟨u,r,?_⟩
    rcases l with l | ⟨k,c,e,z⟩
    · exact .inl l
    · exact .inr ⟨k,c,e,cellK x c e _ z⟩
  · obtain ⟨v,z⟩:=I.cell x c e
    exact ⟨v,cellK x c e v z⟩
  · obtain ⟨m,⟨o,_,_,ho,_⟩,_⟩:=I.loc
    exact free _ o (fun z=>(hch _ z).2.1 rfl) ho I.free
  · obtain ⟨v,o,ho,hd⟩:=I.cell x c e
    exact free c o (fun z=>(hch c z).2.2.1 x c e rfl) ho (I.freeC x c e)
  · obtain ⟨e,n,ne,nf,d⟩:=I.pin p hp
    have nch:p.1 ∉ ch:=fun z=>(hch p.1 z).2.2.2 p hp rfl
    exact ⟨keep p.1 p.2 ne nf nch e n,free p.1 p.2 nch e n,ne,nf,d⟩
theorem Inv.un {t':Nat} (I:Inv X pins σ H s) (u:Un X.fs [] H H' s.heap h') (hok:HOk X.prog X.w H' h'):Inv X pins σ H' { s with heap:=h',toks:=t' }:=by
  obtain ⟨m,⟨o,es,ep,ho,r⟩,_⟩:=id I.loc
  obtain ⟨sl,hL⟩:=u.any ho I.free (by simp)
  exact I.step (g':=s.gens) (d':=s.drawn) (ch:=[]) (fun _ z=>nomatch z) (fun b o _ hb _ e n=>u.keep b o e n hb (by simp)) (fun b o _ hb _ e n=>u.slot b o e n hb (by simp)) (fun b o _ e n=>u.free b o e n (by simp)) (fun b o _ e=>u.there b o e (by simp)) u.tups u.frzs u.tbls (fun m' hm=>by
    obtain ⟨o',es',ep',ho',r'⟩:=hm
    rw [ho] at ho'; cases ho'
    exact ⟨_,es',ep',hL,r'⟩) hok I.bare
theorem Inv.call {g':Array GenState} {t':Nat} {d':Drawn} {ch:List Addr} (I:Inv X pins σ H s) (u:Un (frs X.stack) ch H H' s.heap h') (hok:HOk X.prog X.w H' h') (hg:AllBare g')
    (hch:∀ b ∈ ch,(b ∈ X.ex ∨ X.s₀.heap.objs.size ≤ b)∧b ≠ X.env.locals∧(∀ x c,X.env.cells.lookup x = some c→c ≠ b)∧∀ p ∈ X.pn ++ pins,p.1 ≠ b) :
    Inv X pins σ H' { s with heap:=h',gens:=g',drawn:=d',toks:=t' }:=by
  obtain ⟨m,⟨o,es,ep,ho,r⟩,_⟩:=id I.loc
  obtain ⟨sl,hL⟩:=u.any ho I.free fun z=>(hch _ z).2.1 rfl
  exact I.step (ch:=ch) hch (fun b o hL hb hc e n=>u.keep b o e n (fun z=>(List.mem_cons.mp (I.stkSub b z)).elim hL hb) hc) (fun b o _ _ hc e n=>u.any e n hc) (fun b o hc e n=>u.free b o e n hc) (fun b o hc e=>u.there b o e hc) u.tups u.frzs u.tbls (fun m' hm=>by
    obtain ⟨o',es',ep',ho',r'⟩:=hm
    rw [ho] at ho'; cases ho'
    exact ⟨_,es',ep',hL,r'⟩) hok hg
theorem Inv.turned {t':Nat} {it:Addr} (I:Inv X pins σ H s) (k:∀ b o,b ≠ it→s.heap.get? b = some o→h'.get? b = some o) (hn:H it = none) (hL:it ≠ X.env.locals)
    (h1:it ∈ X.ex ∨ X.s₀.heap.objs.size ≤ it) (h2:∀ x c,X.env.cells.lookup x = some c→c ≠ it) (h3:∀ p ∈ X.pn ++ pins,p.1 ≠ it):Inv X pins σ H { s with heap:=h',toks:=t' }:=by
  have nit:∀ b u,H b = some u→b ≠ it:=fun b u e z=>by rw [z,hn] at e; cases e
  refine I.step (g':=s.gens) (d':=s.drawn) (ch:=[it]) (fun b hb=>?_) (fun b o _ _ hc e _=>k b o (fun z=>hc (by simp [z])) e) (fun b o _ _ hc e _=>⟨o.slots,k b o (fun z=>hc (by simp [z])) e⟩) (fun _ _ _ _ n=>n)
    (fun b o hc e=>⟨o,k b o (fun z=>hc (by simp [z])) e⟩) (fun _ _ e=>e) (fun _ _ _ e=>e) (fun b ps e=>⟨#[],by rw [e]; simp⟩) (fun m hm=>?_) (fun b u e=>?_) I.bare
  · have e:b = it:=by simpa using hb
    subst e
    exact ⟨h1,hL,h2,h3⟩
  · obtain ⟨o,es,ep,ho,r⟩:=hm
    exact ⟨o,es,ep,k _ o (Ne.symm hL) ho,r⟩
  · refine (I.hok b u e).stay (fun c v hc q=>k c v ?_ q) (fun _ q=>q) fun _ _ q=>q
    rcases hc with z | z
    · rw [z]; exact nit b u e
    · exact nit c _ z
theorem Inv.tok (I:Inv X pins σ H s) (t:Nat):Inv X pins σ H { s with toks:=t }:=I.un (h':=s.heap) (t':=t) Un.refl I.hok
theorem Inv.kept {t':Nat} (I:Inv X pins σ H s) (k:∀ b u,s.heap.get? b = some u→h'.get? b = some u):Inv X pins σ H { s with heap:=h',toks:=t' }:=I.un (Un.kept k) (I.hok.kept k)
theorem Inv.laid {a:Addr} {o:HO} {t':Nat} (I:Inv X pins σ H s) (k:∀ b u,s.heap.get? b = some u→h'.get? b = some u) (hp:s.heap.objs.size ≤ a) (new:ObjOk X.prog X.w (upd H a o) h' a o) :
    Inv X pins σ (upd H a o) { s with heap:=h',toks:=t' }:=I.un (Un.laid k hp (I.hok.fresh hp)) (I.hok.laid k hp new)
theorem Inv.write {x e:Addr} {o:HO} {t':Nat} (I:Inv X pins σ H s) (mu:Mut (H x)) (he:e = x ∨ H e = some (.own x)) (k:∀ b u,b ≠ e→s.heap.get? b = some u→h'.get? b = some u) (heo:∃ u,h'.get? e = some u)
    (new:ObjOk X.prog X.w (upd H x o) h' x o):Inv X pins σ (upd H x o) { s with heap:=h',toks:=t' }:=I.un (Un.write mu he k heo) (I.hok.write mu he k heo new)
theorem Inv.weak {σ':List (Option V)} (I:Inv X pins σ H s) (hl:σ'.length = σ.length) (w:∀ (i:Nat) v,σ'[i]? = some (some v)→σ[i]? = some (some v)):Inv X pins σ' H s:=
  ⟨I.ok,I.os,I.bare,I.base,let ⟨m,hn,hl'⟩:=I.loc; ⟨m,hn,fun i x v e1 e2 e3=>hl' i x v e1 (w i v e2) e3⟩,I.cell,I.free,I.freeC,I.pin,I.hok,hl.trans I.len⟩
theorem Inv.pins_of {pins':List (Addr × Obj)} (I:Inv X pins σ H s) (h:∀ p ∈ pins',s.heap.get? p.1 = some p.2∧H p.1 = none∧p.1 ≠ X.env.locals∧p.1 ∉ X.fs∧∀ v,p.2.data ≠ .cell v):Inv X pins' σ H s:=
  ⟨I.ok,I.os,I.bare,I.base,I.loc,I.cell,I.free,I.freeC,fun p hp=>(List.mem_append.mp hp).elim (fun z=>I.pin p (List.mem_append_left _ z)) (h p),I.hok,I.len⟩
theorem nodup_ix {N:List Str} (hN:N.Nodup) {i j:Nat} {x:Str} (a:N[i]? = some x) (b:N[j]? = some x):i = j:=by
  obtain ⟨h1,e1⟩:=List.getElem?_eq_some_iff.mp a
  obtain ⟨h2,e2⟩:=List.getElem?_eq_some_iff.mp b
  exact (List.getElem_inj hN).mp (e1.trans e2.symm)
theorem store_ok2 {M:Model} {A:Around} {E:Value→Shared→Prop} {i:Nat} {x:Str} {v:V} {u:Value} {Q:Unit→Shared→Prop} (I:Inv X pins σ H s) (hN:X.N.Nodup) (hi:X.N[i]? = some x) (hx:Loc X.env.scope x) (r:RelV v u)
    (h:∀ s',Inv X pins (σ.set i (some v)) H s'→(∃ a,Heap.SameBut a s.heap s'.heap∧(a = X.env.locals ∨ X.env.cells.lookup x = some a))→Q () s') (hf:X.fn x = true ∨ X.env.scope.names.lookup x = some .local:=by first | exact .inl rfl | exact .inr rfl | assumption):wpAny M A (storeName X.env x u) Q E s:=by
  obtain ⟨m,hn,hl⟩:=id I.loc
  have hcls:(X.env.scope.kind == .class || (X.env.scope.kind == .module && X.env.locals != X.env.globals)) = false:=by rw [I.ok.kind]; rfl
  have hiσ:i < σ.length:=by rw [I.len]; exact (List.getElem?_eq_some_iff.mp hi).1
  have cne:=I.cne
  have tracked:∀ {a:Addr} {h':Heap},(∃ o,s.heap.get? a = some o∧H a = none)→Heap.SameBut a s.heap h'→HOk X.prog X.w H h':=fun {a h'} ha hs b ob e=>by
    obtain ⟨_,_,hfree⟩:=ha
    refine (I.hok b ob e).stay (fun c w' hc q=>(hs.2 c ?_).trans q) (fun _ q=>q) fun _ _ q=>q
    rintro rfl
    rcases hc with rfl | hc
    · rw [hfree] at e; cases e
    · rw [hfree] at hc; cases hc
  rcases hx with hk | hk
  · refine wpAny_storeName_local hk hn (fun h' hn' hs=>?_) hcls
    obtain ⟨oL,_,_,hoL,_⟩:=id hn
    refine h _ ⟨I.ok,I.os,I.bare,⟨fun b o e n hb hx=>?_,fun b o e n hb hx=>?_,I.base.free,fun b o e hx=>?_,I.base.tups,I.base.frzs,I.base.tbls⟩,⟨_,hn',fun j y v' e1 e2 e3=>?_⟩,fun y c e=>?_,I.free,I.freeC,fun p hp=>?_,tracked ⟨oL,hoL,I.free⟩ hs,by simpa using I.len⟩ ⟨_,hs,.inl rfl⟩
    · exact (hs.2 b (Nat.ne_of_lt (Nat.lt_of_lt_of_le (Heap.lt_size e) I.ok.above))).trans (I.base.keep b o e n hb hx)
    · obtain ⟨sl,e1⟩:=I.base.slot b o e n hb hx
      exact ⟨sl,(hs.2 b (Nat.ne_of_lt (Nat.lt_of_lt_of_le (Heap.lt_size e) I.ok.above))).trans e1⟩
    · obtain ⟨o',e1⟩:=I.base.there b o e hx
      exact ⟨o',(hs.2 b (Nat.ne_of_lt (Nat.lt_of_lt_of_le (Heap.lt_size e) I.ok.above))).trans e1⟩
    · by_cases hj:j = i
      · subst hj
        rw [hi] at e1; cases e1
        rw [List.getElem?_set_self hiσ] at e2
        cases e2
        exact ⟨u,r,.inl ⟨hk,by simp⟩⟩
      · rw [List.getElem?_set_ne (Ne.symm hj)] at e2
        obtain ⟨u',r',q⟩:=hl j y v' e1 e2 e3
        refine ⟨u',r',?_⟩
        rcases q with ⟨k,e⟩ | ⟨k,c,e,z⟩
        · refine .inl ⟨k,?_⟩
          have:y ≠ x:=fun e=>hj (nodup_ix hN e1 (e ▸ hi))
          simp [this,e]
        · exact .inr ⟨k,c,e,z.sameBut hs (cne y c e)⟩
    · obtain ⟨w',z⟩:=I.cell y c e
      exact ⟨w',z.sameBut hs (cne y c e)⟩
    · obtain ⟨e,n,ne,nf,d⟩:=I.pin p hp
      exact ⟨(hs.2 p.1 ne).trans e,n,ne,nf,d⟩
  · have hfn:X.fn x = true:=by
      rcases hf with z | z
      · exact z
      · rw [z] at hk; cases hk
    obtain ⟨c,hc⟩:=I.ok.has x (.inl hk)
    obtain ⟨w',z⟩:=I.cell x c hc
    refine wpAny_storeName_cell I.ok.kind hk hc z (fun h' hc' hs=>?_)
    obtain ⟨oc,hoc,hocd⟩:=id z
    refine h { s with heap:=h' } ⟨I.ok,I.os,I.bare,⟨fun b o e n hb hx=>?_,fun b o e n hb hx=>?_,I.base.free,fun b o e hx=>?_,I.base.tups,I.base.frzs,I.base.tbls⟩,⟨m,hn.sameBut hs (Ne.symm (cne x c hc)),fun j y v' e1 e2 e3=>?_⟩,fun y c' e=>?_,I.free,I.freeC,fun p hp=>?_,tracked ⟨oc,hoc,I.freeC x c hc⟩ hs,by simpa using I.len⟩ ⟨c,hs,.inr hc⟩
    · exact (hs.2 b (Nat.ne_of_lt (Nat.lt_of_lt_of_le (Heap.lt_size e) (I.ok.cab x c hfn hc)))).trans (I.base.keep b o e n hb hx)
    · obtain ⟨sl,e1⟩:=I.base.slot b o e n hb hx
      exact ⟨sl,(hs.2 b (Nat.ne_of_lt (Nat.lt_of_lt_of_le (Heap.lt_size e) (I.ok.cab x c hfn hc)))).trans e1⟩
    · obtain ⟨o',e1⟩:=I.base.there b o e hx
      exact ⟨o',(hs.2 b (Nat.ne_of_lt (Nat.lt_of_lt_of_le (Heap.lt_size e) (I.ok.cab x c hfn hc)))).trans e1⟩
    · by_cases hj:j = i
      · subst hj
        rw [hi] at e1; cases e1
        rw [List.getElem?_set_self hiσ] at e2
        cases e2
        exact ⟨u,r,.inr ⟨.inl hk,c,hc,hc'⟩⟩
      · rw [List.getElem?_set_ne (Ne.symm hj)] at e2
        obtain ⟨u',r',q⟩:=hl j y v' e1 e2 e3
        refine ⟨u',r',?_⟩
        rcases q with q | ⟨k,c',e,z'⟩
        · exact .inl q
        · refine .inr ⟨k,c',e,z'.sameBut hs ?_⟩
          rintro rfl
          exact hj (nodup_ix hN e1 (I.ok.inj _ _ _ e hc ▸ hi))
    · by_cases hcc:c' = c
      · subst hcc; exact ⟨_,hc'⟩
      · obtain ⟨w2,z2⟩:=I.cell y c' e
        exact ⟨w2,z2.sameBut hs hcc⟩
    · obtain ⟨e,n,ne,nf,d⟩:=I.pin p hp
      refine ⟨(hs.2 p.1 ?_).trans e,n,ne,nf,d⟩
      intro q
      rw [q,hoc] at e
      have q':oc = p.2:=Option.some.inj e
      exact d w' (by rw [← q']; exact hocd)
theorem store_ok {M:Model} {A:Around} {E:Value→Shared→Prop} {i:Nat} {x:Str} {v:V} {u:Value} {Q:Unit→Shared→Prop} (I:Inv X pins σ H s) (hN:X.N.Nodup) (hi:X.N[i]? = some x) (hx:Loc X.env.scope x) (r:RelV v u)
    (h:∀ s',Inv X pins (σ.set i (some v)) H s'→Q () s') (hf:X.fn x = true ∨ X.env.scope.names.lookup x = some .local:=by first | exact .inl rfl | exact .inr rfl | assumption):wpAny M A (storeName X.env x u) Q E s:=
  store_ok2 I hN hi hx r (fun s' I' _=>h s' I') hf
theorem Inv.call' {s':Shared} {ch:List Addr} (I:Inv X pins σ H s) (ho:s'.os = s.os) (u:Un (frs X.stack) ch H H' s.heap s'.heap) (hok:HOk X.prog X.w H' s'.heap) (hg:AllBare s'.gens)
    (hch:∀ b ∈ ch,(b ∈ X.ex ∨ X.s₀.heap.objs.size ≤ b)∧b ≠ X.env.locals∧(∀ x c,X.env.cells.lookup x = some c→c ≠ b)∧∀ p ∈ X.pn ++ pins,p.1 ≠ b):Inv X pins σ H' s':=by
  obtain ⟨h',g',d',t',o'⟩:=s'
  have e:o' = s.os:=ho
  subst e
  exact I.call (g':=g') (t':=t') (d':=d') u hok hg hch
end
abbrev XK:=Value→Option Addr→Hp→Prop
abbrev St:=List (Option V)
abbrev VK:=V→Hp→Prop
abbrev TE:=St→Hp→VK→Prop
abbrev TT:=St→Hp→(Bool→Hp→Prop)→Prop
abbrev TA:=St→Hp→(List V→Hp→Prop)→Prop
structure Ends where
  nx:St→Hp→Prop
  rt:VK
  bk:St→Hp→Prop:=fun _ _=>False
  ct:St→Hp→Prop:=fun _ _=>False
abbrev TS:=Ends→St→Hp→Prop
def EP (X:Cx) (pins:List (Addr × Obj)) (σ:St) (Q:VK) (u:Value) (s':Shared):Prop:=∃ v H',Inv X pins σ H' s'∧RelV v u∧Q v H'
def TP (X:Cx) (pins:List (Addr × Obj)) (σ:St) (Q:Bool→Hp→Prop) (b:Bool) (s':Shared):Prop:=∃ H',Inv X pins σ H' s'∧Q b H'
def AP (X:Cx) (pins:List (Addr × Obj)) (σ:St) (Q:List V→Hp→Prop) (us:List Value) (s':Shared):Prop:=∃ vs H',Inv X pins σ H' s'∧Vals vs us∧Q vs H'
def SP (X:Cx) (pins:List (Addr × Obj)) (D:Ends) (f:Flow) (s':Shared):Prop:=
  match f with
  | .next=>∃ σ' H',Inv X pins σ' H' s'∧D.nx σ' H'
  | .brk=>∃ σ' H',Inv X pins σ' H' s'∧D.bk σ' H'
  | .cont=>∃ σ' H',Inv X pins σ' H' s'∧D.ct σ' H'
  | .ret u=>∃ v σ' H',Inv X pins σ' H' s'∧RelV v u∧D.rt v H'
def PE (X:Cx) (e:Expr) (t:TE):Prop:=
  ∀ (pins:List (Addr × Obj)) (s:Shared) (σ:St) (H:Hp) (Q:VK),Inv X pins σ H s→t σ H Q→wpAny (model X.prog X.w) X.A (eval e X.env) (EP X pins σ Q) X.xe s
def PT (X:Cx) (e:Expr) (t:TT):Prop:=
  ∀ (pins:List (Addr × Obj)) (s:Shared) (σ:St) (H:Hp) (Q:Bool→Hp→Prop),Inv X pins σ H s→t σ H Q→wpAny (model X.prog X.w) X.A (isTrue e X.env (eval e X.env)) (TP X pins σ Q) X.xe s
def PW (X:Cx) (e:Expr) (t:TT):Prop:=
  ∀ (whole:Sem Value) (pins:List (Addr × Obj)) (s:Shared) (σ:St) (H:Hp) (Q:Bool→Hp→Prop),Inv X pins σ H s→t σ H Q→wpAny (model X.prog X.w) X.A (isTrue e X.env whole) (TP X pins σ Q) X.xe s
theorem PW.pt {X:Cx} {e:Expr} {t:TT} (h:PW X e t):PT X e t:=h _
def PA (X:Cx) (es:List Expr) (t:TA):Prop:=
  ∀ (pos:Pos) (pins:List (Addr × Obj)) (s:Shared) (σ:St) (H:Hp) (Q:List V→Hp→Prop),Inv X pins σ H s→t σ H Q→wpAny (model X.prog X.w) X.A (spliced (backTo pos (starEach es X.env))) (AP X pins σ Q) X.xe s
def PS (X:Cx) (st:Stmt) (t:TS):Prop:=
  ∀ (pins:List (Addr × Obj)) (s:Shared) (σ:St) (H:Hp) (D:Ends),Inv X pins σ H s→t D σ H→wpAny (model X.prog X.w) X.A (exec st X.env) (SP X pins D) X.xe s
def PSs (X:Cx) (st:List Stmt) (t:TS):Prop:=
  ∀ (pins:List (Addr × Obj)) (s:Shared) (σ:St) (H:Hp) (D:Ends),Inv X pins σ H s→t D σ H→wpAny (model X.prog X.w) X.A (execs st X.env) (SP X pins D) X.xe s
theorem thn {α:Type} {t:Sem α} {Q Q':α→Shared→Prop} {M:Model} {A:Around} {E:Value→Shared→Prop} {s:Shared} (h:wpAny M A t Q E s) (hQ:∀ a s,Q a s→Q' a s):wpAny M A t Q' E s:=wpAny_mono h hQ fun _ _ x=>x
section
variable {X:Cx}
def tVar (i:Nat):TE:=fun σ H Q=>∃ v,σ[i]? = some (some v)∧Q v H
def tC (v:V):TE:=fun _ H Q=>Q v H
theorem pe_var {i : Nat} {x : Str} {pos : Pos} (hN : X.N[i]? = some x) (hv : Vis X.env.scope x) (hd : (x == ("__debug__" : Str)) = false := by decide) (hcd : (x == ("__classdict__" : Str)) = false := by decide) : PE X (.Name x pos) (tVar i) := by
  intro pins s σ H Q I h
  obtain ⟨v,e,h⟩:=h
  obtain ⟨m,hn,hl⟩:=I.loc
  obtain ⟨u,r,l⟩:=hl i x v hN e hv
  have fin:EP X pins σ Q u s:=⟨v,H,I,r,h⟩
  rcases l with ⟨hk,hm⟩ | ⟨hk,c,hc,hcell⟩
  · exact wpAny_Name (wpAny_loadName_local I.ok.kind hk hn hm fin) hd
  · rcases hk with hk | hk
    · exact wpAny_Name (wpAny_loadName_cell I.ok.kind hk hc hcell fin) hd
    · exact wpAny_Name (wpAny_loadName_free I.ok.kind hk hc hcell fin hcd) hd
theorem pe_int {i j pos}:PE X (.Constant (.int i) j pos) (tC (.int i)):=fun _ _ _ H _ I h=>wpAny_Constant_int ⟨.int i,H,I.tok _,⟨_,rfl⟩,h⟩
theorem pe_bl {b j pos}:PE X (.Constant (.bool b) j pos) (tC (.bl b)):=fun _ _ _ H _ I h=>Constant_bool ⟨.bl b,H,I,rfl,h⟩
theorem pe_str {x j pos}:PE X (.Constant (.str x) j pos) (tC (.str x)):=fun _ _ _ H _ I h=>Calls.Constant_str ⟨.str x,H,I.tok _,⟨_,rfl⟩,h⟩
def Gl (X:Cx) (x:Str):Prop:=X.env.kindOf x = some .globalImplicit
theorem ld_glob {E:Value→Shared→Prop} {pins:List (Addr × Obj)} {s:Shared} {σ:St} {H:Hp} {x:Str} {u:Value} {pos:Pos} {Q:Value→Shared→Prop} (I:Inv X pins σ H s) (hg:Gl X x) (hm:X.mg x = some u) (h:Q u s)
    (hd:(x == ("__debug__":Str)) = false:=by decide):wpAny (model X.prog X.w) X.A (eval (.Name x pos) X.env) Q E s:=
  Calls.Name_function_global I.ok.kind hg (Calls.loadGlobal_global (by rw [I.ok.glob]; exact I.mod.glob.keeps I.bk) hm h) hd
theorem ld_blt {E:Value→Shared→Prop} {pins:List (Addr × Obj)} {s:Shared} {σ:St} {H:Hp} {x:Str} {u:Value} {pos:Pos} {Q:Value→Shared→Prop} (I:Inv X pins σ H s) (hg:Gl X x) (hm:X.mg x = none) (hv:bootBuiltins x = some u) (h:Q u s)
    (hn : x ≠ "__name__" := by decide) (hd : (x == ("__debug__" : Str)) = false := by decide) : wpAny (model X.prog X.w) X.A (eval (.Name x pos) X.env) Q E s := by
  obtain ⟨mb,h1,h2⟩:=I.mod.blt
  exact Calls.Name_function_global I.ok.kind hg (Calls.loadGlobal_builtin (by rw [I.ok.glob]; exact I.mod.glob.keeps I.bk) hm (by rw [I.ok.blt]; exact h1.keeps I.bk) ((h2 x hn).trans hv) h) hd
theorem pe_glob {x:Str} {v:V} {u:Value} {pos:Pos} (hg:Gl X x) (hm:X.mg x = some u) (r:RelV v u) (hd:(x == ("__debug__":Str)) = false:=by decide):PE X (.Name x pos) (tC v):=
  fun _ _ _ H _ I h=>ld_glob I hg hm ⟨v,H,I,r,h⟩ hd
theorem pe_bltn {x : Str} {v : V} {u : Value} {pos : Pos} (hg : Gl X x) (hm : X.mg x = none) (hv : bootBuiltins x = some u) (r : RelV v u) (hn : x ≠ "__name__" := by decide) (hd : (x == ("__debug__" : Str)) = false := by decide) : PE X (.Name x pos) (tC v) :=
  fun _ _ _ H _ I h=>ld_blt I hg hm hv ⟨v,H,I,r,h⟩ hn hd
variable {a b:Expr} {ta tb:TE} {pos:Pos}
def tIsN (ta:TE):TE:=fun σ H Q=>ta σ H fun x H1=>Q (.bl (decide (x = .non))) H1
def tNotN (ta:TE):TE:=fun σ H Q=>ta σ H fun x H1=>Q (.bl (!decide (x = .non))) H1
def tB (t:TE):TT:=fun σ H Q=>t σ H fun x H1=>∃ c,x = .bl c∧Q c H1
theorem pt_val {e:Expr} {t:TE} (h:PE X e t) (he:∀ whole,isTrue e X.env whole = (do let v ← whole; standAt e.pos; holding [v] (truthy v)):=by intro _; rfl):PT X e (tB t):=by
  intro pins s σ H Q I hw
  refine isTrue_plain (thn (h pins s σ H _ I hw) fun v s1 ⟨x,H1,I1,r1,q1⟩=>?_) (he _)
  obtain ⟨d,rfl,q⟩:=q1
  cases r1
  exact wpAny_truthy_bool ⟨H1,I1,q⟩
variable {tA tB':TT} {rest:List Expr}
def tAnd (t u:TT):TT:=fun σ H Q=>t σ H fun c H1=>if c = true then u σ H1 Q else Q false H1
def tOr (t u:TT):TT:=fun σ H Q=>t σ H fun c H1=>if c = true then Q true H1 else u σ H1 Q
def tNot (t:TT):TT:=fun σ H Q=>t σ H fun c H1=>Q (!c) H1
theorem pw_and1 (ha:PT X a tA):PW X (.BoolOp .And [a] pos) tA:=by
  intro wh pins s σ H Q I h
  refine isTrue_and (thn (ha pins s σ H Q I h) fun c s1 e=>?_)
  cases c with
  | true=>exact isTrue_and_nil e
  | false=>exact e
theorem pw_or1 (ha:PT X a tA):PW X (.BoolOp .Or [a] pos) tA:=by
  intro wh pins s σ H Q I h
  refine isTrue_or (thn (ha pins s σ H Q I h) fun c s1 e=>?_)
  cases c with
  | false=>exact isTrue_or_nil e
  | true=>exact e
theorem pw_and (ha:PT X a tA) (hb:PW X (.BoolOp .And (b :: rest) pos) tB'):PW X (.BoolOp .And (a :: b :: rest) pos) (tAnd tA tB'):=by
  intro wh pins s σ H Q I h
  refine isTrue_and (thn (ha pins s σ H _ I h) fun c s1 ⟨H1,I1,q1⟩=>?_)
  cases c with
  | true=>exact hb wh pins s1 σ H1 Q I1 q1
  | false=>exact ⟨H1,I1,q1⟩
theorem pw_or (ha:PT X a tA) (hb:PW X (.BoolOp .Or (b :: rest) pos) tB'):PW X (.BoolOp .Or (a :: b :: rest) pos) (tOr tA tB'):=by
  intro wh pins s σ H Q I h
  refine isTrue_or (thn (ha pins s σ H _ I h) fun c s1 ⟨H1,I1,q1⟩=>?_)
  cases c with
  | true=>exact ⟨H1,I1,q1⟩
  | false=>exact hb wh pins s1 σ H1 Q I1 q1
theorem pt_not (ha:PT X a tA):PT X (.UnaryOp .Not a pos) (tNot tA):=by
  intro pins s σ H Q I h
  exact isTrue_not (ha pins s σ H (fun c H1=>Q (!c) H1) I h)
def tAndV (ta tb:TE):TE:=fun σ H Q=>ta σ H fun x H1=>∃ c,x = .bl c∧if c = true then tb σ H1 Q else Q (.bl false) H1
def tOrV (ta tb:TE):TE:=fun σ H Q=>ta σ H fun x H1=>∃ c,x = .bl c∧if c = true then Q (.bl true) H1 else tb σ H1 Q
def tNotV (ta:TE):TE:=fun σ H Q=>ta σ H fun x H1=>∃ c,x = .bl c∧Q (.bl (!c)) H1
theorem pe_one {op} {t:TE} (h:PE X a t):PE X (.BoolOp op [a] pos) t:=fun pins s σ H Q I hw=>BoolOp_one (h pins s σ H Q I hw)
theorem pe_and (ha:PE X a ta) (hb:PE X (.BoolOp .And (b :: rest) pos) tb):PE X (.BoolOp .And (a :: b :: rest) pos) (tAndV ta tb):=by
  intro pins s σ H Q I h
  refine BoolOp_and (thn (ha pins s σ H _ I h) fun v s1 ⟨x,H1,I1,r1,q1⟩=>?_)
  obtain ⟨c,rfl,q1⟩:=q1
  cases r1
  refine wpAny_truthy_bool ?_
  cases c with
  | true=>exact hb pins s1 σ H1 Q I1 q1
  | false=>exact ⟨.bl false,H1,I1,rfl,q1⟩
def tIf (t:TT) (ta tb:TE):TE:=fun σ H Q=>t σ H fun c H1=>if c = true then ta σ H1 Q else tb σ H1 Q
theorem pe_ifExp {c:Expr} (hc:PT X c tA) (ha:PE X a ta) (hb:PE X b tb):PE X (.IfExp c a b pos) (tIf tA ta tb):=by
  intro pins s σ H Q I h
  refine wpAny_IfExp (thn (hc pins s σ H _ I h) fun d s1 ⟨H1,I1,q1⟩=>?_)
  cases d with
  | true=>exact ha pins s1 σ H1 Q I1 q1
  | false=>exact hb pins s1 σ H1 Q I1 q1
end
def SqL (K:PySem.W.Frag) (H:Hp) (a:Addr) (xs:List V):Prop:=
  Rd H a (.lst xs) ∨
    ∃ (o:Obj) (its:Array Value) (n:Nat),K.lookup a = some o∧o.cls = .type "list"∧o.dict = none∧o.data = .seq its n∧its.size ≤ sizeLine∧Vals xs its.toList
def SqT (K:PySem.W.Frag) (H:Hp) (a:Addr) (xs:List V):Prop:=
  Rd H a (.tup xs) ∨
    ∃ (o:Obj) (its:Array Value) (n:Nat),K.lookup a = some o∧o.cls = .type "tuple"∧o.data = .seq its n∧its.size ≤ sizeLine∧Vals xs its.toList
section
variable {X:Cx} {pins:List (Addr × Obj)} {σ:St} {H:Hp} {s:Shared} {a:Addr} {xs ys:List V}
theorem Inv.list (I:Inv X pins σ H s) (h:SqL X.K H a xs):∃ its:List Value,Vals xs its∧PlainL s.heap a its.toArray∧xs.length ≤ sizeLine:=by
  rcases h with h | ⟨o,its,n,hk,hc,hd,hs,hz,r⟩
  · obtain ⟨z,its,n,r,e⟩:=h.ok I.hok
    exact ⟨its,r,⟨_,n,e,rfl,rfl,rfl⟩,z⟩
  · refine ⟨its.toList,r,⟨o,n,I.kIn a o hk,hc,hd,by simpa using hs⟩,?_⟩
    have e:=r.length
    simp only [Array.length_toList] at e
    omega
theorem Inv.tuple (I:Inv X pins σ H s) (h:SqT X.K H a xs):∃ its:List Value,Vals xs its∧IsTup s.heap a its.toArray∧xs.length ≤ sizeLine:=by
  rcases h with h | ⟨o,its,n,hk,hc,hs,hz,r⟩
  · obtain ⟨z,its,r,p⟩:=h.ok I.hok
    exact ⟨its,r,p,z⟩
  · refine ⟨its.toList,r,⟨o,I.kIn a o hk,hc,n,by simpa using hs⟩,?_⟩
    have e:=r.length
    simp only [Array.length_toList] at e
    omega
end
abbrev Cx.wish (X:Cx) (E:Value→Shared→Prop):Cx:={ X with xe:=E }
abbrev Cx.nox (X:Cx):Cx:=X.wish fun _ _=>False
theorem Cx.Ok.wish {X:Cx} (ok:X.Ok) (E:Value→Shared→Prop):(X.wish E).Ok:=
  ⟨ok.mod,ok.kind,ok.glob,ok.blt,ok.above,ok.inj,ok.has,ok.cab,ok.hd,ok.frames,ok.stk,ok.exf,ok.bs,ok.bsz,ok.noex,ok.exfs,ok.funs,ok.frf⟩
theorem Cx.Ok.unwish {X:Cx} {E:Value→Shared→Prop} (ok:(X.wish E).Ok):X.Ok:=
  ⟨ok.mod,ok.kind,ok.glob,ok.blt,ok.above,ok.inj,ok.has,ok.cab,ok.hd,ok.frames,ok.stk,ok.exf,ok.bs,ok.bsz,ok.noex,ok.exfs,ok.funs,ok.frf⟩
section
variable {X:Cx} {pins:List (Addr × Obj)} {σ:St} {H:Hp} {s:Shared} {E:Value→Shared→Prop}
theorem Inv.wish (I:Inv X pins σ H s) (E:Value→Shared→Prop):Inv (X.wish E) pins σ H s:=⟨I.ok.wish E,I.os,I.bare,I.base,I.loc,I.cell,I.free,I.freeC,I.pin,I.hok,I.len⟩
theorem Inv.unwish (I:Inv (X.wish E) pins σ H s):Inv X pins σ H s:=⟨I.ok.unwish,I.os,I.bare,I.base,I.loc,I.cell,I.free,I.freeC,I.pin,I.hok,I.len⟩
theorem SP.unwish {D:Ends} {f:Flow} {s':Shared} (h:SP (X.wish E) pins D f s'):SP X pins D f s':=by
  cases f with
  | next=>obtain ⟨σ',H',I,q⟩:=h; exact ⟨σ',H',I.unwish,q⟩
  | brk=>obtain ⟨σ',H',I,q⟩:=h; exact ⟨σ',H',I.unwish,q⟩
  | cont=>obtain ⟨σ',H',I,q⟩:=h; exact ⟨σ',H',I.unwish,q⟩
  | ret u=>obtain ⟨v,σ',H',I,r,q⟩:=h; exact ⟨v,σ',H',I.unwish,r,q⟩
theorem PSs.nox {st:List Stmt} {t:TS} (h:PSs X.nox st t):PSs X st t:=fun pins s σ H D I hw=>
  wpAny_mono (h pins s σ H D (I.wish _) hw) (fun _ _ q=>q.unwish) fun _ _ z=>False.elim z
end
section
variable {X:Cx} {st:Stmt} {rest:List Stmt} {t u:TS} {e:Expr} {te:TE} {pos:Pos}
def tNext:TS:=fun D σ H=>D.nx σ H
def tSeq (t u:TS):TS:=fun D σ H=>t { D with nx:=u D } σ H
theorem pss_nil:PSs X [] tNext:=fun _ _ σ H _ I h=>wpAny_execs_nil ⟨σ,H,I,h⟩
theorem pss_cons (h1:PS X st t) (h2:PSs X rest u):PSs X (st :: rest) (tSeq t u):=by
  intro pins s σ H D I h
  refine wpAny_execs_cons (thn (h1 pins s σ H { D with nx:=u D } I h) fun f s1 q=>?_)
  cases f with
  | next=>
    obtain ⟨σ',H',I',q⟩:=q
    exact h2 pins s1 σ' H' D I' q
  | ret v=>exact q
  | brk=>exact q
  | cont=>exact q
theorem pss_one (h1:PS X st t):PSs X [st] t:=by
  intro pins s σ H D I h
  refine wpAny_execs_cons (thn (h1 pins s σ H D I h) fun f s1 q=>?_)
  cases f with
  | next=>exact wpAny_execs_nil q
  | ret v=>exact q
  | brk=>exact q
  | cont=>exact q
def tBreak:TS:=fun D σ H=>D.bk σ H
def tCont:TS:=fun D σ H=>D.ct σ H
theorem Inv.quiet {pins:List (Addr × Obj)} {σ:St} {H:Hp} {s:Shared} (I:Inv X pins σ H s):interactive X.env = false:=by simp [interactive,I.ok.kind]
def tDrop (te:TE):TS:=fun D σ H=>te σ H fun _ H1=>D.nx σ H1
theorem ps_expr (he:PE X e te) (hs:swapsWith e none pos.line X.env = pure false:=by rfl):PS X (.Expr e pos) (tDrop te):=by
  intro pins s σ H D I h
  exact wpAny_Expr_any (thn (he pins s σ H _ I h) fun v s1 ⟨x,H1,I1,r1,q1⟩=>⟨σ,H1,I1,q1⟩) I.quiet hs
def tRet (te:TE):TS:=fun D σ H=>te σ H D.rt
theorem ps_ret (he:PE X e te):PS X (.Return (some e) pos) (tRet te):=by
  intro pins s σ H D I h
  exact wpAny_Return_some (thn (he pins s σ H _ I h) fun v s1 ⟨x,H1,I1,r1,q1⟩=>⟨x,σ,H1,I1,r1,q1⟩)
def tRetN:TS:=fun D _ H=>D.rt .non H
def tIfS (c:TT) (t u:TS):TS:=fun D σ H=>c σ H fun b H1=>if b = true then t D σ H1 else u D σ H1
theorem ps_if {c:Expr} {a b:List Stmt} {tc:TT} (hc:PT X c tc) (ha:PSs X a t) (hb:PSs X b u):PS X (.If c a b pos) (tIfS tc t u):=by
  intro pins s σ H D I h
  refine wpAny_If (thn (hc pins s σ H _ I h) fun d s1 ⟨H1,I1,q1⟩=>?_)
  cases d with
  | true=>exact ha pins s1 σ H1 D I1 q1
  | false=>exact hb pins s1 σ H1 D I1 q1
end
abbrev TG:=V→St→Hp→(St→Hp→Prop)→Prop
def PG (X:Cx) (target:Expr) (t:TG):Prop:=
  ∀ (pins:List (Addr × Obj)) (s:Shared) (σ:St) (H:Hp) (v:V) (u:Value) (Q:St→Hp→Prop),Inv X pins σ H s→RelV v u→t v σ H Q→
    wpAny (model X.prog X.w) X.A (assign target X.env u) (fun _ s'=>∃ σ' H',Inv X pins σ' H' s'∧Q σ' H') X.xe s
section
variable {X:Cx} {pos:Pos}
def gName (i:Nat):TG:=fun v σ H Q=>Q (σ.set i (some v)) H
theorem pg_name {i:Nat} {x:Str} (hN:X.N.Nodup) (hi:X.N[i]? = some x) (hx:Loc X.env.scope x) (hf:X.fn x = true ∨ X.env.scope.names.lookup x = some .local:=by first | exact .inl rfl | exact .inr rfl | assumption):PG X (.Name x pos) (gName i):=by
  intro pins s σ H v u Q I r h
  exact wpAny_assign_Name (store_ok I hN hi hx r (fun s' I'=>⟨_,H,I',h⟩) hf)
def tAsg (te:TE) (g:TG):TS:=fun D σ H=>te σ H fun x H1=>g x σ H1 D.nx
theorem ps_set {i:Nat} {x:Str} {e:Expr} {te:TE} {pos':Pos} (hN:X.N.Nodup) (hi:X.N[i]? = some x) (hx:Loc X.env.scope x) (he:PE X e te) (hs:swapsWith e (some (.Name x pos')) pos.line X.env = pure false:=by rfl) (hf:X.fn x = true ∨ X.env.scope.names.lookup x = some .local:=by first | exact .inl rfl | exact .inr rfl | assumption) :
    PS X (.Assign [.Name x pos'] e pos) (tAsg te (gName i)):=by
  intro pins s σ H D I h
  refine wpAny_Assign_Name (thn (he pins s σ H _ I h) fun v s1 ⟨y,H1,I1,r1,q1⟩=>?_) hs
  exact store_ok I1 hN hi hx r1 (fun s2 I2=>⟨_,H1,I2,q1⟩) hf
end
structure It where
  go:Nat→Hp→Prop
  yld:Nat→Hp→V→Hp→Prop
  stop:Nat→Hp→Prop
def FpOk (X:Cx) (pins:List (Addr × Obj)) (H:Hp) (b:Addr):Prop:=
  H b = none∧b ≠ X.env.locals∧b ∉ X.fs∧(b ∈ X.ex ∨ X.s₀.heap.objs.size ≤ b)∧(∀ x c,X.env.cells.lookup x = some c→c ≠ b)∧∀ p ∈ X.pn ++ pins,p.1 ≠ b
theorem Inv.fpOk {X:Cx} {pins:List (Addr × Obj)} {σ:St} {H H':Hp} {s:Shared} {b:Addr} (I:Inv X pins σ H s) (hb:s.heap.objs.size ≤ b) (hn:H' b = none):FpOk X pins H' b:=by
  refine ⟨hn,Nat.ne_of_gt (Nat.lt_of_lt_of_le I.lt hb),I.nofs hb,.inr (Nat.le_trans I.sz hb),fun x c e z=>?_,fun p hp z=>?_⟩
  · obtain ⟨v,q⟩:=I.cell x c e
    exact absurd (Nat.lt_of_lt_of_le q.lt (by rw [z]; exact hb)) (Nat.lt_irrefl _)
  · exact absurd (Nat.lt_of_lt_of_le (Heap.lt_size (I.pin p hp).1) (by rw [z]; exact hb)) (Nat.lt_irrefl _)
structure Turn (P:Program) (w:World) (K:PySem.W.Frag) (tg:Expr) (J:It) (fp:List Addr) (it:Addr) (tn:Nat→Heap→Prop):Prop where
  mem:it ∈ fp
  obj:∀ i h,tn i h→∀ b ∈ fp,∃ o,h.get? b = some o∧∀ v,o.data ≠ .cell v
  keep:∀ i h h',tn i h→(∀ b ∈ fp,∀ o,h.get? b = some o→h'.get? b = some o)→tn i h'
  item:∀ (X:Cx),X.prog = P→X.w = w→X.K = K→X.calm = true→∀ (i:Nat) (pins:List (Addr × Obj)) (s:Shared) (σ:St) (H:Hp) (E:Value→Shared→Prop),Inv X pins σ H s→(∀ b ∈ fp,FpOk X pins H b)→tn i s.heap→J.go i H→
    wpAny (model P w) X.A (pyNext (.ref it)) (fun r s1=>∃ u,r = some u∧
      wpAny (model P w) X.A (letOwnedTupleGo tg (.ref it) u) (fun _ s2=>∃ x H',Inv X pins σ H' s2∧RelV x u∧J.yld i H x H'∧tn (i + 1) s2.heap∧∀ b ∈ fp,H' b = none) E s1) E s
  done:∀ (X:Cx),X.prog = P→X.w = w→X.K = K→X.calm = true→∀ (i:Nat) (pins:List (Addr × Obj)) (s:Shared) (σ:St) (H:Hp) (E:Value→Shared→Prop),Inv X pins σ H s→(∀ b ∈ fp,FpOk X pins H b)→tn i s.heap→J.stop i H→
    wpAny (model P w) X.A (pyNext (.ref it)) (fun r s1=>r = none∧Inv X pins σ H s1) E s
  self:∀ (A:Around) (i:Nat) (s:Shared) (Q:Value→Shared→Prop) (E:Value→Shared→Prop),tn i s.heap→Q (.ref it) s→wpAny (model P w) A (pyIter (.ref it)) Q E s
abbrev TI:=St→Hp→(It→Hp→Prop)→Prop
def PIE (X:Cx) (pins:List (Addr × Obj)) (σ:St) (tg:Expr) (R:It→Hp→Prop) (itv:Value) (s2:Shared):Prop:=
  ∃ (it:Addr) (fp:List Addr) (tn:Nat→Heap→Prop) (J:It) (H':Hp),itv = .ref it∧Inv X pins σ H' s2∧Turn X.prog X.w X.K tg J fp it tn∧tn 0 s2.heap∧(∀ b ∈ fp,FpOk X pins H' b)∧R J H'
def PI (X:Cx) (tg iter:Expr) (wi:TI):Prop:=
  ∀ (pins:List (Addr × Obj)) (s:Shared) (σ:St) (H:Hp) (R:It→Hp→Prop),Inv X pins σ H s→wi σ H R→
    wpAny (model X.prog X.w) X.A (eval iter X.env) (fun v s1=>wpAny (model X.prog X.w) X.A (pyIter v) (PIE X pins σ tg R) X.xe s1) X.xe s
theorem go_of {M:Model} {A:Around} {E:Value→Shared→Prop} {s:Shared} {tg:Expr} {it:Addr} {u:Value} {o:Obj} {n:String} {vs:Array Value} {Q:Unit→Shared→Prop} (ho:s.heap.get? it = some o) (hc:o.cls = .type n) (hd:o.data = .fields vs)
    (hn : ["enumerate", "zip", "dict_itemiterator", "dict_reverseitemiterator", "odict_iterator", "itertools.zip_longest", "itertools.pairwise"].contains n = false) (hQ : Q () s) : wpAny M A (letOwnedTupleGo tg (.ref it) u) Q E s := by
  unfold letOwnedTupleGo
  cases tg <;> first
    | exact wpAny_pure hQ
    | (cases u <;> first
        | exact wpAny_pure hQ
        | (refine wpAny_bind (wpAny_load ho ?_)
           rw [hc,hd]
           show wpAny M A (if (["enumerate", "zip", "dict_itemiterator", "dict_reverseitemiterator", "odict_iterator", "itertools.zip_longest", "itertools.pairwise"].contains n && vs[0]? == some (rawInt _)) = true then _ else _) Q E s
           rw [if_neg (by intro h; rw [hn,Bool.false_and] at h; cases h)]
           exact wpAny_pure hQ))
def Itr (lo:Int) (n:Nat):It:=⟨fun i _=>i < n,fun i H x H'=>H' = H∧x = .int (lo + i),fun i _=>n ≤ i⟩
theorem turn_range {P:Program} {w:World} {K:PySem.W.Frag} {tg:Expr} (it:Addr) (lo:Int) (n:Nat):Turn P w K tg (Itr lo n) [it] it (fun i h=>IsRangeIter h it (lo + (i:Nat) * 1) ((n:Int) - (i:Nat)) 1) where
  mem:=by simp
  obj:=fun i h st b hb=>by
    have e:b = it:=by simpa using hb
    subst e
    exact ⟨_,st,fun v z=>by
      have z':Data.fields _ = Data.cell v:=z
      cases z'⟩
  keep:=fun i h h' st k=>k it (by simp) _ st
  item:=by
    intro X hP hw hK hc i pins s σ H E I hf st hg
    subst hP hw hK
    obtain ⟨f0,f1,f2,f3,f4,f5⟩:=hf it (by simp)
    have W:=Walks.range (prog:=X.prog) (w:=X.w) (I.ok.hd hc) it lo 1 n
    refine W.item i s _ _ hg st fun v h' tk hv st' kk=>?_
    obtain ⟨t,rfl⟩:=hv
    have I1:Inv X pins σ H { s with heap:=h',toks:=tk }:=I.turned (fun b o hb e=>kk b o (by simpa using hb) e) f0 f1 f3 f4 f5
    refine ⟨_,rfl,go_of (s:={ s with heap:=h',toks:=tk }) (n:="range_iterator") st' rfl rfl (by decide) ⟨.int (lo + i),H,I1,⟨t,?_⟩,⟨rfl,rfl⟩,st',fun b hb=>(hf b hb).1⟩⟩
    rw [Int.mul_one]
  done:=by
    intro X hP hw hK hc i pins s σ H E I hf st hg
    subst hP hw hK
    obtain ⟨f0,f1,f2,f3,f4,f5⟩:=hf it (by simp)
    exact wpAny_pyNext_range_end (I.ok.hd hc) st (by have:n ≤ i:=hg; omega) fun h' eb=>⟨rfl,I.turned (t':=s.toks) (fun b o hb e=>eb b o hb e) f0 f1 f3 f4 f5⟩
  self:=fun _ _ _ _ _ st h=>wpAny_pyIter_rangeiter st h
section
variable {X:Cx} {tg:Expr}
theorem range_it {pins:List (Addr × Obj)} {σ:St} {H:Hp} {s:Shared} {R:It→Hp→Prop} {E:Value→Shared→Prop} {lo hi:Int} {t u v:Tok} {tk:Nat} (I:Inv X pins σ H s) (h1:-(2 ^ 62) ≤ lo) (h2:lo < 2 ^ 62) (h3:-(2 ^ 62) ≤ hi) (h4:hi < 2 ^ 62)
    (q:R (Itr lo (hi - lo).toNat) H):wpAny (model X.prog X.w) X.A (pyIter (.ref s.heap.objs.size)) (PIE X pins σ tg R) E { s with heap:=s.heap.push { cls:=.type "range",data:=.fields #[.int lo t,.int hi u,.int 1 v] },toks:=tk }:=by
  refine wpAny_pyIter_range (IsRange.new ..) (small_one h1 h2 h3 h4) ?_
  have I1:Inv X pins σ H { s with heap:=s.heap.push { cls:=.type "range",data:=.fields #[.int lo t,.int hi u,.int 1 v] },toks:=tk }:=I.kept fun b o e=>Heap.get?_push_of_some _ e
  refine ⟨(s.heap.push { cls := .type "range", data := .fields #[.int lo t, .int hi u, .int 1 v] }).objs.size, [(s.heap.push { cls := .type "range", data := .fields #[.int lo t, .int hi u, .int 1 v] }).objs.size], _, _, H, rfl,
    I1.kept (t':=tk) fun b o e=>Heap.get?_push_of_some _ e,turn_range _ lo (hi - lo).toNat,?_,fun b hb=>?_,q⟩
  · have e1:lo + ((0:Nat):Int) * 1 = lo:=by simp
    have e2:(((hi - lo).toNat:Nat):Int) - ((0:Nat):Int) = Builtin.Range.rangeSize lo hi 1:=by rw [rangeSize_one]; split <;> omega
    show IsRangeIter _ _ (lo + ((0:Nat):Int) * 1) ((((hi - lo).toNat:Nat):Int) - ((0:Nat):Int)) 1
    rw [e1,e2]
    exact Heap.get?_push_size _ rfl
  · have e:b = (s.heap.push { cls:=.type "range",data:=.fields #[.int lo t,.int hi u,.int 1 v] }).objs.size:=by simpa using hb
    subst e
    exact I1.fpOk (Nat.le_refl _) (I1.hok.fresh (Nat.le_refl _))
def iRng1 (ta:TA):TI:=fun σ H R=>ta σ H fun vs H1=>∃ j:Int,vs = [.int j]∧-(2 ^ 62) ≤ j∧j < 2 ^ 62∧R (Itr 0 j.toNat) H1
theorem pi_range1 {a : Expr} {ta : TA} {p pos : Pos} (hg : Gl X "range") (hm : X.mg "range" = none) (ha : PA X [a] ta) (hs : starEach [a] X.env = [(false, eval a X.env)] := by rfl) : PI X tg (.Call (.Name "range" p) [a] [] pos) (iRng1 ta) := by
  intro pins s σ H R I h
  refine Call_ (ld_blt I hg hm boot_range (PyProof.Rows.callWith_type1 (thn (ha pos pins s σ H _ I h) fun us s1 ⟨vs,H1,I1,r1,q1⟩=>?_) hs rfl))
  obtain ⟨j,e,q1,q2,q⟩:=q1
  subst e
  cases r1 with
  | cons r rr=>
    cases rr
    obtain ⟨t,rfl⟩:=r
    exact call_range_1 (range_it I1 (by omega) (by omega) q1 q2 (by simpa using q))
def tFor (wi:TI) (g:TG) (tb:TS):TS:=fun D σ H=>wi σ H fun J H1=>∃ W:Nat→Nat→St→Hp→Prop,(∃ m,W 0 m σ H1)∧∀ i m σ H,W i m σ H→
  (J.stop i H∧D.nx σ H) ∨ (J.go i H∧∃ N:St→Hp→Prop,(∀ σ' H',N σ' H'→∃ m',m' < m∧W (i + 1) m' σ' H')∧∀ x H',J.yld i H x H'→g x σ H' fun σ2 H2=>tb { D with nx:=N,ct:=N,bk:=D.nx } σ2 H2)
def pinsAt (fp:List Addr) (h:Heap):List (Addr × Obj):=fp.filterMap fun b=>(h.get? b).map fun o=>(b,o)
theorem mem_pinsAt {fp:List Addr} {h:Heap} {b:Addr} {o:Obj} (hb:b ∈ fp) (e:h.get? b = some o):(b,o) ∈ pinsAt fp h:=List.mem_filterMap.mpr ⟨b,hb,by rw [e]; rfl⟩
theorem of_pinsAt {fp:List Addr} {h:Heap} {p:Addr × Obj} (hp:p ∈ pinsAt fp h):p.1 ∈ fp∧h.get? p.1 = some p.2:=by
  obtain ⟨b,hb,e⟩:=List.mem_filterMap.mp hp
  cases q:h.get? b with
  | none=>rw [q] at e; cases e
  | some o=>
    rw [q] at e
    have e':(b,o) = p:=Option.some.inj e
    subst e'
    exact ⟨hb,q⟩
theorem Inv.pinned {pins:List (Addr × Obj)} {σ:St} {H:Hp} {s:Shared} {fp:List Addr} (I:Inv X pins σ H s) (hf:∀ b ∈ fp,FpOk X pins H b) (ho:∀ b ∈ fp,∃ o,s.heap.get? b = some o∧∀ v,o.data ≠ .cell v):Inv X (pins ++ pinsAt fp s.heap) σ H s:=
  I.pins_of fun p hp=>(List.mem_append.mp hp).elim (fun z=>I.pin p (List.mem_append_right _ z)) fun z=>by
    obtain ⟨hb,e⟩:=of_pinsAt z
    obtain ⟨f0,f1,f2,_⟩:=hf p.1 hb
    obtain ⟨o,e',d⟩:=ho p.1 hb
    rw [e] at e'; cases e'
    exact ⟨e,f0,f1,f2,d⟩
theorem Inv.unpinned {pins pl:List (Addr × Obj)} {σ:St} {H:Hp} {s:Shared} (I:Inv X (pins ++ pl) σ H s):Inv X pins σ H s:=I.pins_of fun p hp=>I.pin p (List.mem_append_right _ (List.mem_append_left _ hp))
theorem ps_for {iter:Expr} {body:List Stmt} {wi:TI} {g:TG} {tb:TS} {pos:Pos} (hp:PassesOwn (model X.prog X.w) X.A X.env X.xe) (hc:X.calm = true) (hi:PI X tg iter wi) (hg:PG X tg g) (hb:PSs X body tb)
    (hs:∀ x,foldedSetIterable iter X.env x = pure x:=by intro _; rfl):PS X (.For tg iter body [] pos) (tFor wi g tb):=by
  intro pins s σ H D I h
  refine wpAny_For (thn (hi pins s σ H _ I h) fun v s1 h1=>thn h1 fun itv s2 h2=>?_) hs
  obtain ⟨it,fp,tn,J,H2,e,I2,T,st2,f2,W,⟨m0,w0⟩,turn⟩:=h2
  subst e
  -- what stays true of the iterator's objects through the loop
  have stat:∀ {H':Hp},(∀ b ∈ fp,H' b = none)→∀ b ∈ fp,FpOk X pins H' b:=fun hn b hb=>⟨hn b hb,(f2 b hb).2⟩
  refine codeAny_forLoop_any (fun n s'=>∃ i σ' H',Inv X pins σ' H' s'∧tn i s'.heap∧(∀ b ∈ fp,H' b = none)∧W i n σ' H') ?_ m0 ⟨0,σ,H2,I2,st2,fun b hb=>(f2 b hb).1,w0⟩
  rintro n s3 ⟨i,σ3,H3,I3,st3,fr3,w3⟩
  rcases turn i n σ3 H3 w3 with ⟨stop,qn⟩ | ⟨go,N,hN,step⟩
  · refine wpAny_passesOwn hp (thn (T.done X rfl rfl rfl hc i pins s3 σ3 H3 X.xe I3 (stat fr3) st3 stop) fun r s4 ⟨hr,I4⟩=>?_)
    subst hr
    exact wpAny_execs_nil ⟨σ3,H3,I4,qn⟩
  · refine wpAny_passesOwn hp (thn (T.item X rfl rfl rfl hc i pins s3 σ3 H3 X.xe I3 (stat fr3) st3 go) fun r s4 ⟨u,hr,h4⟩=>?_)
    subst hr
    refine wpAny_passesOwn hp (thn h4 fun _ s5 ⟨x,H5,I5,r5,y5,st5,fr5⟩=>?_)
    have I5':=I5.pinned (stat fr5) (T.obj _ _ st5)
    refine wpAny_passesOwn hp (thn (hg _ s5 σ3 H5 x u _ I5' r5 (step x H5 y5)) fun _ s6 ⟨σ6,H6,I6,q6⟩=>?_)
    refine wpAny_passesOwn hp (thn (hb _ s6 σ6 H6 _ I6 q6) fun f s7 q7=>?_)
    have again:∀ {σ7:St} {H7:Hp},Inv X (pins ++ pinsAt fp s5.heap) σ7 H7 s7→N σ7 H7→∃ m,m < n∧∃ i σ' H',Inv X pins σ' H' s7∧tn i s7.heap∧(∀ b ∈ fp,H' b = none)∧W i m σ' H':=fun {σ7 H7} I7 n7=>by
      obtain ⟨m',hm,w7⟩:=hN σ7 H7 n7
      refine ⟨m',hm,i + 1,σ7,H7,I7.unpinned,T.keep _ _ _ st5 fun b hb o e=>(I7.pin (b,o) (List.mem_append_right _ (List.mem_append_right _ (mem_pinsAt hb e)))).1,fun b hb=>?_,w7⟩
      obtain ⟨o,e,d⟩:=T.obj _ _ st5 b hb
      exact (I7.pin (b,o) (List.mem_append_right _ (List.mem_append_right _ (mem_pinsAt hb e)))).2.1
    cases f with
    | next=>obtain ⟨σ7,H7,I7,n7⟩:=q7; exact again I7 n7
    | cont=>obtain ⟨σ7,H7,I7,n7⟩:=q7; exact again I7 n7
    | brk=>obtain ⟨σ7,H7,I7,q7⟩:=q7; exact ⟨σ7,H7,I7.unpinned,q7⟩
    | ret v=>obtain ⟨x7,σ7,H7,I7,r7,q7⟩:=q7; exact ⟨x7,σ7,H7,I7.unpinned,r7,q7⟩
end
theorem for_range {lo:Int} {n:Nat} {g:TG} {tb:TS} {D:Ends} {σ:St} {H:Hp} (Pv:Nat→St→Hp→Prop) (h0:Pv 0 σ H)
    (hs:∀ i σ H,i < n→Pv i σ H→g (.int (lo + i)) σ H fun σ2 H2=>tb { D with nx:=Pv (i + 1),ct:=Pv (i + 1),bk:=D.nx } σ2 H2) (hd:∀ σ H,Pv n σ H→D.nx σ H) :
    ∃ W:Nat→Nat→St→Hp→Prop,(∃ m,W 0 m σ H)∧∀ i m σ H,W i m σ H→
      ((Itr lo n).stop i H∧D.nx σ H) ∨ ((Itr lo n).go i H∧∃ N:St→Hp→Prop,(∀ σ' H',N σ' H'→∃ m',m' < m∧W (i + 1) m' σ' H')∧∀ x H',(Itr lo n).yld i H x H'→g x σ H' fun σ2 H2=>tb { D with nx:=N,ct:=N,bk:=D.nx } σ2 H2):=by
  refine ⟨fun i m σ H=>m = n - i∧i ≤ n∧Pv i σ H,⟨n,by simp,Nat.zero_le _,h0⟩,?_⟩
  rintro i m σ H ⟨rfl,hi,p⟩
  by_cases hlt:i < n
  · refine .inr ⟨hlt,Pv (i + 1),fun σ' H' p'=>⟨n - (i + 1),by omega,rfl,hlt,p'⟩,fun x H' y=>?_⟩
    obtain ⟨e,y⟩:=y
    subst e y
    exact hs i σ _ hlt p
  · have e:i = n:=by omega
    subst e
    exact .inl ⟨Nat.le_refl _,hd σ H p⟩
abbrev R2:=V→V→Hp→VK→Prop
def OpR (X:Cx) (f:Value→Value→Sem Value) (r:R2):Prop:=
  ∀ (pins:List (Addr × Obj)) (s:Shared) (σ:St) (H:Hp) (x y:V) (v u:Value) (Q:VK),Inv X pins σ H s→RelV x v→RelV y u→r x y H Q→
    wpAny (model X.prog X.w) X.A (f v u) (EP X pins σ Q) X.xe s
def UnR (X:Cx) (f:Value→Sem Value) (r:V→Hp→VK→Prop):Prop:=
  ∀ (pins:List (Addr × Obj)) (s:Shared) (σ:St) (H:Hp) (x:V) (v:Value) (Q:VK),Inv X pins σ H s→RelV x v→r x H Q→
    wpAny (model X.prog X.w) X.A (f v) (EP X pins σ Q) X.xe s
def CallR (X:Cx) (f:Value) (r:List V→Hp→VK→Prop):Prop:=
  ∀ (pins:List (Addr × Obj)) (s:Shared) (σ:St) (H:Hp) (xs:List V) (us:List Value) (Q:VK),Inv X pins σ H s→Vals xs us→r xs H Q→
    wpAny (model X.prog X.w) X.A (call f us) (EP X pins σ Q) X.xe s
def tOp (r:R2) (ta tb:TE):TE:=fun σ H Q=>ta σ H fun x H1=>tb σ H1 fun y H2=>r x y H2 Q
def tUn (r:V→Hp→VK→Prop) (ta:TE):TE:=fun σ H Q=>ta σ H fun x H1=>r x H1 Q
def rI (C:Int→Int→Prop) (g:Int→Int→V):R2:=fun x y H Q=>∃ i j,x = .int i∧y = .int j∧C i j∧Q (g i j) H
def rI0 (g:Int→Int→V):R2:=fun x y H Q=>∃ i j,x = .int i∧y = .int j∧Q (g i j) H
def rU (g:Int→V):V→Hp→VK→Prop:=fun x H Q=>∃ i,x = .int i∧Q (g i) H
section
variable {X:Cx} {a b c:Expr} {ta tb tc:TE} {pos:Pos}
theorem binT (ha:PE X a ta) (hb:PE X b tb) {pins:List (Addr × Obj)} {s:Shared} {σ:St} {H:Hp} {R:V→V→Hp→Prop} (I:Inv X pins σ H s)
    (h:ta σ H fun x H1=>tb σ H1 fun y H2=>R x y H2) {Q:Value→Shared→Prop} {f:Value→Value→Sem Value}
    (hf:∀ v u s2 x y H2,Inv X pins σ H2 s2→RelV x v→RelV y u→R x y H2→wpAny (model X.prog X.w) X.A (f v u) Q X.xe s2) :
    wpAny (model X.prog X.w) X.A (eval a X.env) (fun v s₁=>wpAny (model X.prog X.w) X.A (eval b X.env) (fun u s₂=>wpAny (model X.prog X.w) X.A (f v u) Q X.xe s₂) X.xe s₁) X.xe s:=by
  refine thn (ha pins s σ H _ I h) fun v s1 ⟨x,H1,I1,r1,q1⟩=>?_
  refine thn (hb pins s1 σ H1 _ I1 q1) fun u s2 ⟨y,H2,I2,r2,q2⟩=>?_
  exact hf v u s2 x y H2 I2 r1 r2 q2
theorem pe_op {op:Operator} {r:R2} (ho:OpR X (binaryOp op) r) (ha:PE X a ta) (hb:PE X b tb):PE X (.BinOp a op b pos) (tOp r ta tb):=by
  intro pins s σ H Q I h
  exact wpAny_BinOp (binT ha hb I h fun v u s2 x y H2 I2 rx ry q=>ho pins s2 σ H2 x y v u Q I2 rx ry q)
theorem pe_un {op:UnaryOp} {r:V→Hp→VK→Prop} (ho:UnR X (unaryOp op) r) (ha:PE X a ta):PE X (.UnaryOp op a pos) (tUn r ta):=by
  intro pins s σ H Q I h
  exact UnaryOp_ (thn (ha pins s σ H _ I h) fun v s1 ⟨x,H1,I1,r1,q1⟩=>ho pins s1 σ H1 x v Q I1 r1 q1)
theorem opI {f:Value→Value→Sem Value} {C:Int→Int→Prop} {g:Int→Int→Int}
    (rule:∀ (i j:Int) (t u:Tok) (s:Shared) (Q:Value→Shared→Prop) (E:Value→Shared→Prop),C i j→Q (.int (g i j) s.toks) { s with toks:=s.toks + 1 }→wpAny (model X.prog X.w) X.A (f (.int i t) (.int j u)) Q E s) :
    OpR X f (rI C fun i j=>.int (g i j)):=by
  intro pins s σ H x y v u Q I rx ry h
  obtain ⟨i,j,rfl,rfl,hc,q⟩:=h
  obtain ⟨t,rfl⟩:=rx
  obtain ⟨t',rfl⟩:=ry
  exact rule i j t t' s _ _ hc ⟨.int (g i j),H,I.tok _,⟨_,rfl⟩,q⟩
theorem opI0 {f:Value→Value→Sem Value} {g:Int→Int→Int}
    (rule:∀ (i j:Int) (t u:Tok) (s:Shared) (Q:Value→Shared→Prop) (E:Value→Shared→Prop),Q (.int (g i j) s.toks) { s with toks:=s.toks + 1 }→wpAny (model X.prog X.w) X.A (f (.int i t) (.int j u)) Q E s) :
    OpR X f (rI0 fun i j=>.int (g i j)):=by
  intro pins s σ H x y v u Q I rx ry h
  obtain ⟨i,j,rfl,rfl,q⟩:=h
  obtain ⟨t,rfl⟩:=rx
  obtain ⟨t',rfl⟩:=ry
  exact rule i j t t' s _ _ ⟨.int (g i j),H,I.tok _,⟨_,rfl⟩,q⟩
theorem opB0 {f:Value→Value→Sem Value} {g:Int→Int→Bool}
    (rule:∀ (i j:Int) (t u:Tok) (s:Shared) (Q:Value→Shared→Prop) (E:Value→Shared→Prop),Q (.bool (g i j)) s→wpAny (model X.prog X.w) X.A (f (.int i t) (.int j u)) Q E s) :
    OpR X f (rI0 fun i j=>.bl (g i j)):=by
  intro pins s σ H x y v u Q I rx ry h
  obtain ⟨i,j,rfl,rfl,q⟩:=h
  obtain ⟨t,rfl⟩:=rx
  obtain ⟨t',rfl⟩:=ry
  exact rule i j t t' s _ _ ⟨.bl (g i j),H,I,rfl,q⟩
def CDiv (i j:Int):Prop:=0 < j∧j < 1073741824
def CPow (i j:Int):Prop:=0 ≤ j∧j ≤ 1000000∧i.natAbs < 2 ^ 64
def CMul (i j:Int):Prop:=(-(2 ^ 64) < i∧i < 2 ^ 64) ∨ (-(2 ^ 64) < j∧j < 2 ^ 64)
theorem CMul.ok {i j:Int} (h:CMul i j):IntMulOk i j:=by
  rcases h with ⟨h1,h2⟩ | ⟨h1,h2⟩
  · exact .of_left (intBits_le_64 h1 h2)
  · exact .of_right (intBits_le_64 h1 h2)
theorem two_pow_nn (k:Nat):(0:Int) ≤ 2 ^ k:=by
  rw [two_pow_cast]
  exact Int.natCast_nonneg _
theorem op_add:OpR X (binaryOp .Add) (rI0 fun i j=>.int (i + j)):=opI0 fun _ _ _ _ _ _ _ q=>add_int q
theorem op_fdiv:OpR X (binaryOp .FloorDiv) (rI CDiv fun i j=>.int (i / j)):=opI fun i j _ _ _ _ _ hc q=>by
  have h1:(0:Int) < j:=hc.1
  have h2:j < 1073741824:=hc.2
  exact floordiv_int (by omega) (by rw [Int.fdiv_eq_ediv_of_nonneg i (by omega)]; exact q) (.inl (PyProof.noPylong_small (by omega)))
theorem op_mod:OpR X (binaryOp .Mod) (rI (fun _ j=>0 < j) fun i j=>.int (i % j)):=opI fun i j _ _ _ _ _ hc q=>by
  have h1:(0:Int) < j:=hc
  exact mod_int' (by omega) (by rw [Int.fmod_eq_emod_of_nonneg i (by omega)]; exact q)
theorem op_pow:OpR X (binaryOp .Pow) (rI CPow fun i j=>.int (i ^ j.toNat)):=opI fun _ _ _ _ _ _ _ hc q=>pow_int_small hc.1 hc.2.1 hc.2.2 q
theorem op_shr:OpR X (binaryOp .RShift) (rI (fun _ j=>0 ≤ j) fun i j=>.int (i / 2 ^ j.toNat)):=opI fun i j _ _ _ _ _ hc q=>
  rshift_int hc (by rw [Int.fdiv_eq_ediv_of_nonneg i (two_pow_nn _)]; exact q)
theorem unI {f:Value→Sem Value} {g:Int→Int}
    (rule:∀ (i:Int) (t:Tok) (s:Shared) (Q:Value→Shared→Prop) (E:Value→Shared→Prop),Q (.int (g i) s.toks) { s with toks:=s.toks + 1 }→wpAny (model X.prog X.w) X.A (f (.int i t)) Q E s) :
    UnR X f (rU fun i=>.int (g i)):=by
  intro pins s σ H x v Q I rx h
  obtain ⟨i,rfl,q⟩:=h
  obtain ⟨t,rfl⟩:=rx
  exact rule i t s _ _ ⟨.int (g i),H,I.tok _,⟨_,rfl⟩,q⟩
theorem un_neg:UnR X (unaryOp .USub) (rU fun i=>.int (-i)):=unI fun _ _ _ _ _ q=>neg_int q
end
def scal:V→V→Bool
  | .non,.non=>true | .non,.int _=>true | .int _,.non=>true | .non,.bl _=>true | .bl _,.non=>true | .non,.str _=>true | .str _,.non=>true
  | .int _,.int _=>true | .bl _,.bl _=>true | .str _,.str _=>true | .byt _,.byt _=>true
  | .int _,.str _=>true | .str _,.int _=>true | .bl _,.str _=>true | .str _,.bl _=>true
  | _,_=>false
def rEq:R2:=fun x y H Q=>scal x y = true∧Q (.bl (decide (x = y))) H
def rNe:R2:=fun x y H Q=>scal x y = true∧Q (.bl (!decide (x = y))) H
theorem dec_int {i j:Int}:decide (V.int i = V.int j) = (i == j):=by
  rw [Bool.eq_iff_iff]
  simp
theorem dec_bl {i j:Bool}:decide (V.bl i = V.bl j) = (i == j):=by
  rw [Bool.eq_iff_iff]
  simp
theorem dec_str {i j:Str}:decide (V.str i = V.str j) = (i == j):=by
  rw [Bool.eq_iff_iff]
  simp
theorem dec_byt {i j:Array UInt8}:decide (V.byt i = V.byt j) = (i.toList == j.toList):=by
  rw [Bool.eq_iff_iff]
  cases i
  cases j
  simp
section
variable {X:Cx} {a b c:Expr} {ta tb tc:TE} {pos:Pos}
theorem fin_bl {pins:List (Addr × Obj)} {σ:St} {H:Hp} {s:Shared} {Q:VK} {k k':Bool} (I:Inv X pins σ H s) (q:Q (.bl k) H) (e:k = k'):EP X pins σ Q (.bool k') s:=by
  subst e
  exact ⟨.bl k,H,I,rfl,q⟩
theorem op_eq:OpR X (compareOp .Eq) rEq:=by
  intro pins s σ H x y v u Q I rx ry h
  obtain ⟨hs,q⟩:=h
  cases x with
  | non=>
    cases rx
    cases y with
    | non=>cases ry; exact PySem.EqNone.eq_none_none (fin_bl I q (by simp))
    | bl j=>cases ry; exact PySem.EqNone.eq_none_bool (fin_bl I q (by simp))
    | int j=>obtain ⟨t',rfl⟩:=ry; exact PySem.EqNone.eq_none_int (fin_bl I q (by simp))
    | str j=>obtain ⟨t',rfl⟩:=ry; exact PySem.EqNone.eq_none_str (fin_bl I q (by simp))
    | _=>exact absurd (show false = true from hs) Bool.false_ne_true
  | bl i=>
    cases rx
    cases y with
    | non=>cases ry; exact PySem.EqNone.eq_bool_none (fin_bl I q (by simp))
    | bl j=>cases ry; exact eq_bool (fin_bl I q dec_bl)
    | str j=>obtain ⟨t',rfl⟩:=ry; exact PySem.EqMixed.eq_bool_str (fin_bl I q (by simp))
    | _=>exact absurd (show false = true from hs) Bool.false_ne_true
  | int i=>
    obtain ⟨t,rfl⟩:=rx
    cases y with
    | non=>cases ry; exact PySem.EqNone.eq_int_none (fin_bl I q (by simp))
    | int j=>obtain ⟨t',rfl⟩:=ry; exact eq_int (fin_bl I q dec_int)
    | str j=>obtain ⟨t',rfl⟩:=ry; exact PySem.EqMixed.eq_int_str (fin_bl I q (by simp))
    | _=>exact absurd (show false = true from hs) Bool.false_ne_true
  | str i=>
    obtain ⟨t,rfl⟩:=rx
    cases y with
    | non=>cases ry; exact PySem.EqNone.eq_str_none (fin_bl I q (by simp))
    | bl j=>cases ry; exact PySem.EqMixed.eq_str_bool (fin_bl I q (by simp))
    | int j=>obtain ⟨t',rfl⟩:=ry; exact PySem.EqMixed.eq_str_int (fin_bl I q (by simp))
    | str j=>obtain ⟨t',rfl⟩:=ry; exact eq_str (fin_bl I q dec_str)
    | _=>exact absurd (show false = true from hs) Bool.false_ne_true
  | byt i=>
    obtain ⟨t,rfl⟩:=rx
    cases y with
    | byt j=>obtain ⟨t',rfl⟩:=ry; exact PySem.W.eq_bytes (fin_bl I q dec_byt)
    | _=>exact absurd (show false = true from hs) Bool.false_ne_true
  | _=>cases y <;> exact absurd (show false = true from hs) Bool.false_ne_true
theorem op_gt:OpR X (compareOp .Gt) (rI0 fun i j=>.bl (decide (j < i))):=opB0 fun _ _ _ _ _ _ _ q=>gt_int q
theorem pe_cmpR {op:CmpOp} {r:R2} (ho:OpR X (compareOp op) r) (ha:PE X a ta) (hb:PE X b tb) (hm:behindInMarks op b = false):PE X (.Compare a [op] [b] pos) (tOp r ta tb):=by
  intro pins s σ H Q I h
  exact wpAny_Compare1 (binT ha hb I h fun v u s2 x y H2 I2 rx ry q=>ho pins s2 σ H2 x y v u Q I2 rx ry q) hm
def tTest (t:TE):TT:=fun σ H Q=>t σ H fun x H'=>∃ k,x = .bl k∧Q k H'
theorem pt_cmpR {op:CmpOp} {r:R2} (ho:OpR X (compareOp op) r) (ha:PE X a ta) (hb:PE X b tb) (hm:behindInMarks op b = false):PT X (.Compare a [op] [b] pos) (tTest (tOp r ta tb)):=by
  intro pins s σ H Q I h
  refine wpAny_isTrue_Compare1 (thn (ha pins s σ H _ I h) fun v s1 ⟨x,H1,I1,r1,q1⟩=>thn (hb pins s1 σ H1 _ I1 q1) fun u s2 ⟨y,H2,I2,r2,q2⟩=>
    thn (ho pins s2 σ H2 x y v u _ I2 r1 r2 q2) fun c s3 ⟨z,H3,I3,r3,k,e,q3⟩=>?_) hm
  subst e
  cases r3
  exact wpAny_truthy_bool ⟨H3,I3,q3⟩
theorem line63:(sizeLine:Nat) < 2 ^ 63:=by rw [sizeLine_eq]; decide
theorem vals1 {x:V} {us:List Value} (r:Vals [x] us):∃ u,us = [u]∧RelV x u:=by
  cases r with
  | cons r1 r2=>cases r2; exact ⟨_,rfl,r1⟩
theorem vals2 {x y:V} {us:List Value} (r:Vals [x,y] us):∃ u w',us = [u,w']∧RelV x u∧RelV y w':=by
  cases r with
  | cons r1 r2=>
    cases r2 with
    | cons r3 r4=>cases r4; exact ⟨_,_,rfl,r1,r3⟩
theorem call_str_int:CallR X (.type "str") (fun xs H Q=>∃ i,xs = [.int i]∧i.natAbs.log2 < 1920∧Q (.str (toString i)) H):=by
  intro pins s σ H xs us Q I r h
  obtain ⟨i,rfl,hz,q⟩:=h
  obtain ⟨u,rfl,t,rfl⟩:=vals1 r
  exact PySem.P.str_of_int hz ⟨.str _,H,I.tok _,⟨_,rfl⟩,q⟩
end
structure Cls (K:PySem.W.Frag) (C:Addr):Prop where
  pg:PySem.W.plainGet K C Str.empty = true
  hd:PySem.W.hasDictIn K C = true
  po:PySem.W.plainOver K C = true
  sa:PySem.W.findIn K (.ref C) "__setattr__" = some (some (.builtin "object.__setattr__"))
def NoAttr (K:PySem.W.Frag) (C:Addr) (f:Str):Prop:=PySem.W.findIn K (.ref C) f = some none
section
variable {X:Cx} {pins:List (Addr × Obj)} {σ:St} {H:Hp} {s:Shared} {a C dx:Addr} {fs:List (Str × V)} {f:Str} {v:V} {A:Around} {E:Value→Shared→Prop}
theorem attr_of {prog:Program} {w:World} {env:Env} {e:Expr} {f:Str} {pos:Pos} {s:Shared} {Q:Value→Shared→Prop} (hb:attributeBase e f env (eval e env) = eval e env)
    (h:wpAny (model prog w) A (eval e env) (fun o s₁=>wpAny (model prog w) A (getAttr o f true) Q E s₁) E s):wpAny (model prog w) A (eval (.Attribute e f pos) env) Q E s:=
  Attribute_any_ h (by rw [arm_eval_Attribute,hb])
end
section
variable {X:Cx} {pins:List (Addr × Obj)} {σ:St} {H:Hp} {s:Shared} {A:Around} {E:Value→Shared→Prop} {Q:Value→Shared→Prop} {c:Value} {b:Bool}
inductive TyOf (K:PySem.W.Frag) (H:Hp):V→Value→Prop where
  | non:TyOf K H .non (.type "NoneType")
  | bl (x:Bool):TyOf K H (.bl x) (.type "bool")
  | int (i:Int):TyOf K H (.int i) (.type "int")
  | str (x:Str):TyOf K H (.str x) (.type "str")
  | flt (x:UInt64):TyOf K H (.flt x) (.type "float")
  | lst {a:Addr} {xs:List V} (e:H a = some (.lst xs)):TyOf K H (.ref a) (.type "list")
  | frz {a:Addr} {o:Obj} {xs:List V} (e:H a = some (.frz o (.lst xs))):TyOf K H (.ref a) (.type "list")
  | tup {a:Addr} {xs:List V} (e:H a = some (.tup xs)):TyOf K H (.ref a) (.type "tuple")
  | dK {a:Addr} {kvs:List (Key × V)} (e:H a = some (.dK kvs)):TyOf K H (.ref a) (.type "dict")
  | dT {a:Addr} {kvs:List (List Key × V)} (e:H a = some (.dT kvs)):TyOf K H (.ref a) (.type "dict")
  | ins {a C dx:Addr} {fs:List (Str × V)} (e:H a = some (.ins C dx fs)) (cl:Cls K C) (ha:PySem.W.findIn K (.ref C) "__class__" = some (some (.builtin "object.__class__")))
      (hn : PySem.W.specialIn K (.builtin "object.__class__") "__get__" = some (some (.builtin "getset_descriptor.__get__"))) (htk : PySem.W.takesIn K (.builtin "object.__class__") = some true)
      (hm:PySem.W.mroIn K C (.type "object") = some true):TyOf K H (.ref a) (.ref C)
end
structure Room (k:Nat) (A:Around):Prop where
  hd:A.handled = none
  dp:A.depth + 3 * k + 5 < recursionLimit
  un:A.units + 16 * k + 200 < cLine
theorem Room.mono {j k:Nat} {A:Around} (r:Room k A) (h:j ≤ k):Room j A:=⟨r.hd,by have:=r.dp; omega,by have:=r.un; omega⟩
theorem Room.deeper {k:Nat} {A:Around} (r:Room (k + 1) A) (env:Env):Room k (A.deeper env):=
  ⟨r.hd,by have:=r.dp; show A.depth + 1 + 3 * k + 5 < _; omega,by have:=r.un; show A.units + 3 + 16 * k + 200 < _; omega⟩
theorem make_depth {A:Around} {C:Addr} {us:List Value} {kw:List (Str × Value)}:(A.under (.builtin "type.__call__" ⟨.ref C :: us,kw⟩)).depth = A.depth + 1:=by
  first | rfl | simp [Around.under,Code.weight,Code.isCreation,Code.isGuard,Code.isCaller,Code.frames,Code.isFrame,guardIds]
theorem make_units {A:Around} {C:Addr} {us:List Value} {kw:List (Str × Value)}:(A.under (.builtin "type.__call__" ⟨.ref C :: us,kw⟩)).units = A.units + 1:=by
  first | rfl | simp [Around.under,Code.cUnits,Code.frames,Code.isFrame]
theorem Room.make {k:Nat} {A:Around} (r:Room (k + 1) A) (C:Addr) (us:List Value) (kw:List (Str × Value)):Room k (A.under (.builtin "type.__call__" ⟨.ref C :: us,kw⟩)):=
  ⟨r.hd,by have:=r.dp; rw [make_depth]; omega,by have:=r.un; rw [make_units]; omega⟩
theorem Room.depth {k:Nat} {A:Around} (r:Room k A):A.depth < recursionLimit:=by have:=r.dp; omega
theorem Room.units {k:Nat} {A:Around} (r:Room k A):A.units + 64 < cLine:=by have:=r.un; omega
def tNil:TA:=fun _ H Q=>Q [] H
def tCons (ta:TE) (tr:TA):TA:=fun σ H Q=>ta σ H fun x H1=>tr σ H1 fun xs H2=>Q (x :: xs) H2
section
variable {X:Cx} {e:Expr} {es:List Expr} {te:TE} {t:TA} {pos:Pos}
theorem pa_nil:PA X [] tNil:=fun _ _ _ _ H Q I h=>Calls.spliced_nil ⟨[],H,I,.nil,h⟩
theorem pa_cons (ha:PE X e te) (hr:PA X es t) (hs:starEach (e :: es) X.env = (false,eval e X.env) :: starEach es X.env:=by rfl):PA X (e :: es) (tCons te t):=by
  intro pos pins s σ H Q I h
  rw [hs]
  show wpAny _ _ (spliced ((false,eval e X.env) :: backTo pos (starEach es X.env))) _ _ s
  refine Calls.spliced_cons (thn (ha pins s σ H _ I h) fun u s1 ⟨x,H1,I1,r1,q1⟩=>?_)
  exact thn (hr pos pins s1 σ H1 _ I1 q1) fun us s2 ⟨xs,H2,I2,r2,q2⟩=>⟨x :: xs,H2,I2,.cons r1 r2,q2⟩
def tTup (t:TA):TE:=fun σ H Q=>t σ H fun xs H1=>xs.length ≤ sizeLine∧∀ p,H1 p = none→Q (.ref p) (upd H1 p (.tup xs))
def tLst (t:TA):TE:=fun σ H Q=>t σ H fun xs H1=>xs.length ≤ sizeLine∧∀ p,H1 p = none→Q (.ref p) (upd H1 p (.lst xs))
theorem pe_tup {x1} (h:PA X es t):PE X (.Tuple es x1 pos) (tTup t):=by
  intro pins s σ H Q I hq
  refine wpAny_Tuple_spliced (thn (h pos pins s σ H _ I hq) fun us s1 ⟨xs,H1,I1,r,z,q⟩=>⟨by rw [← r.length]; exact z,?_⟩)
  have hf:H1 s1.heap.objs.size = none:=I1.hok.fresh (Nat.le_refl _)
  refine ⟨.ref s1.heap.objs.size,upd H1 s1.heap.objs.size (.tup xs),I1.laid (t':=s1.toks) (fun b u e=>Heap.get?_push_of_some _ e) (Nat.le_refl _) ?_,rfl,q _ hf⟩
  exact ⟨z,us,r,⟨_,Heap.get?_push_size _ rfl,rfl,_,rfl⟩⟩
theorem pe_lst (h:PA X es t):PE X (.List es pos) (tLst t):=by
  intro pins s σ H Q I hq
  refine wpAny_List_spliced (thn (h pos pins s σ H _ I hq) fun us s1 ⟨xs,H1,I1,r,z,q⟩=>⟨by rw [← r.length]; exact z,?_⟩)
  have hf:H1 s1.heap.objs.size = none:=I1.hok.fresh (Nat.le_refl _)
  refine ⟨.ref s1.heap.objs.size,upd H1 s1.heap.objs.size (.lst xs),I1.laid (t':=s1.toks) (fun b u e=>Heap.get?_push_of_some _ e) (Nat.le_refl _) ?_,rfl,q _ hf⟩
  exact ⟨z,us,0,r,Heap.get?_push_size _ rfl⟩
end
abbrev Sp:=List V→Hp→VK→XK→Prop
abbrev CXT:=List Env→Hp→Shared→XK→Value→Shared→Prop
structure Env0 (P:Program) (w:World) (K:PySem.W.Frag) (mg:Str→Option Value) (base:Heap) (A:Around) (outer:List Env) (s:Shared) (H:Hp):Prop where
  frames:A.frames = some outer
  mod:Mod K mg base
  bs:∀ b o,base.get? b = some o→s.heap.get? b = some o∧H b = none
  bsz:base.objs.size ≤ s.heap.objs.size
  funs:s.heap.FunFrames base outer
  frf:∀ b ∈ frs outer,H b = none
  hok:HOk P w H s.heap
  bare:AllBare s.gens
def CE (outer:List Env) (P:Program) (w:World) (H:Hp) (s:Shared) (Q:VK) (u:Value) (s':Shared):Prop:=
  ∃ v H',s'.os = s.os∧AllBare s'.gens∧Un (frs outer) [] H H' s.heap s'.heap∧HOk P w H' s'.heap∧RelV v u∧Q v H'
def CR (CX:CXT) (outer:List Env) (P:Program) (w:World) (H:Hp) (s:Shared) (Q:VK) (E:XK) (r:Result) (s':Shared):Prop:=
  match r with
  | .ok (.ret u)=>CE outer P w H s Q u s'
  | .ok _=>False
  | .error e=>CX outer H s E e s'
structure FnOk (P:Program) (w:World) (K:PySem.W.Frag) (mg:Str→Option Value) (base:Heap) (CX:CXT) (k:Nat) (f:Addr) (fd:FuncData) (ps:List Str) (sp:Sp):Prop where
  len:∀ vs H Q E,sp vs H Q E→vs.length = ps.length
  run:∀ (A:Around) (outer:List Env) (s:Shared) (H:Hp) (args:Args) (us:List Value) (vs:List V) (Q:VK) (E:XK),Room k A→Env0 P w K mg base A outer s H→BindsTo s fd args (ps.zip us)→Vals vs us→sp vs H Q E→
    codeAny (model P w) A (.call (.ref f) args) (CR CX outer P w H s Q E) s
theorem Env0.make {P:Program} {w:World} {K:PySem.W.Frag} {mg:Str→Option Value} {base:Heap} {A:Around} {outer:List Env} {s:Shared} {H:Hp} (e:Env0 P w K mg base A outer s H) (C:Addr) (us:List Value) (kw:List (Str × Value)) :
    Env0 P w K mg base (A.under (.builtin "type.__call__" ⟨.ref C :: us,kw⟩)) outer s H:=⟨by first | exact e.frames | (simpa [Around.under,Code.envs,Code.isFrame,pushEnvs] using e.frames),e.mod,e.bs,e.bsz,e.funs,e.frf,e.hok,e.bare⟩
section
variable {X:Cx} {pins:List (Addr × Obj)} {σ:St} {H:Hp} {s s':Shared}
theorem Inv.env0 (I:Inv X pins σ H s):Env0 X.prog X.w X.K X.mg X.base X.A X.stack s H:=
  ⟨I.ok.frames,I.ok.mod,I.bs,Nat.le_trans I.ok.bsz I.sz,I.stack,I.stkFree,I.hok,I.bare⟩
theorem Inv.after {Q:VK} {u:Value} (I:Inv X pins σ H s) (h:CE X.stack X.prog X.w H s Q u s'):EP X pins σ Q u s':=by
  obtain ⟨v,H',os,bare,un,hok,r,q⟩:=h
  obtain ⟨hh,g,d,t,os'⟩:=s'
  obtain rfl:os' = s.os:=os
  exact ⟨v,H',I.call (h':=hh) (g':=g) (d':=d) (t':=t) (ch:=[]) un hok bare (fun b z=>absurd z (by simp)),r,q⟩
end
def tCall (sp:Sp) (dvs:List V) (E:XK) (t:TA):TE:=fun σ H Q=>t σ H fun vs H1=>sp (vs ++ dvs) H1 Q E
def Binds (K:PySem.W.Frag) (fd:FuncData) (ps:List Str) (ds:List Value):Prop:=
  ∀ (s:Shared) (us:List Value),K.In s.heap→(us ++ ds).length = ps.length→BindsTo s fd ⟨us,[]⟩ (ps.zip (us ++ ds))
theorem Binds.all {K:PySem.W.Frag} {fd:FuncData} {ps:List Str} (h:∀ us:List Value,us.length = ps.length→bindArgs fd ⟨us,[]⟩ = pure (ps.zip us)):Binds K fd ps []:=fun s us _ hl=>by
  rw [List.append_nil] at hl ⊢
  exact .of_eq (h us hl)
def Passes (CX:CXT) (X:Cx) (E:XK):Prop:=∀ (pins:List (Addr × Obj)) (σ:St) (H:Hp) (s:Shared) (e:Value) (s':Shared),Inv X pins σ H s→CX X.stack H s E e s'→X.xe e s'
section
variable {X:Cx} {CX:CXT} {k:Nat} {f C:Addr} {fd:FuncData} {ps:List Str} {sp:Sp} {dvs:List V} {ds:List Value} {E:XK} {x m:Str} {p pos apos:Pos} {e o:Expr} {es:List Expr} {ta:TE} {t:TA}
theorem run_fn {pins:List (Addr × Obj)} {σ:St} {H:Hp} {s:Shared} {Q:VK} {us:List Value} {vs:List V} (F:FnOk X.prog X.w X.K X.mg X.base CX k f fd ps sp) (hr:Room k X.A) (hb:Binds X.K fd ps ds) (hd:Vals dvs ds) (hx:Passes CX X E)
    (I:Inv X pins σ H s) (r:Vals vs us) (h:sp (vs ++ dvs) H Q E):wpAny (model X.prog X.w) X.A (call (.ref f) us) (EP X pins σ Q) X.xe s:=by
  have r2:Vals (vs ++ dvs) (us ++ ds):=r.append hd
  have hl:(us ++ ds).length = ps.length:=by rw [← r2.length]; exact F.len _ _ _ _ h
  refine wpAny_call (codeAny_mono (F.run X.A X.stack s H ⟨us,[]⟩ (us ++ ds) (vs ++ dvs) Q E hr I.env0 (hb s us I.kIn hl) r2 h) fun r s' hq=>?_)
  cases r with
  | error e=>exact hx pins σ H s e s' I hq
  | ok fl=>
    cases fl with
    | ret u=>exact I.after hq
    | next=>exact False.elim hq
    | brk=>exact False.elim hq
    | cont=>exact False.elim hq
theorem pe_call (F:FnOk X.prog X.w X.K X.mg X.base CX k f fd ps sp) (hr:Room k X.A) (hg:Gl X x) (hm:X.mg x = some (.ref f)) (hk:PySem.W.keepIn X.K (.ref f) = true) (hb:Binds X.K fd ps ds) (hd:Vals dvs ds) (hx:Passes CX X E)
    (ha:PA X (e :: es) t) (hdb:(x == ("__debug__":Str)) = false:=by decide) (he:starEach (e :: es) X.env = (false,eval e X.env) :: starEach es X.env:=by rfl) (hpl:(backTo pos (starEach es X.env)).any (·.1) = false:=by rfl) :
    PE X (.Call (.Name x p) (e :: es) [] pos) (tCall sp dvs E t):=by
  intro pins s σ H Q I h
  refine wpAny_Call_Name_kw (ld_glob I hg hm ?_ hdb)
  refine PySem.W.callWith_K (h₀:=X.base) I.ok.mod.kin hk (thn (ha pos pins s σ H _ I h) fun us s1 ⟨vs,H1,I1,r,q⟩=>⟨I1.kIn,?_⟩) he hpl
  exact run_fn F hr hb hd hx I1 r q
end
structure FnScope (N P:List Str) (sc:Scope):Prop where
  kind:sc.kind = .function
  co:sc.isCoroutine = false
  gen:sc.isGenerator = false
  nd:N.Nodup
  pre:N.take P.length = P
  par:∀ x ∈ P,sc.names.lookup x = some .local ∨ sc.names.lookup x = some .cell
  nofree:∀ y ∈ sc.names,y.2 ≠ .free
theorem bindL_out {kindOf:Str→Option NameKind} {x:Str}:∀ {binds:List (Str × Value)} {m:Str→Option Value},(∀ v,(x,v) ∉ binds)→bindL kindOf binds m x = m x
  | [],_,_=>rfl
  | (n,v) :: r,m,h=>by
    unfold bindL
    rw [bindL_out fun w hw=>h w (List.mem_cons_of_mem _ hw)]
    split
    · have:x ≠ n:=by rintro rfl; exact h v List.mem_cons_self
      simp [this]
    · rfl
theorem bindC_out {kindOf:Str→Option NameKind} {x:Str}:∀ {binds:List (Str × Value)} {m:Str→Option Value},(∀ v,(x,v) ∉ binds)→bindC kindOf binds m x = m x
  | [],_,_=>rfl
  | (n,v) :: r,m,h=>by
    unfold bindC
    rw [bindC_out fun w hw=>h w (List.mem_cons_of_mem _ hw)]
    split
    · rfl
    · have:x ≠ n:=by rintro rfl; exact h v List.mem_cons_self
      simp [this]
theorem bindL_get {kindOf:Str→Option NameKind} {x:Str} {v:Value}:∀ {P:List Str} {vs:List Value} {i:Nat} {m:Str→Option Value},P.Nodup→P[i]? = some x→vs[i]? = some v→kindOf x = some .local→
    bindL kindOf (P.zip vs) m x = some v
  | [],_,_,_,_,h,_,_=>by simp at h
  | _ :: _,[],_,_,_,_,h,_=>by simp at h
  | p :: P,w :: vs,0,m,nd,h1,h2,hk=>by
    simp at h1 h2; subst h1; subst h2
    show bindL kindOf ((p,w) :: P.zip vs) m p = _
    unfold bindL
    rw [bindL_out fun v hv=>(List.nodup_cons.mp nd).1 (List.of_mem_zip hv).1,if_pos hk]
    simp
  | p :: P,w :: vs,i + 1,m,nd,h1,h2,hk=>by
    show bindL kindOf ((p,w) :: P.zip vs) m x = _
    unfold bindL
    exact bindL_get (i:=i) (List.nodup_cons.mp nd).2 (by simpa using h1) (by simpa using h2) hk
theorem bindC_get {kindOf:Str→Option NameKind} {x:Str} {v:Value}:∀ {P:List Str} {vs:List Value} {i:Nat} {m:Str→Option Value},P.Nodup→P[i]? = some x→vs[i]? = some v→kindOf x ≠ some .local→
    bindC kindOf (P.zip vs) m x = some v
  | [],_,_,_,_,h,_,_=>by simp at h
  | _ :: _,[],_,_,_,_,h,_=>by simp at h
  | p :: P,w :: vs,0,m,nd,h1,h2,hk=>by
    simp at h1 h2; subst h1; subst h2
    show bindC kindOf ((p,w) :: P.zip vs) m p = _
    unfold bindC
    rw [bindC_out fun v hv=>(List.nodup_cons.mp nd).1 (List.of_mem_zip hv).1,if_neg hk]
    simp
  | p :: P,w :: vs,i + 1,m,nd,h1,h2,hk=>by
    show bindC kindOf ((p,w) :: P.zip vs) m x = _
    unfold bindC
    exact bindC_get (i:=i) (List.nodup_cons.mp nd).2 (by simpa using h1) (by simpa using h2) hk
def start (N:List Str) (vs:List V):St:=vs.map some ++ List.replicate (N.length - vs.length) none
def cxOf (CX:CXT) (P:Program) (w:World) (K:PySem.W.Frag) (mg:Str→Option Value) (base:Heap) (N:List Str) (qual:Str) (scope:Scope) (f:Addr) (cd:Value) (A:Around) (outer:List Env) (s:Shared) (H:Hp) (E:XK):Cx where
  prog:=P
  w:=w
  K:=K
  mg:=mg
  base:=base
  A:=A.deeper (envOfC qual scope s.heap.objs.size f cd)
  N:=N
  s₀:=s
  H₀:=H
  env:=envOfC qual scope s.heap.objs.size f cd
  outer:=outer
  stack:=envOfC qual scope s.heap.objs.size f cd :: outer
  ex:=[]
  calm:=true
  fn:=fun _=>true
  pn:=[]
  xe:=fun e s'=>wpAny (model P w) (A.deeper (envOfC qual scope s.heap.objs.size f cd)) (leaving (envOfC qual scope s.heap.objs.size f cd) e) (fun _ s''=>CX outer H s E e s'') (fun e' s''=>CX outer H s E e' s'') s'
theorem cell_has {sc:Scope} {n:Nat} {x:Str} (h:sc.names.lookup x = some .cell):∃ c,(cellsFrom n sc.names []).lookup x = some c:=by
  have q:=PySem.W.cellsFrom_some sc.names n [] (.inl h)
  exact Option.isSome_iff_exists.mp q
theorem inv_start {CX:CXT} {P:Program} {w:World} {K:PySem.W.Frag} {mg:Str→Option Value} {base:Heap} {N ps:List Str} {qual:Str} {scope:Scope} {f:Addr} {cd:Value} {A:Around} {outer:List Env} {s s1:Shared} {H:Hp} {E:XK} {us:List Value} {vs:List V}
    (S:FnScope N ps scope) (hd:A.handled = none) (e0:Env0 P w K mg base A outer s H) (hl:vs.length = ps.length) (r:Vals vs us)
    (x:InCallC s s.heap.objs.size (bindL (envOfC qual scope s.heap.objs.size f cd).kindOf (ps.zip us) fun _=>none) (cellsFrom (s.heap.objs.size + 1) scope.names []) (bindC (envOfC qual scope s.heap.objs.size f cd).kindOf (ps.zip us) fun _=>none) s1) :
    Inv (cxOf CX P w K mg base N qual scope f cd A outer s H E) [] (start N vs) H s1:=by
  have hpl:ps.length ≤ N.length:=by have:=congrArg List.length S.pre; rw [List.length_take] at this; omega
  obtain ⟨h1,tk,rfl,hk⟩:=x.done
  have noA:∀ b:Addr,b ∉ (cxOf CX P w K mg base N qual scope f cd A outer s H E).ex:=fun b z=>absurd (show b ∈ ([]:List Addr) from z) (by simp)
  refine ⟨⟨e0.mod,S.kind,rfl,rfl,Nat.le_refl _,fun y z c h1 h2=>?_,fun y hy=>?_,fun y c _ h=>?_,fun _=>hd,Around.frames_deeper e0.frames,.inr ⟨rfl,rfl⟩,fun b z=>absurd z (noA b),e0.bs,e0.bsz,fun b _ _=>noA b,fun b z=>absurd z (noA b),e0.funs,e0.frf⟩,
    rfl,e0.bare,Un.kept hk,⟨_,x.toInCall.ns,fun i y v h1 h2 h3=>?_⟩,fun y c h=>⟨_,x.cell y c h⟩,e0.hok.fresh (Nat.le_refl _),fun y c h=>?_,fun p hp=>absurd (show p ∈ ([]:List (Addr × Obj)) from hp) (by simp),e0.hok.kept hk,?_⟩
  · exact name_of_addr x.apart (PySem.mem_of_lookup h1) (PySem.mem_of_lookup h2)
  · have hy:scope.names.lookup y = some .cell ∨ scope.names.lookup y = some .free:=hy
    rcases hy with hy | hy
    · exact cell_has hy
    · exact absurd rfl (S.nofree _ (PySem.mem_of_lookup hy))
  · exact Nat.le_of_lt (x.above y c (PySem.mem_of_lookup h))
  · have hi:i < vs.length:=by
      unfold start at h2
      by_cases hi:i < vs.length
      · exact hi
      · rw [List.getElem?_append_right (by simpa using hi)] at h2
        rw [List.getElem?_replicate] at h2
        split at h2 <;> cases h2
    have ha:vs[i]? = some v:=by
      unfold start at h2
      rw [List.getElem?_append_left (by simpa using hi),List.getElem?_map] at h2
      cases e:vs[i]? with
      | none=>rw [e] at h2; cases h2
      | some a=>rw [e] at h2; cases h2; rfl
    obtain ⟨u,hu,rv⟩:=r.get ha
    have hp:ps[i]? = some y:=by
      rw [← S.pre,List.getElem?_take_of_lt (by omega)]; exact h1
    have ndP:ps.Nodup:=by rw [← S.pre]; exact S.nd.sublist (List.take_sublist _ _)
    refine ⟨u,rv,?_⟩
    rcases S.par y (List.mem_of_getElem? hp) with k | k
    · exact .inl ⟨k,bindL_get ndP hp hu k⟩
    · obtain ⟨c,e⟩:=cell_has (n:=s.heap.objs.size + 1) k
      refine .inr ⟨.inl k,c,e,?_⟩
      have q:=x.cell y c e
      rw [bindC_get ndP hp hu (by show scope.names.lookup y ≠ _; rw [k]; decide)] at q
      exact q
  · exact e0.hok.fresh (Nat.le_of_lt (x.above y c (PySem.mem_of_lookup h)))
  · unfold start
    show _ = N.length
    rw [List.length_append,List.length_map,List.length_replicate]
    omega
theorem fn_of {CX:CXT} {P:Program} {w:World} {K:PySem.W.Frag} {mg:Str→Option Value} {base:Heap} {k:Nat} {f:Addr} {name qual:Str} {params:Arguments} {body:List Stmt} {scope:Scope} {dV kV doc pm cdv ct oc:Value} {an od:Option Addr}
    {osl:Array (Option Value)} {N ps:List Str} {sp:Sp} (lk:K.lookup f = some ⟨oc,od,.func (PySem.W.fnOf name qual params body scope dV kV doc pm an cdv ct),osl⟩) (hcd:PySem.W.codeIn K cdv qual = true) (S:FnScope N ps scope)
    (len:∀ vs H Q E,sp vs H Q E→vs.length = ps.length)
    (hbody:∀ (A:Around) (outer:List Env) (s:Shared) (H:Hp) (vs:List V) (Q:VK) (E:XK),Room k (A.deeper (envOfC qual scope s.heap.objs.size f cdv))→sp vs H Q E→
      ∃ t,PSs (cxOf CX P w K mg base N qual scope f cdv A outer s H E) body t∧t { nx:=fun _ H'=>Q .non H',rt:=Q } (start N vs) H) :
    FnOk P w K mg base CX (k + 1) f (PySem.W.fnOf name qual params body scope dV kV doc pm an cdv ct) ps sp:=by
  refine ⟨len,fun A outer s H args us vs Q E hr e0 hb r hsp=>?_⟩
  have hl:=len _ _ _ _ hsp
  have KX:K.In s.heap:=e0.mod.kin.keeps fun b o e=>(e0.bs b o e).1
  have lim:s.heap.NoLimit:=e0.mod.nolimit.keeps fun b o e=>(e0.bs b o e).1
  have hkind:∀ y ∈ ps.zip us,scope.names.lookup y.1 = some .local ∨ (scope.names.lookup y.1 = some .cell∧((cellsFrom (s.heap.objs.size + 1) scope.names []).lookup y.1).isSome = true):=fun ⟨n,v⟩ hy=>by
    rcases S.par n (List.of_mem_zip hy).1 with q | q
    · exact .inl q
    · exact .inr ⟨q,PySem.W.cellsFrom_some _ _ _ (.inl q)⟩
  refine codeAny_call_function hr.depth (KX _ _ lk) rfl S.co S.gen rfl (PySem.W.codeRec_of KX hcd) (hb _ _ _ _ ?_)
  refine wpAny_newFunctionEnv_cells S.kind hkind fun env he s1 x=>?_
  subst he
  refine ⟨lim.keeps x.toInCall.keep,codeAny_func ?_⟩
  obtain ⟨t,ht,hq⟩:=hbody A outer s H vs Q E (hr.deeper _) hsp
  have I:Inv (cxOf CX P w K mg base N qual scope f cdv A outer s H E) [] (start N vs) H s1:=inv_start S hr.hd e0 hl r x
  refine wpAny_mono (ht [] s1 (start N vs) H _ I hq) (fun fl s' hs=>?_) fun e s' hs=>hs
  have fin:∀ {σ':St} {H':Hp} {v:V} {u:Value},Inv (cxOf CX P w K mg base N qual scope f cdv A outer s H E) [] σ' H' s'→RelV v u→Q v H'→CE outer P w H s Q u s':=
    fun {σ' H' v u} J rv q=>⟨v,H',J.os,J.bare,J.base,J.hok,rv,q⟩
  cases fl with
  | ret u=>
    obtain ⟨v,σ',H',J,rv,q⟩:=hs
    exact fin J rv q
  | next=>
    obtain ⟨σ',H',J,q⟩:=hs
    exact fin (v:=V.non) (u:=Value.none) J rfl q
  | brk=>
    obtain ⟨_,_,_,q⟩:=hs
    exact False.elim q
  | cont=>
    obtain ⟨_,_,_,q⟩:=hs
    exact False.elim q
section
variable {X:Cx} {x:Str} {p pos:Pos} {e:Expr} {es:List Expr} {t:TA} {id T:String} {r:List V→Hp→VK→Prop}
def tCB (r:List V→Hp→VK→Prop) (t:TA):TE:=fun σ H Q=>t σ H fun vs H1=>r vs H1 Q
theorem pe_callB (hc : CallR X (.builtin id) r) (hg : Gl X x) (hm : X.mg x = none) (hv : bootBuiltins x = some (.builtin id)) (ha : PA X (e :: es) t) (hn : x ≠ "__name__" := by decide) (hdb : (x == ("__debug__" : Str)) = false := by decide)
    (he:starEach (e :: es) X.env = (false,eval e X.env) :: starEach es X.env:=by rfl) (hpl:(backTo pos (starEach es X.env)).any (·.1) = false:=by rfl):PE X (.Call (.Name x p) (e :: es) [] pos) (tCB r t):=by
  intro pins s σ H Q I h
  refine wpAny_Call_Name_kw (ld_blt I hg hm hv ?_ hn hdb)
  exact PyProof.Rows.callWith_builtin1 (thn (ha pos pins s σ H _ I h) fun us s1 ⟨vs,H1,I1,r1,q1⟩=>hc pins s1 σ H1 vs us Q I1 r1 q1) he hpl
theorem pe_callTy (hc : CallR X (.type T) r) (hg : Gl X x) (hm : X.mg x = none) (hv : bootBuiltins x = some (.type T)) (ha : PA X (e :: es) t) (hn : x ≠ "__name__" := by decide) (hdb : (x == ("__debug__" : Str)) = false := by decide)
    (he:starEach (e :: es) X.env = (false,eval e X.env) :: starEach es X.env:=by rfl) (hpl:(backTo pos (starEach es X.env)).any (·.1) = false:=by rfl):PE X (.Call (.Name x p) (e :: es) [] pos) (tCB r t):=by
  intro pins s σ H Q I h
  refine wpAny_Call_Name_kw (ld_blt I hg hm hv ?_ hn hdb)
  exact PyProof.Rows.callWith_type1 (thn (ha pos pins s σ H _ I h) fun us s1 ⟨vs,H1,I1,r1,q1⟩=>hc pins s1 σ H1 vs us Q I1 r1 q1) he hpl
end
end L2
namespace HT
open PySem PyProof.Rows
section
open PySem.SeqAt
open PySem.AutoSeq1 (wpAny_loadPart')
open PySem.MeetsSeq PySem.MeetsSeq2 PySem.MeetsSeq3
end
end HT
namespace L2
open PySem PySem.Spec PyProof.Rows
abbrev TO:=St→Hp→(Option Int→Hp→Prop)→Prop
def tNoPart:TO:=fun _ H Q=>Q none H
def tPart (t:TE):TO:=fun σ H Q=>t σ H fun x H1=>∃ i,x = .int i∧Q (some i) H1
section
variable {X:Cx} {e:Expr} {te:TE} {lo hi:Option Expr} {tl th:TO} {pos p2:Pos}
def tSl (r:V→Option Int→Option Int→Hp→VK→Prop) (te:TE) (tl th:TO):TE:=fun σ H Q=>te σ H fun x H1=>tl σ H1 fun l H2=>th σ H2 fun u H3=>r x l u H3 Q
end
def ixN (n:Nat) (i:Int):Option Nat:=if 0 ≤ i then (if i < n then some i.toNat else none) else if -(n:Int) ≤ i then some (i + n).toNat else none
def atI {α:Type} (xs:List α) (i:Int):Option α:=(ixN xs.length i).bind fun j=>xs[j]?
theorem ixN_seq {n:Nat} {i:Int} {j:Nat} (h:ixN n i = some j):seqIndex? i n = some j∧j < n∧-(n:Int) ≤ i∧i < n:=by
  unfold ixN at h
  by_cases h0:0 ≤ i
  · rw [if_pos h0] at h
    by_cases h1:i < n
    · rw [if_pos h1] at h
      have e:i.toNat = j:=Option.some.inj h
      exact ⟨by rw [seqIndex_of h0 h1,e],by omega,by omega,h1⟩
    · rw [if_neg h1] at h; cases h
  · rw [if_neg h0] at h
    by_cases h1:-(n:Int) ≤ i
    · rw [if_pos h1] at h
      have e:(i + n).toNat = j:=Option.some.inj h
      exact ⟨by rw [seqIndex_neg (by omega) h1,e],by omega,h1,by omega⟩
    · rw [if_neg h1] at h; cases h
theorem atI_get {α:Type} {xs:List α} {i:Int} {v:α} (h:atI xs i = some v):∃ j,seqIndex? i xs.length = some j∧xs[j]? = some v∧j < xs.length∧-(xs.length:Int) ≤ i∧i < xs.length:=by
  unfold atI at h
  cases e:ixN xs.length i with
  | none=>rw [e] at h; cases h
  | some j=>
    rw [e] at h
    obtain ⟨h1,h2,h3,h4⟩:=ixN_seq e
    exact ⟨j,h1,h,h2,h3,h4⟩
theorem atI_nat {α:Type} {xs:List α} {j:Nat} {v:α} (h:xs[j]? = some v):atI xs (j:Int) = some v:=by
  have hj:j < xs.length:=(List.getElem?_eq_some_iff.mp h).1
  have e:ixN xs.length (j:Int) = some j:=by
    unfold ixN
    rw [if_pos (by omega),if_pos (by omega)]; simp
  unfold atI; rw [e]; exact h
def PlainIx (b:Expr):Prop:=∀ o i,subscripted b false o i = operate [o,i] (getItem o i)
def IxR (X:Cx) (r:R2):Prop:=
  ∀ (value slice:Expr) (pins:List (Addr × Obj)) (s:Shared) (σ:St) (H:Hp) (x y:V) (v u:Value) (Q:VK),Inv X pins σ H s→RelV x v→RelV y u→r x y H Q→
    subscripted slice false v u = operate [v,u] (getItem v u)→wpAny (model X.prog X.w) X.A (subscriptTail value slice v u) (EP X pins σ Q) X.xe s
section
variable {X:Cx} {a b:Expr} {ta tb:TE} {pos:Pos}
theorem pe_ix {r:R2} (hr:IxR X r) (ha:PE X a ta) (hb:PE X b tb) (hs:PlainIx b):PE X (.Subscript a b pos) (tOp r ta tb):=by
  intro pins s σ H Q I h
  exact Subscript_ (binT ha hb I h fun v u s2 x y H2 I2 rx ry q=>hr a b pins s2 σ H2 x y v u Q I2 rx ry q (hs _ _))
def rIxL (K:PySem.W.Frag):R2:=fun x y H Q=>∃ p xs i v,x = .ref p∧y = .int i∧SqL K H p xs∧atI xs i = some v∧Q v H
def rIxT (K:PySem.W.Frag):R2:=fun x y H Q=>∃ p xs i v,x = .ref p∧y = .int i∧SqT K H p xs∧atI xs i = some v∧Q v H
theorem ix_list:IxR X (rIxL X.K):=by
  intro value slice pins s σ H x y v u Q I rx ry h hs
  obtain ⟨p,xs,i,z,rfl,rfl,hq,he,q⟩:=h
  cases rx
  obtain ⟨t,rfl⟩:=ry
  obtain ⟨its,r,pl,hz⟩:=I.list hq
  obtain ⟨j,h1,h2,h3,h4,h5⟩:=atI_get he
  obtain ⟨w,ew,rw'⟩:=r.get h2
  have hl:=r.length
  have hn:=line63
  have fin:EP X pins σ Q w s:=⟨z,H,I,rw',q⟩
  by_cases h0:0 ≤ i
  · have hj:i.toNat = j:=by
      rw [seqIndex_of h0 h5] at h1
      exact Option.some.inj h1
    exact item_listR pl.isList h0 (by omega) (by rw [hj]; simpa using ew) fin hs
  · have hj:(i + (its.toArray.size:Int)).toNat = j:=by
      rw [seqIndex_neg (by omega) h4] at h1
      rw [List.size_toArray,← hl]
      exact Option.some.inj h1
    exact subscriptTail_builtinR (x:=w) pl.isList.typeIs slot_list_getitem.lookup
      (wpAny_getItem_list_neg (Q:=fun r s'=>r = w∧EP X pins σ Q r s') pl.isList (by omega) (by rw [List.size_toArray] <;> omega) (by omega) (by rw [hj]; simpa using ew) ⟨rfl,fin⟩) hs
theorem ix_tup:IxR X (rIxT X.K):=by
  intro value slice pins s σ H x y v u Q I rx ry h hs
  obtain ⟨p,xs,i,z,rfl,rfl,hq,he,q⟩:=h
  cases rx
  obtain ⟨t,rfl⟩:=ry
  obtain ⟨its,r,pl,hz⟩:=I.tuple hq
  obtain ⟨j,h1,h2,h3,h4,h5⟩:=atI_get he
  obtain ⟨w,ew,rw'⟩:=r.get h2
  have hl:=r.length
  have hn:=line63
  have fin:EP X pins σ Q w s:=⟨z,H,I,rw',q⟩
  exact subscriptTail_builtinR (x:=w) pl.typeIs slot_tuple_getitem.lookup
    (getItem_tuple (j:=j) (Q:=fun r s'=>r = w∧EP X pins σ Q r s') pl (by omega) (by omega) (by rw [List.size_toArray,← hl]; exact h1) (by simpa using ew) ⟨rfl,fin⟩) hs
theorem call_len_seq:CallR X (.builtin "len") (fun xs H Q=>∃ p ys,xs = [.ref p]∧(SqL X.K H p ys ∨ SqT X.K H p ys)∧Q (.int ys.length) H):=by
  intro pins s σ H xs us Q I r h
  obtain ⟨p,ys,rfl,hq,q⟩:=h
  obtain ⟨u,rfl,rx⟩:=vals1 r
  cases rx
  have hn:=line63
  rcases hq with hq | hq
  · obtain ⟨its,r',pl,hz⟩:=I.list hq
    have hlen:=r'.length
    exact Calls.call_len_list pl.isList (by simp only [List.size_toArray] <;> omega) ⟨.int ys.length,H,I.tok _,⟨s.toks + 1,by rw [List.size_toArray,hlen]⟩,q⟩
  · obtain ⟨its,r',pl,hz⟩:=I.tuple hq
    have hlen:=r'.length
    exact len_tuple pl (by simp only [List.size_toArray] <;> omega) ⟨.int ys.length,H,I.tok _,⟨s.toks + 1,by rw [List.size_toArray,hlen]⟩,q⟩
def tyV (K:PySem.W.Frag) (T:String) (x:V) (H:Hp):Prop:=match x with
  | .str _=>T = "str"
  | .int _=>T = "int"
  | .ref p => (T = "list" ∧ ∃ xs, SqL K H p xs) ∨ (T = "tuple" ∧ ∃ o, K.lookup p = some o ∧ o.cls = .type "tuple" ∧ o.dict = none) ∨
      (T = "dict" ∧ ((∃ kvs, H p = some (.dK kvs)) ∨ ∃ kvs, H p = some (.dT kvs))) ∨ (T = "set" ∧ ∃ S n, H p = some (.set S n))
  | _=>False
def tBM0 (K:PySem.W.Frag) (T:String) (r:V→List V→Hp→VK→Prop) (to:TE):TE:=fun σ H Q=>to σ H fun x H1=>tyV K T x H1∧r x [] H1 Q
def tBM (K:PySem.W.Frag) (T:String) (r:V→List V→Hp→VK→Prop) (to:TE) (t:TA):TE:=fun σ H Q=>to σ H fun x H1=>tyV K T x H1∧t σ H1 fun xs H2=>r x xs H2 Q
variable {o e:Expr} {es:List Expr} {to:TE} {t:TA} {name:Str} {apos cpos:Pos} {T id:String} {r:V→List V→Hp→VK→Prop}
end
section
variable {X:Cx} {pins:List (Addr × Obj)} {σ:St} {H:Hp} {s:Shared} {l b:Addr} {xs ys zs:List V}
theorem Inv.lnew {its:List Value} {t':Nat} (I:Inv X pins σ H s) (hv:Vals ys its) (hz:ys.length ≤ sizeLine) :
    Inv X pins σ (upd H s.heap.objs.size (.lst ys)) { s with heap:=s.heap.push { cls:=.type "list",data:=.seq its.toArray },toks:=t' }:=
  I.laid (fun _ _ q=>Heap.get?_push_of_some _ q) (Nat.le_refl _) ⟨hz,its,0,hv,Heap.get?_push_size _ rfl⟩
theorem Inv.fresh (I:Inv X pins σ H s):H s.heap.objs.size = none:=I.hok.fresh (Nat.le_refl _)
theorem Inv.lstM (I:Inv X pins σ H s) (hH:H l = some (.lst xs)):xs.length ≤ sizeLine∧∃ (its:List Value) (n:Nat),Vals xs its∧xs.length = its.length∧s.heap.get? l = some { cls:=.type "list",data:=.seq its.toArray n }:=by
  obtain ⟨z,its,n,r,e⟩:=I.hok l _ hH
  exact ⟨z,its,n,r,r.length,e⟩
end
section
variable {X:Cx}
def rCat:R2:=fun x y H Q=>∃ l b xs zs,x = .ref l∧y = .ref b∧H l = some (.lst xs)∧H b = some (.lst zs)∧xs.length + zs.length ≤ sizeLine∧∀ p,H p = none→Q (.ref p) (upd H p (.lst (xs ++ zs)))
theorem op_cat:OpR X (binaryOp .Add) rCat:=by
  intro pins s σ H x y v u Q I rx ry h
  obtain ⟨l,b,xs,zs,rfl,rfl,hH,hB,hz,q⟩:=h
  cases rx
  cases ry
  obtain ⟨z,its,n,r,hl,e⟩:=I.lstM hH
  obtain ⟨z2,its2,n2,r2,hl2,e2⟩:=I.lstM hB
  refine PySem.P.add_list e e2 ?_ (by rw [List.size_toArray,List.size_toArray]; omega)
  have ea:its.toArray ++ its2.toArray = (its ++ its2).toArray:=by simp
  rw [ea]
  exact ⟨.ref _,_,I.lnew (t':=s.toks) (r.append r2) (by rw [List.length_append]; omega),rfl,q _ I.fresh⟩
end
end L2
namespace Att
open PySem PySem.W PySem.Calls PyProof.Rows
theorem ints_of_wellAll {P:Params} {h:Heap}:∀ (ns:List Int) (vs:List Value),WellAll P h vs (ns.map WData.int)→IntsAre vs ns:=by
  intro ns
  induction ns with
  | nil=>
    intro vs w
    rw [List.map_nil] at w
    cases w
    exact .nil
  | cons n ns ih=>
    intro vs w
    rw [List.map_cons] at w
    cases w with
    | cons a b=>
      cases a
      exact .cons _ _ (ih _ b)
theorem script_of {l:OpenLaw} {n:Nat} (hn:l.most = some n) {P:Params} {h:Heap} {args:List WData} {vals:List Value}
    (hpre:l.row.toRowW.claim.pre args = true) (hwl:WellAll P h vals args) :
    ∃ a vs ns,vals = [Value.ref a]∧args = [WData.list (ns.map WData.int)]∧h.get? a = some { cls:=.type "list",data:=.seq vs.toArray }∧IntsAre vs ns∧ns.length ≤ n:=by
  have hsh:WShape.hasAll [] args [.list .int] = true:=(pre_splitW hpre).1
  have hc:l.pre.holds [] { args:=args } = true:=(pre_splitW hpre).2
  obtain ⟨d,r,rfl,h1,h2⟩:=hasAllW_cons hsh
  obtain rfl:=hasAllW_nil h2
  obtain ⟨xs,rfl,h3⟩:=hasW_list h1
  obtain ⟨ns,rfl⟩:=items_int h3
  have hlen:ns.length ≤ n:=by
    unfold OpenLaw.pre at hc
    have h4:(WTm.not (.lt (.lit (.int (n:Int))) (.len (.arg 0)))).holds [] { args:=[.list (ns.map .int)] } = true:=by
      have h4:=(holds_andW hc).1
      rw [hn] at h4
      exact h4
    have h5:=condW_of h4 (w_not (w_lt w_lit (w_len_list (w_arg rfl))))
    rw [List.length_map] at h5
    refine Nat.le_of_not_lt fun q=>?_
    have q':(n:Int) < ((ns.length:Nat):Int):=by omega
    first
      | (rw [decide_eq_true q'] at h5; exact absurd h5 (by decide))
      | (simp at h5; omega)
  cases hwl with
  | cons w1 w2=>
    cases w2
    cases w1 with
    | list ho hall=>exact ⟨_,_,ns,rfl,rfl,ho,ints_of_wellAll ns _ hall,hlen⟩
theorem post_true (l:OpenLaw) (args:List WData):l.row.toRowW.claim.post args (.bool true) args = true:=
  postW_of (r:=l.row.toRowW) (X:=(true == true))
    (show WShape.has [] (.bool true) .bool = true by first | rfl | decide | simp [WShape.has,WShape.arms,WShape.armsAll])
    (show (WTm.eq .res (.lit (.bool true))).value [] { args:=args,res:=some (.bool true),after:=args } = some (.bool (true == true)) from w_eq_bool (w_res rfl) w_lit) rfl
theorem attach_call {l:OpenLaw} {n:Nat} {q:Program} {loose:List Str} {XP:(Str→Option Value)→Heap→Prop} {YP:World→Heap→Prop} {d:DefRec}
    (hn:l.most = some n) (hdf:d.params.defaults = [])
    (call:∀ (w:World) (s₀ s₁:Shared) (mg mb:Str→Option Value) (fa:Addr) (o:Obj) (pm cd doc:Value) (a:Addr) (vs:List Value) (ns:List Int),
      Ground q loose [] XP w s₀ mg mb s₁.heap→YP w s₁.heap→
      s₁.heap.get? fa = some o→o.data = .func (docDef d.name d.params d.body d.scope pm cd doc)→s₁.heap.CodeRec cd d.name→mg d.name = some (.ref fa)→
      s₁.heap.get? a = some { cls:=.type "list",data:=.seq vs.toArray }→IntsAre vs ns→ns.length ≤ n→s₁.gens = #[]→
      codeAny (model l.prog w) callerA (.call (.ref fa) ⟨[.ref a],[]⟩) (fun r s'=>r = .ok (.ret (.bool true))∧OldK s₁.heap s'.heap∧s'.os = s₁.os∧AllBare s'.gens) s₁) :
    WalkO q loose XP YP l.row.toRowW d [] (fun f vs=>PySem.call f vs):=by
  intro w s₀ s₁ mg mb G Y fa o pm cd doc dV kV ho hd hcd hD hmg hg args vals as hpre hlay hrd hwl hlo
  obtain rfl:dV = .none:=Dflts.none hD hdf
  obtain rfl:kV = .none:=Dflts.noKw hD
  obtain ⟨a,vs,ns,rfl,rfl,hobj,hints,hlen⟩:=script_of hn hpre hwl
  refine enter_call (codeAny_mono (call w s₀ s₁ mg mb fa o pm cd doc a vs ns G Y ho (fd_plain hd) hcd hmg hobj hints hlen hg) fun r s' hq=>?_)
  obtain ⟨rfl,h2,h3,h4⟩:=hq
  exact ⟨.inl ⟨.bool true,.bool true,[],rfl,fun _=>rfl,.bool true,post_true l _,fun _=>⟨List.Pairwise.nil,fun _ hm=>(nomatch hm)⟩⟩,h2,h3,h4⟩
end Att
namespace L2
open PySem PySem.Spec PyProof.Rows
theorem vals_ints:∀ {vs:List Value} {ns:List Int},IntsAre vs ns→Vals (ns.map V.int) vs
  | _,_,.nil=>.nil
  | _,_,.cons n t h=>.cons ⟨t,rfl⟩ (vals_ints h)
def Only (H:Hp):Prop:=∀ b,H b = none ∨ ∃ o xs,H b = some (.frz o (.lst xs))
theorem law_call {P:Program} {w:World} {K:PySem.W.Frag} {mg mb:Str→Option Value} {CX:CXT} {k:Nat} {fa a:Addr} {fd:FuncData} {x:Str} {sp:Sp} {s₁:Shared} {vs:List Value} {ns:List Int}
    (KX:K.In s₁.heap) (hns:s₁.heap.Ns mainGlobals mg) (hb:s₁.heap.Ns builtinsNs mb) (hbb:∀ x:Str,x ≠ "__name__"→mb x = bootBuiltins x) (hlim:s₁.heap.NoLimit) (hg:s₁.gens = #[])
    (ha:s₁.heap.get? a = some { cls:=.type "list",data:=.seq vs.toArray }) (hi:IntsAre vs ns) (hl:ns.length ≤ sizeLine) (hr:Room k callerA)
    (F:∀ base:Heap,K.In base→base.Ns mainGlobals mg→FnOk P w K mg base CX k fa fd [x] sp) (hbind:∀ (s:Shared) (u:Value),BindsTo s fd ⟨[u],[]⟩ [(x,u)])
    (hsp:∀ H:Hp,Only H→SqL K H a (ns.map V.int)→sp [.ref a] H (fun v _=>v = .bl true) fun _ _ _=>False)
    (hCX:∀ H e s',CX [] H s₁ (fun _ _ _=>False) e s'→False) :
    codeAny (model P w) callerA (.call (.ref fa) ⟨[.ref a],[]⟩) (fun r s'=>r = .ok (.ret (.bool true))∧OldK s₁.heap s'.heap∧s'.os = s₁.os∧AllBare s'.gens) s₁:=by
  have rv:=vals_ints hi
  have lenV:=hi.length
  -- from an abstract heap in which nothing but the script may be tracked
  have core:∀ H:Hp,Only H→SqL K H a (ns.map V.int)→HOk P w H s₁.heap→(∀ b,H b ≠ none→b = a)→(H a ≠ none→K.lookup a = none)→
      codeAny (model P w) callerA (.call (.ref fa) ⟨[.ref a],[]⟩) (fun r s'=>r = .ok (.ret (.bool true))∧OldK s₁.heap s'.heap∧s'.os = s₁.os∧AllBare s'.gens) s₁:=by
    intro H hO hS hok hA hK
    have base_of:∀ {b:Addr} {o:Obj},s₁.heap.get? b = some o→H b = none→(hidT s₁.heap H).get? b = some o:=fun e n=>hidT_get e n
    have noA:∀ {b:Addr} {o:Obj} {es:Array DictEntry} {ep:Nat},s₁.heap.get? b = some o→o.data = .dict es ep→H b = none:=fun {b o es ep} e d=>by
      cases q:H b with
      | none=>rfl
      | some u=>
        have e':b = a:=hA b (by rw [q]; simp)
        subst e'
        rw [ha] at e; cases e
        have d':Data.seq vs.toArray _ = Data.dict es ep:=d
        cases d'
    have nsK:∀ {b:Addr} {m:Str→Option Value},s₁.heap.Ns b m→(hidT s₁.heap H).Ns b m:=fun {b m} ⟨o,es,ep,e,d,r⟩=>⟨o,es,ep,base_of e (noA e d),d,r⟩
    have hKb:K.In (hidT s₁.heap H):=fun b o e=>base_of (KX b o e) (by
      cases q:H b with
      | none=>rfl
      | some u=>
        have e':b = a:=hA b (by rw [q]; simp)
        subst e'
        rw [hK (by rw [q]; simp)] at e; cases e)
    have hM:Mod K mg (hidT s₁.heap H):=⟨hKb,nsK hns,⟨mb,nsK hb,hbb⟩,let ⟨mc,h1,h2⟩:=hlim; ⟨mc,nsK h1,h2⟩⟩
    have e0:Env0 P w K mg (hidT s₁.heap H) callerA [] s₁ H:=⟨rfl,hM,fun b o e=>of_hidT e,Nat.le_of_eq (hidT_size _ _),trivial,fun b hb=>absurd (show b ∈ ([]:List Addr) from hb) (by simp),hok,.of_eq hg⟩
    refine codeAny_mono ((F _ hKb (nsK hns)).run callerA [] s₁ H ⟨[.ref a],[]⟩ [.ref a] [.ref a] _ _ hr e0 (hbind s₁ (.ref a)) (.cons rfl .nil) (hsp H hO hS)) fun r s' h=>?_
    cases r with
    | error e=>exact (hCX H e s' h).elim
    | ok fl=>
      cases fl with
      | next=>exact False.elim h
      | brk=>exact False.elim h
      | cont=>exact False.elim h
      | ret u=>
        obtain ⟨v,H',os,bare,un,hok',r',q⟩:=h
        have q':v = .bl true:=q
        subst q'
        obtain rfl:u = Value.bool true:=r'
        refine ⟨rfl,OldK.of_keep fun b o e=>?_,os,bare⟩
        cases q:H b with
        | none=>exact un.keep b o e q (by intro z; exact absurd (show b ∈ ([]:List Addr) from z) (by simp)) (by simp)
        | some u=>
          rcases hO b with z | ⟨ob,xs,z⟩
          · rw [q] at z; cases z
          · have z2:=un.frzs b ob _ z
            obtain ⟨e1,_⟩:=hok b _ z
            obtain ⟨e2,_⟩:=hok' b _ z2
            rw [e] at e1; cases e1
            exact e2
  cases hk:K.lookup a with
  | some o=>
    -- the script is one of the module's own objects
    have e:=KX a o hk
    rw [ha] at e
    cases e
    refine core (fun _=>none) (fun _=>.inl rfl) (.inr ⟨_,vs.toArray,_,hk,rfl,rfl,rfl,by rw [List.size_toArray,lenV]; exact hl,by simpa using rv⟩) (fun b u z=>by have z':(none:Option HO) = some u:=z; cases z') (fun b z=>absurd rfl z) fun z=>absurd rfl z
  | none=>
    refine core (fun b => if b = a then some (.frz { cls := .type "list", data := .seq vs.toArray } (.lst (ns.map V.int))) else none) (fun b => ?_) (.inl (.inr ⟨{ cls := .type "list", data := .seq vs.toArray }, if_pos rfl⟩)) (fun b u z => ?_) (fun b z => ?_) fun _ => hk
    · by_cases hb:b = a
      · exact .inr ⟨_,_,if_pos hb⟩
      · exact .inl (if_neg hb)
    · by_cases hb:b = a
      · have z':=(if_pos hb).symm.trans z
        cases z'
        subst hb
        exact ⟨ha,by rw [List.length_map]; exact hl,vs,_,rv,ha⟩
      · have z':=(if_neg hb).symm.trans z
        cases z'
    · by_cases hb:b = a
      · exact hb
      · exact absurd (if_neg hb) z
abbrev KOf {K:PySem.W.Frag} {h:Heap} (_:K.In h):PySem.W.Frag:=K
theorem walk_of {l:PySem.W.OpenLaw} {n k:Nat} {q:Program} {loose:List Str} {XP:(Str→Option Value)→Heap→Prop} {YP:World→Heap→Prop} {d:DefRec} {K:Params→PySem.W.Frag} {CX:World→CXT} {sp:World→Sp} {x:Str}
    (hn:l.most = some n) (hn2:n ≤ sizeLine) (hdf:d.params.defaults = []) (hr:Room k callerA)
    (hY:∀ (w:World) (h:Heap),YP w h→(K w.params).In h)
    (F:∀ (w:World) (mg:Str→Option Value) (fa:Addr) (h:Heap),(K w.params).In h→h.Ns mainGlobals mg→mg d.name = some (.ref fa)→
      ∃ fd:FuncData,(∀ (s:Shared) (u:Value),BindsTo s fd ⟨[u],[]⟩ [(x,u)])∧
        ∀ base:Heap,(K w.params).In base→base.Ns mainGlobals mg→FnOk l.prog w (K w.params) mg base (CX w) k fa fd [x] (sp w))
    (hsp:∀ (w:World) (H:Hp) (a:Addr) (ns:List Int),ns.length ≤ n→Only H→SqL (K w.params) H a (ns.map V.int)→sp w [.ref a] H (fun v _=>v = .bl true) fun _ _ _=>False)
    (hCX:∀ (w:World) (H:Hp) (s:Shared) (e:Value) (s':Shared),CX w [] H s (fun _ _ _=>False) e s'→False) :
    PySem.W.WalkO q loose XP YP l.row.toRowW d [] (fun f vs=>PySem.call f vs):=by
  refine Att.attach_call hn hdf fun w s₀ s₁ mg mb fa o pm cd doc a vs ns G Y ho hd hcd hmg hobj hints hlen hg=>?_
  have KX:=hY w _ Y
  obtain ⟨fd,hb,hF⟩:=F w mg fa _ KX G.T.g hmg
  exact law_call KX G.T.g G.T.b G.T.builtins G.T.nolimit hg hobj hints (Nat.le_trans hlen hn2) hr hF hb (fun H hO hS=>hsp w H a ns hlen hO hS) fun H e s'=>hCX w H s₁ e s'
end L2
/- THE LAST THEOREM (shape; LID,My.* are yours):
   My.Adr: a structure of the addresses that your layer names (classes,functions); My.Txt K t: a structure (Prop) of the equations over K;
   My.txt_mk : {K} {implicit addresses ..} (e1 : nsIn K mainGlobals "law" = some (some (.ref f))) (e2 : K.lookup f = some ⟨oc, od, .func (fnOf "law" "law" params body scope dV kV doc pm an cdv ct), sl⟩) (e3 : codeIn K cdv "law" = true) .. : ∃ t, My.Txt K t
set_option maxRecDepth 100000 in
set_option maxHeartbeats 0 in
theorem PySem.Challenge.cw_LID_holds : PySem.Challenge.rw_LID.Holds := by
  w_on; o_law; k_head; (case hw=>w_witness2)
  k_fill
  refine L2.walk_of (l:=PySem.Challenge.rw_LID) (n:=63) (k:=40) (x:="script") (CX:=fun w=>..) (sp:=fun _=>My.sp_law) rfl (by decide) rfl ⟨rfl,by decide,by decide⟩ (fun w h Y=>PySem.W.kIn_of Y) ?F ?S ?C
  case F=>
    intro w mg fa h KX G hmg
    have T:∃ t,My.Txt (L2.KOf KX) t:=by
      dsimp only [L2.KOf]                          -- K must stand as «<heap const> w.params» for k_is
      refine' My.txt_mk ?e1 ?e2 ?e3 ..
      (case e1=>PySem.W.k_is)                    -- in the order: a name -> its address -> its object -> its parts
      (case e2=>PySem.W.k_is)
      ..
    obtain ⟨t,T⟩:=T
    have e0:=hmg.symm.trans (PySem.W.mg_of KX G T.law)
    cases e0                                       -- fa is the law's own address
    exact ⟨_,fun s u=>.of_eq rfl,fun base kb nb=>My.law_fn T kb nb⟩     -- if «.of_eq rfl» comes too early: refine' ⟨_,?b,fun base kb nb=>My.law_fn T kb nb⟩; exact fun s u=>.of_eq rfl
  case S=>exact fun w H a ns hl hO hS=>..
  case C=>exact ..
(the tactic k_is has no namespace: write k_is) -/
namespace L2
open PySem PySem.Spec PyProof.Rows
def inClass (s:Stmt) (j:Nat):Stmt:=match s with
  | .ClassDef _ _ _ body _ _ _ _ _ _ _=>body.getD j (.Pass ⟨0,0,0,0⟩)
  | _=>.Pass ⟨0,0,0,0⟩
def defArgs (s:Stmt):Arguments:=match s with
  | .FunctionDef _ a _ _ _ _ _ _ _ _=>a
  | _=>{ posonlyargs:=[],args:=[],vararg:=none,kwonlyargs:=[],kw_defaults:=[],kwarg:=none,defaults:=[] }
def defBody (s:Stmt):List Stmt:=match s with
  | .FunctionDef _ _ b _ _ _ _ _ _ _=>b
  | _=>[]
def defScope (s:Stmt):Scope:=match s with
  | .FunctionDef _ _ _ _ _ _ sc _ _ _=>sc
  | _=>{ kind:=.function,names:=[],isGenerator:=false,isCoroutine:=false }
abbrev CX0:CXT:=fun _ _ _ _ _ _=>False
abbrev E0:XK:=fun _ _ _=>False
theorem pass0 {X:Cx}:Passes CX0 X E0:=fun _ _ _ _ _ _ _ h=>h.elim
structure Fun (K:PySem.W.Frag) (x qual:Str) (st:Stmt) (f:Addr) (fd:FuncData):Prop where
  ex:∃ (oc:Value) (od:Option Addr) (kV doc pm:Value) (an:Option Addr) (cdv ct:Value) (osl:Array (Option Value)),
    fd = PySem.W.fnOf x qual (defArgs st) (defBody st) (defScope st) .none kV doc pm an cdv ct∧K.lookup f = some ⟨oc,od,.func fd,osl⟩∧PySem.W.codeIn K cdv qual = true
  kp:PySem.W.keepIn K (.ref f) = true
section
variable {P:Program} {w:World} {K:PySem.W.Frag} {mg:Str→Option Value} {base:Heap}
theorem Fun.ok {x qual:Str} {st:Stmt} {f:Addr} {fd:FuncData} {N ps:List Str} {k:Nat} {sp:Sp} (F:Fun K x qual st f fd) (S:FnScope N ps (defScope st)) (len:∀ vs H Q E,sp vs H Q E→vs.length = ps.length)
    (hbody:∀ (cdv:Value) (A:Around) (outer:List Env) (s:Shared) (H:Hp) (vs:List V) (Q:VK) (E:XK),Room k (A.deeper (envOfC qual (defScope st) s.heap.objs.size f cdv))→sp vs H Q E→
      ∃ t,PSs (cxOf CX0 P w K mg base N qual (defScope st) f cdv A outer s H E).nox (defBody st) t∧t { nx:=fun _ H'=>Q .non H',rt:=Q } (start N vs) H):FnOk P w K mg base CX0 (k + 1) f fd ps sp:=by
  obtain ⟨oc,od,kV,doc,pm,an,cdv,ct,osl,rfl,lk,hcd⟩:=F.ex
  refine fn_of lk hcd S len fun A outer s H vs Q E hr hsp=>?_
  obtain ⟨t,h,q⟩:=hbody cdv A outer s H vs Q E hr hsp
  exact ⟨t,h.nox,q⟩
theorem Fun.binds {x qual:Str} {st:Stmt} {f:Addr} {fd:FuncData} {ps:List Str} (F:Fun K x qual st f fd)
    (h:∀ (kV doc pm:Value) (an:Option Addr) (cdv ct:Value) (us:List Value),us.length = ps.length→bindArgs (PySem.W.fnOf x qual (defArgs st) (defBody st) (defScope st) .none kV doc pm an cdv ct) ⟨us,[]⟩ = pure (ps.zip us)):Binds K fd ps []:=by
  obtain ⟨oc,od,kV,doc,pm,an,cdv,ct,osl,rfl,lk,hcd⟩:=F.ex
  exact .all (h kV doc pm an cdv ct)
theorem fun_mk {x qual:Str} {st:Stmt} {f:Addr} {oc:Value} {od an:Option Addr} {osl:Array (Option Value)} {kV doc pm cdv ct:Value} (l:K.lookup f = some ⟨oc,od,.func (PySem.W.fnOf x qual (defArgs st) (defBody st) (defScope st) .none kV doc pm an cdv ct),osl⟩)
    (c:PySem.W.codeIn K cdv qual = true) (k:PySem.W.keepIn K (.ref f) = true):Fun K x qual st f (PySem.W.fnOf x qual (defArgs st) (defBody st) (defScope st) .none kV doc pm an cdv ct):=⟨⟨oc,od,kV,doc,pm,an,cdv,ct,osl,rfl,l,c⟩,k⟩
end
def Same (H H':Hp):Prop:=∀ b o,H b = some o→H' b = some o
theorem Same.refl (H:Hp):Same H H:=fun _ _ h=>h
theorem Same.trans {H H1 H2:Hp} (a:Same H H1) (b:Same H1 H2):Same H H2:=fun c o h=>b c o (a c o h)
end L2
namespace DictK
open PySem PyProof.Rows
def Kd {α:Type}:Sem α→Prop
  | .pure _=>True
  | .raise _=>True
  | .unsupported _=>True
  | .finish _=>True
  | .rule _ k=>Kd (k ())
  | .at _ k=>Kd (k ())
  | .load _ _ k=>∀ o,Kd (k o)
  | .update _ _ f k=>(∀ o,(f o).dict = o.dict∧(o.isFreed = false→(f o).isFreed = false))∧Kd (k ())
  | .alloc _ k=>∀ a,Kd (k a)
  | .loadIfAlive _ k=>∀ o,Kd (k o)
  | .point _ k=>Kd (k ())
  | .register _ _=>True
  | .fresh k=>∀ t,Kd (k t)
  | .ask k=>∀ x,Kd (k x)
  | .choose _ _ k=>∀ n,Kd (k n)
  | .os _ _ k=>∀ r,Kd (k r)
  | .call ..=>False
  | .handled _ k=>∀ v,Kd (k v)
  | .newGen _ k=>∀ g,Kd (k g)
  | .genState _ k=>∀ x,Kd (k x)
  | .resume ..=>False
  | .yield ..=>True
  | .stack k=>∀ l,Kd (k l)
  | .fork ..=>True
  | .thread k=>∀ n,Kd (k n)
  | .await ..=>True
def Kept (h h':Heap):Prop:=∀ b o,h.get? b = some o→∃ o',h'.get? b = some o'∧o'.dict = o.dict
theorem Kept.refl (h:Heap):Kept h h:=fun b o e=>⟨o,e,rfl⟩
theorem Kept.trans {h₁ h₂ h₃:Heap} (x:Kept h₁ h₂) (y:Kept h₂ h₃):Kept h₁ h₃:=fun b o e=>by
  obtain ⟨o1,e1,d1⟩:=x b o e
  obtain ⟨o2,e2,d2⟩:=y b o1 e1
  exact ⟨o2,e2,d2.trans d1⟩
theorem Kept.push {h₀ h:Heap} (x:Kept h₀ h) (u:Obj):Kept h₀ (h.push u):=fun b o e=>by
  obtain ⟨o1,e1,d1⟩:=x b o e
  exact ⟨o1,Heap.get?_push_of_some u e1,d1⟩
theorem Kept.update {h₀ h:Heap} (x:Kept h₀ h) {a:Addr} {f:Obj→Obj} (hf:∀ o,(f o).dict = o.dict∧(o.isFreed = false→(f o).isFreed = false)):Kept h₀ (h.update a f):=fun b o e=>by
  obtain ⟨o1,e1,d1⟩:=x b o e
  by_cases z:a = b
  · subst z
    exact ⟨f o1,Heap.get?_update_self f e1 ((hf o1).2 (Heap.get?_some_iff.mp e1).2),((hf o1).1).trans d1⟩
  · exact ⟨o1,(Heap.get?_update_other h f z).trans e1,d1⟩
theorem kd_wp {α:Type} (M:Model) (Γ:Ctx) (h₀:Heap) (t:Sem α) {Q:α→Pos→Shared→Prop} {E:Value→Pos→Shared→Prop} (p:Pos) (s:Shared) (hk:Kd t) (h0:Kept h₀ s.heap) (h:Sem.wp M Γ t Q E p s) :
    Sem.wp M Γ t (fun a p' s'=>Q a p' s'∧Kept h₀ s'.heap) E p s:=by
  revert hk h0 h
  induction t generalizing p s with
  | pure x=>exact fun _ h0 h=>⟨h,h0⟩
  | raise v=>exact fun _ _ h=>h
  | unsupported | finish | yield | fork | await | register=>exact fun _ _ h=>h
  | rule _ k ih | «at» _ k ih | point _ k ih=>exact fun hk h0 h=>ih _ _ _ hk h0 h
  | loadIfAlive _ k ih | fresh k ih | ask k ih | os _ _ k ih | handled _ k ih | newGen _ k ih | stack k ih | thread k ih=>exact fun hk h0 h=>ih _ _ _ (hk _) h0 h
  | alloc o k ih=>exact fun hk h0 h=>ih _ _ _ (hk _) (h0.push o) h
  | load a _ k ih | genState a k ih=>exact fun hk h0 ⟨o,ho,h⟩=>⟨o,ho,ih _ _ _ (hk _) h0 h⟩
  | update a _ f k ih=>exact fun hk h0 ⟨ha,h⟩=>⟨ha,ih _ _ _ hk.2 (h0.update hk.1) h⟩
  | choose _ _ k ih=>exact fun hk h0 ⟨ha,h⟩=>⟨ha,ih _ _ _ (hk _) h0 h⟩
  | call c h g l k ih=>exact fun hk=>hk.elim
  | resume g r l k ih=>exact fun hk=>hk.elim
theorem kd_any {α:Type} {M:Model} {A:Around} {t:Sem α} {Q:α→Shared→Prop} {E:Value→Shared→Prop} {s:Shared} (hk:Kd t) (h:wpAny M A t Q E s):wpAny M A t (fun a s'=>Q a s'∧Kept s.heap s'.heap) E s:=
  fun Γ p hΓ=>kd_wp M Γ s.heap t p s hk (Kept.refl _) (h Γ p hΓ)
theorem kd_bind {α β:Type} {f:α→Sem β} (hf:∀ a,Kd (f a)):∀ {m:Sem α},Kd m→Kd (m >>= f):=by
  intro m
  show Kd m→Kd (m.bind f)
  induction m with
  | pure x=>exact fun _=>hf x
  | raise v=>exact fun _=>trivial
  | unsupported | finish | yield | fork | await | register=>exact fun _=>trivial
  | rule _ k ih | «at» _ k ih | point _ k ih=>exact fun h=>ih _ h
  | loadIfAlive _ k ih | fresh k ih | ask k ih | os _ _ k ih | handled _ k ih | newGen _ k ih | stack k ih | thread k ih | alloc _ k ih | load a _ k ih | genState a k ih | choose _ _ k ih=>exact fun h x=>ih x (h x)
  | update a _ f k ih=>exact fun h=>⟨h.1,ih _ h.2⟩
  | call c h g l k ih=>exact fun h=>h.elim
  | resume g r l k ih=>exact fun h=>h.elim
theorem kd_pure {α:Type} (a:α):Kd (pure a:Sem α):=trivial
theorem kd_uns {α:Type} (w:String):Kd (unsupported w:Sem α):=trivial
theorem kd_load (a:Addr):Kd (load a):=fun _=>trivial
theorem kd_fieldsOf (v:Value):Kd (fieldsOf v):=by
  unfold fieldsOf
  split
  · refine kd_bind (fun o=>?_) (kd_load _)
    split <;> trivial
  · trivial
theorem kd_field (v:Value) (i:Nat):Kd (field v i):=by
  unfold field
  refine kd_bind (fun o=>?_) (kd_fieldsOf v)
  split <;> trivial
theorem map_dict (f:Array Value→Array Value) (o:Obj):(Obj.mapFields f o).dict = o.dict∧(o.isFreed = false→(Obj.mapFields f o).isFreed = false):=by
  obtain ⟨c,d,dt,sl⟩:=o
  cases dt <;> exact ⟨rfl,fun h=>h⟩
theorem kd_setField (v:Value) (i:Nat) (x:Value):Kd (setField v i x):=by
  unfold setField
  split
  · unfold updateField
    refine kd_bind (fun o=>?_) (kd_load _)
    split
    · split
      · exact ⟨map_dict _,trivial⟩
      · trivial
    · trivial
  · trivial
theorem kd_stack:Kd stack:=fun _=>trivial
theorem kd_setFlight (e:Value) (fr:Option Addr):Kd (setFlight e fr):=by
  unfold setFlight
  refine kd_bind (fun tb=>?_) (kd_field e 1)
  split
  · exact kd_setField _ _ _
  · trivial
theorem kd_behind (env:Env) (outer:List Env):Kd (behindIsImport env outer):=by
  unfold behindIsImport
  split
  · trivial
  · split
    · trivial
    · exact kd_bind (fun _=>kd_pure _) (kd_field _ _)
theorem kd_keptBack (env:Env) (i:Bool) (outer:List Env):Kd (keptBack env i outer):=by
  cases outer with
  | nil=>
    unfold keptBack
    dsimp only
    by_cases h:(env.scope.isGenerator || env.scope.isCoroutine) = true
    · rw [if_pos h]; exact kd_pure _
    · rw [if_neg h]
      refine kd_bind (fun _=>kd_pure _) ?_
      unfold underTheClaimsCaller
      exact kd_bind (fun _=>kd_pure _) kd_stack
  | cons c r=>exact trivial
theorem free_slots {o:Obj} {sl:Array (Option Value)} (h:o.isFreed = false):({ o with slots:=sl }:Obj).isFreed = false:=by
  obtain ⟨c,d,dt,s0⟩:=o
  cases dt <;> exact h
theorem kd_ready:∀ l:List Env,Kd (readyFrames l)
  | []=>trivial
  | env :: outer=>by
    unfold readyFrames
    split
    · refine kd_bind (fun o=>?_) (kd_load _)
      split
      · trivial
      · refine kd_bind (fun i=>?_) (kd_behind env outer)
        refine kd_bind (fun b=>?_) (kd_keptBack env i outer)
        refine kd_bind (fun _=>kd_ready outer) ?_
        exact ⟨fun o=>⟨rfl,fun h=>free_slots h⟩,trivial⟩
    · trivial
theorem kd_frameOf (env:Env):Kd (PySem.frameOf env):=by
  unfold PySem.frameOf
  refine kd_bind (fun l=>kd_bind (fun f=>?_) ?_) ?_
  · split <;> trivial
  · generalize List.dropWhile _ l = m
    cases m with
    | nil=>trivial
    | cons e r=>
      unfold frameObject
      exact kd_bind (fun _=>kd_pure _) (kd_ready _)
  · unfold frameEnvs
    exact kd_bind (fun _=>kd_pure _) kd_stack
theorem kd_entry (f:Addr) (b:Bool):Kd (entryPlaceOf f b):=by
  unfold entryPlaceOf
  refine kd_bind (fun l=>?_) kd_stack
  split <;> trivial
theorem kd_newEntry (a b c d e:Value) (l:List Value):Kd (EntryCells.newEntry a b c d e l):=by
  unfold EntryCells.newEntry newFields newObj
  dsimp only
  have h:∀ dt,Kd (newObjAsIs (.type "traceback") dt):=fun dt=>by
    unfold newObjAsIs
    exact kd_bind (fun a=>kd_pure _) fun _=>trivial
  generalize (if l.isEmpty = true then List.replicate 6 Value.none else l) = m
  by_cases z:([a,b,c,d,e] ++ m).toArray.size > sizeLine + 2
  · rw [if_pos z]
    exact kd_bind (fun _=>h _) (kd_uns _)
  · rw [if_neg z]
    exact h _
theorem kd_note (e:Value) (env:Env):Kd (noteFrame e env):=by
  unfold noteFrame
  split
  · refine kd_bind (fun head=>?_) (kd_field e 1)
    have last:∀ f,Kd (do setField e 1 (← EntryCells.newEntry head (← PySem.frameOf env) .none (rawInt f) .none (← entryPlaceOf f (head != .none)))):=fun f=>
      kd_bind (fun a=>kd_bind (fun b=>kd_bind (fun c=>kd_setField _ _ _) (kd_newEntry _ _ _ _ _ _)) (kd_entry _ _)) (kd_frameOf env)
    split
    · refine kd_bind (fun x=>?_) (kd_field head 3)
      split
      · trivial
      · exact kd_bind (fun _=>last _) (kd_setField _ _ _)
    · exact last _
  · trivial
theorem kd_leaving (env:Env) (e:Value):Kd (leaving env e):=by
  unfold leaving
  exact kd_bind (fun _=>kd_setFlight e none) (kd_note e env)
end DictK
namespace DictK
open PySem PyProof.Rows
section
variable {prog:Program} {w:World} {A:Around} {E:Value→Shared→Prop} {h:Heap} {gn:Array GenState} {dr:Drawn} {tk:Nat} {ost:OsState}
variable {nm qn:Str} {C N fI:Addr} {bs bm bmB rest:List Value} {hdct:Bool} {sn:List Str} {sub:List Value} {ab:Bool} {col:Option Bool} {dd:Option Addr} {k0 k1 k2 k3 k5:Option Value} {B newId initId:String} {mN:Str→Option Value} {oI:Obj}
abbrev rawE (C t:Addr):Obj:={ cls:=.ref C,data:=.fields #[.ref t,.none,.none,.none,.bool false,.none] }
theorem made_by_type (F : ExcBaseFacts B newId initId bmB) (T : OwnTail h bmB bm) {Q : Fin → Shared → Prop} (hC : h.get? C = some (excClassObj nm qn C N bs bm hdct sn sub ab col dd k0 k1 k2 k3 k5 newId)) (hN : h.Ns N mN) (hi : mN "__init__" = some (.ref fI)) (hf : h.get? fI = some oI) (hfc : oI.cls = .type "function")
    (hq:∀ h' e,Heap.MadeExcOf h h' e (.ref C) rest→h.objs.size ≤ e→wpAny (model prog w) A (call (.ref fI) (.ref e :: rest)) (fun r s'=>r = .none∧Q (.done (.ret (.ref e))) s') E ⟨h',gn,dr,tk,ost⟩) (hz:rest.length ≤ sizeLine) :
    wpAny (model prog w) A (Builtin.«type.__call__» ⟨.ref C :: rest,[]⟩) Q E ⟨h,gn,dr,tk,ost⟩:=by
  repeat (first | (with_reducible refine wpAny_madeBy_exc hC ?_) | (with_reducible refine wpAny_loadPart_at hC ?_) | wp_step)
  refine codeAny_call_builtin_code (Code.quiet_builtin _ F.quiet) (wpAny_check_new_subT F T hC (codeAny_exc_new_subT F T hC (?_) hz))
  generalize eo:(h.push { cls:=.type "tuple",data:=.seq rest.toArray }) = h1
  have up:∀ b o,h.get? b = some o→(h1.push (rawE C h.objs.size)).get? b = some o:=fun b o e=>Heap.get?_push_of_some _ (by rw [← eo]; exact Heap.get?_push_of_some _ e)
  have s1:h1.objs.size = h.objs.size + 1:=by rw [← eo]; exact Heap.size_push _ _
  have at_:(h1.push (rawE C h.objs.size)).get? (h.objs.size + 1) = some (rawE C h.objs.size):=by rw [← s1]; exact Heap.get?_push_size h1 rfl
  have tt:(h1.push (rawE C h.objs.size)).get? h.objs.size = some { cls:=.type "tuple",data:=.seq rest.toArray }:=Heap.get?_push_of_some _ (by rw [← eo]; exact Heap.get?_push_size h rfl)
  have made:Heap.MadeExcOf h (h1.push (rawE C h.objs.size)) (h.objs.size + 1) (.ref C) rest:=⟨up,Heap.get?_none_of_le (Nat.le_succ _),h.objs.size,at_,Heap.get?_none_of_le (Nat.le_refl _),tt⟩
  have hC1:=up _ _ hC
  have T1:=T.keeps up
  have N1:=hN.keeps up
  have has:(Value.ref C :: bm).contains (.ref C) = true:=by simp
  show wpAny _ _ _ _ _ _
  unfold isInstance
  repeat (first | (with_reducible refine wpAny_isSubtype_exc hC1 ?_; rw [has]) | (with_reducible refine wpAny_loadPart_at at_ ?_) | wp_step)
  refine wpAny_typeLookup_tail (C:=C) hC1 N1 T1 F.mroIs F.init.lookup ?_
  rw [hi]
  have isF:(⟨h1.push (rawE C h.objs.size),gn,dr,tk,ost⟩:Shared).TypeIs (.ref fI) "function":=⟨_,up _ _ hf,hfc⟩
  refine wpAny_holding (wpAny_bind ?_); unfold bindSpecial
  refine wpAny_bind (wpAny_typeOf isF ?_); rw [if_pos (show _ by decide)]
  refine wpAny_pure (wpAny_bind (wpAny_mono (hq _ _ made (Nat.le_succ _)) (fun r s' hr=>?_) fun _ _ z=>z))
  obtain ⟨e0,hQ⟩:=hr
  subst e0
  wp_walk
  exact hQ
theorem made_call (F : ExcBaseFacts B newId initId bmB) (T : OwnTail h bmB bm) {Q : Value → Shared → Prop} (hC : h.get? C = some (excClassObj nm qn C N bs bm hdct sn sub ab col dd k0 k1 k2 k3 k5 newId)) (hN : h.Ns N mN) (hi : mN "__init__" = some (.ref fI)) (hf : h.get? fI = some oI) (hfc : oI.cls = .type "function")
    (hq:∀ h' e,Heap.MadeExcOf h h' e (.ref C) rest→h.objs.size ≤ e→wpAny (model prog w) (A.under (.builtin "type.__call__" ⟨.ref C :: rest,[]⟩)) (call (.ref fI) (.ref e :: rest)) (fun r s'=>r = .none∧Q (.ref e) s') E ⟨h',gn,dr,tk,ost⟩) (hz:rest.length ≤ sizeLine) :
    wpAny (model prog w) A (call (.ref C) rest) Q E ⟨h,gn,dr,tk,ost⟩:=by
  have l1:=tc_lookup
  have l2:=tc_bind (.ref C)
  have isT:(⟨h,gn,dr,tk,ost⟩:Shared).TypeIs (.ref C) "type":=⟨_,hC,rfl⟩
  refine wpAny_call (codeAny_of_tree (show wpAny _ _ (callAny (.ref C) _) _ _ _ from ?_))
  repeat (any_goals (first | assumption | (with_reducible refine wpAny_loadPart_at hC ?_) | wp_step))
  exact ⟨rfl,codeAny_call_builtin_at (Code.quiet_builtin _ (by decide +kernel)) entry_typeCall (wpAny_check_type_call_sub hC (made_by_type F T hC hN hi hf hfc (fun h' e m l=>hq h' e m l) hz))⟩
theorem raise_made {s:Shared} {x:Sem Value} {env:Env} {Q:Flow→Shared→Prop} (hb:bm.contains (.type "BaseException") = true) (hh:A.handled = none)
    (hx:wpAny (model prog w) A x (fun v s1=>∃ e t o,v = .ref e∧s1.heap.get? C = some (excClassObj nm qn C N bs bm hdct sn sub ab col dd k0 k1 k2 k3 k5 newId)∧s1.heap.get? e = some o∧o.cls = .ref C∧o.data = .fields #[.ref t,.none,.none,.none,.bool false,.none]∧E (.ref e) s1) E s) :
    wpAny (model prog w) A (raiseStmt env (some x) none) Q E s:=by
  have has:(Value.ref C :: bm).contains (.type "BaseException") = true:=by rw [List.contains_cons,hb,Bool.or_true]
  unfold raiseStmt
  refine wpAny_bind (wpAny_mono hx (fun v s1 q1=>?_) fun _ _ z=>z)
  obtain ⟨e,t,o,rfl,hC,he,hc,hd,hE⟩:=q1
  obtain ⟨oc,od,odt,osl⟩:=o
  obtain rfl:oc = _:=hc
  obtain rfl:odt = _:=hd
  obtain ⟨hp,g1,d1,t1,o1⟩:=s1
  repeat (first | (with_reducible refine wpAny_isSubtype_exc hC ?_; rw [has]) | (with_reducible refine wpAny_loadPart_at he ?_) | (with_reducible refine wpAny_loadPart_at hC ?_) | wp_step)
  exact wpAny_raiseNew_none hh hE
end
end DictK
namespace DictK
open PySem PyProof.Rows Builtin Builtin.ObjectAttr
theorem refuse_tail {h:Heap} {bmB bm:List Value} (T:OwnTail h bmB bm) (self:Value) (what:Str):refuseLoop self what bm = refuseLoop self what bmB:=by
  induction T with
  | base=>rfl
  | own _ _ _ _ ih=>rw [refuseLoop_ref,ih]
section
variable {prog:Program} {w:World} {A:Around} {E:Value→Shared→Prop} {h:Heap} {gn:Array GenState} {dr:Drawn} {tk:Nat} {ost:OsState} {K:PySem.W.Frag}
variable {nm qn:Str} {C N x:Addr} {bs bm bmB:List Value} {sn:List Str} {sub:List Value} {ab:Bool} {col:Option Bool} {dd:Option Addr} {k0 k1 k2 k3 k5:Option Value} {B newId sa owner:String} {o:Obj} {name:Str} {v:Value}
theorem exc_check {M:Model} {nv:Value} {Q:Unit→Shared→Prop} (SF:StoreFacts B bmB sa owner) (T:OwnTail h bmB bm) (hC:h.get? C = some (excClassObj nm qn C N bs bm true sn sub ab col dd k0 k1 k2 k3 k5 newId)) (hx:h.get? x = some o) (hc:o.cls = .ref C) (hq:Q () ⟨h,gn,dr,tk,ost⟩) :
    wpAny M A (checkBuiltinCall sa ⟨[.ref x,nv,v],[]⟩) Q E ⟨h,gn,dr,tk,ost⟩:=by
  have has:(Value.ref C :: bm).contains (.type owner) = true:=by rw [List.contains_cons,T.hasType SF.hasOwner,Bool.or_true]
  have args:=SF.args (.ref x) nv v
  simp only [checkBuiltinCall,SF.kind,SF.split]
  refine wpAny_bind ?_; unfold isInstance
  repeat (first | (with_reducible refine wpAny_isSubtype_exc hC ?_; rw [has]) | (with_reducible refine wpAny_loadPart_at hx ?_; rw [hc]) | wp_step)
  cases es:Manifest.signature? sa with
  | none=>exact wpAny_pure hq
  | some sig=>
    simp only [argsOk,es] at args
    dsimp only
    rw [args]
    exact wpAny_pure hq
theorem exc_entry {tok:Tok} {Q:PySem.Fin→Shared→Prop} (X:K.In h) (SF:StoreFacts B bmB sa owner) (T:OwnTail h bmB bm) (hC:h.get? C = some (excClassObj nm qn C N bs bm true sn sub ab col dd k0 k1 k2 k3 k5 newId)) (f2:PySem.W.findIn K (.ref C) name = some none) (hxC:x ≠ C) (hx:h.get? x = some o) (hc:o.cls = .ref C) (hd:o.dict = none) (hnc:∀ c,o.data ≠ .cls c)
    (hq:∀ h' tk' dx,dx = h.objs.size→dx ≠ x→h'.get? x = some { o with dict:=some dx }→h'.Ns1 dx (fun y=>if y = name then some v else none)→(∀ b ob,b ≠ x→h.get? b = some ob→h'.get? b = some ob)→Q (.done (.ret .none)) ⟨h',gn,dr,tk',ost⟩) :
    wpAny (model prog w) A (Builtin.«object.__setattr__» ⟨[.ref x,.str name tok,v],[]⟩) Q E ⟨h,gn,dr,tk,ost⟩:=by
  have pass:refuseLoop (.ref x) "__setattr__" bm = pure ():=by rw [refuse_tail T]; exact SF.passes _
  unfold Builtin.«object.__setattr__»
  repeat (first | rw [refuse_eq] | (rw [refuseLoop_ref,pass]) | (with_reducible refine wpAny_loadPart_at hx ?_; rw [hc]) | (with_reducible refine wpAny_mroOf_exc hC ?_) | (with_reducible refine PySem.W.Looks.here (PySem.W.looks_findIn X f2) ?_) | wp_step)
  obtain ⟨oc,od,odt,osl⟩:=o
  obtain rfl:od = none:=hd
  dsimp only
  have nd:¬ ((!true || !typeHasDict (Value.ref C)) = true):=by simp [typeHasDict]
  rw [if_neg nd]
  have hxs:x ≠ h.objs.size:=Nat.ne_of_lt (Heap.lt_size hx)
  have key:wpAny (model prog w) A (do
      let d ← alloc { cls:=Value.type "dict",data:=Data.dict #[] }
      update x fun o=>{ cls:=o.cls,dict:=some d,data:=o.data,slots:=o.slots }
      dictMade (Value.ref C) x d) (fun a s'=>wpAny (model prog w) A (match a with | some d=>storeInDict d (Value.str name tok) name v | none=>noDictFor (Value.ref x) (Value.ref C) name (none:Option Value).isSome) Q E s') E ⟨h,gn,dr,tk,ost⟩:=by
    generalize ek:h.push { cls:=Value.type "dict",data:=Data.dict #[] } = h1
    have x1:h1.get? x = some ⟨oc,none,odt,osl⟩:=by rw [← ek]; exact Heap.get?_push_of_some _ hx
    have d1:h1.get? h.objs.size = some { cls:=Value.type "dict",data:=Data.dict #[] }:=by rw [← ek]; exact Heap.get?_push_size h rfl
    refine wpAny_bind (wpAny_alloc' ?_); rw [ek]
    refine wpAny_bind (wpAny_update' x1 (wpAny_pure ?_))
    generalize eh:(h1.update x fun o=>{ cls:=o.cls,dict:=some h.objs.size,data:=o.data,slots:=o.slots }) = h2
    have x2:h2.get? x = some ⟨oc,some h.objs.size,odt,osl⟩:=by
      rw [← eh]
      refine Heap.get?_update_self _ x1 ?_
      have fr:=(Heap.get?_some_iff.mp hx).2
      cases odt <;> exact fr
    have d2:h2.get? h.objs.size = some { cls:=Value.type "dict",data:=Data.dict #[] }:=by rw [← eh]; exact (Heap.get?_update_other _ _ hxs).trans d1
    have k2:∀ b ob,b ≠ x→h.get? b = some ob→h2.get? b = some ob:=fun b ob nb e=>by
      rw [← eh,Heap.get?_update_other _ _ (Ne.symm nb),← ek]
      exact Heap.get?_push_of_some _ e
    have n2:h2.Ns h.objs.size (fun _=>none):=⟨_,#[],_,d2,rfl,fun e he=>absurd he (by simp),fun _=>rfl⟩
    show wpAny _ _ (storeInDict h.objs.size (.str name tok) name v) _ _ _; unfold storeInDict newKeyGuard
    refine wpAny_bind (wpAny_pure (wpAny_bind (wpAny_nsSet1 (Heap.Ns1.of_empty n2) fun h3 n3 s3=>?_)))
    obtain ⟨oD,esD,epD,aD,dD,cD⟩:=n3.count (Within.cons name v Within.nil)
    have le:esD.size ≤ sizeLine + 1:=by
      have:([name]:List Str).length = 1:=rfl
      rw [sizeLine_eq]
      omega
    refine wpAny_bind (wpAny_lookBehind aD (by rw [dD]; exact pastItsLine_dict le) ?_)
    wp_walk
    exact hq h3 _ h.objs.size rfl (Ne.symm hxs) ((s3.2 x hxs).trans x2) n3 fun b ob nb e=>(s3.2 b (Nat.ne_of_lt (Heap.lt_size e))).trans (k2 b ob nb e)
  cases odt with
  | cls c=>exact absurd rfl (hnc c)
  | _=>exact key
theorem exc_store {Q:Unit→Shared→Prop} (X:K.In h) (SF:StoreFacts B bmB sa owner) (T:OwnTail h bmB bm) (hC:h.get? C = some (excClassObj nm qn C N bs bm true sn sub ab col dd k0 k1 k2 k3 k5 newId)) (f1:PySem.W.findIn K (.ref C) "__setattr__" = some (some (.builtin sa))) (f2:PySem.W.findIn K (.ref C) name = some none) (hxC:x ≠ C) (hx:h.get? x = some o) (hc:o.cls = .ref C) (hd:o.dict = none) (hnc:∀ c,o.data ≠ .cls c)
    (hq:∀ h' tk' dx,dx = h.objs.size→dx ≠ x→h'.get? x = some { o with dict:=some dx }→h'.Ns1 dx (fun y=>if y = name then some v else none)→(∀ b ob,b ≠ x→h.get? b = some ob→h'.get? b = some ob)→Q () ⟨h',gn,dr,tk',ost⟩) :
    wpAny (model prog w) A (setAttr (.ref x) name v) Q E ⟨h,gn,dr,tk,ost⟩:=by
  have bd:=SF.slot.bind (.ref x)
  unfold setAttr callSpecial? specialOf
  repeat (any_goals (first | assumption | (with_reducible refine wpAny_loadPart_at hx ?_; rw [hc]) | (with_reducible refine PySem.W.Looks.here (PySem.W.looks_findIn X f1) ?_) | wp_step))
  refine codeAny_call_builtin SF.slot.plain SF.entry (exc_check SF T hC hx hc (exc_entry X SF T hC f2 hxC hx hc hd hnc fun h' tk' dx a1 a2 a3 a4 a5=>?_))
  repeat (any_goals (first | assumption | wp_step))
  exact hq h' tk' dx a1 a2 a3 a4 a5
end
end DictK
namespace L2
open PySem PySem.Spec PyProof.Rows
theorem compLoop_any {prog:Program} {w:World} {A:Around} {R:Result→Shared→Prop} {s:Shared} {elt target iter:Expr} {ifs:List Expr} {scope:Scope} {pos:Pos} {it acc:Value} {env:Env} (I:Nat→Shared→Prop)
    (turn:∀ n s,I n s→wpAny (model prog w) A (pyNext it) (fun r s₁=>match r with
      | none=>R (.ok .next) s₁
      | some v=>wpAny (model prog w) A (letOwnedTupleGo target it v) (fun _ s₁'=>wpAny (model prog w) A (assign target env v) (fun _ s₂=>
          wpAny (model prog w) A (forIn ifs true fun c r=>if r = true then do let ok ← isTrue c env (eval c env); pure (ForInStep.yield ok) else pure (ForInStep.yield r)) (fun ok s₃=>
            if ok = true then wpAny (model prog w) A (eval elt env) (fun x s₄=>
              wpAny (model prog w) A (call (.builtin "list.append") [acc,x]) (fun _ s₅=>∃ m,m < n∧I m s₅) (fun _ _=>False) s₄) (fun _ _=>False) s₃
            else ∃ m,m < n∧I m s₃) (fun _ _=>False) s₂) (fun _ _=>False) s₁') (fun _ _=>False) s₁) (fun _ _=>False) s)
    (n:Nat) (h:I n s) :
    codeAny (model prog w) A (.compLoop (.ListComp elt [⟨target,iter,ifs,0⟩] scope pos) 0 it acc env) R s:=by
  refine codeAny_loop rfl I (fun n s hI=>?_) n h
  show wpAny _ A ((compTurn (.ListComp elt [⟨target,iter,ifs,0⟩] scope pos) 0 it acc env).onRaise (fun x=>do noteFrame x env; theTreesLotGoes x)) _ _ s
  refine wpAny_noted ?_
  rw [compTurn_list]
  refine wpAny_bind (wpAny_standAt (wpAny_bind (wpAny_mono (turn n s hI) (fun r s₁ h₁=>?_) fun _ _ h'=>h'.elim)))
  cases r with
  | none=>exact wpAny_pure h₁
  | some v=>
    refine wpAny_bind (wpAny_mono h₁ (fun _ s₁' h₁'=>?_) fun _ _ h'=>h'.elim)
    refine wpAny_bind (wpAny_mono h₁' (fun _ s₂ h₂=>wpAny_bind (wpAny_mono h₂ (fun ok s₃ h₃=>?_) fun _ _ h'=>h'.elim)) fun _ _ h'=>h'.elim)
    cases ok with
    | false=>exact wpAny_pure ⟨rfl,h₃⟩
    | true=>
      exact wpAny_bind (wpAny_bind (wpAny_mono h₃ (fun x s₄ h₄=>wpAny_bind (wpAny_mono h₄ (fun _ s₅ h₅=>wpAny_pure (wpAny_pure ⟨rfl,h₅⟩)) fun _ _ h'=>h'.elim)) fun _ _ h'=>h'.elim))
def PTs (X:Cx) (ifs:List Expr) (t:TT):Prop:=
  ∀ (pins:List (Addr × Obj)) (s:Shared) (σ:St) (H:Hp) (Q:Bool→Hp→Prop),Inv X pins σ H s→t σ H Q→
    wpAny (model X.prog X.w) X.A (forIn ifs true fun c r=>if r = true then do let ok ← isTrue c X.env (eval c X.env); pure (ForInStep.yield ok) else pure (ForInStep.yield r)) (TP X pins σ Q) X.xe s
def tYes:TT:=fun _ H Q=>Q true H
theorem pts_nil {X:Cx}:PTs X [] tYes:=fun _ _ _ H _ I h=>wpAny_tests_nil ⟨H,I,h⟩
theorem closure_ex {env:Env}:∀ (names:List (Str × NameKind)) (acc:List (Str × Addr)),(∀ y ∈ names,y.2 = .free→∃ c,env.cells.lookup y.1 = some c)→(∀ y ∈ acc,env.cells.lookup y.1 = some y.2)→
    ∃ cl:List (Str × Addr),(forIn (m:=Sem) names acc fun (x:Str × NameKind) cs=>if (x.2 == NameKind.free) = true then (do let a ← cellOf env x.1; pure (ForInStep.yield ((x.1,a) :: cs))) else pure (ForInStep.yield cs)) = pure cl∧
      (∀ y ∈ cl,env.cells.lookup y.1 = some y.2)∧(∀ y ∈ acc,y ∈ cl)∧∀ y ∈ names,y.2 = .free→∃ c,(y.1,c) ∈ cl
  | [],acc,_,ha=>⟨acc,rfl,ha,fun _ h=>h,fun _ h=>nomatch h⟩
  | (n,k) :: r,acc,hf,ha=>by
    by_cases hk:k = .free
    · subst hk
      obtain ⟨c,hc⟩:=hf (n,.free) List.mem_cons_self rfl
      obtain ⟨cl,e,h1,h2,h3⟩:=closure_ex r ((n,c) :: acc) (fun y hy=>hf y (List.mem_cons_of_mem _ hy)) (fun y hy=>by
        rcases List.mem_cons.mp hy with rfl | hy
        · exact hc
        · exact ha y hy)
      refine ⟨cl,?_,h1,fun y hy=>h2 y (List.mem_cons_of_mem _ hy),fun y hy hk=>?_⟩
      · rw [List.forIn_cons]
        have e1:cellOf env n = pure c:=by unfold cellOf; rw [hc]
        simp only [beq_self_eq_true,if_true,e1]
        exact e
      · rcases List.mem_cons.mp hy with rfl | hy
        · exact ⟨c,h2 _ List.mem_cons_self⟩
        · exact h3 y hy hk
    · have hb:(k == NameKind.free) = false:=by simpa using hk
      obtain ⟨cl,e,h1,h2,h3⟩:=closure_ex r acc (fun y hy=>hf y (List.mem_cons_of_mem _ hy)) ha
      refine ⟨cl,?_,h1,h2,fun y hy hk'=>?_⟩
      · rw [List.forIn_cons]
        simp only [hb,Bool.false_eq_true,if_false]
        exact e
      · rcases List.mem_cons.mp hy with rfl | hy
        · exact absurd hk' hk
        · exact h3 y hy hk'
theorem closureFor_ex {env:Env} {scope:Scope} (hf:∀ y ∈ scope.names,y.2 = .free→∃ c,env.cells.lookup y.1 = some c) :
    ∃ cl:List (Str × Addr),closureFor scope env = pure cl∧(∀ y ∈ cl,env.cells.lookup y.1 = some y.2)∧∀ y ∈ scope.names,y.2 = .free→∃ c,(y.1,c) ∈ cl:=by
  obtain ⟨cl,e,h1,_,h3⟩:=closure_ex scope.names [] hf (fun _ h=>nomatch h)
  refine ⟨cl,?_,h1,h3⟩
  unfold closureFor
  simp only [bind_pure]
  exact e
abbrev cxComp (X:Cx) (scope:Scope) (cl:List (Str × Addr)) (C:Addr) (N:List Str) (s₀:Shared) (H₀:Hp) (ex:List Addr):Cx where
  prog:=X.prog
  w:=X.w
  K:=X.K
  mg:=X.mg
  base:=X.base
  A:=X.A
  N:=N
  s₀:=s₀
  H₀:=H₀
  env:=compEnvC scope cl C X.env
  outer:=X.stack
  stack:=X.stack
  ex:=ex
  fn:=fun _=>false
  calm:=X.calm
  pn:=[]
  xe:=fun _ _=>False
theorem lookup_mem {α β:Type} [BEq α] [LawfulBEq α] {l:List (α × β)} {x:α} {y:β} (h:l.lookup x = some y):(x,y) ∈ l:=by
  induction l with
  | nil=>cases h
  | cons p r ih=>
    obtain ⟨a,b⟩:=p
    rw [List.lookup_cons] at h
    cases e:(x == a) with
    | true=>rw [e] at h; cases h; rw [eq_of_beq e]; exact List.mem_cons_self
    | false=>rw [e] at h; exact List.mem_cons_of_mem _ (ih h)
theorem mem_lookup {α β:Type} [BEq α] [LawfulBEq α] {l:List (α × β)} {x:α} {y:β} (h:(x,y) ∈ l):∃ z,l.lookup x = some z:=by
  induction l with
  | nil=>cases h
  | cons p r ih=>
    obtain ⟨a,b⟩:=p
    rw [List.lookup_cons]
    cases e:(x == a) with
    | true=>exact ⟨_,rfl⟩
    | false=>
      rcases List.mem_cons.mp h with q | q
      · cases q; simp at e
      · exact ih q
theorem relabel_mem {scope:Scope} {env:Env} {y:Str} {k:NameKind} (h:(y,k) ∈ (relabel scope env).names):(y,k) ∈ scope.names ∨ (k = .cell∧(y,NameKind.free) ∈ scope.names):=by
  unfold relabel at h
  obtain ⟨⟨n,k'⟩,hm,e⟩:=List.mem_map.mp h
  dsimp only at e
  split at e
  · rename_i hc
    cases e
    have:k' = .free:=by
      have:=hc
      simp only [Bool.and_eq_true,beq_iff_eq] at this
      exact this.1.1
    subst this
    exact .inr ⟨rfl,hm⟩
  · cases e; exact .inl hm
theorem lookup_relabel_free {env:Env}:∀ {names:List (Str × NameKind)} {x:Str},names.lookup x = some .free→
    (names.map fun (n,k)=>if (k == NameKind.free && env.scope.kind == .function && env.kindOf n == some .cell) then (n,NameKind.cell) else (n,k)).lookup x = some .cell ∨
    (names.map fun (n,k)=>if (k == NameKind.free && env.scope.kind == .function && env.kindOf n == some .cell) then (n,NameKind.cell) else (n,k)).lookup x = some .free
  | [],_,h=>by simp at h
  | (n,k) :: r,x,h=>by
    have ih:=@lookup_relabel_free env r x
    show List.lookup x ((if (k == NameKind.free && env.scope.kind == .function && env.kindOf n == some .cell) = true then (n,NameKind.cell) else (n,k)) :: _) = _ ∨ List.lookup x ((if (k == NameKind.free && env.scope.kind == .function && env.kindOf n == some .cell) = true then (n,NameKind.cell) else (n,k)) :: _) = _
    cases hx:x == n with
    | true=>
      simp only [List.lookup_cons,hx] at h
      cases h
      by_cases hc:(NameKind.free == NameKind.free && env.scope.kind == .function && env.kindOf n == some .cell) = true
      · rw [if_pos hc]; simp [List.lookup_cons,hx]
      · rw [if_neg hc]; simp [List.lookup_cons,hx]
    | false=>
      simp only [List.lookup_cons,hx] at h
      by_cases hc:(k == NameKind.free && env.scope.kind == .function && env.kindOf n == some .cell) = true
      · rw [if_pos hc]; simp only [List.lookup_cons,hx]; exact ih h
      · rw [if_neg hc]; simp only [List.lookup_cons,hx]; exact ih h
def compSt (fs:List Nat) (σ:St):St:=fs.map fun j=>(σ[j]?).join
def tComp (wi:TI) (fs:List Nat) (tt:TT) (te:TE):TE:=fun σ H Q=>wi σ H fun J H1=>∃ W:Nat→Nat→List V→Hp→Prop,(∃ m,W 0 m [] H1)∧∀ i m ys H,W i m ys H→ys.length ≤ sizeLine∧
  ((J.stop i H∧∀ p,H p = none→Q (.ref p) (upd H p (.lst ys))) ∨
   (J.go i H∧ys.length < sizeLine∧∀ x H',J.yld i H x H'→tt (some x :: compSt fs σ) H' fun b H2=>if b = true then te (some x :: compSt fs σ) H2 fun y H3=>∃ m',m' < m∧W (i + 1) m' (ys ++ [y]) H3 else ∃ m',m' < m∧W (i + 1) m' ys H2))
section
variable {X:Cx}
theorem comp_block {elt iter:Expr} {x:Str} {px pos:Pos} {ifs:List Expr} {scope:Scope} {fs:List (Str × Nat)} {tt:TT} {te:TE}
    {pins:List (Addr × Obj)} {σ:St} {H2:Hp} {s2:Shared} {it:Addr} {fp:List Addr} {tn:Nat→Heap→Prop} {J:It} {cl:List (Str × Addr)} {E:Value→Shared→Prop}
    {P:Value→Addr→Result→Shared→Prop}
    (hc:X.calm = true) (hkind:scope.kind = .function) (hcell:∀ y ∈ scope.names,y.2 ≠ .cell) (hx:scope.names.lookup x = some .local)
    (hnd:(x :: fs.map (·.1)).Nodup) (hfs:∀ f ∈ fs,X.N[f.2]? = some f.1∧(X.env.kindOf f.1 = some .cell ∨ X.env.kindOf f.1 = some .free)∧scope.names.lookup f.1 = some .free)
    (hb:∀ (cl:List (Str × Addr)) (C:Addr) (s₀:Shared) (H₀:Hp) (ex:List Addr),PTs (cxComp X scope cl C (x :: fs.map (·.1)) s₀ H₀ ex) ifs tt∧PE (cxComp X scope cl C (x :: fs.map (·.1)) s₀ H₀ ex) elt te)
    (hcl1:∀ y ∈ cl,X.env.cells.lookup y.1 = some y.2) (hcl2:∀ y ∈ scope.names,y.2 = .free→∃ c,(y.1,c) ∈ cl)
    (I2:Inv X pins σ H2 s2) (T:Turn X.prog X.w X.K (.Name x px) J fp it tn) (st2:tn 0 s2.heap) (f2:∀ b ∈ fp,FpOk X pins H2 b)
    (W:Nat→Nat→List V→Hp→Prop) (Qe:Hp→List V→Prop) (w0:∃ m,W 0 m [] H2)
    (turn:∀ i m ys H,W i m ys H→ys.length ≤ sizeLine∧
      ((J.stop i H∧Qe H ys) ∨
       (J.go i H∧ys.length < sizeLine∧∀ x H',J.yld i H x H'→tt (some x :: compSt (fs.map (·.2)) σ) H' fun b H2=>if b = true then te (some x :: compSt (fs.map (·.2)) σ) H2 fun y H3=>∃ m',m' < m∧W (i + 1) m' (ys ++ [y]) H3 else ∃ m',m' < m∧W (i + 1) m' ys H2)))
    (hP:∀ (D C:Addr) (H':Hp) (s':Shared) (ys:List V) (its:List Value) (m:Str→Option Value),s2.heap.objs.size ≤ C→s2.heap.get? D = none→s2.heap.get? C = none→D ≠ C→H' D = none→H' C = none→s'.heap.Ns C m→s'.heap.PlainList D its.toArray→Vals ys its→ys.length ≤ sizeLine→Qe H' ys→
      Un (frs X.stack) fp H2 H' s2.heap s'.heap→HOk X.prog X.w H' s'.heap→AllBare s'.gens→s'.os = s2.os→P (.ref D) C (.ok .next) s') :
    wpAny (model X.prog X.w) X.A (newList []) (fun acc s₃=>wpAny (model X.prog X.w) X.A (newFunctionEnv scope X.env.globals cl [] X.env.qual none .none (some X.env)) (fun cenv s₄=>
      codeAny (model X.prog X.w) X.A (.compStart (.ListComp elt [⟨.Name x px,iter,ifs,0⟩] scope pos) 0 (.ref it) acc { cenv with scope:=relabel scope X.env }) (P acc cenv.locals) s₄) E s₃) E s2:=by
  refine wpAny_newObj_type (wpAny_newFunctionEnv hcell (by intro y hy; simp at hy) (fun h₁ hns₁ hsb₁=>?_) hkind)
  dsimp only at hns₁ hsb₁ ⊢
  generalize hH2:s2.heap.push { cls:=.type "list",dict:=none,data:=.seq ([]:List Value).toArray } = HH at hns₁ hsb₁ ⊢
  have hC:HH.objs.size = s2.heap.objs.size + 1:=by rw [← hH2,Heap.size_push]
  generalize eD:s2.heap.objs.size = D at *
  generalize eC:HH.objs.size = C at *
  have hDC:D ≠ C:=by rw [hC]; exact Nat.ne_of_lt (Nat.lt_succ_self _)
  have fresh:∀ a,D ≤ a→s2.heap.get? a = none:=fun a ha=>Heap.get?_none_of_le (by rw [eD]; exact ha)
  have hD0:s2.heap.get? D = none:=fresh D (Nat.le_refl _)
  have hC0:s2.heap.get? C = none:=fresh C (by rw [hC]; exact Nat.le_succ _)
  have old:∀ b o,s2.heap.get? b = some o→h₁.get? b = some o:=fun b o e=>hsb₁.extBut b o (fun z=>by rw [z,hC0] at e; cases e) (Heap.get?_push_of_some _ (hH2 ▸ Heap.get?_push_of_some _ e))
  have hacc:h₁.PlainList D #[]:=⟨0,hsb₁.extBut _ _ hDC (Heap.get?_push_of_some _ (hH2 ▸ (eD ▸ Heap.get?_push_size _ rfl)))⟩
  have HD:H2 D = none:=I2.hok.fresh (by rw [eD]; exact Nat.le_refl _)
  have HC:H2 C = none:=I2.hok.fresh (by rw [eD,hC]; exact Nat.le_succ _)
  -- the block's context
  let Y:Cx:=cxComp X scope cl C (x :: fs.map (·.1)) s2 H2 fp
  have lk:∀ y c,cl.lookup y = some c→X.env.cells.lookup y = some c:=fun y c e=>hcl1 (y,c) (lookup_mem e)
  have yok:Y.Ok:=by
    refine ⟨I2.ok.mod,hkind,I2.ok.glob,I2.ok.blt,?_,fun y z c h1 h2=>I2.ok.inj y z c (lk y c h1) (lk z c h2),fun y hy=>?_,fun _ _ h _=>absurd h Bool.false_ne_true,I2.ok.hd,I2.ok.frames,.inl rfl,fun b hb=>?_,I2.bs,?_,fun b o e hb=>?_,fun b hb hz=>?_,I2.stack,I2.stkFree⟩
    · show s2.heap.objs.size ≤ C
      rw [eD,hC]; exact Nat.le_succ _
    · have hy':(relabel scope X.env).names.lookup y = some .cell ∨ (relabel scope X.env).names.lookup y = some .free:=hy
      have hm:(y,NameKind.free) ∈ scope.names:=by
        rcases hy' with e | e
        · rcases relabel_mem (lookup_mem e) with q | ⟨_,q⟩
          · exact absurd rfl (hcell _ q)
          · exact q
        · rcases relabel_mem (lookup_mem e) with q | ⟨q,_⟩
          · exact q
          · cases q
      obtain ⟨c,q⟩:=hcl2 _ hm rfl
      exact mem_lookup q
    · obtain ⟨f0,f1,f3,f4,f5,f6⟩:=f2 b hb
      refine ⟨fun z=>?_,fun y c e=>f5 y c (lk y c e)⟩
      obtain ⟨o,ho,_⟩:=T.obj _ _ st2 b hb
      have z':b = C:=z
      rw [z',hC0] at ho; cases ho
    · exact Nat.le_trans I2.ok.bsz I2.sz
    · obtain ⟨f0,f1,f3,f4,f5,f6⟩:=f2 b hb
      rcases f4 with z | z
      · exact I2.ok.noex b o e z
      · exact absurd (Nat.lt_of_lt_of_le (Heap.lt_size e) (Nat.le_trans I2.ok.bsz z)) (Nat.lt_irrefl _)
    · obtain ⟨f0,f1,f3,f4,f5,f6⟩:=f2 b hb
      rcases List.mem_cons.mp (I2.stkSub b hz) with z | z
      · exact f1 z
      · exact f3 z
  let τ:St:=none :: compSt (fs.map (·.2)) σ
  have hτ:τ.length = (x :: fs.map (·.1)).length:=by simp [τ,compSt]
  obtain ⟨mL,hnL,hlL⟩:=id I2.loc
  have yI:Inv Y [] τ H2 { s2 with heap:=h₁,toks:=s2.toks + ([]:List (Str × Value)).length }:=by
    refine ⟨yok,rfl,I2.bare,Un.kept old,⟨_,hns₁,fun i y v e1 e2 e3=>?_⟩,fun y c e=>?_,HC,fun y c e=>I2.freeC y c (lk y c e),(fun p hp=>nomatch hp),I2.hok.kept old,hτ⟩
    · cases i with
      | zero=>simp [τ] at e2
      | succ i=>
        have e1':(fs.map (·.1))[i]? = some y:=e1
        have e2':(compSt (fs.map (·.2)) σ)[i]? = some (some v):=by simpa [τ] using e2
        rw [List.getElem?_map] at e1'
        cases q:fs[i]? with
        | none=>rw [q] at e1'; cases e1'
        | some f=>
          rw [q] at e1'
          have ey:f.1 = y:=Option.some.inj e1'
          obtain ⟨g1,g2,g3⟩:=hfs f (List.mem_of_getElem? q)
          have e2'':(σ[f.2]?).join = some v:=by
            unfold compSt at e2'
            rw [List.getElem?_map,List.getElem?_map,q] at e2'
            exact Option.some.inj e2'
          have e2c:σ[f.2]? = some (some v):=by
            cases r:σ[f.2]? with
            | none=>rw [r] at e2''; cases e2''
            | some o=>rw [r] at e2''; have e2'':o = some v:=e2''; rw [e2'']
          have vis:Vis X.env.scope f.1:=by
            rcases g2 with g | g
            · exact .inr (.inl g)
            · exact .inr (.inr g)
          obtain ⟨u,ru,lu⟩:=hlL f.2 f.1 v g1 e2c vis
          refine ⟨u,ru,?_⟩
          have lu':∃ c,X.env.cells.lookup f.1 = some c∧s2.heap.IsCell c (some u):=by
            rcases lu with ⟨k,_⟩ | ⟨_,c,e,z⟩
            · rcases g2 with g | g
              · rw [k] at g; cases g
              · rw [k] at g; cases g
            · exact ⟨c,e,z⟩
          obtain ⟨c,hc1,hc2⟩:=lu'
          obtain ⟨c',hm⟩:=hcl2 _ (lookup_mem g3) rfl
          have hm':=hcl1 _ hm
          obtain ⟨c2,hl2⟩:=mem_lookup hm
          have:=lk _ _ hl2
          rw [hc1] at this; cases this
          obtain ⟨oc,ho,hdt⟩:=hc2
          refine .inr ⟨?_,c,by rw [← ey]; exact hl2,oc,old c oc ho,hdt⟩
          rw [← ey]
          exact lookup_relabel_free g3
    · obtain ⟨v,oc,ho,hdt⟩:=I2.cell y c (lk y c e)
      exact ⟨v,oc,old c oc ho,hdt⟩
  have hx':Y.env.scope.names.lookup x = some .local:=lookup_relabel_local hx
  have fpD:∀ b ∈ fp,b ≠ D:=fun b hb z=>by
    obtain ⟨o,ho,_⟩:=T.obj _ _ st2 b hb
    rw [z,hD0] at ho; cases ho
  have stD:D ∉ frs X.stack:=fun hz=>by
    rcases List.mem_cons.mp (I2.stkSub D hz) with z | z
    · have:=I2.lt; rw [eD,← z] at this; exact absurd this (Nat.lt_irrefl _)
    · exact I2.nofs (by rw [eD]; exact Nat.le_refl _) z
  have cellD:∀ y c,cl.lookup y = some c→c ≠ D:=fun y c e z=>by
    obtain ⟨v,oc,ho,_⟩:=I2.cell y c (lk y c e)
    rw [z,hD0] at ho; cases ho
  have stat:∀ {H':Hp} {oD:Obj},(∀ b ∈ fp,H' b = none)→∀ b ∈ fp,FpOk Y [(D,oD)] H' b:=fun hn b hb=>by
    refine ⟨hn b hb,(yok.exf b hb).1,yok.exfs b hb,.inl hb,(yok.exf b hb).2,fun p hp z=>?_⟩
    have hp':p ∈ [(D,_)]:=hp
    rw [List.mem_singleton.mp hp'] at z
    exact fpD b hb z.symm
  obtain ⟨m0,w0⟩:=w0
  have loop:∀ s₃:Shared,s₃ = { s2 with heap:=h₁,toks:=s2.toks + ([]:List (Str × Value)).length }→
      codeAny (model X.prog X.w) X.A (.compLoop (.ListComp elt [⟨.Name x px,iter,ifs,0⟩] scope pos) 0 (.ref it) (.ref D) (compEnvC scope cl C X.env)) (P (.ref D) C) s₃:=by
    rintro s₃ rfl
    refine compLoop_any (fun n s'=>∃ i ys its H',Inv Y [] τ H' s'∧tn i s'.heap∧(∀ b ∈ fp,H' b = none)∧H' D = none∧s'.heap.PlainList D (List.toArray its)∧Vals ys its∧W i n ys H') ?_ m0
      ⟨0,[],[],H2,yI,T.keep _ _ _ st2 (fun b _ o e=>old b o e),fun b hb=>(f2 b hb).1,HD,hacc,.nil,w0⟩
    rintro n s3 ⟨i,ys,its,H3,I3,st3,fr3,hD3,⟨n0,hoD⟩,rv3,w3⟩
    obtain ⟨hz,ht⟩:=turn i n ys H3 w3
    have I3':Inv Y [(D,{ cls:=.type "list",data:=.seq its.toArray n0 })] τ H3 s3:=I3.pins_of fun p hp=>by
      rw [List.mem_singleton.mp hp]
      exact ⟨hoD,hD3,hDC,stD,fun v z=>by cases z⟩
    rcases ht with ⟨stop,q⟩ | ⟨go,hz',step⟩
    · refine thn (T.done Y rfl rfl rfl hc i _ s3 τ H3 _ I3' (stat fr3) st3 stop) fun r s4 ⟨hr,I4⟩=>?_
      subst hr
      obtain ⟨m,hn,_⟩:=I4.loc
      exact hP D C H3 s4 ys its m (by rw [hC]; exact Nat.le_succ _) hD0 hC0 hDC hD3 I4.free hn ⟨n0,(I4.pin (D,_) (List.mem_append_right _ List.mem_cons_self)).1⟩ rv3 hz q I4.base I4.hok I4.bare I4.os
    · refine thn (T.item Y rfl rfl rfl hc i _ s3 τ H3 _ I3' (stat fr3) st3 go) fun r s4 ⟨u,hr,h4⟩=>?_
      subst hr
      refine thn h4 fun _ s5 ⟨x',H5,I5,r5,y5,st5,fr5⟩=>?_
      have I5':=I5.pinned (fp:=fp) (stat fr5) (T.obj _ _ st5)
      refine thn (pg_name (X:=Y) (i:=0) (pos:=px) hnd rfl (.inl hx') (.inr hx') _ s5 τ H5 x' u (fun σ' H'=>σ' = some x' :: compSt (fs.map (·.2)) σ∧H' = H5) I5' r5 ⟨rfl,rfl⟩) fun _ s6 ⟨σ6,H6,I6,e6,e6'⟩=>?_
      subst e6 e6'
      have back:∀ {σ':St} {H':Hp} {s':Shared},Inv Y ([(D,{ cls:=.type "list",data:=.seq its.toArray n0 })] ++ pinsAt fp s5.heap) (some x' :: compSt (fs.map (·.2)) σ) H' s'→
          Inv Y [] τ H' s'∧tn (i + 1) s'.heap∧(∀ b ∈ fp,H' b = none)∧H' D = none∧s'.heap.PlainList D its.toArray:=fun {σ' H' s'} J'=>by
        refine ⟨(J'.pins_of (pins':=[]) (fun p hp=>absurd hp (by simp))).weak rfl fun j v e=>?_,T.keep _ _ _ st5 fun b hb o e=>(J'.pin (b,o) (List.mem_append_right _ (List.mem_append_right _ (mem_pinsAt hb e)))).1,fun b hb=>?_,?_,n0,?_⟩
        · cases j with
          | zero=>cases e
          | succ j=>exact e
        · obtain ⟨o,e,d⟩:=T.obj _ _ st5 b hb
          exact (J'.pin (b,o) (List.mem_append_right _ (List.mem_append_right _ (mem_pinsAt hb e)))).2.1
        · exact (J'.pin (D,_) (List.mem_append_right _ (List.mem_append_left _ List.mem_cons_self))).2.1
        · exact (J'.pin (D,_) (List.mem_append_right _ (List.mem_append_left _ List.mem_cons_self))).1
      refine thn ((hb cl C s2 H2 fp).1 _ s6 _ _ _ I6 (step x' H6 y5)) fun ok s7 ⟨H7,I7,q7⟩=>?_
      cases ok with
      | false=>
        obtain ⟨m',hm,w7⟩:=q7
        obtain ⟨a1,a2,a3,a4,a5⟩:=back (σ':=τ) I7
        exact ⟨m',hm,i + 1,ys,its,H7,a1,a2,a3,a4,a5,rv3,w7⟩
      | true=>
        refine thn ((hb cl C s2 H2 fp).2 _ s7 _ _ _ I7 q7) fun y s8 ⟨yv,H8,I8,ry,m',hm,w8⟩=>?_
        obtain ⟨a1,a2,a3,a4,a5⟩:=back (σ':=τ) I8
        have hlen:=rv3.length
        refine wpAny_list_append_plain (hsz:=by rw [List.size_toArray,← hlen]; exact hz) a5 fun h' hl' hs'=>?_
        refine ⟨m',hm,i + 1,ys ++ [yv],its ++ [y],H8,a1.turned (t':=s8.toks) (it:=D) (fun b o hb e=>hs'.extBut b o hb e) a4 hDC (.inr (by show s2.heap.objs.size ≤ D; rw [eD]; exact Nat.le_refl _)) (fun y c e=>cellD y c e) (fun p hp=>absurd (show p ∈ ([]:List (Addr × Obj)) from hp) (by simp)),T.keep _ _ _ a2 fun b hb o e=>hs'.extBut b o (fpD b hb) e,a3,a4,by simpa using hl',rv3.append (.cons ry .nil),w8⟩
  exact codeAny_compStart_list (loop _ rfl) (T.self X.A 0 _ _ _ (T.keep _ _ _ st2 (fun b _ o e=>old b o e)) (loop _ rfl))
theorem comp_after {pins:List (Addr × Obj)} {σ:St} {H2 H':Hp} {s2 s':Shared} {fp:List Addr} {D C:Addr} {ys:List V} {its:List Value} {h':Heap} {tk:Nat} (I2:Inv X pins σ H2 s2) (f2:∀ b ∈ fp,FpOk X pins H2 b)
    (hD:s2.heap.get? D = none) (hC:s2.heap.get? C = none) (hDC:D ≠ C) (HD:H' D = none) (HC:H' C = none) (pl:s'.heap.PlainList D its.toArray) (rv:Vals ys its) (hz:ys.length ≤ sizeLine)
    (u:Un (frs X.stack) fp H2 H' s2.heap s'.heap) (hok:HOk X.prog X.w H' s'.heap) (hg:AllBare s'.gens) (ho:s'.os = s2.os) (hs:Heap.SameBut C s'.heap h') :
    Inv X pins σ (upd H' D (.lst ys)) { s' with heap:=h',toks:=tk }:=by
  have kC:∀ b o,b ≠ C→s'.heap.get? b = some o→h'.get? b = some o:=fun b o hb e=>hs.extBut b o hb e
  have neC:∀ b o,s2.heap.get? b = some o→b ≠ C:=fun b o e z=>by rw [z,hC] at e; cases e
  have neD:∀ b o,s2.heap.get? b = some o→b ≠ D:=fun b o e z=>by rw [z,hD] at e; cases e
  have trD:∀ b o,H' b = some o→b ≠ D:=fun b o e z=>by rw [z,HD] at e; cases e
  refine I2.call' (ch:=fp) ho ⟨fun b o e n hb hx=>kC b o (neC b o e) (u.keep b o e n hb hx),fun b o e n hb hx=>?_,fun b o e n hx=>?_,fun b o e hx=>?_,fun b xs e=>?_,fun b o w e=>?_,fun b ps e=>?_⟩ (fun b o e=>?_) hg fun b hb=>?_
  · obtain ⟨sl,q⟩:=u.slot b o e n hb hx
    exact ⟨sl,kC b _ (neC b o e) q⟩
  · rw [upd_ne (neD b o e)]; exact u.free b o e n hx
  · obtain ⟨o',q⟩:=u.there b o e hx
    exact ⟨o',kC b _ (neC b o e) q⟩
  · have q:=u.tups b xs e
    rw [upd_ne (trD b _ q)]; exact q
  · have q:=u.frzs b o w e
    rw [upd_ne (trD b _ q)]; exact q
  · obtain ⟨more,q⟩:=u.tbls b ps e
    exact ⟨more,by rw [upd_ne (trD b _ q)]; exact q⟩
  · by_cases hb:b = D
    · subst hb
      rw [upd_same] at e
      cases e
      obtain ⟨n,q⟩:=pl
      exact ⟨hz,its,n,rv,kC b _ hDC q⟩
    · rw [upd_ne hb] at e
      refine (hok b o e).stay (fun c v hc q=>kC c v (fun z=>?_) q) (fun c q=>by rw [upd_ne (trD c _ q)]; exact q) fun c xs q=>by rw [upd_ne (trD c _ q)]; exact q
      rcases hc with hc | hc
      · rw [hc] at z; rw [z,HC] at e; cases e
      · rw [z,HC] at hc; cases hc
  · obtain ⟨f0,f1,f3,f4,f5,f6⟩:=f2 b hb
    exact ⟨f4,f1,f5,f6⟩
theorem pe_comp {elt iter:Expr} {x:Str} {px pos:Pos} {ifs:List Expr} {scope:Scope} (fs:List (Str × Nat)) {wi:TI} {tt:TT} {te:TE}
    (hc:X.calm = true) (hkind:scope.kind = .function) (hcell:∀ y ∈ scope.names,y.2 ≠ .cell) (hnames:∀ y ∈ scope.names,y.2 = .local→scope.names.lookup y.1 = some .local)
    (hfree:∀ y ∈ scope.names,y.2 = .free→X.env.kindOf y.1 = some .cell ∨ X.env.kindOf y.1 = some .free) (hx:scope.names.lookup x = some .local)
    (hnd:(x :: fs.map (·.1)).Nodup) (hfs:∀ f ∈ fs,X.N[f.2]? = some f.1∧(X.env.kindOf f.1 = some .cell ∨ X.env.kindOf f.1 = some .free)∧scope.names.lookup f.1 = some .free)
    (hi:PI X (.Name x px) iter wi)
    (hb:∀ (cl:List (Str × Addr)) (C:Addr) (s₀:Shared) (H₀:Hp) (ex:List Addr),PTs (cxComp X scope cl C (x :: fs.map (·.1)) s₀ H₀ ex) ifs tt∧PE (cxComp X scope cl C (x :: fs.map (·.1)) s₀ H₀ ex) elt te)
    (hs:∀ x,foldedSetIterable iter X.env x = pure x:=by intro _; rfl) :
    PE X (.ListComp elt [⟨.Name x px,iter,ifs,0⟩] scope pos) (tComp wi (fs.map (·.2)) tt te):=by
  intro pins s σ H Q I h
  obtain ⟨cl,hclos,hcl1,hcl2⟩:=closureFor_ex (env:=X.env) (scope:=scope) fun y hy hk=>I.ok.has y.1 (hfree y hy hk)
  rw [eval_ListComp]
  refine wpAny_comprehension_free (use:=none) rfl hs hclos hkind hnames (thn (hi pins s σ H _ I h) fun v s1 h1=>thn h1 fun itv s2 h2=>?_)
  obtain ⟨it,fp,tn,J,H2,e,I2,T,st2,f2,W,w0,turn⟩:=h2
  subst e
  refine comp_block (pins:=pins) hc hkind hcell hx hnd hfs hb hcl1 hcl2 I2 T st2 f2 W (fun H ys=>∀ p,H p = none→Q (.ref p) (upd H p (.lst ys))) w0 turn ?_
  intro D C H' s' ys its m hCs hD hC hDC HD HC hn pl rv hz q u hok hg ho
  exact ⟨m,hn,fun h' hs'=>⟨.ref D,_,comp_after (tk:=s'.toks) I2 f2 hD hC hDC HD HC pl rv hz u hok hg ho hs',rfl,q D HD⟩⟩
def tCompSet (i:Nat) (wi:TI) (fs:List Nat) (tt:TT) (te:TE):TS:=fun D σ H=>tComp wi fs tt te σ H fun v H1=>D.nx (σ.set i (some v)) H1
end
end L2
namespace L2
open PySem PySem.Spec PyProof.Rows PySem.Builtin.Str
def txt (l:List Nat):Str:=⟨l.toArray⟩
theorem txt_inj {a b:List Nat}:txt a = txt b ↔ a = b:=⟨fun h=>by simpa [txt] using h,fun h=>by rw [h]⟩
theorem txt_app (a b:List Nat):txt a ++ txt b = txt (a ++ b):=by
  show Str.mk (a.toArray ++ b.toArray) = _
  simp [txt]
end L2
namespace L2
open PySem PySem.Spec PyProof.Rows PySem.Builtin.Str
end L2
namespace L2
open PySem PySem.Spec PyProof.Rows PySem.Builtin.Str
section
variable {X:Cx}
structure CompOk (X:Cx) (scope:Scope) (x:Str) (fs:List (Str × Nat)):Prop where
  kind:scope.kind = .function
  cell:∀ y ∈ scope.names,y.2 ≠ .cell
  names:∀ y ∈ scope.names,y.2 = .local→scope.names.lookup y.1 = some .local
  free:∀ y ∈ scope.names,y.2 = .free→X.env.kindOf y.1 = some .cell ∨ X.env.kindOf y.1 = some .free
  hx:scope.names.lookup x = some .local
  nd:(x :: fs.map (·.1)).Nodup
  fs:∀ f ∈ fs,X.N[f.2]? = some f.1∧(X.env.kindOf f.1 = some .cell ∨ X.env.kindOf f.1 = some .free)∧scope.names.lookup f.1 = some .free
def compLook (names:List (Str × NameKind)) (outer:List (Str × NameKind)) (N:List Str) (x:Str) (fs:List (Str × Nat)):Bool:=
  (names.all fun y=>y.2 != .cell) && (names.all fun y=>y.2 != .local || names.lookup y.1 == some .local) &&
  (names.all fun y=>y.2 != .free || outer.lookup y.1 == some .cell || outer.lookup y.1 == some .free) && (names.lookup x == some .local) &&
  decide ((x :: fs.map (·.1)).Nodup) && (fs.all fun f=>decide (N[f.2]? = some f.1) && (outer.lookup f.1 == some .cell || outer.lookup f.1 == some .free) && names.lookup f.1 == some .free)
theorem compOk_of {scope:Scope} {x:Str} {fs:List (Str × Nat)} (hk:scope.kind = .function) (h:compLook scope.names X.env.scope.names X.N x fs = true):CompOk X scope x fs:=by
  unfold compLook at h
  simp only [Bool.and_eq_true,List.all_eq_true,decide_eq_true_eq,Bool.or_eq_true,bne_iff_ne,beq_iff_eq] at h
  obtain ⟨⟨⟨⟨⟨h1,h2⟩,h3⟩,h4⟩,h5⟩,h6⟩:=h
  refine ⟨hk,fun y hy=>h1 y hy,fun y hy e=>?_,fun y hy e=>?_,h4,h5,fun f hf=>?_⟩
  · rcases h2 y hy with z | z
    · exact absurd e z
    · exact z
  · rcases h3 y hy with (z | z) | z
    · exact absurd e z
    · exact .inl z
    · exact .inr z
  · obtain ⟨⟨a,b⟩,c⟩:=h6 f hf
    exact ⟨a,b,c⟩
theorem pe_compB {elt iter:Expr} {x:Str} {px pos:Pos} {ifs:List Expr} {scope:Scope} (fs:List (Str × Nat)) {wi:TI} {tt:TT} {te:TE} (hc:X.calm = true)
    (hi:PI X (.Name x px) iter wi)
    (hb:∀ (cl:List (Str × Addr)) (C:Addr) (s₀:Shared) (H₀:Hp) (ex:List Addr),PTs (cxComp X scope cl C (x :: fs.map (·.1)) s₀ H₀ ex) ifs tt∧PE (cxComp X scope cl C (x :: fs.map (·.1)) s₀ H₀ ex) elt te)
    (hk:scope.kind = .function:=by rfl) (hl:compLook scope.names X.env.scope.names X.N x fs = true:=by kernel_rfl)
    (hs:∀ x,foldedSetIterable iter X.env x = pure x:=by intro _; rfl) :
    PE X (.ListComp elt [⟨.Name x px,iter,ifs,0⟩] scope pos) (tComp wi (fs.map (·.2)) tt te):=
  let O:=compOk_of (X:=X) hk hl
  pe_comp fs hc O.kind O.cell O.names O.free O.hx O.nd O.fs hi hb hs
theorem comp_range {lo:Int} {n:Nat} {σ:St} {fs:List Nat} {tt:TT} {te:TE} {H:Hp} {Q:VK} (Pv:Nat→List V→Hp→Prop) (h0:Pv 0 [] H) (hl:∀ i ys H,i ≤ n→Pv i ys H→ys.length ≤ i) (hn:n ≤ sizeLine)
    (hs:∀ i ys H,i < n→Pv i ys H→∀ R:List V→Hp→Prop,(∀ ys' H',Pv (i + 1) ys' H'→R ys' H')→tt (some (.int (lo + i)) :: compSt fs σ) H fun b H2=>if b = true then te (some (.int (lo + i)) :: compSt fs σ) H2 fun y H3=>R (ys ++ [y]) H3 else R ys H2)
    (hd:∀ ys H,Pv n ys H→∀ p,H p = none→Q (.ref p) (upd H p (.lst ys))) :
    ∃ W:Nat→Nat→List V→Hp→Prop,(∃ m,W 0 m [] H)∧∀ i m ys H,W i m ys H→ys.length ≤ sizeLine∧
      (((Itr lo n).stop i H∧∀ p,H p = none→Q (.ref p) (upd H p (.lst ys))) ∨
       ((Itr lo n).go i H∧ys.length < sizeLine∧∀ x H',(Itr lo n).yld i H x H'→tt (some x :: compSt fs σ) H' fun b H2=>if b = true then te (some x :: compSt fs σ) H2 fun y H3=>∃ m',m' < m∧W (i + 1) m' (ys ++ [y]) H3 else ∃ m',m' < m∧W (i + 1) m' ys H2)):=by
  refine ⟨fun i m ys H=>m = n - i∧i ≤ n∧Pv i ys H,⟨n,by simp,Nat.zero_le _,h0⟩,?_⟩
  rintro i m ys H ⟨rfl,hi,p⟩
  have hle:=hl i ys H hi p
  refine ⟨by omega,?_⟩
  by_cases hlt:i < n
  · refine .inr ⟨hlt,by omega,fun x H' y=>?_⟩
    obtain ⟨e,y⟩:=y
    subst e y
    exact hs i ys _ hlt p (fun ys' H'=>∃ m',m' < n - i∧m' = n - (i + 1)∧i + 1 ≤ n∧Pv (i + 1) ys' H') fun ys' H' q=>⟨n - (i + 1),by omega,rfl,hlt,q⟩
  · have e:i = n:=by omega
    subst e
    exact .inl ⟨Nat.le_refl _,hd ys H p⟩
theorem pe_txt {x:Str} {l:List Nat} {j pos} (h:x = txt l):PE X (.Constant (.str x) j pos) (tC (.str (txt l))):=by subst h; exact pe_str
end
abbrev rAddI:R2:=rI0 fun i j=>.int (i + j)
abbrev rDivI:R2:=rI CDiv fun i j=>.int (i / j)
abbrev rModI:R2:=rI (fun _ j=>0 < j) fun i j=>.int (i % j)
abbrev rPowI:R2:=rI CPow fun i j=>.int (i ^ j.toNat)
abbrev rShrI:R2:=rI (fun _ j=>0 ≤ j) fun i j=>.int (i / 2 ^ j.toNat)
abbrev rNegI:V→Hp→VK→Prop:=rU fun i=>.int (-i)
abbrev rGtI:R2:=rI0 fun i j=>.bl (decide (j < i))
def CMulB (i j:Int):Prop:=CMul i j ∨ (Builtin.Int.intBits i ≤ 2 ^ 20∧Builtin.Int.intBits j ≤ 2 ^ 20)
theorem CMulB.l {i j:Int} (h1:-(2 ^ 64) < i) (h2:i < 2 ^ 64):CMulB i j:=.inl (.inl ⟨h1,h2⟩)
theorem CMulB.r {i j:Int} (h1:-(2 ^ 64) < j) (h2:j < 2 ^ 64):CMulB i j:=.inl (.inr ⟨h1,h2⟩)
abbrev rMulI:R2:=rI CMulB fun i j=>.int (i * j)
abbrev rLenL (K:PySem.W.Frag):List V→Hp→VK→Prop:=fun xs H Q=>∃ p ys,xs = [.ref p]∧(SqL K H p ys ∨ SqT K H p ys)∧Q (.int ys.length) H
abbrev rStrI:List V→Hp→VK→Prop:=fun xs H Q=>∃ i,xs = [.int i]∧i.natAbs.log2 < 1920∧Q (.str (toString i)) H
section
variable {X:Cx}
theorem op_mulB:OpR X (binaryOp .Mult) rMulI:=opI fun _ _ _ _ _ _ _ hc q=>mul_int q (by
  rcases hc with h | h
  · exact h.ok
  · exact IntMulOk.of_bits h.1 h.2)
end
theorem SqL.here {K:PySem.W.Frag} {H:Hp} {p:Addr} {xs:List V}:SqL K (upd H p (.lst xs)) p xs:=.inl (.inl upd_same)
theorem Same.new {H H':Hp} {p:Addr} {o:HO} (s:Same H H') (hp:H' p = none):Same H (upd H' p o):=fun b q e=>by
  have:=s b q e
  rw [upd_ne (ne_of_none this hp)]; exact this
theorem Same.up (H:Hp) {p:Addr} {o:HO} (hp:H p = none):Same H (upd H p o):=(Same.refl H).new hp
theorem atI_int {α:Type} {xs:List α} {i:Int} {v:α} (h0:0 ≤ i) (h:xs[i.toNat]? = some v):atI xs i = some v:=by
  obtain ⟨n,rfl⟩:=Int.eq_ofNat_of_zero_le h0
  exact atI_nat (by simpa using h)
theorem for_r1 {ta:TA} {g:TG} {tb:TS} {D:Ends} {σ:St} {H:Hp} {j:Int} (ha:∀ Q:List V→Hp→Prop,Q [.int j] H→ta σ H Q) (hlo:-(2 ^ 62) ≤ j) (hhi:j < 2 ^ 62)
    (Pv:Nat→St→Hp→Prop) (h0:Pv 0 σ H) (hs:∀ (i:Nat) σ H,(i:Int) < j→Pv i σ H→g (.int i) σ H fun σ2 H2=>tb { D with nx:=Pv (i + 1),ct:=Pv (i + 1),bk:=D.nx } σ2 H2)
    (hd:∀ σ H,Pv j.toNat σ H→D.nx σ H):tFor (iRng1 ta) g tb D σ H:=by
  refine ha _ ⟨j,rfl,hlo,hhi,?_⟩
  refine for_range (lo:=0) (n:=j.toNat) Pv h0 (fun i σ H hi p=>?_) hd
  rw [Int.zero_add]
  exact hs i σ H (by omega) p
theorem comp_r1 {ta:TA} {fs:List Nat} {tt:TT} {te:TE} {σ:St} {H:Hp} {Q:VK} {j:Int} (ha:∀ Q:List V→Hp→Prop,Q [.int j] H→ta σ H Q) (hlo:-(2 ^ 62) ≤ j) (hhi:j < 2 ^ 62) (hn:j.toNat ≤ sizeLine)
    (Pv:Nat→List V→Hp→Prop) (h0:Pv 0 [] H) (hl:∀ i ys H,i ≤ j.toNat→Pv i ys H→ys.length ≤ i)
    (hs:∀ (i:Nat) ys H,(i:Int) < j→Pv i ys H→∀ R:List V→Hp→Prop,(∀ ys' H',Pv (i + 1) ys' H'→R ys' H')→tt (some (.int i) :: compSt fs σ) H fun b H2=>if b = true then te (some (.int i) :: compSt fs σ) H2 fun y H3=>R (ys ++ [y]) H3 else R ys H2)
    (hd:∀ ys H,Pv j.toNat ys H→∀ p,H p = none→Q (.ref p) (upd H p (.lst ys))):tComp (iRng1 ta) fs tt te σ H Q:=by
  refine ha _ ⟨j,rfl,hlo,hhi,?_⟩
  refine comp_range (lo:=0) (n:=j.toNat) Pv h0 hl hn (fun i ys H hi p=>?_) hd
  rw [Int.zero_add]
  exact hs i ys H (by omega) p
theorem lenI_go {K:PySem.W.Frag} {H:Hp} {a:Addr} {ns:List Int} {Q:VK} (hS:SqL K H a (ns.map V.int)) (q:Q (.int ns.length) H):rLenL K [.ref a] H Q:=⟨a,_,rfl,.inl hS,by rw [List.length_map]; exact q⟩
theorem ixI_go {K:PySem.W.Frag} {H:Hp} {a:Addr} {ns:List Int} {i:Int} {Q:VK} (hS:SqL K H a (ns.map V.int)) (h0:0 ≤ i) (h1:i < ns.length) (q:∀ z,z ∈ ns→ns[i.toNat]? = some z→Q (.int z) H):rIxL K (.ref a) (.int i) H Q:=by
  obtain ⟨n,rfl⟩:=Int.eq_ofNat_of_zero_le h0
  have hn:n < ns.length:=by omega
  have e:ns[n]? = some ns[n]:=List.getElem?_eq_getElem hn
  exact ⟨a,_,(n:Int),.int ns[n],rfl,rfl,hS,atI_nat (by rw [List.getElem?_map,e]; rfl),q _ (List.getElem_mem hn) (by simpa using e)⟩
theorem ixT_go {K:PySem.W.Frag} {H:Hp} {a:Addr} {xs:List V} {i:Int} {v:V} {Q:VK} (hS:SqT K H a xs) (h0:0 ≤ i) (h:xs[i.toNat]? = some v) (q:Q v H):rIxT K (.ref a) (.int i) H Q:=
  ⟨a,xs,i,v,rfl,rfl,hS,atI_int h0 h,q⟩
theorem mulB_l {i j:Int} (h1:-18446744073709551616 < i) (h2:i < 18446744073709551616):CMulB i j:=.l (by omega) (by omega)
theorem mulB_r {i j:Int} (h1:-18446744073709551616 < j) (h2:j < 18446744073709551616):CMulB i j:=.r (by omega) (by omega)
theorem cdiv {i j:Int} (h1:0 < j) (h2:j < 1073741824):CDiv i j:=⟨h1,h2⟩
theorem cat_go {H:Hp} {a b:Addr} {xs ys:List V} {Q:VK} (h1:H a = some (.lst xs)) (h2:H b = some (.lst ys)) (hz:xs.length + ys.length ≤ 100000) (q:∀ p,H p = none→Q (.ref p) (upd H p (.lst (xs ++ ys)))):rCat (.ref a) (.ref b) H Q:=
  ⟨a,b,xs,ys,rfl,rfl,h1,h2,Nat.le_trans hz (by decide),q⟩
structure QE (X:Cx) (e:Expr) (t:TE):Prop where p:PE X e t
structure QT (X:Cx) (e:Expr) (t:TT):Prop where p:PT X e t
structure QW (X:Cx) (e:Expr) (t:TT):Prop where p:PW X e t
structure QA (X:Cx) (es:List Expr) (t:TA):Prop where p:PA X es t
structure QS (X:Cx) (st:Stmt) (t:TS):Prop where p:PS X st t
structure QSs (X:Cx) (st:List Stmt) (t:TS):Prop where p:PSs X st t
structure QG (X:Cx) (tg:Expr) (t:TG):Prop where p:PG X tg t
structure QI (X:Cx) (tg iter:Expr) (t:TI):Prop where p:PI X tg iter t
structure QTs (X:Cx) (ifs:List Expr) (t:TT):Prop where p:PTs X ifs t
section
variable {X:Cx} {e o a b iter tg:Expr} {es:List Expr} {te to ta tb:TE} {t u:TA} {x:Str} {p pos pos':Pos}
theorem kv (i:Nat) (hN:X.N[i]? = some x:=by kernel_rfl) (hv:X.env.scope.names.lookup x = some .local:=by kernel_rfl) (hd:(x == ("__debug__":Str)) = false:=by kernel_rfl)
    (hcd:(x == ("__classdict__":Str)) = false:=by kernel_rfl):QE X (.Name x pos) (tVar i):=⟨pe_var hN (.inl hv) hd hcd⟩
theorem kvc (i:Nat) (hN:X.N[i]? = some x:=by kernel_rfl) (hv:X.env.scope.names.lookup x = some .cell:=by kernel_rfl) (hd:(x == ("__debug__":Str)) = false:=by kernel_rfl)
    (hcd:(x == ("__classdict__":Str)) = false:=by kernel_rfl):QE X (.Name x pos) (tVar i):=⟨pe_var hN (.inr (.inl hv)) hd hcd⟩
theorem ke_int {i:Int} {j:Nat}:QE X (.Constant (.int i) j pos) (tC (.int i)):=⟨pe_int⟩
theorem ke_bl {c:Bool} {j:Nat}:QE X (.Constant (.bool c) j pos) (tC (.bl c)):=⟨pe_bl⟩
theorem ke_txt {y:Str} {l:List Nat} {j:Nat} (h:y = txt l:=by kernel_rfl):QE X (.Constant (.str y) j pos) (tC (.str (txt l))):=⟨pe_txt h⟩
theorem ka_nil:QA X [] tNil:=⟨pa_nil⟩
theorem ka_cons (ha:QE X e te) (hr:QA X es t) (hs:starEach (e :: es) X.env = (false,eval e X.env) :: starEach es X.env:=by kernel_rfl):QA X (e :: es) (tCons te t):=⟨pa_cons ha.p hr.p hs⟩
theorem ke_call {CX:CXT} {k:Nat} {f:Addr} {fd:FuncData} {ps:List Str} {sp:Sp} {E:XK} (F:FnOk X.prog X.w X.K X.mg X.base CX k f fd ps sp) (hr:Room k X.A) (hm:X.mg x = some (.ref f)) (hk:PySem.W.keepIn X.K (.ref f) = true) (hb:Binds X.K fd ps []) (hx:Passes CX X E)
    (ha:QA X (e :: es) t) (hg:X.env.kindOf x = some .globalImplicit:=by kernel_rfl) (hdb:(x == ("__debug__":Str)) = false:=by kernel_rfl) (he:starEach (e :: es) X.env = (false,eval e X.env) :: starEach es X.env:=by kernel_rfl) (hpl:(backTo pos (starEach es X.env)).any (·.1) = false:=by kernel_rfl) :
    QE X (.Call (.Name x p) (e :: es) [] pos) (tCall sp [] E t):=⟨pe_call F hr hg hm hk hb .nil hx ha.p hdb he hpl⟩
theorem ke_callB {id:String} {r:List V→Hp→VK→Prop} (hc:CallR X (.builtin id) r) (hm:X.mg x = none) (hv:bootBuiltins x = some (.builtin id)) (ha:QA X (e :: es) t)
    (hg : X.env.kindOf x = some .globalImplicit := by kernel_rfl) (hn : decide (x = "__name__") = false := by kernel_rfl) (hdb : (x == ("__debug__" : Str)) = false := by kernel_rfl)
    (he:starEach (e :: es) X.env = (false,eval e X.env) :: starEach es X.env:=by kernel_rfl) (hpl:(backTo pos (starEach es X.env)).any (·.1) = false:=by kernel_rfl) :
    QE X (.Call (.Name x p) (e :: es) [] pos) (tCB r t):=⟨pe_callB hc hg hm hv ha.p (of_decide_eq_false hn) hdb he hpl⟩
theorem ke_callTy {T:String} {r:List V→Hp→VK→Prop} (hc:CallR X (.type T) r) (hm:X.mg x = none) (hv:bootBuiltins x = some (.type T)) (ha:QA X (e :: es) t)
    (hg : X.env.kindOf x = some .globalImplicit := by kernel_rfl) (hn : decide (x = "__name__") = false := by kernel_rfl) (hdb : (x == ("__debug__" : Str)) = false := by kernel_rfl)
    (he:starEach (e :: es) X.env = (false,eval e X.env) :: starEach es X.env:=by kernel_rfl) (hpl:(backTo pos (starEach es X.env)).any (·.1) = false:=by kernel_rfl) :
    QE X (.Call (.Name x p) (e :: es) [] pos) (tCB r t):=⟨pe_callTy hc hg hm hv ha.p (of_decide_eq_false hn) hdb he hpl⟩
theorem ke_op {op:Operator} {r:R2} (ho:OpR X (binaryOp op) r) (ha:QE X a ta) (hb:QE X b tb):QE X (.BinOp a op b pos) (tOp r ta tb):=⟨pe_op ho ha.p hb.p⟩
theorem ke_un {op:UnaryOp} {r:V→Hp→VK→Prop} (ho:UnR X (unaryOp op) r) (ha:QE X a ta):QE X (.UnaryOp op a pos) (tUn r ta):=⟨pe_un ho ha.p⟩
theorem ke_one {op} {t:TE} (h:QE X a t):QE X (.BoolOp op [a] pos) t:=⟨pe_one h.p⟩
theorem ke_and {rest:List Expr} (ha:QE X a ta) (hb:QE X (.BoolOp .And (b :: rest) pos) tb):QE X (.BoolOp .And (a :: b :: rest) pos) (tAndV ta tb):=⟨pe_and ha.p hb.p⟩
theorem ke_ifExp {c:Expr} {tc:TT} (hc:QT X c tc) (ha:QE X a ta) (hb:QE X b tb):QE X (.IfExp c a b pos) (tIf tc ta tb):=⟨pe_ifExp hc.p ha.p hb.p⟩
theorem ke_lst (h:QA X es t):QE X (.List es pos) (tLst t):=⟨pe_lst h.p⟩
theorem ke_tup {x1} (h:QA X es t):QE X (.Tuple es x1 pos) (tTup t):=⟨pe_tup h.p⟩
theorem ke_ix {r:R2} (hr:IxR X r) (ha:QE X a ta) (hb:QE X b tb) (hs:∀ o i,subscripted b false o i = operate [o,i] (getItem o i):=by intro _ _; kernel_rfl):QE X (.Subscript a b pos) (tOp r ta tb):=⟨pe_ix hr ha.p hb.p hs⟩
variable {name:Str} {apos cpos:Pos} {T id:String} {r:V→List V→Hp→VK→Prop}
theorem kt_val (h:QE X e te) (he:∀ whole,isTrue e X.env whole = (do let v ← whole; standAt e.pos; holding [v] (truthy v)):=by intro _; kernel_rfl):QT X e (tB te):=⟨pt_val h.p he⟩
theorem kt_cmp {op:CmpOp} {r:R2} (ho:OpR X (compareOp op) r) (ha:QE X a ta) (hb:QE X b tb) (hm:behindInMarks op b = false:=by kernel_rfl):QT X (.Compare a [op] [b] pos) (tTest (tOp r ta tb)):=⟨pt_cmpR ho ha.p hb.p hm⟩
theorem ke_cmp {op:CmpOp} {r:R2} (ho:OpR X (compareOp op) r) (ha:QE X a ta) (hb:QE X b tb) (hm:behindInMarks op b = false:=by kernel_rfl):QE X (.Compare a [op] [b] pos) (tOp r ta tb):=⟨pe_cmpR ho ha.p hb.p hm⟩
variable {tA tB':TT} {rest:List Expr}
theorem kt_not (ha:QT X a tA):QT X (.UnaryOp .Not a pos) (tNot tA):=⟨pt_not ha.p⟩
theorem kw_and1 (ha:QT X a tA):QW X (.BoolOp .And [a] pos) tA:=⟨pw_and1 ha.p⟩
theorem kw_or1 (ha:QT X a tA):QW X (.BoolOp .Or [a] pos) tA:=⟨pw_or1 ha.p⟩
theorem kw_and (ha:QT X a tA) (hb:QW X (.BoolOp .And (b :: rest) pos) tB'):QW X (.BoolOp .And (a :: b :: rest) pos) (tAnd tA tB'):=⟨pw_and ha.p hb.p⟩
theorem kw_or (ha:QT X a tA) (hb:QW X (.BoolOp .Or (b :: rest) pos) tB'):QW X (.BoolOp .Or (a :: b :: rest) pos) (tOr tA tB'):=⟨pw_or ha.p hb.p⟩
theorem kt_w (h:QW X e tA):QT X e tA:=⟨h.p.pt⟩
theorem kts_nil:QTs X [] tYes:=⟨pts_nil⟩
theorem ki_range1 {ta : TA} (hm : X.mg "range" = none) (ha : QA X [a] ta) (hg : X.env.kindOf "range" = some .globalImplicit := by kernel_rfl) (hs : starEach [a] X.env = [(false, eval a X.env)] := by kernel_rfl) : QI X tg (.Call (.Name "range" p) [a] [] pos) (iRng1 ta) := ⟨pi_range1 hg hm ha.p hs⟩
theorem ke_comp {elt:Expr} {px:Pos} {ifs:List Expr} {scope:Scope} (fs:List (Str × Nat)) {wi:TI} {tt:TT} {te:TE}
    (hi:QI X (.Name x px) iter wi)
    (hb:∀ (cl:List (Str × Addr)) (C:Addr) (s₀:Shared) (H₀:Hp) (ex:List Addr),QTs (cxComp X scope cl C (x :: fs.map (·.1)) s₀ H₀ ex) ifs tt∧QE (cxComp X scope cl C (x :: fs.map (·.1)) s₀ H₀ ex) elt te)
    (hc:X.calm = true:=by kernel_rfl) (hk:scope.kind = .function:=by kernel_rfl) (hl:compLook scope.names X.env.scope.names X.N x fs = true:=by kernel_rfl)
    (hs:∀ x,foldedSetIterable iter X.env x = pure x:=by intro _; kernel_rfl) :
    QE X (.ListComp elt [⟨.Name x px,iter,ifs,0⟩] scope pos) (tComp wi (fs.map (·.2)) tt te):=⟨pe_compB fs hc hi.p (fun cl C s₀ H₀ ex=>⟨(hb cl C s₀ H₀ ex).1.p,(hb cl C s₀ H₀ ex).2.p⟩) hk hl hs⟩
variable {st:Stmt} {sts:List Stmt} {t1 t2:TS}
theorem kss_nil:QSs X [] tNext:=⟨pss_nil⟩
theorem kss_cons (h1:QS X st t1) (h2:QSs X sts t2):QSs X (st :: sts) (tSeq t1 t2):=⟨pss_cons h1.p h2.p⟩
theorem kss_one (h1:QS X st t1):QSs X [st] t1:=⟨pss_one h1.p⟩
theorem ks_set {i:Nat} (hN:X.N.Nodup) (he:QE X e te) (hi:X.N[i]? = some x:=by kernel_rfl) (hx:X.env.scope.names.lookup x = some .local:=by kernel_rfl) (hs:swapsWith e (some (.Name x pos')) pos.line X.env = pure false:=by kernel_rfl) :
    QS X (.Assign [.Name x pos'] e pos) (tAsg te (gName i)):=⟨ps_set hN hi (.inl hx) he.p hs (.inr hx)⟩
theorem ks_expr (he:QE X e te) (hs:swapsWith e none pos.line X.env = pure false:=by kernel_rfl):QS X (.Expr e pos) (tDrop te):=⟨ps_expr he.p hs⟩
theorem ks_ret (he:QE X e te):QS X (.Return (some e) pos) (tRet te):=⟨ps_ret he.p⟩
theorem ks_if {c:Expr} {l1 l2:List Stmt} {tc:TT} (hc:QT X c tc) (ha:QSs X l1 t1) (hb:QSs X l2 t2):QS X (.If c l1 l2 pos) (tIfS tc t1 t2):=⟨ps_if hc.p ha.p hb.p⟩
theorem kg_name {i:Nat} (hN:X.N.Nodup) (hi:X.N[i]? = some x:=by kernel_rfl) (hx:X.env.scope.names.lookup x = some .local:=by kernel_rfl):QG X (.Name x pos) (gName i):=⟨pg_name hN hi (.inl hx) (.inr hx)⟩
theorem ks_for {body:List Stmt} {wi:TI} {g:TG} {tb:TS} (hi:QI X tg iter wi) (hg:QG X tg g) (hb:QSs X body tb) (hp:PassesOwn (model X.prog X.w) X.A X.env X.xe:=by exact PassesOwn.never) (hc:X.calm = true:=by kernel_rfl) (hs:∀ x,foldedSetIterable iter X.env x = pure x:=by intro _; kernel_rfl):QS X (.For tg iter body [] pos) (tFor wi g tb):=⟨ps_for hp hc hi.p hg.p hb.p hs⟩
end
theorem Fun.okQ {P:Program} {w:World} {K:PySem.W.Frag} {mg:Str→Option Value} {base:Heap} {x qual:Str} {st:Stmt} {f:Addr} {fd:FuncData} {N ps:List Str} {k:Nat} {sp:Sp} (F:Fun K x qual st f fd) (S:FnScope N ps (defScope st)) {rd:TS} (len:∀ vs H Q E,sp vs H Q E→vs.length = ps.length)
    (hb:∀ (cdv:Value) (A:Around) (outer:List Env) (s:Shared) (H:Hp) (E:XK),Room k (A.deeper (envOfC qual (defScope st) s.heap.objs.size f cdv))→QSs (cxOf CX0 P w K mg base N qual (defScope st) f cdv A outer s H E).nox (defBody st) rd)
    (hq:∀ (vs:List V) (H:Hp) (Q:VK) (E:XK),sp vs H Q E→rd { nx:=fun _ H'=>Q .non H',rt:=Q } (start N vs) H):FnOk P w K mg base CX0 (k + 1) f fd ps sp:=
  F.ok S len fun cdv A outer s H vs Q E hr h=>⟨rd,(hb cdv A outer s H E hr).p,hq vs H Q E h⟩
section
variable {X:Cx}
def isTy (t T:String):Option Bool:=if (Value.type t == Value.type T) = true then some true else if PySem.W.kitMeta T = true then (fastBuiltinMro t).map (·.contains (.type T)) else none
def rIsi (K:PySem.W.Frag) (T:String):V→Hp→VK→Prop:=fun x H Q=>∃ t b,TyOf K H x (.type t)∧isTy t T = some b∧Q (.bl b) H
def tIsi (K:PySem.W.Frag) (T:String) (ta:TE):TE:=fun σ H Q=>ta σ H fun x H1=>rIsi K T x H1 Q
end
structure UnB (fs:List Addr) (H H':Hp) (h B h':Heap):Prop where
  keep:∀ b o,h.get? b = some o→H b = none→b ∉ fs→B.get? b = some o
  slot:∀ b o,h.get? b = some o→H b = none→b ∈ fs→∃ sl,h'.get? b = some { o with slots:=sl }
  free:∀ b o,h.get? b = some o→H b = none→H' b = none
  there:∀ b o,h.get? b = some o→b ∉ fs→∃ o',B.get? b = some o'
  tups:∀ b xs,H b = some (.tup xs)→H' b = some (.tup xs)
  frzs:∀ b o u,H b = some (.frz o u)→H' b = some (.frz o u)
  tbls:∀ b ps,H b = some (.tbl ps)→∃ more,H' b = some (.tbl (ps ++ more))
def DictIs (h:Heap) (e:Addr) (dd:Option Addr):Prop:=∃ o,h.get? e = some o∧o.dict = dd
theorem DictIs.kept {h h':Heap} {e:Addr} {dd:Option Addr} (x:DictIs h e dd) (k:DictK.Kept h h'):DictIs h' e dd:=let ⟨o,a,b⟩:=x; let ⟨o',c,d⟩:=k e o a; ⟨o',c,d.trans b⟩
def CX1 (P:Program) (w:World):CXT:=fun outer H s E e s'=>∃ (ea:Addr) (cls:Value) (t:Addr) (H':Hp) (B:Heap) (dd:Option Addr),e = .ref ea∧s'.os = s.os∧AllBare s'.gens∧
  Heap.FlyingW B outer ea cls (.ref t) s'.heap∧HOk P w H' B∧UnB (frs outer) H H' s.heap B s'.heap∧DictIs s'.heap ea dd∧E cls dd H'
theorem frs_none {base h:Heap} {l:List Env} (f:h.FunFrames base l) {b:Addr} (hb:b ∈ frs l):base.get? b = none∧∃ o,h.get? b = some o∧∀ vs,o.data ≠ .fields vs:=f.mem hb
section
variable {P:Program} {w:World} {K:PySem.W.Frag} {mg:Str→Option Value} {base:Heap} {N:List Str} {qual:Str} {scope:Scope} {f:Addr} {cd:Value} {A:Around} {outer:List Env} {s:Shared} {H:Hp} {E:XK}
theorem made_def {pins:List (Addr × Obj)} {σ:St} {H2:Hp} {s2:Shared} {h':Heap} {e:Addr} {cls:Value} {vs:List Value} (I:Inv (cxOf (CX1 P w) P w K mg base N qual scope f cd A outer s H E) pins σ H2 s2)
    (hx:Heap.MadeExcOf s2.heap h' e cls vs) (q:E cls none H2):(cxOf (CX1 P w) P w K mg base N qual scope f cd A outer s H E).xe (.ref e) { s2 with heap:=h' }:=by
  generalize eF:frs (cxOf (CX1 P w) P w K mg base N qual scope f cd A outer s H E).stack = F
  have hin:∀ env ∈ (cxOf (CX1 P w) P w K mg base N qual scope f cd A outer s H E).stack,∀ b,env.frame = some b→b ∈ F:=fun env he b hb=>by rw [← eF]; exact List.mem_filterMap.mpr ⟨env,he,hb⟩
  have neL:∀ b o,s.heap.get? b = some o→b ≠ s.heap.objs.size:=fun b o e=>Nat.ne_of_lt (Heap.lt_size e)
  have nF:∀ b o,s.heap.get? b = some o→b ∉ frs outer→b ∉ F:=fun b o e hb z=>by
    rw [← eF] at z
    rcases List.mem_cons.mp (I.stkSub b z) with y | y
    · exact neL b o e y
    · exact hb y
  have gB:∀ b o,s2.heap.get? b = some o→b ∉ F→(PySem.W.hideAll s2.heap F).get? b = some o:=fun b o e hb=>PySem.W.hideAll_get _ e hb
  show wpAny _ _ (leaving _ (.ref e)) _ _ _
  refine wpAny_mono (DictK.kd_any (DictK.kd_leaving _ _) (wpAny_leaves_madeW (Q:=fun _ s3=>∃ h2 t,s3 = { s2 with heap:=h2 }∧Heap.FlyingW (PySem.W.hideAll s2.heap F) outer e cls (.ref t) h2∧h'.UpToSlots h2) (base:=PySem.W.hideAll s2.heap F) (h:=s2.heap) I.ok.frames rfl (fun b o q=>PySem.W.of_hideAll _ q) (PySem.W.funFrames_hide I.stack hin) hx fun h2 t hfl htup hn hsm=>⟨h2,t,rfl,hfl,hsm⟩)) (fun _ s3 q3=>?_) fun _ _ z=>z
  obtain ⟨⟨h2,t,e3,hfl,hsm⟩,kp⟩:=q3
  subst e3
  obtain ⟨t9,at9,_,_⟩:=hx.there
  refine ⟨e,cls,t,H2,PySem.W.hideAll s2.heap F,none,rfl,I.os,I.bare,hfl,fun a o ea=>(I.hok a o ea).stay (fun b u hb eu=>gB b u eu fun z=>?_) (fun c q=>q) (fun c xs q=>q),⟨fun b o eb n hb=>?_,fun b o eb n hb=>?_,fun b o eb n=>?_,fun b o eb hb=>?_,I.base.tups,I.base.frzs,I.base.tbls⟩,DictIs.kept ⟨_,at9,rfl⟩ kp,q⟩
  · have hf:=I.stkFree b (by rw [eF]; exact z)
    rcases hb with rfl | hb
    · rw [hf] at ea; cases ea
    · rw [hf] at hb; cases hb
  · exact gB b o (I.base.keep b o eb n hb (List.not_mem_nil)) (nF b o eb hb)
  · obtain ⟨sl,e1⟩:=I.base.slot b o eb n hb (List.not_mem_nil)
    obtain ⟨_,o2,e2,d2⟩:=frs_none I.stack (List.mem_cons_of_mem _ hb:b ∈ s.heap.objs.size :: frs outer)
    rw [e1] at e2
    cases e2
    obtain ⟨sl',e3⟩:=hsm b _ (hx.keeps _ _ e1) d2
    exact ⟨sl',e3⟩
  · exact I.base.free b o eb n (List.not_mem_nil)
  · obtain ⟨o',e1⟩:=I.base.there b o eb (List.not_mem_nil)
    exact ⟨o',gB b o' e1 (nF b o eb hb)⟩
end
theorem exc_obj {K:PySem.W.Frag} {h:Heap} {C:Addr} {bmB:List Value} {newId:String} (X:K.In h) (q:PySem.W.excIn K C bmB newId = true) :
    ∃ bm N nm qn bs hdct sn sub ab col dd k0 k1 k2 k3 k5 mN,h.get? C = some (excClassObj nm qn C N bs bm hdct sn sub ab col dd k0 k1 k2 k3 k5 newId)∧h.Ns N mN∧mN "__init__" = none∧OwnTail h bmB bm:=by
  unfold PySem.W.excIn at q
  split at q
  next dd cd sl look=>
    split at q
    next C1 tl a0 a1 a2 a3 nid a5 e1 e2=>
      simp only [Bool.and_eq_true,beq_iff_eq,Bool.not_eq_true'] at q
      obtain ⟨⟨⟨⟨⟨q1,q2⟩,q3⟩,q4⟩,q5⟩,q6⟩:=q
      subst q1 q2
      cases cd
      dsimp only at e1 q3 q5 q6
      subst e1 q3
      have e3:sl = #[a0,a1,a2,a3,some (.builtin nid),a5]:=by
        cases sl
        dsimp only at e2
        rw [e2]
      subst e3
      exact ⟨tl,_,_,_,_,_,_,_,_,_,_,_,_,_,_,_,_,X _ _ look,.of_isNs (PySem.W.isNs_of_in X q5),PySem.W.nsMap_none_of_in X q5 q6,PySem.W.tail_of_in X q4⟩
    next=>cases q
  next=>cases q
def tRaise (cls:Value) (E:XK) (ta:TA):TS:=fun _ σ H=>ta σ H fun vs H1=>vs.length ≤ 8∧E cls none H1
section
variable {X:Cx}
theorem ps_raise {x:Str} {e:Expr} {es:List Expr} {ta:TA} {C:Addr} {B newId initId:String} {bmB:List Value} {E:XK} {np cpos pos:Pos} (FB:ExcBaseFacts B newId initId bmB) (hC:PySem.W.excIn X.K C bmB newId = true)
    (hg:Gl X x) (hm:X.mg x = some (.ref C)) (hc:X.calm = true) (ha:PA X (e :: es) ta)
    (hx:∀ (pins:List (Addr × Obj)) (σ:St) (H2:Hp) (s2:Shared) (h':Heap) (ea:Addr) (vs:List Value),Inv X pins σ H2 s2→Heap.MadeExcOf s2.heap h' ea (.ref C) vs→E (.ref C) none H2→X.xe (.ref ea) { s2 with heap:=h' })
    (hdb:(x == ("__debug__":Str)) = false) (he:starEach (e :: es) X.env = (false,eval e X.env) :: starEach es X.env) (hpl:(backTo cpos (starEach es X.env)).any (·.1) = false) :
    PS X (.Raise (some (.Call (.Name x np) (e :: es) [] cpos)) none pos) (tRaise (.ref C) E ta):=by
  intro pins s σ H D I h
  obtain ⟨bm,N,nm,qn,bs,hdct,sn,sub,ab,col,dd,k0,k1,k2,k3,k5,mN,hO,hN,hni,TL⟩:=exc_obj I.mod.kin hC
  refine wpAny_Raise_call_subT (C:=C) (nm:=nm) (q:=qn) (N:=N) (bs:=bs) (bm:=bm) (hdct:=hdct) (sn:=sn) (sub:=sub) (ab:=ab) (col:=col) (dd:=dd) (k0:=k0) (k1:=k1) (k2:=k2) (k3:=k3) (k5:=k5)
    FB (mN:=mN) (TL.hasType FB.hasBase) (I.ok.hd hc) (by rw [he]; show (false || (backTo cpos (starEach es X.env)).any (·.1)) = false; rw [hpl]; rfl) hni (ld_glob I hg hm ⟨rfl,?_⟩ hdb)
  have hA:=ha cpos pins s σ H _ I h
  rw [he] at hA ⊢
  refine Calls.evalArgs_plain (thn hA fun us s2 ⟨vs,H2,I2,r2,hz,q2⟩=>⟨rfl,?_,I2.bk _ _ hO,hN.keeps I2.bk,TL.keeps I2.bk,fun h' ea hmade=>hx pins σ H2 s2 h' ea us I2 hmade q2⟩)
  show us.length ≤ sizeLine
  rw [← r2.length]
  exact Nat.le_trans hz (by decide)
end
theorem exc_mro {K:PySem.W.Frag} {h:Heap} {C:Addr} {bmB:List Value} {newId:String} (X:K.In h) (q:PySem.W.excIn K C bmB newId = true) :
    ∃ bm N nm qn bs hdct sn sub ab col dd k0 k1 k2 k3 k5,h.get? C = some (excClassObj nm qn C N bs bm hdct sn sub ab col dd k0 k1 k2 k3 k5 newId)∧OwnTail h bmB bm∧∀ v r,PySem.W.mroIn K C v = some r→(Value.ref C :: bm).contains v = r:=by
  obtain ⟨bm,N,nm,qn,bs,hdct,sn,sub,ab,col,dd,k0,k1,k2,k3,k5,mN,hO,hN,hni,TL⟩:=exc_obj X q
  refine ⟨bm,N,nm,qn,bs,hdct,sn,sub,ab,col,dd,k0,k1,k2,k3,k5,hO,TL,fun v r e=>?_⟩
  unfold PySem.W.mroIn PySem.W.clsIn at e
  split at e
  next c d cd sl look=>
    have e2:=X _ _ look
    rw [hO] at e2
    cases e2
    simpa using e
  next=>cases e
theorem matches_own {M:Model} {A:Around} {E:Value→Shared→Prop} {h:Heap} {g:Array GenState} {d:Drawn} {t:Nat} {os:OsState} {e C D:Addr} {oe:Obj} {Q:Bool→Shared→Prop}
    {nm q nm' q':Str} {N N':Addr} {bs bm bs' bm':List Value} {hdct hdct':Bool} {sn sn':List Str} {sub sub':List Value} {ab ab':Bool} {col col':Option Bool} {dd dd':Option Addr} {k0 k1 k2 k3 k5 l0 l1 l2 l3 l5:Option Value} {newId newId':String}
    (hC:h.get? C = some (excClassObj nm q C N bs bm hdct sn sub ab col dd k0 k1 k2 k3 k5 newId)) (hD:h.get? D = some (excClassObj nm' q' D N' bs' bm' hdct' sn' sub' ab' col' dd' l0 l1 l2 l3 l5 newId')) (he:h.get? e = some oe) (hcls:oe.cls = .ref C)
    (hbase:bm'.contains (.type "BaseException") = true) (hs:(Value.ref C :: bm).contains (.ref D) = true) (hq:Q true ⟨h,g,d,t,os⟩):wpAny M A (excMatches (.ref e) (.ref D)) Q E ⟨h,g,d,t,os⟩:=by
  have hcB:(Value.ref D :: bm').contains (.type "BaseException") = true:=by rw [List.contains_cons,hbase,Bool.or_true]
  have nt:=tc_notTuple
  unfold excMatches
  repeat (first | (with_reducible refine wpAny_loadPart_at he ?_; rw [hcls]) | with_reducible refine wpAny_loadPart_at hD ?_ | (with_reducible refine wpAny_isSubtype_exc hD ?_; rw [hcB]) | (with_reducible refine wpAny_isSubtype_exc hC ?_; rw [hs]) | wp_step)
  exact hq
structure ExcSub (K:PySem.W.Frag) (C D:Addr):Prop where
  c:∃ bmB newId,PySem.W.excIn K C bmB newId = true
  d:∃ bmB newId,PySem.W.excIn K D bmB newId = true∧bmB.contains (.type "BaseException") = true
  s:PySem.W.mroIn K C (.ref D) = some true
def PassesX (X:Cx) (Φ:St→XK→Prop):Prop:=∀ (pins:List (Addr × Obj)) (σ:St) (H:Hp) (s:Shared) (E:XK) (e:Value) (s':Shared),Inv X pins σ H s→Φ σ E→CX1 X.prog X.w X.stack H s E e s'→X.xe e s'
def tCallX (sp:Sp) (Φ:St→XK→Prop) (t:TA):TE:=fun σ H Q=>t σ H fun vs H1=>∃ E,Φ σ E∧sp vs H1 Q E
section
variable {X:Cx} {e:Expr} {es:List Expr} {t:TA} {x:Str} {p pos:Pos}
theorem pe_callX {Φ:St→XK→Prop} {k:Nat} {f:Addr} {fd:FuncData} {ps:List Str} {sp:Sp} (F:FnOk X.prog X.w X.K X.mg X.base (CX1 X.prog X.w) k f fd ps sp) (hr:Room k X.A) (hg:Gl X x) (hm:X.mg x = some (.ref f)) (hk:PySem.W.keepIn X.K (.ref f) = true) (hb:Binds X.K fd ps []) (hx:PassesX X Φ)
    (ha:PA X (e :: es) t) (hdb:(x == ("__debug__":Str)) = false) (he:starEach (e :: es) X.env = (false,eval e X.env) :: starEach es X.env) (hpl:(backTo pos (starEach es X.env)).any (·.1) = false) :
    PE X (.Call (.Name x p) (e :: es) [] pos) (tCallX sp Φ t):=by
  intro pins s σ H Q I h
  refine wpAny_Call_Name_kw (ld_glob I hg hm ?_ hdb)
  refine PySem.W.callWith_K (h₀:=X.base) I.ok.mod.kin hk (thn (ha pos pins s σ H _ I h) fun us s1 ⟨vs,H1,I1,r,q⟩=>⟨I1.kIn,?_⟩) he hpl
  obtain ⟨E,hΦ,q⟩:=q
  have hl:us.length = ps.length:=by rw [← r.length]; exact F.len _ _ _ _ q
  have hb2:=hb s1 us I1.kIn (by rw [List.append_nil]; exact hl)
  rw [List.append_nil] at hb2
  refine wpAny_call (codeAny_mono (F.run X.A X.stack s1 H1 ⟨us,[]⟩ us vs Q E hr I1.env0 hb2 r q) fun r s' hq=>?_)
  cases r with
  | error e=>exact hx pins σ H1 s1 E e s' I1 hΦ hq
  | ok fl=>
    cases fl with
    | ret u=>exact I1.after hq
    | next=>exact False.elim hq
    | brk=>exact False.elim hq
    | cont=>exact False.elim hq
end
theorem HOk.untracked {P:Program} {w:World} {H:Hp} {B:Heap} {a:Addr} (hok:HOk P w H B) (hno:B.get? a = none):H a = none:=by
  cases e2:H a with
  | none=>rfl
  | some o=>
    have hlt:=hok a o e2
    exfalso
    cases o with
    | lst xs=>obtain ⟨_,_,_,_,z⟩:=hlt; rw [hno] at z; cases z
    | tup xs=>obtain ⟨_,_,_,z⟩:=hlt; obtain ⟨_,z,_⟩:=z; rw [hno] at z; cases z
    | dK kvs=>obtain ⟨_,_,_,_,_,_,_,z,_⟩:=hlt; rw [hno] at z; cases z
    | dT kvs=>obtain ⟨_,_,_,_,_,_,_,z,_⟩:=hlt; rw [hno] at z; cases z
    | set S n=>obtain ⟨_,_,_,_,z,_⟩:=hlt; rw [hno] at z; cases z
    | ins C dx fs=>obtain ⟨_,_,_,z,_⟩:=hlt; rw [hno] at z; cases z
    | own y=>obtain ⟨_,z⟩:=hlt; rw [hno] at z; cases z
    | xd fs=>obtain ⟨_,⟨_,_,_,z,_⟩,_⟩:=hlt; rw [hno] at z; cases z
    | rng lo hi=>obtain ⟨_,_,_,z⟩:=hlt; rw [hno] at z; cases z
    | frz ob u=>obtain ⟨z,_⟩:=hlt; rw [hno] at z; cases z
    | tbl ps=>have z:B.get? a = some _:=hlt; rw [hno] at z; cases z
    | met f y=>have z:B.get? a = some _:=hlt; rw [hno] at z; cases z
    | ext φ=>obtain ⟨_,⟨_,z⟩,_⟩:=hlt; rw [hno] at z; cases z
abbrev Cx.hand (X:Cx) (ea:Addr):Cx:={ X with A:=X.A.mark (some (.ref ea)),calm:=false,xe:=fun _ _=>False }
abbrev Cx.tried (X:Cx) (xe:Value→Shared→Prop) (pn:List (Addr × Obj)):Cx:={ X with xe:=xe,pn:=pn }
section
variable {X:Cx} {pins:List (Addr × Obj)} {σ:St} {H:Hp} {s:Shared}
theorem Inv.hand (I:Inv X pins σ H s) (ea:Addr):Inv (X.hand ea) pins σ H s:=
  ⟨⟨I.ok.mod,I.ok.kind,I.ok.glob,I.ok.blt,I.ok.above,I.ok.inj,I.ok.has,I.ok.cab,fun h=>(nomatch (show false = true from h)),I.ok.frames,I.ok.stk,I.ok.exf,I.ok.bs,I.ok.bsz,I.ok.noex,I.ok.exfs,I.ok.funs,I.ok.frf⟩,I.os,I.bare,I.base,I.loc,I.cell,I.free,I.freeC,I.pin,I.hok,I.len⟩
theorem Inv.unhand {ea:Addr} (ok:X.Ok) (I:Inv (X.hand ea) pins σ H s):Inv X pins σ H s:=⟨ok,I.os,I.bare,I.base,I.loc,I.cell,I.free,I.freeC,I.pin,I.hok,I.len⟩
theorem Inv.tried (I:Inv X pins σ H s) (xe:Value→Shared→Prop):Inv (X.tried xe (X.pn ++ pins)) [] σ H s:=
  ⟨⟨I.ok.mod,I.ok.kind,I.ok.glob,I.ok.blt,I.ok.above,I.ok.inj,I.ok.has,I.ok.cab,I.ok.hd,I.ok.frames,I.ok.stk,I.ok.exf,I.ok.bs,I.ok.bsz,I.ok.noex,I.ok.exfs,I.ok.funs,I.ok.frf⟩,I.os,I.bare,I.base,I.loc,I.cell,I.free,I.freeC,fun p hp=>I.pin p (by simpa using hp),I.hok,I.len⟩
theorem Inv.untried {xe:Value→Shared→Prop} {pins':List (Addr × Obj)} (ok:X.Ok) (I:Inv (X.tried xe (X.pn ++ pins)) pins' σ H s):Inv X pins σ H s:=
  ⟨ok,I.os,I.bare,I.base,I.loc,I.cell,I.free,I.freeC,fun p hp=>I.pin p (List.mem_append_left _ hp),I.hok,I.len⟩
theorem landed_inv {e:Addr} {cls a0:Value} {H':Hp} {B h6:Heap} {s':Shared} (I:Inv X pins σ H s) (hos:s'.os = s.os) (hg:AllBare s'.gens) (hok:HOk X.prog X.w H' B) (ub:UnB (frs X.stack) H H' s.heap B s'.heap)
    (hfl0:Heap.FlyingW B X.stack e cls a0 s'.heap) (hfl:Heap.FlyingW B X.stack e cls a0 h6) (hsm:s'.heap.UpToSlots h6):Inv X pins σ H' { s' with heap:=h6 }:=by
  refine I.call' (s':={ s' with heap:=h6 }) (ch:=[]) hos ⟨fun b o eb n hb _=>hfl.1 _ _ (ub.keep b o eb n hb),fun b o eb n hb _=>?_,fun b o eb n _=>ub.free b o eb n,fun b o eb _=>?_,ub.tups,ub.frzs,ub.tbls⟩ (hok.kept fun b u e=>hfl.1 b u e) hg (fun b hb=>absurd hb List.not_mem_nil)
  · obtain ⟨sl,e1⟩:=ub.slot b o eb n hb
    obtain ⟨_,o2,e3,d3⟩:=frs_none hfl0.2.2.1 hb
    rw [e1] at e3
    cases e3
    obtain ⟨sl2,e4⟩:=hsm b _ e1 d3
    exact ⟨sl2,e4⟩
  · by_cases hb:b ∈ frs X.stack
    · obtain ⟨_,o2,e3,_⟩:=frs_none hfl.2.2.1 hb
      exact ⟨o2,e3⟩
    · obtain ⟨o',e1⟩:=ub.there b o eb hb
      exact ⟨o',hfl.1 _ _ e1⟩
end
mutual
inductive Dat (K:PySem.W.Frag) (H:Hp):V→PyData→Prop where
  | non:Dat K H .non .none
  | bl (b:Bool):Dat K H (.bl b) (.bool b)
  | int (i:Int):Dat K H (.int i) (.int i)
  | str (x:Str):Dat K H (.str x) (.str x)
  | lst {a:Addr} {xs:List V} {ds:List PyData} (h:SqL K H a xs) (t:DatAll K H xs ds):Dat K H (.ref a) (.list ds)
  | tup {a:Addr} {xs:List V} {ds:List PyData} (h:SqT K H a xs) (t:DatAll K H xs ds):Dat K H (.ref a) (.tuple ds)
inductive DatAll (K:PySem.W.Frag) (H:Hp):List V→List PyData→Prop where
  | nil:DatAll K H [] []
  | cons {x:V} {xs:List V} {d:PyData} {ds:List PyData} (h:Dat K H x d) (t:DatAll K H xs ds):DatAll K H (x :: xs) (d :: ds)
end
section
variable {X:Cx} {pins:List (Addr × Obj)} {σ:St} {H:Hp} {s:Shared}
mutual
theorem Inv.dat (I:Inv X pins σ H s):∀ {x:V} {d:PyData} {u:Value},Dat X.K H x d→RelV x u→∃ as,Reads s.heap u d as
  | _,_,_,.non,r=>by cases (show _ = Value.none from r); exact ⟨_,.none⟩
  | _,_,_,.bl b,r=>by cases (show _ = Value.bool b from r); exact ⟨_,.bool b⟩
  | _,_,_,.int i,r=>by obtain ⟨t,rfl⟩:=(show ∃ t,_ = Value.int i t from r); exact ⟨_,.int i t⟩
  | _,_,_,.str x,r=>by obtain ⟨t,rfl⟩:=(show ∃ t,_ = Value.str x t from r); exact ⟨_,.str x t⟩
  | _,_,_,.lst (a:=a) h t,r=>by
    cases (show _ = Value.ref a from r)
    obtain ⟨its,rv,⟨o,n,e,c,_,d⟩,_⟩:=I.list h
    obtain ⟨as,z⟩:=Inv.datAll I t rv
    exact ⟨_,.list e c d (by simpa using z)⟩
  | _,_,_,.tup (a:=a) h t,r=>by
    cases (show _ = Value.ref a from r)
    obtain ⟨its,rv,⟨o,e,c,n,d⟩,_⟩:=I.tuple h
    obtain ⟨as,z⟩:=Inv.datAll I t rv
    exact ⟨_,.tuple e c d (by simpa using z)⟩
theorem Inv.datAll (I:Inv X pins σ H s):∀ {xs:List V} {ds:List PyData} {us:List Value},DatAll X.K H xs ds→Vals xs us→∃ as,ReadsAll s.heap us ds as
  | _,_,_,.nil,.nil=>⟨_,.nil⟩
  | _,_,_,.cons h t,.cons r rr=>by
    obtain ⟨as,z⟩:=Inv.dat I h r
    obtain ⟨bs,z'⟩:=Inv.datAll I t rr
    exact ⟨_,.cons z z'⟩
end
end
abbrev rEqD (K:PySem.W.Frag):R2:=fun x y H Q=>∃ da db,Dat K H x da∧Dat K H y db∧SeqAt.shaped da = true∧SeqAt.shaped db = true∧Q (.bl (PyData.eqv da db)) H
section
variable {X:Cx}
theorem op_eqD (hu:X.A.units + 64 < cLine):OpR X (compareOp .Eq) (rEqD X.K):=by
  intro pins s σ H x y v u Q I rx ry h
  obtain ⟨da,db,h1,h2,s1,s2,q⟩:=h
  obtain ⟨as,z1⟩:=I.dat h1 rx
  obtain ⟨bs,z2⟩:=I.dat h2 ry
  exact eq_dataH z1 z2 s1 s2 hu ⟨.bl _,H,I,rfl,q⟩
end
theorem PS.nox {X:Cx} {st:Stmt} {t:TS} (h:PS X.nox st t):PS X st t:=fun pins s σ H D I hw=>
  wpAny_mono (h pins s σ H D (I.wish _) hw) (fun _ _ q=>q.unwish) fun _ _ z=>z.elim
section
variable {X:Cx} {e:Expr} {es:List Expr} {t:TA} {x:Str} {p pos np cpos hpos:Pos}
theorem ks_nox {st:Stmt} {t:TS} (h:QS X.nox st t):QS X st t:=⟨PS.nox h.p⟩
theorem ke_callX {Φ:St→XK→Prop} {k:Nat} {f:Addr} {fd:FuncData} {ps:List Str} {sp:Sp} (F:FnOk X.prog X.w X.K X.mg X.base (CX1 X.prog X.w) k f fd ps sp) (hr:Room k X.A) (hm:X.mg x = some (.ref f)) (hk:PySem.W.keepIn X.K (.ref f) = true) (hb:Binds X.K fd ps []) (hx:PassesX X Φ)
    (ha:QA X (e :: es) t) (hg:X.env.kindOf x = some .globalImplicit:=by kernel_rfl) (hdb:(x == ("__debug__":Str)) = false:=by kernel_rfl) (he:starEach (e :: es) X.env = (false,eval e X.env) :: starEach es X.env:=by kernel_rfl) (hpl:(backTo pos (starEach es X.env)).any (·.1) = false:=by kernel_rfl) :
    QE X (.Call (.Name x p) (e :: es) [] pos) (tCallX sp Φ t):=⟨pe_callX F hr hg hm hk hb hx ha.p hdb he hpl⟩
theorem ks_raise {C:Addr} {B newId initId:String} {bmB:List Value} {E:XK} (FB:ExcBaseFacts B newId initId bmB) (hC:PySem.W.excIn X.K C bmB newId = true) (hm:X.mg x = some (.ref C)) (ha:QA X (e :: es) t)
    (hx:∀ (pins:List (Addr × Obj)) (σ:St) (H2:Hp) (s2:Shared) (h':Heap) (ea:Addr) (vs:List Value),Inv X pins σ H2 s2→Heap.MadeExcOf s2.heap h' ea (.ref C) vs→E (.ref C) none H2→X.xe (.ref ea) { s2 with heap:=h' })
    (hg:X.env.kindOf x = some .globalImplicit:=by kernel_rfl) (hc:X.calm = true:=by kernel_rfl)
    (hdb:(x == ("__debug__":Str)) = false:=by kernel_rfl) (he:starEach (e :: es) X.env = (false,eval e X.env) :: starEach es X.env:=by kernel_rfl) (hpl:(backTo cpos (starEach es X.env)).any (·.1) = false:=by kernel_rfl) :
    QS X (.Raise (some (.Call (.Name x np) (e :: es) [] cpos)) none pos) (tRaise (.ref C) E t):=⟨ps_raise FB hC hg hm hc ha.p hx hdb he hpl⟩
end
theorem Fun.okX {P:Program} {w:World} {K:PySem.W.Frag} {mg:Str→Option Value} {base:Heap} {x qual:Str} {st:Stmt} {f:Addr} {fd:FuncData} {N ps:List Str} {k:Nat} {sp:Sp} (F:Fun K x qual st f fd) (S:FnScope N ps (defScope st)) {rd:XK→TS} (len:∀ vs H Q E,sp vs H Q E→vs.length = ps.length)
    (hb:∀ (cdv:Value) (A:Around) (outer:List Env) (s:Shared) (H:Hp) (E:XK),Room k (A.deeper (envOfC qual (defScope st) s.heap.objs.size f cdv))→QSs (cxOf (CX1 P w) P w K mg base N qual (defScope st) f cdv A outer s H E) (defBody st) (rd E))
    (hq:∀ (vs:List V) (H:Hp) (Q:VK) (E:XK),sp vs H Q E→rd E { nx:=fun _ H'=>Q .non H',rt:=Q } (start N vs) H):FnOk P w K mg base (CX1 P w) (k + 1) f fd ps sp:=by
  obtain ⟨oc,od,kV,doc,pm,an,cdv,ct,osl,rfl,lk,hcd⟩:=F.ex
  exact fn_of lk hcd S len fun A outer s H vs Q E hr hsp=>⟨rd E,(hb cdv A outer s H E hr).p,hq vs H Q E hsp⟩
end L2
namespace L2
open PySem PySem.Spec PyProof.Rows PySem.Builtin.Str
def excO (ea C:Addr):HO:=.ext fun h=>∃ o,h.get? ea = some o∧o.cls = .ref C
section
variable {X:Cx} {pins:List (Addr × Obj)} {σ:St} {H:Hp} {s:Shared}
theorem landed_invE {e C:Addr} {a0:Value} {H':Hp} {B h6:Heap} {s':Shared} (I:Inv X pins σ H s) (hos:s'.os = s.os) (hg:AllBare s'.gens) (hok:HOk X.prog X.w H' B) (ub:UnB (frs X.stack) H H' s.heap B s'.heap)
    (hfl0:Heap.FlyingW B X.stack e (.ref C) a0 s'.heap) (hfl:Heap.FlyingW B X.stack e (.ref C) a0 h6) (hsm:s'.heap.UpToSlots h6):Inv X pins σ (upd H' e (excO e C)) { s' with heap:=h6 }:=by
  have hn:=hok.untracked hfl.2.1
  have ne:∀ b o,s.heap.get? b = some o→b ≠ e:=fun b o eb z=>by
    subst z
    by_cases hb:b ∈ frs X.stack
    · obtain ⟨_,o2,e3,d3⟩:=frs_none hfl.2.2.1 hb
      obtain ⟨oe,vs,e4,_,d4,_⟩:=hfl.first
      rw [e3] at e4
      cases e4
      exact d3 _ d4
    · obtain ⟨o',e1⟩:=ub.there b o eb hb
      rw [hfl.2.1] at e1; cases e1
  refine I.call' (s':={ s' with heap:=h6 }) (ch:=[]) hos ⟨fun b o eb n hb _=>hfl.1 _ _ (ub.keep b o eb n hb),fun b o eb n hb _=>?_,fun b o eb n _=>by rw [upd_ne (ne b o eb)]; exact ub.free b o eb n,fun b o eb _=>?_,fun b xs q=>?_,fun b o u q=>?_,fun b ps q=>?_⟩ (fun b o eb=>?_) hg (fun b hb=>absurd hb List.not_mem_nil)
  · obtain ⟨sl,e1⟩:=ub.slot b o eb n hb
    obtain ⟨_,o2,e3,d3⟩:=frs_none hfl0.2.2.1 hb
    rw [e1] at e3
    cases e3
    obtain ⟨sl2,e4⟩:=hsm b _ e1 d3
    exact ⟨sl2,e4⟩
  · by_cases hb:b ∈ frs X.stack
    · obtain ⟨_,o2,e3,_⟩:=frs_none hfl.2.2.1 hb
      exact ⟨o2,e3⟩
    · obtain ⟨o',e1⟩:=ub.there b o eb hb
      exact ⟨o',hfl.1 _ _ e1⟩
  · have q2:=ub.tups b xs q
    rw [upd_ne (ne_of_none q2 hn)]; exact q2
  · have q2:=ub.frzs b o u q
    rw [upd_ne (ne_of_none q2 hn)]; exact q2
  · obtain ⟨more,q2⟩:=ub.tbls b ps q
    exact ⟨more,by rw [upd_ne (ne_of_none q2 hn)]; exact q2⟩
  · by_cases hb:b = e
    · subst hb
      rw [upd_same] at eb
      cases eb
      obtain ⟨oe,vs,e4,c4,d4,_⟩:=hfl.first
      exact ⟨⟨oe,e4,c4⟩,⟨oe,e4⟩,fun h1 h2 ⟨o,q1,q2⟩ k=>⟨o,k o q1,q2⟩⟩
    · rw [upd_ne hb] at eb
      refine (hok b o eb).stay (fun c v _ q=>hfl.1 c v q) (fun c q=>by rw [upd_ne (ne_of_none q hn)]; exact q) fun c xs q=>by rw [upd_ne (ne_of_none q hn)]; exact q
theorem Inv.gone {i:Nat} {n:Str} {h':Heap} {v:Option Value} {m:Str→Option Value} {tk:Nat} (I:Inv X pins σ H s) (hN:X.N.Nodup) (hi:X.N[i]? = some n) (hn:s.heap.Ns X.env.locals m)
    (hl:∀ (j:Nat) (x:Str) (w:V),X.N[j]? = some x→σ[j]? = some (some w)→Vis X.env.scope x→∃ u,RelV w u∧Look X.env s.heap m x u)
    (hn':h'.Ns X.env.locals (fun x=>if x = n then v else m x)) (hs:Heap.SameBut X.env.locals s.heap h'):Inv X pins (σ.set i none) H { s with heap:=h',toks:=tk }:=by
  have cne:=I.cne
  have hiσ:i < σ.length:=by rw [I.len]; exact (List.getElem?_eq_some_iff.mp hi).1
  refine ⟨I.ok,I.os,I.bare,⟨fun b o e n hb hx=>?_,fun b o e n hb hx=>?_,I.base.free,fun b o e hx=>?_,I.base.tups,I.base.frzs,I.base.tbls⟩,⟨_,hn',fun j y v' e1 e2 e3=>?_⟩,fun y c e=>?_,I.free,I.freeC,fun p hp=>?_,fun b ob e=>?_,by simpa using I.len⟩
  · exact (hs.2 b (Nat.ne_of_lt (Nat.lt_of_lt_of_le (Heap.lt_size e) I.ok.above))).trans (I.base.keep b o e n hb hx)
  · obtain ⟨sl,e1⟩:=I.base.slot b o e n hb hx
    exact ⟨sl,(hs.2 b (Nat.ne_of_lt (Nat.lt_of_lt_of_le (Heap.lt_size e) I.ok.above))).trans e1⟩
  · obtain ⟨o',e1⟩:=I.base.there b o e hx
    exact ⟨o',(hs.2 b (Nat.ne_of_lt (Nat.lt_of_lt_of_le (Heap.lt_size e) I.ok.above))).trans e1⟩
  · by_cases hj:j = i
    · subst hj
      rw [List.getElem?_set_self hiσ] at e2
      cases e2
    · rw [List.getElem?_set_ne (Ne.symm hj)] at e2
      obtain ⟨u',r',q⟩:=hl j y v' e1 e2 e3
      refine ⟨u',r',?_⟩
      rcases q with ⟨k,e⟩ | ⟨k,c,e,z⟩
      · refine .inl ⟨k,?_⟩
        have:y ≠ n:=fun e=>hj (nodup_ix hN e1 (e ▸ hi))
        simp [this,e]
      · exact .inr ⟨k,c,e,z.sameBut hs (cne y c e)⟩
  · obtain ⟨w',z⟩:=I.cell y c e
    exact ⟨w',z.sameBut hs (cne y c e)⟩
  · obtain ⟨e,n,ne,nf,d⟩:=I.pin p hp
    exact ⟨(hs.2 p.1 ne).trans e,n,ne,nf,d⟩
  · refine (I.hok b ob e).stay (fun c w' hc q=>(hs.2 c ?_).trans q) (fun _ q=>q) fun _ _ q=>q
    rintro rfl
    rcases hc with rfl | hc
    · rw [I.free] at e; cases e
    · rw [I.free] at hc; cases hc
end
variable {X:Cx}
theorem seq_any {A C:TS} {D:Ends} {σ:St} {H:Hp} (h:∀ c:St→Hp→Prop,(∀ σ' H',C D σ' H'→c σ' H')→A { D with nx:=c } σ H):tSeq A C D σ H:=h _ fun _ _ z=>z
theorem seq_set {te:TE} {i:Nat} {C:TS} {D:Ends} {σ:St} {H:Hp} (h:∀ c:V→Hp→Prop,(∀ x H1,C D (σ.set i (some x)) H1→c x H1)→te σ H c):tSeq (tAsg te (gName i)) C D σ H:=h _ fun _ _ z=>z
end L2
namespace Asc
open PySem PyProof.Rows
end Asc
namespace L2
open PySem PySem.Spec PyProof.Rows
end L2
namespace MaxD
open PySem PyProof.Rows
end MaxD
namespace L2
open PySem PySem.Spec PyProof.Rows
theorem ex1 {α:Type} {us:List α} (hl:us.length = 1):∃ a0,us = [a0]:=by
  match us,hl with
  | [_],_=>exact ⟨_,rfl⟩
theorem ex2 {α:Type} {us:List α} (hl:us.length = 2):∃ a0 a1,us = [a0,a1]:=by
  match us,hl with
  | [_,_],_=>exact ⟨_,_,rfl⟩
theorem ex3 {α:Type} {us:List α} (hl:us.length = 3):∃ a0 a1 a2,us = [a0,a1,a2]:=by
  match us,hl with
  | [_,_,_],_=>exact ⟨_,_,_,rfl⟩
end L2
set_option maxHeartbeats 1000000
namespace L2
open PySem PySem.Spec PyProof.Rows
end L2
set_option maxHeartbeats 1000000
namespace L2
section
open PySem PySem.Spec PyProof.Rows Builtin Builtin.ObjectAttr Builtin.Getset_descriptor
structure ExcK (K:PySem.W.Frag) (C:Addr):Prop where
  ga:PySem.W.findIn K (.ref C) "__getattribute__" = some (some (.builtin "BaseException.__getattribute__"))
  gt:PySem.W.findIn K (.ref C) "__getattr__" = some none
  cl:PySem.W.findIn K (.ref C) "__class__" = some (some (.builtin "object.__class__"))
  mo:PySem.W.mroIn K C (.type "object") = some true
  mb:PySem.W.mroIn K C (.type "BaseException") = some true
section
variable {prog:Program} {w:World} {A:Around} {E:Value→Shared→Prop} {K:PySem.W.Frag} {x C:Addr} {o:Obj}
theorem exc_ty {M:Model} {h:Heap} (hx:h.get? x = some o) (hc:o.cls = .ref C):PySem.W.Looks M h (typeOf (.ref x)) (.ref C):=hc ▸ (PySem.W.Looks.ld hx).andThen .now
theorem exc_get {R:Result→Shared→Prop} {tp:Value} {s:Shared} (X:K.In s.heap) (hx:s.heap.get? x = some o) (hc:o.cls = .ref C) (hm:PySem.W.mroIn K C (.type "object") = some true)
    (q:R (.ok (.ret (.ref C))) s):codeAny (model prog w) A (.call (.builtin "getset_descriptor.__get__") ⟨[.builtin "object.__class__",.ref x,tp],[]⟩) R s:=by
  obtain ⟨hh,g,dr,t,os⟩:=s
  have T0:=exc_ty (M:=model prog w) hx hc
  have T1:=PySem.W.looks_mroIn (M:=model prog w) X hm
  refine codeAny_call_builtin PySem.W.KF.slot_gs.plain PySem.W.KF.entry_gs (PySem.W.KF.slot_gs.check _ _ _ _ _ _ _ _ PySem.W.KF.type_class (PySem.W.KF.args_gs _ _ _) ?_)
  unfold Builtin.«getset_descriptor.__get__» descrGet; rw [PySem.W.dga_obj]; refine wpAny_bind (wpAny_pure ?_); unfold descrGetter descrCheckInstance descrNameAndClass isInstance; simp only [PySem.W.KF.owner_class]
  repeat lk
  refine ⟨Code.quiet_builtin _ (by decide +kernel),codeAny_builtin PySem.W.KF.entry_class ?_⟩; unfold Builtin.«object.__class__» shownTypeOf
  repeat lk
  exact q
theorem exc_entry {tk:Tok} {Q:Fin→Shared→Prop} {s:Shared} (hk:ExcK K C) (X:K.In s.heap) (hx:s.heap.get? x = some o) (hc:o.cls = .ref C) (q:Q (.done (.ret (.ref C))) s) :
    wpAny (model prog w) A (Builtin.«object.__getattribute__» ⟨[.ref x,.str "__class__" tk],[]⟩) Q E s:=by
  obtain ⟨hh,g,dr,t,os⟩:=s
  have T0:=exc_ty (M:=model prog w) hx hc
  have T1:=PySem.W.looks_findIn (M:=model prog w) X hk.cl
  have f6:=F.slot_gs_get.lookup
  have f7:=F.slot_gs_set.lookup
  have f5:=PySem.W.KF.type_class
  repeat (any_goals (first | assumption | with_reducible refine T0.at ?_ | with_reducible refine T1.at ?_ | wp_step))
  refine exc_get X hx hc hk.mo ?_
  repeat (any_goals (first | assumption | wp_step))
theorem exc_check {M:Model} {nameV:Value} {Q:Unit→Shared→Prop} {s:Shared} (hk:ExcK K C) (X:K.In s.heap) (hx:s.heap.get? x = some o) (hc:o.cls = .ref C) (q:Q () s) :
    wpAny M A (checkBuiltinCall "BaseException.__getattribute__" ⟨[.ref x,nameV],[]⟩) Q E s:=by
  obtain ⟨hh,g,dr,t,os⟩:=s
  have k1:builtinKind "BaseException.__getattribute__" = some .slot:=by decide +kernel
  have k2 : splitId "BaseException.__getattribute__" = some ("BaseException", "__getattribute__") := by decide +kernel
  have T0:=exc_ty (M:=M) hx hc
  have T1:=PySem.W.looks_mroIn (M:=M) X hk.mb
  have T2:PySem.W.Looks M hh (isInstance (.ref x) (.type "BaseException")) true:=T0.andThen T1
  have ha:=F.args_bexc_ga (.ref x) nameV
  simp only [checkBuiltinCall,k1,k2]
  refine wpAny_bind (T2.at ?_)
  repeat (any_goals (first | assumption | wp_step))
theorem exc_attr {Q:Option Value→Shared→Prop} {s:Shared} (hk:ExcK K C) (X:K.In s.heap) (hx:s.heap.get? x = some o) (hc:o.cls = .ref C) (q:Q (some (.ref C)) { s with toks:=s.toks + 1 }) :
    wpAny (model prog w) A (getAttr? (.ref x) "__class__") Q E s:=by
  obtain ⟨hh,g,dr,t,os⟩:=s
  have T0:=exc_ty (M:=model prog w) hx hc
  have T1:=PySem.W.looks_findIn (M:=model prog w) X hk.ga
  have T2:=PySem.W.looks_findIn (M:=model prog w) X hk.gt
  unfold getAttr? getAttrBy? getAttrBy
  refine wpAny_bind (wpAny_mkText (wpAny_bind (wpAny_attempt ?_)))
  refine wpAny_holding (wpAny_bind (T0.at (wpAny_bind (T1.at ?_))))
  have FB:=PySem.F.attrBase_ValueError
  have f3:=FB.ga.bind (.ref x)
  have b2:(Value.builtin "BaseException.__getattribute__" == Value.builtin "object.__getattribute__") = false:=by decide +kernel
  have b1:(onTheHeap (Value.ref C) && Value.builtin "BaseException.__getattribute__" == Value.builtin "object.__getattribute__") = false:=by rw [b2]; rfl
  show wpAny _ _ (if (onTheHeap (Value.ref C) && Value.builtin "BaseException.__getattribute__" == Value.builtin "object.__getattribute__") = true then _ else _) _ _ _
  rw [b1,if_neg (by decide)]
  unfold getAttrByItsOwn
  repeat (any_goals (first | assumption | with_reducible refine T2.at ?_ | wp_step))
  refine codeAny_call_builtin FB.ga.plain F.entry_bexc_ga (exc_check hk X hx hc (exc_entry hk X hx hc ?_))
  show wpAny _ _ (handedOut (.ref C)) _ _ _
  exact wpAny_pure (wpAny_pure q)
def ExcAt (x C:Addr) (h:Heap):Prop:=∃ o,h.get? x = some o∧o.cls = .ref C
theorem kitx_exc (hk:ExcK K C):PySem.W.KitX K (.ref x) (.ref C) (ExcAt x C) where
  ty:=fun M h _ p=>by obtain ⟨o,h1,h2⟩:=p; exact exc_ty h1 h2
  it:=fun M h X p=>by
    obtain ⟨cd,e,_⟩:=Option.bind_eq_some_iff.mp hk.mo
    unfold PySem.W.clsIn at e
    split at e
    next ho=>
      intro A' Q' E' s' k q
      unfold isType loadHead
      exact wpAny_bind (wpAny_loadPart (k _ _ (X _ _ ho)) (wpAny_pure q))
    next=>cases e
  ne:=fun h tp dd its n sl X htp=>by
    obtain ⟨cd,e,_⟩:=Option.bind_eq_some_iff.mp hk.mo
    refine Bool.eq_false_iff.mpr fun z=>?_
    obtain rfl:C = tp:=Value.ref.inj (beq_iff_eq.mp z)
    unfold PySem.W.clsIn at e
    split at e
    next ho=>have y:=(X _ _ ho).symm.trans htp; cases y
    next=>cases e
  ca:=fun X p k=>by obtain ⟨o,h1,h2⟩:=p; exact exc_attr hk X h1 h2 k
end
end
open PySem PySem.Spec PyProof.Rows
def ClsV (K:PySem.W.Frag) (H:Hp) (C:Addr) (c:V) (b:Bool):Prop:=
  (∃ D,c = .ref D∧PySem.W.kitOne K (.ref C) (.ref D) = some b) ∨ (∃ T,c = .ty T∧PySem.W.kitOne K (.ref C) (.type T) = some b) ∨ (∃ p,∃ ds:List Addr,c = .ref p∧H p = some (.tup (ds.map V.ref))∧PySem.W.kitAny K (.ref C) (ds.map Value.ref) = some b)
theorem kit_self {K:PySem.W.Frag} {C:Addr}:PySem.W.kitOne K (.ref C) (.ref C) = some true:=by
  unfold PySem.W.kitOne
  rw [if_pos (beq_self_eq_true _)]
theorem kit_ty {K:PySem.W.Frag} {C:Addr} {T:String} {b:Bool} (h1:PySem.W.kitMeta T = true) (h2:PySem.W.mroIn K C (.type T) = some b):PySem.W.kitOne K (.ref C) (.type T) = some b:=by
  unfold PySem.W.kitOne PySem.W.kitCls
  rw [if_neg (fun z=>by cases beq_iff_eq.mp z)]
  show (if PySem.W.kitMeta T = true then PySem.W.mroIn K C (.type T) else none) = some b
  rw [if_pos h1,h2]
theorem kit_cl {K : PySem.W.Frag} {C D : Addr} {b : Bool} (h1 : PySem.W.typeIn K (.ref D) = some (.type "type")) (h2 : PySem.W.mroIn K D (.type "object") = some true) (h3 : PySem.W.mroIn K C (.ref D) = some b) (h4 : (C == D) = false) : PySem.W.kitOne K (.ref C) (.ref D) = some b := by
  unfold PySem.W.kitOne PySem.W.kitCls
  rw [if_neg (fun z=>by have e:=Value.ref.inj (beq_iff_eq.mp z); rw [e] at h4; simp at h4)]
  obtain ⟨cd,e,_⟩:=Option.bind_eq_some_iff.mp h2
  show (if ((PySem.W.clsIn K D).isSome && PySem.W.typeIn K (.ref D) == some (.type "type")) = true then PySem.W.mroIn K C (.ref D) else none) = some b
  rw [if_pos (by rw [e,h1]; rfl),h3]
theorem refs_of:∀ {ds:List Addr} {us:List Value},Vals (ds.map V.ref) us→us = ds.map Value.ref
  | [],us,h=>by cases h; rfl
  | d :: ds,us,h=>by
    cases h with
    | cons h1 h2=>
      rw [refs_of h2]
      have e:_ = Value.ref d:=h1
      rw [e]
      rfl
section
variable {X:Cx}
theorem ke_cls {z:Str} {D:Addr} {p:Pos} (hm:X.mg z = some (.ref D)) (hg:X.env.kindOf z = some .globalImplicit:=by kernel_rfl) (hd:(z == ("__debug__":Str)) = false:=by kernel_rfl):QE X (.Name z p) (tC (.ref D)):=⟨pe_glob (v:=.ref D) hg hm rfl hd⟩
theorem ke_ty {z : Str} {T : String} {p : Pos} (hm : X.mg z = none) (hv : bootBuiltins z = some (.type T)) (hg : X.env.kindOf z = some .globalImplicit := by kernel_rfl) (hn : decide (z = "__name__") = false := by kernel_rfl) (hd : (z == ("__debug__" : Str)) = false := by kernel_rfl) : QE X (.Name z p) (tC (.ty T)) := ⟨pe_bltn (v := .ty T) hg hm hv rfl (of_decide_eq_false hn) hd⟩
end
end L2
set_option maxHeartbeats 1000000
namespace L2
open PySem PySem.Spec PyProof.Rows
structure RoomH (k:Nat) (A:Around):Prop where
  hd:∃ ea:Addr,A.handled = some (.ref ea)
  dp:A.depth + 3 * k + 5 < recursionLimit
  un:A.units + 16 * k + 200 < cLine
structure FnOkH (P:Program) (w:World) (K:PySem.W.Frag) (mg:Str→Option Value) (base:Heap) (k:Nat) (f:Addr) (fd:FuncData) (ps:List Str) (sp:Sp):Prop where
  len:∀ vs H Q E,sp vs H Q E→vs.length = ps.length
  run:∀ (A:Around) (outer:List Env) (s:Shared) (H:Hp) (args:Args) (us:List Value) (vs:List V) (Q:VK) (E:XK),RoomH k A→Env0 P w K mg base A outer s H→BindsTo s fd args (ps.zip us)→Vals vs us→sp vs H Q E→
    codeAny (model P w) A (.call (.ref f) args) (CR CX0 outer P w H s Q E) s
def unH (A:Around):Around:={ A with handled:=none }
abbrev cxH (P:Program) (w:World) (K:PySem.W.Frag) (mg:Str→Option Value) (base:Heap) (N:List Str) (qual:Str) (scope:Scope) (f:Addr) (cd:Value) (A:Around) (outer:List Env) (s:Shared) (H:Hp) (E:XK) (ea:Addr):Cx:=(cxOf CX0 P w K mg base N qual scope f cd (unH A) outer s H E).hand ea
theorem mark_back {A:Around} {env:Env} {ea:Addr} (h:A.handled = some (.ref ea)):((unH A).deeper env).mark (some (.ref ea)) = A.deeper env:=by
  cases A
  cases h
  rfl
theorem fn_ofH {P:Program} {w:World} {K:PySem.W.Frag} {mg:Str→Option Value} {base:Heap} {k:Nat} {f:Addr} {name qual:Str} {params:Arguments} {body:List Stmt} {scope:Scope} {dV kV doc pm cdv ct oc:Value} {an od:Option Addr}
    {osl:Array (Option Value)} {N ps:List Str} {sp:Sp} (lk:K.lookup f = some ⟨oc,od,.func (PySem.W.fnOf name qual params body scope dV kV doc pm an cdv ct),osl⟩) (hcd:PySem.W.codeIn K cdv qual = true) (S:FnScope N ps scope)
    (len:∀ vs H Q E,sp vs H Q E→vs.length = ps.length)
    (hbody:∀ (A:Around) (outer:List Env) (s:Shared) (H:Hp) (vs:List V) (Q:VK) (E:XK) (ea:Addr),sp vs H Q E→
      ∃ t,PSs (cxH P w K mg base N qual scope f cdv A outer s H E ea) body t∧t { nx:=fun _ H'=>Q .non H',rt:=Q } (start N vs) H) :
    FnOkH P w K mg base (k + 1) f (PySem.W.fnOf name qual params body scope dV kV doc pm an cdv ct) ps sp:=by
  refine ⟨len,fun A outer s H args us vs Q E hr e0 hb r hsp=>?_⟩
  obtain ⟨ea,hea⟩:=hr.hd
  have hl:=len _ _ _ _ hsp
  have KX:K.In s.heap:=e0.mod.kin.keeps fun b o e=>(e0.bs b o e).1
  have lim:s.heap.NoLimit:=e0.mod.nolimit.keeps fun b o e=>(e0.bs b o e).1
  have hkind:∀ y ∈ ps.zip us,scope.names.lookup y.1 = some .local ∨ (scope.names.lookup y.1 = some .cell∧((cellsFrom (s.heap.objs.size + 1) scope.names []).lookup y.1).isSome = true):=fun ⟨n,v⟩ hy=>by
    rcases S.par n (List.of_mem_zip hy).1 with q | q
    · exact .inl q
    · exact .inr ⟨q,PySem.W.cellsFrom_some _ _ _ (.inl q)⟩
  refine codeAny_call_function (by have:=hr.dp; omega) (KX _ _ lk) rfl S.co S.gen rfl (PySem.W.codeRec_of KX hcd) (hb _ _ _ _ ?_)
  refine wpAny_newFunctionEnv_cells S.kind hkind fun env he s1 x=>?_
  subst he
  refine ⟨lim.keeps x.toInCall.keep,codeAny_func ?_⟩
  obtain ⟨t,ht,hq⟩:=hbody A outer s H vs Q E ea hsp
  have e1:Env0 P w K mg base (unH A) outer s H:=⟨e0.frames,e0.mod,e0.bs,e0.bsz,e0.funs,e0.frf,e0.hok,e0.bare⟩
  have I0:Inv (cxOf CX0 P w K mg base N qual scope f cdv (unH A) outer s H E) [] (start N vs) H s1:=inv_start S rfl e1 hl r x
  have I:=I0.hand ea
  have run:=ht [] s1 (start N vs) H _ I hq
  have eA:(cxH P w K mg base N qual scope f cdv A outer s H E ea).A = A.deeper (envOfC qual scope s.heap.objs.size f cdv):=mark_back hea
  rw [eA] at run
  refine wpAny_mono run (fun fl s' hs=>?_) fun e s' hs=>False.elim hs
  have fin:∀ {σ':St} {H':Hp} {v:V} {u:Value},Inv (cxH P w K mg base N qual scope f cdv A outer s H E ea) [] σ' H' s'→RelV v u→Q v H'→CE outer P w H s Q u s':=
    fun {σ' H' v u} J rv q=>⟨v,H',J.os,J.bare,J.base,J.hok,rv,q⟩
  cases fl with
  | ret u=>
    obtain ⟨v,σ',H',J,rv,q⟩:=hs
    exact fin J rv q
  | next=>
    obtain ⟨σ',H',J,q⟩:=hs
    exact fin (v:=V.non) (u:=Value.none) J rfl q
  | brk=>
    obtain ⟨_,_,_,q⟩:=hs
    exact False.elim q
  | cont=>
    obtain ⟨_,_,_,q⟩:=hs
    exact False.elim q
theorem Fun.okH {P:Program} {w:World} {K:PySem.W.Frag} {mg:Str→Option Value} {base:Heap} {x qual:Str} {st:Stmt} {f:Addr} {fd:FuncData} {N ps:List Str} {k:Nat} {sp:Sp} (F:Fun K x qual st f fd) (S:FnScope N ps (defScope st)) {rd:TS} (len:∀ vs H Q E,sp vs H Q E→vs.length = ps.length)
    (hb:∀ (cdv:Value) (A:Around) (outer:List Env) (s:Shared) (H:Hp) (E:XK) (ea:Addr),QSs (cxH P w K mg base N qual (defScope st) f cdv A outer s H E ea) (defBody st) rd)
    (hq:∀ (vs:List V) (H:Hp) (Q:VK) (E:XK),sp vs H Q E→rd { nx:=fun _ H'=>Q .non H',rt:=Q } (start N vs) H):FnOkH P w K mg base (k + 1) f fd ps sp:=by
  obtain ⟨oc,od,kV,doc,pm,an,cdv,ct,osl,rfl,lk,hcd⟩:=F.ex
  exact fn_ofH lk hcd S len fun A outer s H vs Q E ea hsp=>⟨rd,(hb cdv A outer s H E ea).p,hq vs H Q E hsp⟩
theorem Room.toH {k:Nat} {A:Around} (r:Room k A) (ea:Addr):RoomH k (A.mark (some (.ref ea))):=⟨⟨ea,rfl⟩,r.dp,r.un⟩
section
variable {X:Cx} {k:Nat} {f:Addr} {fd:FuncData} {ps:List Str} {sp:Sp} {x:Str} {p pos:Pos} {e:Expr} {es:List Expr} {t:TA}
theorem ke_callH (F:FnOkH X.prog X.w X.K X.mg X.base k f fd ps sp) (hr:RoomH k X.A) (hm:X.mg x = some (.ref f)) (hk:PySem.W.keepIn X.K (.ref f) = true) (hb:Binds X.K fd ps []) (ha:QA X (e :: es) t)
    (hg:X.env.kindOf x = some .globalImplicit:=by kernel_rfl) (hdb:(x == ("__debug__":Str)) = false:=by kernel_rfl) (he:starEach (e :: es) X.env = (false,eval e X.env) :: starEach es X.env:=by kernel_rfl) (hpl:(backTo pos (starEach es X.env)).any (·.1) = false:=by kernel_rfl) :
    QE X (.Call (.Name x p) (e :: es) [] pos) (tCall sp [] E0 t):=by
  refine ⟨fun pins s σ H Q I h=>?_⟩
  refine wpAny_Call_Name_kw (ld_glob I hg hm ?_ hdb)
  refine PySem.W.callWith_K (h₀:=X.base) I.ok.mod.kin hk (thn (ha.p pos pins s σ H _ I h) fun us s1 ⟨vs,H1,I1,r,q⟩=>⟨I1.kIn,?_⟩) he hpl
  have q:sp (vs ++ []) H1 Q E0:=q
  rw [List.append_nil] at q
  have hl:us.length = ps.length:=by rw [← r.length]; exact F.len _ _ _ _ q
  have hb2:=hb s1 us I1.kIn (by rw [List.append_nil]; exact hl)
  rw [List.append_nil] at hb2
  refine wpAny_call (codeAny_mono (F.run X.A X.stack s1 H1 ⟨us,[]⟩ us vs Q E0 hr I1.env0 hb2 r q) fun r s' hq=>?_)
  cases r with
  | error e=>exact False.elim hq
  | ok fl=>
    cases fl with
    | ret u=>exact I1.after hq
    | next=>exact False.elim hq
    | brk=>exact False.elim hq
    | cont=>exact False.elim hq
end
end L2
namespace Rev
open PySem PyProof.Rows PySem.Calls
end Rev
namespace L2
open PySem PySem.Spec PyProof.Rows
end L2
namespace MinD
open PySem PyProof.Rows
end MinD
namespace L2
open PySem PySem.Spec PyProof.Rows
end L2
namespace DOf
open PySem PyProof.Rows PySem.Calls
end DOf
namespace L2
open PySem PySem.Spec PyProof.Rows
end L2
namespace KSrt
open PySem PySem.W PyProof.Rows
variable {K:Nat→List Nat} {n:Nat}
end KSrt
namespace KSrt
open PySem PySem.W PyProof.Rows
end KSrt
namespace L2
open PySem PySem.Spec PyProof.Rows
inductive FP where
  | raw (t:TE)
  | fmt (t:TE)
def FmtV (v:V) (l:List Nat):Prop:=v = .str (txt l) ∨ ∃ i:Int,v = .int i∧i.natAbs.log2 < 1920∧txt l = (toString i:Str)
def tFp:List FP→List Nat→TE
  | [],out,_,H,Q=>out.length ≤ 100000∧Q (.str (txt out)) H
  | .raw t :: r,out,σ,H,Q=>t σ H fun v H1=>∃ l,v = .str (txt l)∧out.length + l.length ≤ 100000∧tFp r (out ++ l) σ H1 Q
  | .fmt t :: r,out,σ,H,Q=>t σ H fun v H1=>∃ l,FmtV v l∧out.length + l.length ≤ 100000∧tFp r (out ++ l) σ H1 Q
structure QF (X:Cx) (es:List Expr) (ps:List FP):Prop where
  p:∀ (pins:List (Addr × Obj)) (s:Shared) (σ:St) (H:Hp) (Q:VK) (out:List Nat),Inv X pins σ H s→tFp ps out σ H Q→wpAny (model X.prog X.w) X.A (joinParts (txt out) (evalEach es X.env)) (EP X pins σ Q) X.xe s
section
variable {X:Cx} {e:Expr} {es:List Expr} {t:TE} {ps:List FP} {pos:Pos}
theorem len_txt (l:List Nat):(txt l).length = l.length:=by simp [txt,Str.length]
theorem kf_nil:QF X [] []:=⟨fun pins s σ H Q out I ⟨hz,q⟩=>joinParts_nil ⟨.str (txt out),H,I.tok _,⟨_,rfl⟩,q⟩ (by rw [len_txt]; exact Nat.le_trans hz (by decide))⟩
theorem kf_raw (h:QE X e t) (r:QF X es ps):QF X (e :: es) (.raw t :: ps):=⟨by
  intro pins s σ H Q out I q
  refine joinParts_cons (thn (h.p pins s σ H _ I q) fun v s1 ⟨x,H1,I1,rx,l,ex,hz,q1⟩=>?_)
  subst ex
  obtain ⟨u,rfl⟩:=rx
  refine ⟨by rw [txt_app,len_txt,List.length_append]; exact Nat.le_trans hz (by decide),?_⟩
  rw [txt_app]
  exact r.p pins s1 σ H1 Q _ I1 q1⟩
theorem kf_fmt {fpos:Pos} (h:QE X e t) (r:QF X es ps):QF X (.FormattedValue e (-1) none fpos :: es) (.fmt t :: ps):=⟨by
  intro pins s σ H Q out I q
  refine joinParts_cons (FormattedValue_plain (thn (h.p pins s σ H _ I q) fun v s1 ⟨x,H1,I1,rx,l,fx,hz,q1⟩=>?_))
  have sz:(txt out ++ txt l).length ≤ sizeLine:=by rw [txt_app,len_txt,List.length_append]; exact Nat.le_trans hz (by decide)
  rcases fx with ex | ⟨i,ex,hi,el⟩
  · subst ex
    obtain ⟨u,rfl⟩:=rx
    refine formatField_str (fun t' tk=>⟨sz,?_⟩) (by rw [len_txt]; exact Nat.le_trans (show l.length ≤ 100000 by omega) (by decide))
    rw [txt_app]
    exact r.p pins _ σ H1 Q _ (I1.tok _) q1
  · subst ex
    obtain ⟨u,rfl⟩:=rx
    refine formatField_int_small hi ?_
    rw [← el]
    refine ⟨sz,?_⟩
    rw [txt_app]
    exact r.p pins _ σ H1 Q _ (I1.tok _) q1⟩
def tFstr (ps:List FP):TE:=tFp ps []
theorem ke_fstr {e1 e2:Expr} (h:QF X (e1 :: e2 :: es) ps):QE X (.JoinedStr (e1 :: e2 :: es) pos) (tFstr ps):=⟨fun pins s σ H Q I q=>JoinedStr_many (h.p pins s σ H Q [] I q)⟩
end
end L2
set_option maxHeartbeats 1000000
namespace L2
open PySem PySem.Spec PyProof.Rows DictK
def excN (e C:Addr):HO:=.ext fun h=>∃ t,h.get? e = some (rawE C t)
def excD (e C d:Addr):HO:=.ext fun h=>∃ t,h.get? e = some { rawE C t with dict:=some d }
structure ExcI (K:PySem.W.Frag) (C fI:Addr) (bmB:List Value) (newId:String):Prop where
  obj:∃ bm N nm qn bs sn sub ab col dd k0 k1 k2 k3 k5,K.lookup C = some (excClassObj nm qn C N bs bm true sn sub ab col dd k0 k1 k2 k3 k5 newId)∧PySem.W.tailIn K bmB bm = true∧PySem.W.nsOkIn K N = true∧PySem.W.nsIn K N "__init__" = some (some (.ref fI))
  fn:∃ o,K.lookup fI = some o∧o.cls = .type "function"
def tBaseInit (K:PySem.W.Frag) (C:Addr) (ta:TA):TE:=fun σ H Q=>ta σ H fun vs H1=>∃ ea v,vs = [.ref ea,v]∧H1 ea = some (excN ea C)∧Q .non (upd H1 ea (excN ea C))
section
variable {X:Cx} {e:Expr} {es:List Expr} {t:TA} {x:Str} {p pos apos:Pos} {B newId initId:String} {bmB:List Value} {C D fI:Addr}
theorem pe_baseInit {pl:Sem Bool} (F:ExcBaseFacts B newId initId bmB) (I0:ExcI X.K C fI bmB newId) (hg:Gl X x) (hm:X.mg x = some (.ref D)) (hdb:(x == ("__debug__":Str)) = false)
    (h1 : PySem.W.specialIn X.K (.ref D) "__getattribute__" = some (some (.builtin "type.__getattribute__"))) (h2 : PySem.W.readsIn X.K D (.type "type") = true) (h3 : PySem.W.findCls X.K (.ref D) (.type "type") "__init__" = some (.val (.builtin initId))) (h4 : PySem.W.handedIn (.builtin initId) = true)
    (ha:PA X (e :: es) t) (he:starEach (e :: es) X.env = (false,eval e X.env) :: starEach es X.env) (hpl:(backTo pos (starEach es X.env)).any (·.1) = false)
    (ht:eval (.Call (.Attribute (.Name x p) "__init__" apos) (e :: es) [] pos) X.env = (do
      let ov ← eval (.Name x p) X.env
      standAt apos.atName
      let (f,first) ← holding [ov] (getMethod ov "__init__" pl)
      callWith pos f first (backTo pos (starEach (e :: es) X.env)) (backToKw pos (keywordEach [] X.env)))) :
    PE X (.Call (.Attribute (.Name x p) "__init__" apos) (e :: es) [] pos) (tBaseInit X.K C t):=by
  intro pins s σ H Q I h
  refine PySem.W.methodCall_KW (pl:=pl) (ld_glob I hg hm ?_ hdb) ht
  refine PySem.W.method_cls I.kIn h1 (PySem.W.cls_value I.kIn h2 h3 h4 ?_)
  have I1:Inv X pins σ H { s with toks:=s.toks + 1 }:=I.tok _
  have hA:=ha pos pins _ σ H _ I1 h
  rw [he] at hA ⊢
  refine Calls.callWith_builtin (by show (false || (backTo pos (starEach es X.env)).any (·.1)) = false; rw [hpl]; rfl) (Calls.evalArgs_plain (thn hA fun us s2 ⟨vs,H2,I2,r2,ea,v,ev,eH,q2⟩=>?_))
  subst ev
  obtain ⟨bm,N,nm,qn,bs,sn,sub,ab,col,dd,k0,k1,k2,k3,k5,look,tl,_,_⟩:=I0.obj
  have hC:=I2.kIn _ _ look
  have T:=PySem.W.tail_of_in I2.kIn tl
  obtain ⟨⟨t0,at0⟩,_,_⟩:=(show ObjOk X.prog X.w H2 s2.heap ea (excN ea C) from I2.hok ea _ eH)
  obtain ⟨u0,u1,rfl,r0,r1⟩:=vals2 r2
  obtain rfl:u0 = Value.ref ea:=r0
  obtain ⟨hp,g1,d1,t1,o1⟩:=s2
  refine wpAny_call (codeAny_call_builtin F.init.plain F.initEntry (wpAny_check_init_subT F T hC at0 rfl ?_))
  wp_walk
  have ne:ea ≠ hp.objs.size:=Nat.ne_of_lt (Heap.lt_size at0)
  have at1:((hp.push { cls:=Value.type "tuple",data:=Data.seq #[u1] }).update ea (Obj.mapFields fun y=>y.setIfInBounds 0 (Value.ref hp.objs.size))).get? ea = some (rawE C hp.objs.size):=Heap.get?_update_self _ (Heap.get?_push_of_some _ at0) rfl
  have kp:∀ b u,b ≠ ea→hp.get? b = some u→((hp.push { cls:=Value.type "tuple",data:=Data.seq #[u1] }).update ea (Obj.mapFields fun y=>y.setIfInBounds 0 (Value.ref hp.objs.size))).get? b = some u:=fun b u nb eb=>by
    rw [Heap.get?_update_other _ _ (Ne.symm nb)]
    exact Heap.get?_push_of_some _ eb
  show EP X pins σ Q .none _
  exact ⟨.non,upd H2 ea (excN ea C),I2.write (x:=ea) (e:=ea) (by rw [eH]; exact True.intro) (.inl rfl) kp ⟨_,at1⟩ ⟨⟨_,at1⟩,⟨_,at1⟩,fun h1 h2 ⟨t,et⟩ k=>⟨t,k _ et⟩⟩,rfl,q2⟩
def sExcFld (K:PySem.W.Frag) (C:Addr) (ta tv:TE) (f:Str):TS:=fun D σ H=>tv σ H fun y H1=>ta σ H1 fun x H2=>∃ ea,x = .ref ea∧H2 ea = some (excN ea C)∧∀ d,H2 d = none→d ≠ ea→D.nx σ (upd (upd H2 d (.xd [(f,y)])) ea (excD ea C d))
theorem excFld_ok {pins:List (Addr × Obj)} {σ:St} {H:Hp} {s:Shared} {A:Around} {E:Value→Shared→Prop} {ea:Addr} {f:Str} {y:V} {u:Value} {Q:Unit→Shared→Prop} {sa owner:String} (I:Inv X pins σ H s) (eH:H ea = some (excN ea C)) (SF:StoreFacts B bmB sa owner) (I0:ExcI X.K C fI bmB newId)
    (f1:PySem.W.findIn X.K (.ref C) "__setattr__" = some (some (.builtin sa))) (f2:NoAttr X.K C f) (ry:RelV y u) (h:∀ d s',H d = none→d ≠ ea→Inv X pins σ (upd (upd H d (.xd [(f,y)])) ea (excD ea C d)) s'→Q () s'):wpAny (model X.prog X.w) A (setAttr (.ref ea) f u) Q E s:=by
  obtain ⟨bm,N,nm,qn,bs,sn,sub,ab,col,dd,k0,k1,k2,k3,k5,look,tl,_,_⟩:=I0.obj
  have hC:=I.kIn _ _ look
  have T:=PySem.W.tail_of_in I.kIn tl
  obtain ⟨⟨t0,at0⟩,_,_⟩:=(show ObjOk X.prog X.w H s.heap ea (excN ea C) from I.hok ea _ eH)
  obtain ⟨hp,g1,d1,t1,o1⟩:=s
  have nC:ea ≠ C:=fun z=>by
    subst z
    have:=hC.symm.trans at0
    cases this
  refine exc_store (o:=rawE C t0) I.kIn SF T hC f1 f2 nC at0 rfl rfl (fun c z=>by cases z) fun h' tk' dx a1 a2 a3 a4 a5=>?_
  have hle:hp.objs.size ≤ dx:=by rw [a1]; exact Nat.le_refl _
  have hnd:H dx = none:=I.hok.fresh hle
  refine h dx _ hnd a2 ?_
  generalize eb:h'.update ea (fun _=>rawE C t0) = h1
  have e1:h1.get? ea = some (rawE C t0):=by rw [← eb]; exact Heap.get?_update_self _ a3 rfl
  have k1:∀ b u,hp.get? b = some u→h1.get? b = some u:=fun b u e=>by
    by_cases z:b = ea
    · subst z
      rw [at0] at e
      cases e
      exact e1
    · rw [← eb,Heap.get?_update_other _ _ (Ne.symm z)]
      exact a5 b u z e
  have n1:h1.Ns1 dx (fun y=>if y = f then some u else none):=a4.at fun o q=>by
    rw [← eb,Heap.get?_update_other _ _ (Ne.symm a2)]
    exact q
  have I1:Inv X pins σ (upd H dx (.xd [(f,y)])) ⟨h1,g1,d1,tk',o1⟩:=I.laid (a:=dx) (o:=.xd [(f,y)]) (h':=h1) (t':=tk') k1 hle ⟨_,n1,fun z=>by
    by_cases q:z = f
    · subst q
      simp [RelO,ry]
    · have:(z == f) = false:=by simpa using q
      simp [List.lookup,this,q,RelO]⟩
  refine I1.write (x:=ea) (e:=ea) (o:=excD ea C dx) (h':=h') (t':=tk') (by rw [upd_ne (Ne.symm a2),eH]; exact True.intro) (.inl rfl) (fun b v nb e=>?_) ⟨_,a3⟩ ⟨⟨t0,a3⟩,⟨_,a3⟩,fun h1 h2 ⟨t,et⟩ k=>⟨t,k _ et⟩⟩
  rw [← eb,Heap.get?_update_other _ _ (Ne.symm nb)] at e
  exact e
end
end L2
set_option maxHeartbeats 1000000
namespace L2
open PySem PySem.Spec PyProof.Rows DictK
def del (H:Hp) (a:Addr):Hp:=fun b=>if b = a then none else H b
theorem del_ne {H:Hp} {a b:Addr} (h:b ≠ a):del H a b = H b:=by unfold del; rw [if_neg h]
theorem del_same {H:Hp} {a:Addr}:del H a a = none:=by unfold del; rw [if_pos rfl]
section
variable {P:Program} {w:World} {K:PySem.W.Frag} {mg:Str→Option Value} {base:Heap} {N:List Str} {qual:Str} {scope:Scope} {f:Addr} {cd:Value} {A:Around} {outer:List Env} {s:Shared} {H:Hp} {E:XK}
theorem made_defD {pins:List (Addr × Obj)} {σ:St} {H1 H2:Hp} {s1 s2:Shared} {ea C d:Addr} (I1:Inv (cxOf (CX1 P w) P w K mg base N qual scope f cd A outer s H E) pins σ H1 s1) (hnew:s1.heap.get? ea = none)
    (I:Inv (cxOf (CX1 P w) P w K mg base N qual scope f cd A outer s H E) pins σ H2 s2) (eD:H2 ea = some (excD ea C d)) (q:E (.ref C) (some d) (del H2 ea)):(cxOf (CX1 P w) P w K mg base N qual scope f cd A outer s H E).xe (.ref ea) s2:=by
  generalize eF:frs (cxOf (CX1 P w) P w K mg base N qual scope f cd A outer s H E).stack = F
  have hin:∀ env ∈ (cxOf (CX1 P w) P w K mg base N qual scope f cd A outer s H E).stack,∀ b,env.frame = some b→b ∈ ea :: F:=fun env he b hb=>by rw [← eF]; exact List.mem_cons_of_mem _ (List.mem_filterMap.mpr ⟨env,he,hb⟩)
  have nea:s.heap.get? ea = none:=by
    cases z:s.heap.get? ea with
    | none=>rfl
    | some o=>
      obtain ⟨o',e1⟩:=I1.base.there ea o z (List.not_mem_nil)
      rw [hnew] at e1; cases e1
  have neE:∀ b o,s.heap.get? b = some o→b ≠ ea:=fun b o e z=>by rw [z,nea] at e; cases e
  have neL:∀ b o,s.heap.get? b = some o→b ≠ s.heap.objs.size:=fun b o e=>Nat.ne_of_lt (Heap.lt_size e)
  have nF:∀ b o,s.heap.get? b = some o→b ∉ frs outer→b ∉ ea :: F:=fun b o e hb z=>by
    rcases List.mem_cons.mp z with z | z
    · exact neE b o e z
    · rw [← eF] at z
      rcases List.mem_cons.mp (I.stkSub b z) with y | y
      · exact neL b o e y
      · exact hb y
  have gB:∀ b o,s2.heap.get? b = some o→b ∉ ea :: F→(PySem.W.hideAll s2.heap (ea :: F)).get? b = some o:=fun b o e hb=>PySem.W.hideAll_get _ e hb
  obtain ⟨⟨t,at2⟩,_,_⟩:=(show ObjOk P w H2 s2.heap ea (excD ea C d) from I.hok ea _ eD)
  have hid:(PySem.W.hideAll s2.heap (ea :: F)).get? ea = none:=PySem.W.hideAll_none _ List.mem_cons_self
  show wpAny _ _ (leaving _ (.ref ea)) _ _ _
  refine wpAny_mono (kd_any (kd_leaving _ _) (wpAny_leaving_firstW (Q:=fun _ s3=>∃ h3,s3 = { s2 with heap:=h3 }∧Heap.LeftW (PySem.W.hideAll s2.heap (ea :: F)) (cxOf (CX1 P w) P w K mg base N qual scope f cd A outer s H E).stack ea (.ref C) (.ref t) s2.heap h3) (base:=PySem.W.hideAll s2.heap (ea :: F)) I.ok.frames (PySem.W.funFrames_hide I.stack hin) rfl at2 (fun b o q=>PySem.W.of_hideAll _ q) hid rfl rfl rfl fun h3 l3=>⟨h3,rfl,l3⟩)) (fun _ s3 q3=>?_) fun _ _ z=>z
  obtain ⟨⟨h3,e3,k1,⟨_,_,k2⟩,k3,k4⟩,kp⟩:=q3
  subst e3
  refine ⟨ea,.ref C,t,del H2 ea,PySem.W.hideAll s2.heap (ea :: F),some d,rfl,I.os,I.bare,⟨k1,hid,k2,k3⟩,fun a o e=>?_,⟨fun b o eb n hb=>?_,fun b o eb n hb=>?_,fun b o eb n=>?_,fun b o eb hb=>?_,fun b xs e=>?_,fun b o u e=>?_,fun b ps e=>?_⟩,DictIs.kept ⟨_,at2,rfl⟩ kp,q⟩
  · have na:a ≠ ea:=fun z=>by rw [z,del_same] at e; cases e
    rw [del_ne na] at e
    have ow:∀ c,H2 c = some (.own a)→c ≠ ea:=fun c hc z=>by rw [z,eD] at hc; cases hc
    have tu:∀ c xs,H2 c = some (.tup xs)→c ≠ ea:=fun c xs hc z=>by rw [z,eD] at hc; cases hc
    refine (I.hok a o e).stay (fun b u hb eu=>gB b u eu fun z=>?_) (fun c q=>by rw [del_ne (ow c q)]; exact q) fun c xs q=>by rw [del_ne (tu c xs q)]; exact q
    rcases List.mem_cons.mp z with z | z
    · rcases hb with hb | hb
      · exact na (hb.symm.trans z)
      · exact ow b hb z
    · have hf:=I.stkFree b (by rw [eF]; exact z)
      rcases hb with rfl | hb
      · rw [hf] at e; cases e
      · rw [hf] at hb; cases hb
  · exact gB b o (I.base.keep b o eb n hb (List.not_mem_nil)) (nF b o eb hb)
  · obtain ⟨sl,e1⟩:=I.base.slot b o eb n hb (List.not_mem_nil)
    obtain ⟨_,o2,e2,d2⟩:=frs_none I.stack (List.mem_cons_of_mem _ hb:b ∈ s.heap.objs.size :: frs outer)
    rw [e1] at e2
    cases e2
    obtain ⟨sl',e4⟩:=k4 b _ e1 d2
    exact ⟨sl',e4⟩
  · rw [del_ne (neE b o eb)]
    exact I.base.free b o eb n (List.not_mem_nil)
  · obtain ⟨o',e1⟩:=I.base.there b o eb (List.not_mem_nil)
    exact ⟨o',gB b o' e1 (nF b o eb hb)⟩
  · have:=I.base.tups b xs e
    rw [del_ne (fun z=>by rw [z,eD] at this; cases this)]
    exact this
  · have:=I.base.frzs b o u e
    rw [del_ne (fun z=>by rw [z,eD] at this; cases this)]
    exact this
  · obtain ⟨m,e1⟩:=I.base.tbls b ps e
    exact ⟨m,by rw [del_ne (fun z=>by rw [z,eD] at e1; cases e1)]; exact e1⟩
end
end L2
set_option maxHeartbeats 1000000
namespace L2
open PySem PySem.Spec PyProof.Rows DictK
theorem ns_some {K:PySem.W.Frag} {h:Heap} {N:Addr} {m:Str→Option Value} {n:Str} {v:Value} (X:K.In h) (G:h.Ns N m) (e:PySem.W.nsIn K N n = some (some v)):m n = some v:=by
  obtain ⟨ob,es,ep,ho,hd,_,hf⟩:=G
  rw [← hf]; unfold PySem.W.nsIn at e
  split at e
  next c d es' n' sl q=>
    have z:=ho.symm.trans (X _ _ q)
    injection z with z; subst z
    obtain ⟨rfl,rfl⟩:es' = es∧n' = ep:=by injection hd with a b; exact ⟨a,b⟩
    split at e
    next en he=>injection e with e; injection e with e; unfold nsFind findBy; rw [← Array.find?_toList,he]; exact congrArg some e
    next=>split at e <;> cases e
  next=>cases e
def tRaiseD (C:Addr) (sp:Sp) (E:XK) (ta:TA):TS:=fun _ σ H=>ta σ H fun vs H1=>vs.length ≤ 8∧∀ ea,H1 ea = none→sp (.ref ea :: vs) (upd H1 ea (excN ea C)) (fun v H2=>v = .non∧∃ d,H2 ea = some (excD ea C d)∧E (.ref C) (some d) (del H2 ea)) E0
section
variable {X:Cx}
theorem ps_raiseD {x:Str} {e:Expr} {es:List Expr} {ta:TA} {C fI:Addr} {B newId initId:String} {bmB:List Value} {E:XK} {np cpos pos:Pos} {k:Nat} {fd:FuncData} {ps:List Str} {sp:Sp} (FB:ExcBaseFacts B newId initId bmB) (I0:ExcI X.K C fI bmB newId)
    (F:FnOk X.prog X.w X.K X.mg X.base CX0 k fI fd ps sp) (hr:Room (k + 1) X.A) (hb:Binds X.K fd ps [])
    (hg:Gl X x) (hm:X.mg x = some (.ref C)) (hc:X.calm = true) (ha:PA X (e :: es) ta)
    (hx:∀ (pins:List (Addr × Obj)) (σ:St) (H1 H2:Hp) (s1 s2:Shared) (ea d:Addr),Inv X pins σ H1 s1→s1.heap.get? ea = none→Inv X pins σ H2 s2→H2 ea = some (excD ea C d)→E (.ref C) (some d) (del H2 ea)→X.xe (.ref ea) s2)
    (hdb:(x == ("__debug__":Str)) = false) (he:starEach (e :: es) X.env = (false,eval e X.env) :: starEach es X.env) (hpl:(backTo cpos (starEach es X.env)).any (·.1) = false) :
    PS X (.Raise (some (.Call (.Name x np) (e :: es) [] cpos)) none pos) (tRaiseD C sp E ta):=by
  intro pins s σ H D I h
  obtain ⟨bm,N,nm,qn,bs,sn,sub,ab,col,dd,k0,k1,k2,k3,k5,look,tl,nok,nin⟩:=I0.obj
  obtain ⟨oF,lF,cF⟩:=I0.fn
  have T0:=PySem.W.tail_of_in I.kIn tl
  have hplain:(backTo cpos (starEach (e :: es) X.env)).any (·.1) = false:=by rw [he]; show (false || (backTo cpos (starEach es X.env)).any (·.1)) = false; rw [hpl]; rfl
  rw [arm_exec_Raise]
  refine wpAny_bind (wpAny_standAt (raise_made (C:=C) (nm:=nm) (qn:=qn) (N:=N) (bs:=bs) (bm:=bm) (hdct:=true) (sn:=sn) (sub:=sub) (ab:=ab) (col:=col) (dd:=dd) (k0:=k0) (k1:=k1) (k2:=k2) (k3:=k3) (k5:=k5) (newId:=newId) (T0.hasType FB.hasBase) (I.ok.hd hc) (wpAny_bind (wpAny_mono (wpAny_Call_ofName (ld_glob I hg hm ?_ hdb)) (fun v s3 h3=>wpAny_bind (wpAny_standAt (wpAny_pure h3))) fun _ _ z=>z))))
  have hA:=ha cpos pins s σ H _ I h
  unfold callWith
  rw [he] at hA ⊢
  refine wpAny_bind (wpAny_holding (Calls.evalArgs_plain (thn hA fun us s2 ⟨vs,H2,I2,r2,hz,q2⟩=>wpAny_bind (wpAny_standAt ?_))))
  have hC:=I2.kIn _ _ look
  have T:=PySem.W.tail_of_in I2.kIn tl
  have hN:s2.heap.Ns N (s2.heap.nsMap N):=.of_isNs (PySem.W.isNs_of_in I2.kIn nok)
  have hi:s2.heap.nsMap N "__init__" = some (.ref fI):=ns_some I2.kIn hN nin
  have hl:us.length ≤ sizeLine:=by rw [← r2.length]; exact Nat.le_trans hz (by decide)
  obtain ⟨hp,g2,d2,t2,o2⟩:=s2
  rw [he] at hplain
  simp only [hplain]
  refine wpAny_bind (wpAny_keeperOf_exc hC ?_)
  refine wpAny_bind (made_call FB T hC hN hi (I2.kIn _ _ lF) cF (fun h' ea hm' hle=>?_) hl)
  obtain ⟨t3,at3,_,_⟩:=hm'.there
  have I3:Inv X pins σ (upd H2 ea (excN ea C)) ⟨h',g2,d2,t2,o2⟩:=I2.laid (a:=ea) (o:=excN ea C) (h':=h') (t':=t2) hm'.keeps hle ⟨⟨t3,at3⟩,⟨_,at3⟩,fun h1 h2 ⟨t,et⟩ k=>⟨t,k _ et⟩⟩
  have hsp:=q2 ea (I2.hok.fresh hle)
  have r3:Vals (V.ref ea :: vs) (Value.ref ea :: us):=.cons rfl r2
  have hl3:(Value.ref ea :: us ++ []).length = ps.length:=by
    rw [List.append_nil,← r3.length]
    exact F.len _ _ _ _ hsp
  have hb3:=hb _ (Value.ref ea :: us) I3.kIn hl3
  rw [List.append_nil] at hb3
  rw [List.nil_append]
  refine wpAny_call (codeAny_mono (F.run _ X.stack _ _ ⟨Value.ref ea :: us,[]⟩ (Value.ref ea :: us) _ _ E0 (hr.make C us []) (I3.env0.make C us []) hb3 r3 hsp) fun r s' hq'=>?_)
  cases r with
  | error z=>exact False.elim hq'
  | ok fl=>
    cases fl with
    | ret u=>
      obtain ⟨v,H4,I4,rv,ev,d,eD,qE⟩:=I3.after hq'
      subst ev
      obtain ⟨⟨t4,at4⟩,_,_⟩:=(show ObjOk X.prog X.w H4 s'.heap ea (excD ea C d) from I4.hok ea _ eD)
      exact ⟨rv,wpAny_bind (wpAny_holding (wpAny_point (wpAny_pure ⟨ea,t4,_,rfl,I4.kIn _ _ look,at4,rfl,rfl,hx pins σ H2 H4 _ s' ea d I2 hm'.new I4 eD qE⟩)))⟩
    | next=>exact False.elim hq'
    | brk=>exact False.elim hq'
    | cont=>exact False.elim hq'
end
end L2
set_option maxHeartbeats 1000000
namespace L2
open PySem PySem.Spec PyProof.Rows DictK
def excX (ea C:Addr) (dd:Option Addr):HO:=.ext fun h=>∃ o,h.get? ea = some o∧o.cls = .ref C∧o.dict = dd∧∃ vs,o.data = .fields vs
structure SubD (K:PySem.W.Frag) (C D:Addr):Prop where
  c:∀ h:Heap,K.In h→∃ bm N nm qn bs hdct sn sub ab col dd k0 k1 k2 k3 k5 newId,h.get? C = some (excClassObj nm qn C N bs bm hdct sn sub ab col dd k0 k1 k2 k3 k5 newId)∧∀ v r,PySem.W.mroIn K C v = some r→(Value.ref C :: bm).contains v = r
  d:∃ bmB newId,PySem.W.excIn K D bmB newId = true∧bmB.contains (.type "BaseException") = true
  s:PySem.W.mroIn K C (.ref D) = some true
theorem ExcSub.subD {K:PySem.W.Frag} {C D:Addr} (x:ExcSub K C D):SubD K C D:=by
  obtain ⟨⟨bmB,nid,c1⟩,d,s⟩:=x
  refine ⟨fun h X=>?_,d,s⟩
  obtain ⟨bm,N,nm,qn,bs,hdct,sn,sub,ab,col,dd,k0,k1,k2,k3,k5,oC,TC,mC⟩:=exc_mro X c1
  exact ⟨bm,N,nm,qn,bs,hdct,sn,sub,ab,col,dd,k0,k1,k2,k3,k5,nid,oC,mC⟩
theorem ExcI.subD {K:PySem.W.Frag} {C D fI:Addr} {bmB:List Value} {newId:String} (I0:ExcI K C fI bmB newId) (d:∃ bmB newId,PySem.W.excIn K D bmB newId = true∧bmB.contains (.type "BaseException") = true) (s:PySem.W.mroIn K C (.ref D) = some true):SubD K C D:=by
  obtain ⟨bm,N,nm,qn,bs,sn,sub,ab,col,dd,k0,k1,k2,k3,k5,look,tl,nok,nin⟩:=I0.obj
  refine ⟨fun h X=>⟨bm,N,nm,qn,bs,true,sn,sub,ab,col,dd,k0,k1,k2,k3,k5,newId,X _ _ look,fun v r e=>?_⟩,d,s⟩
  unfold PySem.W.mroIn PySem.W.clsIn at e
  rw [look] at e
  simpa [excClassObj] using e
def TakenD (K:PySem.W.Frag) (D:Addr) (th:Addr→Addr→Option Addr→Hp→Prop):XK:=fun cls dd H'=>∃ C,cls = .ref C∧SubD K C D∧∀ ea,H' ea = none→th ea C dd H'
def tTryD (K:PySem.W.Frag) (D:Addr) (i:Nat) (tb:(St→XK→Prop)→TS) (th:TS):TS:=fun Dn σ H=>
  tb (fun σ' E=>σ' = σ∧E = TakenD K D fun ea C dd H'=>th { nx:=fun σ2 H2=>Dn.nx (σ2.set i none) H2,rt:=Dn.rt,bk:=fun σ2 H2=>Dn.bk (σ2.set i none) H2,ct:=fun σ2 H2=>Dn.ct (σ2.set i none) H2 } (σ.set i (some (.ref ea))) (upd H' ea (excX ea C dd))) Dn σ H
section
variable {X:Cx} {pins:List (Addr × Obj)} {σ:St} {H:Hp} {s:Shared}
theorem Inv.withDict {ea C:Addr} {dd:Option Addr} (I:Inv X pins σ (upd H ea (excO ea C)) s) (d:DictIs s.heap ea dd) (ft:∃ oe vs,s.heap.get? ea = some oe∧oe.data = .fields vs):Inv X pins σ (upd H ea (excX ea C dd)) s:=by
  obtain ⟨o9,vs,e9,d9⟩:=ft
  obtain ⟨⟨o,e1,e2⟩,_,_⟩:=(show ObjOk X.prog X.w (upd H ea (excO ea C)) s.heap ea (excO ea C) from I.hok ea _ upd_same)
  obtain ⟨o',e3,e4⟩:=d
  rw [e1] at e3
  injection e3 with e3
  subst e3
  rw [e1] at e9
  injection e9 with e9
  subst e9
  have J:=I.write (x:=ea) (e:=ea) (o:=excX ea C dd) (h':=s.heap) (t':=s.toks) (by rw [upd_same]; exact True.intro) (.inl rfl) (fun b u _ e=>e) ⟨o,e1⟩ ⟨⟨o,e1,e2,e4,vs,d9⟩,⟨o,e1⟩,fun h1 h2 ⟨o,a,b,c⟩ k=>⟨o,k _ a,b,c⟩⟩
  rw [upd_upd] at J
  exact J
theorem caught_byD {x:Str} {D e:Addr} {a0:Value} {b₀:Stmt} {suite:List Stmt} {name:Option Str} {np hpos:Pos} {H':Hp} {B:Heap} {s':Shared} {C:Addr} {Q:Flow→Shared→Prop} {E:Value→Shared→Prop}
    (hg:Gl X x) (hm:X.mg x = some (.ref D)) (hdb:(x == ("__debug__":Str)) = false) (hst:X.stack = X.env :: X.outer) (hfr:X.env.frame = some X.env.locals)
    (I:Inv X pins σ H s) (hos:s'.os = s.os) (hgen:AllBare s'.gens) (hok:HOk X.prog X.w H' B) (ub:UnB (frs X.stack) H H' s.heap B s'.heap) (hfl:Heap.FlyingW B X.stack e (.ref C) a0 s'.heap) (hs:SubD X.K C D)
    (k:∀ h6,Heap.FlyingW B X.stack e (.ref C) a0 h6→s'.heap.UpToSlots h6→DictK.Kept s'.heap h6→
      codeAny (model X.prog X.w) (X.A.mark (some (.ref e))) (.handlers (.ref e) [.ExceptHandler none name (b₀ :: suite) hpos] X.env) (fun r s₂=>match r with
          | .ok f=>(match name with
            | none=>Q f s₂
            | some n=>wpAny (model X.prog X.w) X.A (do bindName X.env n .none; unbindBehindTheSuite X.env n hpos) (fun _ s₃=>Q f s₃) E s₂)
          | .error x=>cameBackBy (model X.prog X.w) X.A X.env E x s₂) { s' with heap:=h6 }) :
    wpAny (model X.prog X.w) X.A (noteFrame (.ref e) X.env) (fun _ s₂=>wpAny (model X.prog X.w) X.A (setFlight (.ref e) none) (fun _ s₃=>
      wpAny (model X.prog X.w) X.A (handleBy (.ref e) X.env [.ExceptHandler (some (.Name x np)) name (b₀ :: suite) hpos]) Q E s₃) E s₂) E s':=by
  have hfl':=hfl
  rw [hst] at hfl'
  refine wpAny_mono (DictK.kd_any (DictK.kd_note _ _) (wpAny_looks_onW (Q:=fun _ s4=>∃ h4,s4 = { s' with heap:=h4 }∧Heap.HeldW B (X.env :: X.outer) e (.ref C) a0 X.env.locals h4∧s'.heap.UpToSlots h4) (L:=X.env.locals) (by rw [I.ok.frames,hst]) hfr hfl' fun h4 hh4 sm4=>⟨h4,rfl,hh4,sm4⟩)) (fun _ s4 q4=>?_) fun _ _ z=>z
  obtain ⟨⟨h4,e4,hh4,sm4⟩,kp4⟩:=q4
  subst e4
  refine wpAny_mono (DictK.kd_any (DictK.kd_setFlight _ _) (wpAny_landsW (Q:=fun _ s5=>∃ h5,s5 = { s' with heap:=h5 }∧Heap.FlyingW B (X.env :: X.outer) e (.ref C) a0 h5∧h4.UpToSlots h5) hh4 fun h5 hf5 sm5=>⟨h5,rfl,hf5,sm5⟩)) (fun _ s5 q5=>?_) fun _ _ z=>z
  obtain ⟨⟨h5,e5,hf5,sm5⟩,kp5⟩:=q5
  subst e5
  have hf5':=hf5
  rw [← hst] at hf5'
  have I5:=landed_inv I hos hgen hok ub hfl hf5' (sm4.trans sm5)
  refine wpAny_handleBy_cons (codeAny_handlers_test ?_) (by intro z; cases z)
  have I5h:=I5.hand e
  refine ld_glob I5h hg hm ?_ hdb
  obtain ⟨c1,⟨bmD,nid',c2,c3⟩,c4⟩:=hs
  obtain ⟨bm,N,nm,qn,bs,hdct,sn,sub,ab,col,dd,k0,k1,k2,k3,k5,nid,oC,mC⟩:=c1 _ I5.kIn
  obtain ⟨bm',N',nm',qn',bs',hdct',sn',sub',ab',col',dd',l0,l1,l2,l3,l5,oD,TD,mD⟩:=exc_mro I5.kIn c2
  obtain ⟨ob,hob,hobc⟩:=hf5.there
  obtain ⟨hp,gn,dr,tk,os⟩:=s'
  refine matches_own oC oD hob hobc (TD.hasType c3) (mC _ _ c4) ?_
  exact k h5 hf5' (sm4.trans sm5) (kp4.trans kp5)
end
section
variable {X:Cx}
theorem ps_tryD {i:Nat} {n:Str} {body:List Stmt} {tb:(St→XK→Prop)→TS} {x:Str} {D:Addr} {b₀:Stmt} {suite:List Stmt} {th:TS} {np hpos pos:Pos} (hN:X.N.Nodup) (hi:X.N[i]? = some n) (hk:X.env.scope.names.lookup n = some .local)
    (hg:Gl X x) (hm:X.mg x = some (.ref D)) (hdb:(x == ("__debug__":Str)) = false) (hst:X.stack = X.env :: X.outer) (hfr:X.env.frame = some X.env.locals)
    (hb:∀ (xe:Value→Shared→Prop) (pn:List (Addr × Obj)) (Φ:St→XK→Prop),PassesX (X.tried xe pn) Φ→PSs (X.tried xe pn) body (tb Φ))
    (hh:∀ ea,PSs (X.hand ea) (b₀ :: suite) th) :
    PS X (.Try body [.ExceptHandler (some (.Name x np)) (some n) (b₀ :: suite) hpos] [] [] pos) (tTryD X.K D i tb th):=by
  intro pins s σ H Dn I h
  refine wpAny_Try_except ?_
  let Dh:Ends:={ nx:=fun σ2 H2=>Dn.nx (σ2.set i none) H2,rt:=Dn.rt,bk:=fun σ2 H2=>Dn.bk (σ2.set i none) H2,ct:=fun σ2 H2=>Dn.ct (σ2.set i none) H2 }
  let E0:XK:=TakenD X.K D fun ea C dd H'=>th Dh (σ.set i (some (.ref ea))) (upd H' ea (excX ea C dd))
  let xe:Value→Shared→Prop:=fun e s'=>∃ H1 s1,Inv X pins σ H1 s1∧CX1 X.prog X.w X.stack H1 s1 E0 e s'
  have hP:PassesX (X.tried xe (X.pn ++ pins)) (fun σ' E=>σ' = σ∧E = E0):=by
    rintro pins' σ' H1 s1 E e s' I1 ⟨rfl,rfl⟩ hc
    exact ⟨H1,s1,I1.untried I.ok,hc⟩
  have hbody:=hb xe (X.pn ++ pins) _ hP [] s σ H Dn (I.tried xe) h
  have hcls:(X.env.scope.kind == .class || (X.env.scope.kind == .module && X.env.locals != X.env.globals)) = false:=by rw [I.ok.kind]; rfl
  refine wpAny_mono hbody (fun fl s' q=>?_) fun e s' q=>?_
  · cases fl with
    | next=>obtain ⟨σ',H',J,q⟩:=q; exact wpAny_execs_nil ⟨σ',H',J.untried I.ok,q⟩
    | brk=>obtain ⟨σ',H',J,q⟩:=q; exact ⟨σ',H',J.untried I.ok,q⟩
    | cont=>obtain ⟨σ',H',J,q⟩:=q; exact ⟨σ',H',J.untried I.ok,q⟩
    | ret u=>obtain ⟨v,σ',H',J,r,q⟩:=q; exact ⟨v,σ',H',J.untried I.ok,r,q⟩
  · obtain ⟨H1,s1,I1,ea,cls,t,H2,B,dd,rfl,hos,hgen,hfl,hok,ub,dI,C,rfl,hsub,q⟩:=q
    have hn:=hok.untracked hfl.2.1
    refine caught_byD hg hm hdb hst hfr I1 hos hgen hok ub hfl hsub fun h6 hf6 sm6 kp6=>?_
    refine codeAny_handlers_suite_as (wpAny_mono (kd_any (kd_setFlight _ _) (lands_againW (Q:=fun _ s7=>∃ h7,s7 = { s' with heap:=h7 }∧Heap.FlyingW B X.stack ea (.ref C) (.ref t) h7∧h6.UpToSlots h7) (s:={ s' with heap:=h6 }) hf6 fun h7 hf7 sm7=>⟨h7,rfl,hf7,sm7⟩)) (fun _ s7 q7=>?_) fun _ _ z=>z)
    obtain ⟨⟨h7,e7,hf7,sm7⟩,kp7⟩:=q7
    subst e7
    have I7:Inv X pins σ (upd H2 ea (excX ea C dd)) { s' with heap:=h7 }:=(landed_invE I1 hos hgen hok ub hfl hf7 (sm6.trans sm7)).withDict (dI.kept (kp6.trans kp7)) (by obtain ⟨oe,vs,a,_,b,_⟩:=hf7.first; exact ⟨oe,vs,a,b⟩)
    refine store_ok (X:=X.hand ea) (I7.hand ea) hN hi (.inl hk) (v:=.ref ea) (u:=.ref ea) rfl (fun s8 I8=>?_) (.inr hk)
    refine wpAny_mono (hh ea pins s8 _ _ Dh I8 (q ea hn)) (fun fl s9 q9=>?_) (fun _ _ z=>z.elim)
    have goes:∀ {σ':St} {H':Hp} {Q:Shared→Prop},Inv (X.hand ea) pins σ' H' s9→(∀ s10,Inv X pins (σ'.set i none) H' s10→Q s10)→
        wpAny (model X.prog X.w) X.A (do bindName X.env n .none; unbindBehindTheSuite X.env n hpos) (fun _ s₃=>Q s₃) X.xe s9:=fun {σ' H' Q} J k=>by
      have J':=J.unhand I.ok
      obtain ⟨m,hm1,hl1⟩:=id J'.loc
      exact wpAny_nameGoes_keeps hk hm1 hcls fun h' v hn' hs'=>k _ (J'.gone hN hi hm1 hl1 hn' hs')
    cases fl with
    | next=>obtain ⟨σ',H',J,q⟩:=q9; exact goes J fun s10 J10=>⟨_,H',J10,q⟩
    | brk=>obtain ⟨σ',H',J,q⟩:=q9; exact goes J fun s10 J10=>⟨_,H',J10,q⟩
    | cont=>obtain ⟨σ',H',J,q⟩:=q9; exact goes J fun s10 J10=>⟨_,H',J10,q⟩
    | ret u=>obtain ⟨v,σ',H',J,r,q⟩:=q9; exact goes J fun s10 J10=>⟨v,_,H',J10,r,q⟩
end
end L2
set_option maxHeartbeats 1000000
namespace L2
section
open PySem PySem.Spec PyProof.Rows Builtin Builtin.ObjectAttr Builtin.Getset_descriptor
variable {prog:Program} {w:World} {A:Around} {E:Value→Shared→Prop} {K:PySem.W.Frag} {x C d:Addr} {o:Obj} {f:Str} {u:Value} {mA:Str→Option Value}
theorem excD_entry {tk:Tok} {Q:PySem.Fin→Shared→Prop} {s:Shared} (X:K.In s.heap) (hx:s.heap.get? x = some o) (hc:o.cls = .ref C) (hd:o.dict = some d) (ht:∃ vs,o.data = .fields vs) (hcd:∃ cd,PySem.W.clsIn K C = some cd∧cd.hasDict = true) (hn:PySem.W.findIn K (.ref C) f = some none) (hm:s.heap.Ns1 d mA) (hf:mA f = some u) (q:Q (.done (.ret u)) s) :
    wpAny (model prog w) A (Builtin.«object.__getattribute__» ⟨[.ref x,.str f tk],[]⟩) Q E s:=by
  obtain ⟨hh,g,dr,t,os⟩:=s
  have T0:=exc_ty (M:=model prog w) hx hc
  have T1:=PySem.W.looks_findIn (M:=model prog w) X hn
  repeat (any_goals (first | assumption | with_reducible refine T0.at ?_ | with_reducible refine T1.at ?_ | wp_step))
  obtain ⟨vs,ht⟩:=ht
  rw [ht]
  have N0:=hm.ns
  repeat (any_goals (first | assumption | (with_reducible refine wpAny_loadPart_at hx ?_) | wp_step))
  rw [hd,hc]
  obtain ⟨cd,c1,c2⟩:=hcd
  have T3:=PySem.W.looks_clsIn (M:=model prog w) X c1
  have c3:¬ ((!cd.hasDict) = true):=by rw [c2]; decide
  refine wpAny_bind (T3.at ?_); rw [if_neg c3]
  refine wpAny_pure ?_
  show wpAny _ _ (nsGet d f) _ _ _
  refine wpAny_nsGet N0 ?_
  rw [hf]
  repeat (any_goals (first | assumption | wp_step))
theorem excD_get {Q:Value→Shared→Prop} {s:Shared} {b:Bool} (hk:ExcK K C) (X:K.In s.heap) (hx:s.heap.get? x = some o) (hc:o.cls = .ref C) (hd:o.dict = some d) (ht:∃ vs,o.data = .fields vs) (hcd:∃ cd,PySem.W.clsIn K C = some cd∧cd.hasDict = true) (hn:PySem.W.findIn K (.ref C) f = some none) (hm:s.heap.Ns1 d mA) (hf:mA f = some u) (hu:PySem.W.handedIn u = true) (q:Q u { s with toks:=s.toks + 1 }) :
    wpAny (model prog w) A (getAttr (.ref x) f b) Q E s:=by
  obtain ⟨hh,g,dr,t,os⟩:=s
  have T0:=exc_ty (M:=model prog w) hx hc
  have T1:=PySem.W.looks_findIn (M:=model prog w) X hk.ga
  have T2:=PySem.W.looks_findIn (M:=model prog w) X hk.gt
  unfold getAttr getAttrBy
  refine wpAny_bind (wpAny_mkText (wpAny_holding (wpAny_bind (T0.at (wpAny_bind (T1.at ?_))))))
  have FB:=PySem.F.attrBase_ValueError
  have f3:=FB.ga.bind (.ref x)
  have b2:(Value.builtin "BaseException.__getattribute__" == Value.builtin "object.__getattribute__") = false:=by decide +kernel
  dsimp only
  rw [b2,Bool.and_false,if_neg (by decide)]
  unfold getAttrByItsOwn
  repeat (any_goals (first | assumption | with_reducible refine T2.at ?_ | wp_step))
  have b3:¬ ((b && onTheHeap (Value.builtin "BaseException.__getattribute__")) = true):=by cases b <;> decide
  rw [if_neg b3]; unfold boundAndCalled
  repeat (any_goals (first | assumption | wp_step))
  refine codeAny_call_builtin FB.ga.plain F.entry_bexc_ga (exc_check hk X hx hc (excD_entry X hx hc hd ht hcd hn hm hf ?_))
  exact PySem.W.handed_on hu q
end
open PySem PySem.Spec PyProof.Rows
def tExcFld (K:PySem.W.Frag) (C:Addr) (ta:TE) (f:Str):TE:=fun σ H Q=>ta σ H fun x H1=>∃ ea d fs i,x = .ref ea∧H1 ea = some (excX ea C (some d))∧H1 d = some (.xd fs)∧fs.lookup f = some (.int i)∧Q (.int i) H1
section
variable {X:Cx} {o:Expr} {f:Str} {pos:Pos} {ta:TE} {C:Addr}
theorem pe_excFld (ho:PE X o ta) (hk:ExcK X.K C) (hcd:∃ cd,PySem.W.clsIn X.K C = some cd∧cd.hasDict = true) (hn:NoAttr X.K C f) (hb:attributeBase o f X.env (eval o X.env) = eval o X.env):PE X (.Attribute o f pos) (tExcFld X.K C ta f):=by
  intro pins s σ H Q I h
  refine attr_of hb (thn (ho pins s σ H _ I h) fun v s1 ⟨x,H1,I1,rx,ea,d,fs,i,ex,eX,eD,l,q⟩=>?_)
  subst ex
  obtain rfl:v = Value.ref ea:=rx
  obtain ⟨⟨ob,e1,e2,e3,e4⟩,_,_⟩:=(show ObjOk X.prog X.w H1 s1.heap ea (excX ea C (some d)) from I1.hok ea _ eX)
  obtain ⟨mA,nm,rl⟩:=(show ObjOk X.prog X.w H1 s1.heap d (.xd fs) from I1.hok d _ eD)
  have r1:=rl f
  rw [l] at r1
  cases hu:mA f with
  | none=>rw [hu] at r1; exact r1.elim
  | some u=>
    rw [hu] at r1
    obtain ⟨t,rfl⟩:∃ t,u = Value.int i t:=r1
    exact excD_get hk I1.kIn e1 e2 e3 e4 hcd hn nm hu rfl ⟨.int i,H1,I1.tok _,⟨t,rfl⟩,q⟩
end
end L2
set_option maxHeartbeats 1000000
namespace L2
open PySem PySem.Spec PyProof.Rows DictK
def rIsX (K:PySem.W.Frag):List V→Hp→VK→Prop:=fun xs H Q=>∃ ea C dd c b,xs = [.ref ea,c]∧H ea = some (excX ea C dd)∧ExcK K C∧ClsV K H C c b∧Q (.bl b) H
section
variable {X:Cx}
theorem call_isX:CallR X (.builtin "isinstance") (rIsX X.K):=by
  intro pins s σ H xs us Q I r h
  obtain ⟨ea,C,dd,c,b,rfl,hH,hk,hc,q⟩:=h
  obtain ⟨u,w',rfl,ru,rw'⟩:=vals2 r
  obtain rfl:u = Value.ref ea:=ru
  obtain ⟨⟨ob,o1,o2,_⟩,_,_⟩:=(show ObjOk X.prog X.w H s.heap ea (excX ea C dd) from I.hok ea _ hH)
  have ho:ExcAt ea C s.heap:=⟨ob,o1,o2⟩
  rcases hc with ⟨D,rfl,e⟩ | ⟨T,rfl,e⟩ | ⟨p,ds,rfl,hp,e⟩
  · obtain rfl:w' = Value.ref D:=rw'
    exact PySem.W.kia_one (kitx_exc hk) I.kIn ho e (by intro z; cases z) fun tk=>⟨.bl b,H,I.tok tk,rfl,q⟩
  · obtain rfl:w' = Value.type T:=rw'
    exact PySem.W.kia_one (kitx_exc hk) I.kIn ho e (by intro z; cases z) fun tk=>⟨.bl b,H,I.tok tk,rfl,q⟩
  · obtain rfl:w' = Value.ref p:=rw'
    obtain ⟨hz,its,rv,htp⟩:=(show ObjOk X.prog X.w H s.heap p (.tup (ds.map V.ref)) from I.hok p _ hp)
    obtain ⟨o,e1,e2,n,e3⟩:=htp
    rw [← refs_of rv] at e
    obtain ⟨oc,od,oda,osl⟩:=o
    dsimp only at e2 e3
    subst e2 e3
    exact PySem.W.kia_tup (kitx_exc hk) I.kIn ho e1 e (by intro z; cases z) fun tk=>⟨.bl b,H,I.tok tk,rfl,q⟩
theorem isX_go {K:PySem.W.Frag} {H:Hp} {ea C D:Addr} {dd:Option Addr} {b:Bool} {Q:VK} (h:H ea = some (excX ea C dd)) (hk:ExcK K C) (e:PySem.W.kitOne K (.ref C) (.ref D) = some b) (q:Q (.bl b) H):rIsX K [.ref ea,.ref D] H Q:=⟨ea,C,dd,_,b,rfl,h,hk,.inl ⟨D,rfl,e⟩,q⟩
theorem isXT_go {K:PySem.W.Frag} {H:Hp} {ea C:Addr} {dd:Option Addr} {T:String} {b:Bool} {Q:VK} (h:H ea = some (excX ea C dd)) (hk:ExcK K C) (e:PySem.W.kitOne K (.ref C) (.type T) = some b) (q:Q (.bl b) H):rIsX K [.ref ea,.ty T] H Q:=⟨ea,C,dd,_,b,rfl,h,hk,.inr (.inl ⟨T,rfl,e⟩),q⟩
variable {e o value:Expr} {es:List Expr} {t:TA} {ta tv:TE} {x f:Str} {p pos pos' apos cpos np:Pos} {C D fI:Addr} {bmB:List Value} {B newId initId sa owner:String} {E:XK}
theorem ke_excFld (ho:QE X o ta) (hk:ExcK X.K C) (hcd:∃ cd,PySem.W.clsIn X.K C = some cd∧cd.hasDict = true) (hn:NoAttr X.K C f) (hb:attributeBase o f X.env (eval o X.env) = eval o X.env:=by kernel_rfl):QE X (.Attribute o f pos) (tExcFld X.K C ta f):=⟨pe_excFld ho.p hk hcd hn hb⟩
theorem ps_excFld (ha:PE X o ta) (hv:PE X value tv) (SF:StoreFacts B bmB sa owner) (I0:ExcI X.K C fI bmB newId) (f1:PySem.W.findIn X.K (.ref C) "__setattr__" = some (some (.builtin sa))) (f2:NoAttr X.K C f) (hs:swapsWith value (some (.Attribute o f pos')) pos.line X.env = pure false):PS X (.Assign [.Attribute o f pos'] value pos) (sExcFld X.K C ta tv f):=by
  intro pins s σ H D I h
  refine plainObj_wpAny_Assign_Attribute (thn (hv pins s σ H _ I h) fun u s1 ⟨y,H1,I1,ry,q⟩=>thn (ha pins s1 σ H1 _ I1 q) fun ov s2 ⟨z,H2,I2,rz,ea,ez,eH,q2⟩=>?_) hs
  subst ez
  obtain rfl:ov = Value.ref ea:=rz
  exact excFld_ok I2 eH SF I0 f1 f2 ry fun d s3 d1 d2 I3=>⟨σ,_,I3,q2 d d1 d2⟩
theorem ks_excFld (ha:QE X o ta) (hv:QE X value tv) (SF:StoreFacts B bmB sa owner) (I0:ExcI X.K C fI bmB newId) (f1:PySem.W.findIn X.K (.ref C) "__setattr__" = some (some (.builtin sa))) (f2:NoAttr X.K C f) (hs:swapsWith value (some (.Attribute o f pos')) pos.line X.env = pure false:=by kernel_rfl):QS X (.Assign [.Attribute o f pos'] value pos) (sExcFld X.K C ta tv f):=⟨ps_excFld ha.p hv.p SF I0 f1 f2 hs⟩
theorem ke_baseInit {pl:Sem Bool} (F:ExcBaseFacts B newId initId bmB) (I0:ExcI X.K C fI bmB newId) (hm:X.mg x = some (.ref D))
    (h1 : PySem.W.specialIn X.K (.ref D) "__getattribute__" = some (some (.builtin "type.__getattribute__"))) (h2 : PySem.W.readsIn X.K D (.type "type") = true) (h3 : PySem.W.findCls X.K (.ref D) (.type "type") "__init__" = some (.val (.builtin initId))) (h4 : PySem.W.handedIn (.builtin initId) = true)
    (ha:QA X (e :: es) t) (hg:X.env.kindOf x = some .globalImplicit:=by kernel_rfl) (hdb:(x == ("__debug__":Str)) = false:=by kernel_rfl) (he:starEach (e :: es) X.env = (false,eval e X.env) :: starEach es X.env:=by kernel_rfl) (hpl:(backTo pos (starEach es X.env)).any (·.1) = false:=by kernel_rfl)
    (ht:eval (.Call (.Attribute (.Name x p) "__init__" apos) (e :: es) [] pos) X.env = (do
      let ov ← eval (.Name x p) X.env
      standAt apos.atName
      let (f,first) ← holding [ov] (getMethod ov "__init__" pl)
      callWith pos f first (backTo pos (starEach (e :: es) X.env)) (backToKw pos (keywordEach [] X.env))):=by rfl) :
    QE X (.Call (.Attribute (.Name x p) "__init__" apos) (e :: es) [] pos) (tBaseInit X.K C t):=⟨pe_baseInit F I0 hg hm hdb h1 h2 h3 h4 ha.p he hpl ht⟩
theorem ks_raiseD {k:Nat} {fd:FuncData} {ps:List Str} {sp:Sp} (FB:ExcBaseFacts B newId initId bmB) (I0:ExcI X.K C fI bmB newId) (F:FnOk X.prog X.w X.K X.mg X.base CX0 k fI fd ps sp) (hr:Room (k + 1) X.A) (hb:Binds X.K fd ps []) (hm:X.mg x = some (.ref C)) (ha:QA X (e :: es) t)
    (hx:∀ (pins:List (Addr × Obj)) (σ:St) (H1 H2:Hp) (s1 s2:Shared) (ea d:Addr),Inv X pins σ H1 s1→s1.heap.get? ea = none→Inv X pins σ H2 s2→H2 ea = some (excD ea C d)→E (.ref C) (some d) (del H2 ea)→X.xe (.ref ea) s2)
    (hg:X.env.kindOf x = some .globalImplicit:=by kernel_rfl) (hc:X.calm = true:=by kernel_rfl) (hdb:(x == ("__debug__":Str)) = false:=by kernel_rfl) (he:starEach (e :: es) X.env = (false,eval e X.env) :: starEach es X.env:=by kernel_rfl) (hpl:(backTo cpos (starEach es X.env)).any (·.1) = false:=by kernel_rfl) :
    QS X (.Raise (some (.Call (.Name x np) (e :: es) [] cpos)) none pos) (tRaiseD C sp E t):=⟨ps_raiseD FB I0 F hr hb hg hm hc ha.p hx hdb he hpl⟩
theorem ks_tryD {i:Nat} {n x:Str} {body:List Stmt} {tb:(St→XK→Prop)→TS} {D:Addr} {b₀:Stmt} {suite:List Stmt} {th:TS} {np hpos pos:Pos} (hN:X.N.Nodup) (hm:X.mg x = some (.ref D))
    (hb:∀ (xe:Value→Shared→Prop) (pn:List (Addr × Obj)) (Φ:St→XK→Prop),PassesX (X.tried xe pn) Φ→QSs (X.tried xe pn) body (tb Φ)) (hh:∀ ea,QSs (X.hand ea) (b₀ :: suite) th)
    (hi:X.N[i]? = some n:=by kernel_rfl) (hk:X.env.scope.names.lookup n = some .local:=by kernel_rfl)
    (hg:X.env.kindOf x = some .globalImplicit:=by kernel_rfl) (hdb:(x == ("__debug__":Str)) = false:=by kernel_rfl) (hst:X.stack = X.env :: X.outer:=by kernel_rfl) (hfr:X.env.frame = some X.env.locals:=by kernel_rfl) :
    QS X (.Try body [.ExceptHandler (some (.Name x np)) (some n) (b₀ :: suite) hpos] [] [] pos) (tTryD X.K D i tb th):=⟨ps_tryD hN hi hk hg hm hdb hst hfr (fun xe pn Φ hx=>(hb xe pn Φ hx).p) fun ea=>(hh ea).p⟩
end
def spNS (C:Addr):Sp:=fun vs H Q _=>∃ (ea:Addr) (i:Int),vs = [.ref ea,.int i]∧H ea = some (excN ea C)∧i.natAbs.log2 < 1900∧∀ d,H d = none→d ≠ ea→Q .non (upd (upd (upd H ea (excN ea C)) d (.xd [("row",.int i)])) ea (excD ea C d))
def rdNS (K:PySem.W.Frag) (C:Addr) (m:List Nat):TS:=tSeq (tDrop (tBaseInit K C (tCons (tVar 0) (tCons (tFstr [.raw (tC (.str (txt m))),.fmt (tVar 1)]) tNil)))) (sExcFld K C (tVar 0) (tVar 1) "row")
theorem read_ns {K:PySem.W.Frag} {C:Addr} {m:List Nat} {N:List Str} {vs:List V} {H:Hp} {Q:VK} {E:XK} (hm:m.length ≤ 1000) (hN:N.length = 2) (h:spNS C vs H Q E):rdNS K C m { nx:=fun _ H'=>Q .non H',rt:=Q } (L2.start N vs) H:=by
  obtain ⟨ea,i,rfl,eH,hi,q⟩:=h
  unfold rdNS L2.start
  rw [hN]
  refine seq_any fun c hc=>?_
  unfold tBaseInit tFstr
  simp only [tSeq,tDrop,tCons,tNil,tVar,tC,tFp,sExcFld,List.replicate_succ,List.replicate_zero,List.map_cons,List.map_nil,List.cons_append,List.nil_append,List.length_cons,List.length_nil,List.getElem?_cons_zero,List.getElem?_cons_succ,Option.some.injEq,exists_eq_left',exists_eq_left]
  have lz:(Str.ofString (toString i)).cps.toList.length ≤ 1901:=by
    have h1:=int_text_length_le (by decide) hi
    have h2:(Str.ofString (toString i)).cps.toList.length = (toString i).length:=by rw [Array.length_toList]; exact PySem.ofString_length _
    omega
  refine ⟨m,rfl,by omega,(Str.ofString (toString i)).cps.toList,.inr ⟨i,rfl,by omega,rfl⟩,by omega,by rw [List.length_append]; omega,ea,_,rfl,eH,hc _ _ ?_⟩
  clear hc c
  unfold sExcFld
  refine ⟨.int i,rfl,.ref ea,rfl,ea,rfl,upd_same,fun d hd hne=>q d ?_ hne⟩
  rw [upd_ne hne] at hd
  exact hd
end L2
set_option maxHeartbeats 1000000
namespace L2
open PySem PySem.Spec PyProof.Rows DictK
theorem tail_self {K:PySem.W.Frag} {l:List Value}:PySem.W.tailIn K l l = true:=by
  cases l with
  | nil=>unfold PySem.W.tailIn; exact beq_self_eq_true _
  | cons v r=>unfold PySem.W.tailIn; rw [beq_self_eq_true]; rfl
theorem tail_exc {K:PySem.W.Frag} {D:Addr} {bmB:List Value} {newId:String} (x:PySem.W.excIn K D bmB newId = true):PySem.W.tailIn K bmB (.ref D :: bmB) = true:=by
  unfold PySem.W.excIn at x
  split at x
  · rename_i dd cd sl ho
    split at x
    · simp only [Bool.and_eq_true] at x
      obtain ⟨⟨_,h1⟩,h2⟩:=x
      unfold PySem.W.tailIn
      rw [Bool.or_eq_true_iff]
      right
      simp only [ho]
      rw [h1,h2,tail_self]; rfl
    · cases x
  · cases x
theorem excI_mk {K:PySem.W.Frag} {c D f N:Addr} {dd:Option Addr} {nm qn bs sn sub ab col k0 k1 k2 k3 k5} {bmB:List Value} {newId:String}
    (li:K.lookup c = some ⟨.type "type",dd,.cls ⟨nm,bs,.ref c :: .ref D :: bmB,N,qn,true,sn,sub,ab,col,false⟩,#[k0,k1,k2,k3,some (.builtin newId),k5]⟩)
    (xc:PySem.W.excIn K D bmB newId = true) (ni:PySem.W.nsIn K N "__init__" = some (some (.ref f))) (no:PySem.W.nsOkIn K N = true) (i:PySem.W.isFn K (.ref f) = true):ExcI K c f bmB newId:=by
  refine ⟨⟨_,N,nm,qn,bs,sn,sub,ab,col,dd,k0,k1,k2,k3,k5,li,tail_exc xc,no,ni⟩,?_⟩
  unfold PySem.W.isFn at i
  obtain ⟨o,ho,e⟩:=Option.map_eq_some_iff.mp (show (K.lookup f).map (·.cls) = some (.type "function") from beq_iff_eq.mp i)
  exact ⟨o,ho,e⟩
theorem cls_has {K:PySem.W.Frag} {c N:Addr} {dd:Option Addr} {nm qn bs mro sn sub ab col dl sl}
    (li:K.lookup c = some ⟨.type "type",dd,.cls ⟨nm,bs,mro,N,qn,true,sn,sub,ab,col,dl⟩,sl⟩):∃ cd,PySem.W.clsIn K c = some cd∧cd.hasDict = true:=by
  have e:PySem.W.clsIn K c = some ⟨nm,bs,mro,N,qn,true,sn,sub,ab,col,dl⟩:=by unfold PySem.W.clsIn; rw [li]
  exact ⟨_,e,rfl⟩
end L2
namespace MM
end MM
namespace MM
end MM
local macro_rules | `(tactic| and_intros)=>`(tactic| simp only [L2.tRaise,L2.tSeq,L2.tAsg,L2.gName,L2.tOp,L2.tUn,L2.tVar,L2.tC,L2.tTest,L2.tB,L2.tIf,L2.tIfS,L2.tAnd,L2.tOr,L2.tNot,L2.tAndV,L2.tRet,L2.tNext,L2.tDrop,L2.tCB,L2.tCons,L2.tNil,L2.tCall,L2.tLst,L2.tTup,L2.tYes,L2.rI0,L2.rI,L2.rU,L2.rEq,L2.start,L2.compSt,List.map_cons,List.map_nil,List.length_cons,List.length_nil,List.replicate_succ,List.replicate_zero,List.cons_append,List.nil_append,List.append_nil,List.getElem?_cons_zero,List.getElem?_cons_succ,List.set_cons_zero,List.set_cons_succ,Option.some.injEq,Option.join_some,L2.V.int.injEq,L2.V.str.injEq,L2.V.bl.injEq,L2.V.ref.injEq,exists_eq_left',exists_eq_left,exists_and_left,and_true,true_and,decide_eq_true_eq,reduceCtorEq,decide_false,decide_true,Bool.not_false,Bool.not_true,if_true,if_false,Bool.false_eq_true,Nat.reduceAdd,Nat.reduceSub,Bool.not_eq_true',decide_eq_false_iff_not,not_true_eq_false,not_false_eq_true])
local macro_rules | `(tactic| simp? [$t,*])=>`(tactic| simp only [$t,*,L2.tRaise,L2.tSeq,L2.tAsg,L2.gName,L2.tOp,L2.tUn,L2.tVar,L2.tC,L2.tTest,L2.tB,L2.tIf,L2.tIfS,L2.tAnd,L2.tOr,L2.tNot,L2.tAndV,L2.tRet,L2.tNext,L2.tDrop,L2.tCB,L2.tCons,L2.tNil,L2.tCall,L2.tLst,L2.tTup,L2.tYes,L2.rI0,L2.rI,L2.rU,L2.rEq,L2.start,L2.compSt,List.map_cons,List.map_nil,List.length_cons,List.length_nil,List.replicate_succ,List.replicate_zero,List.cons_append,List.nil_append,List.append_nil,List.getElem?_cons_zero,List.getElem?_cons_succ,List.set_cons_zero,List.set_cons_succ,Option.some.injEq,Option.join_some,L2.V.int.injEq,L2.V.str.injEq,L2.V.bl.injEq,L2.V.ref.injEq,exists_eq_left',exists_eq_left,exists_and_left,and_true,true_and,decide_eq_true_eq,reduceCtorEq,decide_false,decide_true,Bool.not_false,Bool.not_true,if_true,if_false,Bool.false_eq_true,Nat.reduceAdd,Nat.reduceSub,Bool.not_eq_true',decide_eq_false_iff_not,not_true_eq_false,not_false_eq_true])
namespace L2
open PySem PySem.Spec PyProof.Rows MM
def spDraw (K:PySem.W.Frag):Sp:=fun vs H Q _=>∃ (a:Addr) (ns:List Int) (k m:Int),vs = [.ref a,.int k,.int m]∧SqL K H a (ns.map V.int)∧ns.length ≤ 63∧0 ≤ k∧k < 1048576∧0 < m∧∀ r:Int,0 ≤ r→r < m→Q (.int r) H
def rdDraw (K:PySem.W.Frag):TS:=
    tSeq (tAsg (tIf (tTest (tOp rGtI (tCB (rLenL K) (tCons (tVar 0) tNil)) (tC (.int 0)))) (tOp (rIxL K) (tVar 0) (tOp rModI (tVar 1) (tCB (rLenL K) (tCons (tVar 0) tNil)))) (tC (.int 0))) (gName 3))
      (tSeq (tIfS (tAnd (tTest (tOp rGtI (tCB (rLenL K) (tCons (tVar 0) tNil)) (tC (.int 0)))) (tTest (tOp rEq (tOp rModI (tOp (rIxL K) (tVar 0) (tC (.int 0))) (tC (.int 2))) (tC (.int 1))))) (tRet (tOp rModI (tOp rModI (tOp rShrI (tVar 3) (tOp rAddI (tOp rMulI (tC (.int 20)) (tOp rDivI (tVar 1) (tCB (rLenL K) (tCons (tVar 0) tNil)))) (tC (.int 1)))) (tC (.int 1048576))) (tVar 2))) (tNext))
      (tSeq (tAsg (tOp rAddI (tOp rAddI (tOp rModI (tVar 3) (tC (.int 1000003))) (tOp rMulI (tOp rMulI (tC (.int 31)) (tVar 1)) (tVar 1))) (tC (.int 1))) (gName 4))
      (tRet (tOp rModI (tOp rModI (tOp rMulI (tOp rModI (tOp rMulI (tVar 4) (tC (.int 48271))) (tC (.int 999983))) (tC (.int 7919))) (tC (.int 524287))) (tVar 2)))))
theorem draw_end {i k m:Int} {Q:Int→Prop} (h0:0 ≤ k) (h1:k < 1048576) (h2:0 < m) (q:∀ r:Int,0 ≤ r→r < m→Q r) :
    (0:Int) < 1000003∧CMulB 31 k∧CMulB (31 * k) k∧CMulB (i % 1000003 + 31 * k * k + 1) 48271∧(0:Int) < 999983∧CMulB ((i % 1000003 + 31 * k * k + 1) * 48271 % 999983) 7919∧(0:Int) < 524287∧0 < m∧
      Q ((i % 1000003 + 31 * k * k + 1) * 48271 % 999983 * 7919 % 524287 % m):=
  ⟨by decide,mulB_l (by decide) (by decide),mulB_r (by omega) (by omega),mulB_r (by decide) (by decide),by decide,mulB_r (by decide) (by decide),by decide,h2,q _ (Int.emod_nonneg _ (by omega)) (Int.emod_lt_of_pos _ h2)⟩
theorem draw_shr {i k m:Int} {x:Int} {Q:Int→Prop} (h0:0 ≤ k) (hx:0 < x) (hx2:x ≤ 63) (h2:0 < m) (q:∀ r:Int,0 ≤ r→r < m→Q r) :
    CDiv k x∧CMulB 20 (k / x)∧0 ≤ 20 * (k / x) + 1∧(0:Int) < 1048576∧0 < m∧Q (i / 2 ^ (20 * (k / x) + 1).toNat % 1048576 % m):=by
  have e:0 ≤ k / x:=Int.ediv_nonneg h0 (by omega)
  exact ⟨cdiv hx (by omega),mulB_l (by decide) (by decide),by omega,by decide,h2,q _ (Int.emod_nonneg _ (by omega)) (Int.emod_lt_of_pos _ h2)⟩
theorem read_draw {K:PySem.W.Frag} {N:List Str} {vs:List V} {H:Hp} {Q:VK} {E:XK} (hN:N.length = 5) (h:spDraw K vs H Q E):rdDraw K { nx:=fun _ H'=>Q .non H',rt:=Q } (L2.start N vs) H:=by
  obtain ⟨a,ns,k,m,rfl,hS,hl,h0,h1,h2,q⟩:=h
  unfold rdDraw L2.start
  rw [hN]
  and_intros
  refine lenI_go hS ⟨_,rfl,?_⟩
  by_cases hn:(0:Int) < (ns.length:Int)
  · rw [if_pos hn]
    refine lenI_go hS ⟨_,rfl,hn,ixI_go hS (Int.emod_nonneg _ (by omega)) (Int.emod_lt_of_pos _ hn) fun z _ _=>?_⟩
    refine lenI_go hS ⟨_,rfl,?_⟩
    rw [if_pos hn]
    refine ixI_go hS (by decide) hn fun z0 _ _=>⟨_,rfl,by decide,rfl,?_⟩
    split
    · refine lenI_go hS ⟨_,rfl,?_⟩
      have:=draw_shr (i:=z) (Q:=fun r=>Q (.int r) H) h0 hn (by omega) h2 q
      exact ⟨this.1,this.2.1,_,rfl,this.2.2⟩
    · exact ⟨_,rfl,draw_end (Q:=fun r=>Q (.int r) H) h0 h1 h2 q⟩
  · rw [if_neg hn]
    refine lenI_go hS ⟨_,rfl,?_⟩
    rw [if_neg hn]
    exact draw_end (Q:=fun r=>Q (.int r) H) h0 h1 h2 q
end L2
namespace K09
open PySem PySem.Spec PyProof.Rows L2 MM
def top (i:Nat):Stmt:=PySem.Challenge.pw_shelfmark_k09_refusals_apart.main.body.getD i (.Pass ⟨0,0,0,0⟩)
abbrev s_p0:Stmt:=inClass (top 9) 0
abbrev s_draw:Stmt:=top 11
abbrev s_raised:Stmt:=top 12
abbrev s_kinds:Stmt:=top 13
abbrev s_field:Stmt:=top 14
abbrev s_good:Stmt:=top 15
abbrev s_law:Stmt:=top 16
structure Ad where
  (c_NoHand c_NoLetters c_NoLine c_NoPlace c_NoRoom c_NoShelf c_NoThing c_ShelfError c_NoState f_p0 f_draw f_raised f_kinds f_field f_good f_law:Addr)
  (fd_p0 fd_draw fd_raised fd_kinds fd_field fd_good fd_law:FuncData)
structure Tx (K:PySem.W.Frag) (mg:Str→Option Value) (a:Ad):Prop where
  n_ValueError:mg "ValueError" = none
  n_isinstance:mg "isinstance" = none
  n_len:mg "len" = none
  n_range:mg "range" = none
  n_str:mg "str" = none
  m_NoHand:mg "NoHand" = some (.ref a.c_NoHand)
  x_NoHand : PySem.W.excIn K a.c_NoHand [.type "ValueError", .type "Exception", .type "BaseException", .type "object"] "ValueError.__new__" = true
  m_NoLetters:mg "NoLetters" = some (.ref a.c_NoLetters)
  x_NoLetters : PySem.W.excIn K a.c_NoLetters [.type "ValueError", .type "Exception", .type "BaseException", .type "object"] "ValueError.__new__" = true
  m_NoLine:mg "NoLine" = some (.ref a.c_NoLine)
  x_NoLine : PySem.W.excIn K a.c_NoLine [.type "ValueError", .type "Exception", .type "BaseException", .type "object"] "ValueError.__new__" = true
  m_NoPlace:mg "NoPlace" = some (.ref a.c_NoPlace)
  x_NoPlace : PySem.W.excIn K a.c_NoPlace [.type "ValueError", .type "Exception", .type "BaseException", .type "object"] "ValueError.__new__" = true
  m_NoRoom:mg "NoRoom" = some (.ref a.c_NoRoom)
  x_NoRoom : PySem.W.excIn K a.c_NoRoom [.type "ValueError", .type "Exception", .type "BaseException", .type "object"] "ValueError.__new__" = true
  m_NoShelf:mg "NoShelf" = some (.ref a.c_NoShelf)
  x_NoShelf : PySem.W.excIn K a.c_NoShelf [.type "ValueError", .type "Exception", .type "BaseException", .type "object"] "ValueError.__new__" = true
  m_NoThing:mg "NoThing" = some (.ref a.c_NoThing)
  x_NoThing : PySem.W.excIn K a.c_NoThing [.type "ValueError", .type "Exception", .type "BaseException", .type "object"] "ValueError.__new__" = true
  m_ShelfError:mg "ShelfError" = some (.ref a.c_ShelfError)
  x_ShelfError : PySem.W.excIn K a.c_ShelfError [.type "ValueError", .type "Exception", .type "BaseException", .type "object"] "ValueError.__new__" = true
  m_NoState:mg "NoState" = some (.ref a.c_NoState)
  e_NoLetters:ExcK K a.c_NoLetters
  e_NoRoom:ExcK K a.c_NoRoom
  e_NoThing:ExcK K a.c_NoThing
  e_NoPlace:ExcK K a.c_NoPlace
  e_NoHand:ExcK K a.c_NoHand
  e_NoShelf:ExcK K a.c_NoShelf
  e_NoLine:ExcK K a.c_NoLine
  e_NoState:ExcK K a.c_NoState
  i_NoState : ExcI K a.c_NoState a.f_p0 [.type "ValueError", .type "Exception", .type "BaseException", .type "object"] "ValueError.__new__"
  sa_NoState:PySem.W.findIn K (.ref a.c_NoState) "__setattr__" = some (some (.builtin "object.__setattr__"))
  nr_NoState:NoAttr K a.c_NoState "row"
  cd_NoState:∃ cd,PySem.W.clsIn K a.c_NoState = some cd∧cd.hasDict = true
  b1_ShelfError:PySem.W.specialIn K (.ref a.c_ShelfError) "__getattribute__" = some (some (.builtin "type.__getattribute__"))
  b2_ShelfError:PySem.W.readsIn K a.c_ShelfError (.type "type") = true
  b3_ShelfError:PySem.W.findCls K (.ref a.c_ShelfError) (.type "type") "__init__" = some (.val (.builtin "ValueError.__init__"))
  j_0:PySem.W.kitOne K (.ref a.c_NoLetters) (.ref a.c_NoLetters) = some true
  j_1:PySem.W.kitOne K (.ref a.c_NoLetters) (.ref a.c_NoRoom) = some false
  j_2:PySem.W.kitOne K (.ref a.c_NoLetters) (.ref a.c_NoThing) = some false
  j_3:PySem.W.kitOne K (.ref a.c_NoLetters) (.ref a.c_NoPlace) = some false
  j_4:PySem.W.kitOne K (.ref a.c_NoLetters) (.ref a.c_NoHand) = some false
  j_5:PySem.W.kitOne K (.ref a.c_NoLetters) (.ref a.c_NoShelf) = some false
  j_6:PySem.W.kitOne K (.ref a.c_NoLetters) (.ref a.c_NoLine) = some false
  j_7:PySem.W.kitOne K (.ref a.c_NoLetters) (.ref a.c_NoState) = some false
  j_8:PySem.W.kitOne K (.ref a.c_NoRoom) (.ref a.c_NoLetters) = some false
  j_9:PySem.W.kitOne K (.ref a.c_NoRoom) (.ref a.c_NoRoom) = some true
  j_10:PySem.W.kitOne K (.ref a.c_NoRoom) (.ref a.c_NoThing) = some false
  j_11:PySem.W.kitOne K (.ref a.c_NoRoom) (.ref a.c_NoPlace) = some false
  j_12:PySem.W.kitOne K (.ref a.c_NoRoom) (.ref a.c_NoHand) = some false
  j_13:PySem.W.kitOne K (.ref a.c_NoRoom) (.ref a.c_NoShelf) = some false
  j_14:PySem.W.kitOne K (.ref a.c_NoRoom) (.ref a.c_NoLine) = some false
  j_15:PySem.W.kitOne K (.ref a.c_NoRoom) (.ref a.c_NoState) = some false
  j_16:PySem.W.kitOne K (.ref a.c_NoThing) (.ref a.c_NoLetters) = some false
  j_17:PySem.W.kitOne K (.ref a.c_NoThing) (.ref a.c_NoRoom) = some false
  j_18:PySem.W.kitOne K (.ref a.c_NoThing) (.ref a.c_NoThing) = some true
  j_19:PySem.W.kitOne K (.ref a.c_NoThing) (.ref a.c_NoPlace) = some false
  j_20:PySem.W.kitOne K (.ref a.c_NoThing) (.ref a.c_NoHand) = some false
  j_21:PySem.W.kitOne K (.ref a.c_NoThing) (.ref a.c_NoShelf) = some false
  j_22:PySem.W.kitOne K (.ref a.c_NoThing) (.ref a.c_NoLine) = some false
  j_23:PySem.W.kitOne K (.ref a.c_NoThing) (.ref a.c_NoState) = some false
  j_24:PySem.W.kitOne K (.ref a.c_NoPlace) (.ref a.c_NoLetters) = some false
  j_25:PySem.W.kitOne K (.ref a.c_NoPlace) (.ref a.c_NoRoom) = some false
  j_26:PySem.W.kitOne K (.ref a.c_NoPlace) (.ref a.c_NoThing) = some false
  j_27:PySem.W.kitOne K (.ref a.c_NoPlace) (.ref a.c_NoPlace) = some true
  j_28:PySem.W.kitOne K (.ref a.c_NoPlace) (.ref a.c_NoHand) = some false
  j_29:PySem.W.kitOne K (.ref a.c_NoPlace) (.ref a.c_NoShelf) = some false
  j_30:PySem.W.kitOne K (.ref a.c_NoPlace) (.ref a.c_NoLine) = some false
  j_31:PySem.W.kitOne K (.ref a.c_NoPlace) (.ref a.c_NoState) = some false
  j_32:PySem.W.kitOne K (.ref a.c_NoHand) (.ref a.c_NoLetters) = some false
  j_33:PySem.W.kitOne K (.ref a.c_NoHand) (.ref a.c_NoRoom) = some false
  j_34:PySem.W.kitOne K (.ref a.c_NoHand) (.ref a.c_NoThing) = some false
  j_35:PySem.W.kitOne K (.ref a.c_NoHand) (.ref a.c_NoPlace) = some false
  j_36:PySem.W.kitOne K (.ref a.c_NoHand) (.ref a.c_NoHand) = some true
  j_37:PySem.W.kitOne K (.ref a.c_NoHand) (.ref a.c_NoShelf) = some false
  j_38:PySem.W.kitOne K (.ref a.c_NoHand) (.ref a.c_NoLine) = some false
  j_39:PySem.W.kitOne K (.ref a.c_NoHand) (.ref a.c_NoState) = some false
  j_40:PySem.W.kitOne K (.ref a.c_NoShelf) (.ref a.c_NoLetters) = some false
  j_41:PySem.W.kitOne K (.ref a.c_NoShelf) (.ref a.c_NoRoom) = some false
  j_42:PySem.W.kitOne K (.ref a.c_NoShelf) (.ref a.c_NoThing) = some false
  j_43:PySem.W.kitOne K (.ref a.c_NoShelf) (.ref a.c_NoPlace) = some false
  j_44:PySem.W.kitOne K (.ref a.c_NoShelf) (.ref a.c_NoHand) = some false
  j_45:PySem.W.kitOne K (.ref a.c_NoShelf) (.ref a.c_NoShelf) = some true
  j_46:PySem.W.kitOne K (.ref a.c_NoShelf) (.ref a.c_NoLine) = some false
  j_47:PySem.W.kitOne K (.ref a.c_NoShelf) (.ref a.c_NoState) = some false
  j_48:PySem.W.kitOne K (.ref a.c_NoLine) (.ref a.c_NoLetters) = some false
  j_49:PySem.W.kitOne K (.ref a.c_NoLine) (.ref a.c_NoRoom) = some false
  j_50:PySem.W.kitOne K (.ref a.c_NoLine) (.ref a.c_NoThing) = some false
  j_51:PySem.W.kitOne K (.ref a.c_NoLine) (.ref a.c_NoPlace) = some false
  j_52:PySem.W.kitOne K (.ref a.c_NoLine) (.ref a.c_NoHand) = some false
  j_53:PySem.W.kitOne K (.ref a.c_NoLine) (.ref a.c_NoShelf) = some false
  j_54:PySem.W.kitOne K (.ref a.c_NoLine) (.ref a.c_NoLine) = some true
  j_55:PySem.W.kitOne K (.ref a.c_NoLine) (.ref a.c_NoState) = some false
  j_56:PySem.W.kitOne K (.ref a.c_NoState) (.ref a.c_NoLetters) = some false
  j_57:PySem.W.kitOne K (.ref a.c_NoState) (.ref a.c_NoRoom) = some false
  j_58:PySem.W.kitOne K (.ref a.c_NoState) (.ref a.c_NoThing) = some false
  j_59:PySem.W.kitOne K (.ref a.c_NoState) (.ref a.c_NoPlace) = some false
  j_60:PySem.W.kitOne K (.ref a.c_NoState) (.ref a.c_NoHand) = some false
  j_61:PySem.W.kitOne K (.ref a.c_NoState) (.ref a.c_NoShelf) = some false
  j_62:PySem.W.kitOne K (.ref a.c_NoState) (.ref a.c_NoLine) = some false
  j_63:PySem.W.kitOne K (.ref a.c_NoState) (.ref a.c_NoState) = some true
  j_64:PySem.W.kitOne K (.ref a.c_NoLetters) (.type "ValueError") = some true
  j_65:PySem.W.kitOne K (.ref a.c_NoRoom) (.type "ValueError") = some true
  j_66:PySem.W.kitOne K (.ref a.c_NoThing) (.type "ValueError") = some true
  j_67:PySem.W.kitOne K (.ref a.c_NoPlace) (.type "ValueError") = some true
  j_68:PySem.W.kitOne K (.ref a.c_NoHand) (.type "ValueError") = some true
  j_69:PySem.W.kitOne K (.ref a.c_NoShelf) (.type "ValueError") = some true
  j_70:PySem.W.kitOne K (.ref a.c_NoLine) (.type "ValueError") = some true
  j_71:PySem.W.kitOne K (.ref a.c_NoState) (.type "ValueError") = some true
  s_NoLetters_ShelfError:PySem.W.mroIn K a.c_NoLetters (.ref a.c_ShelfError) = some true
  s_NoRoom_ShelfError:PySem.W.mroIn K a.c_NoRoom (.ref a.c_ShelfError) = some true
  s_NoThing_ShelfError:PySem.W.mroIn K a.c_NoThing (.ref a.c_ShelfError) = some true
  s_NoPlace_ShelfError:PySem.W.mroIn K a.c_NoPlace (.ref a.c_ShelfError) = some true
  s_NoHand_ShelfError:PySem.W.mroIn K a.c_NoHand (.ref a.c_ShelfError) = some true
  s_NoShelf_ShelfError:PySem.W.mroIn K a.c_NoShelf (.ref a.c_ShelfError) = some true
  s_NoLine_ShelfError:PySem.W.mroIn K a.c_NoLine (.ref a.c_ShelfError) = some true
  s_NoState_ShelfError:PySem.W.mroIn K a.c_NoState (.ref a.c_ShelfError) = some true
  F_p0:Fun K "__init__" "NoState.__init__" s_p0 a.f_p0 a.fd_p0
  b_p0 : Binds K a.fd_p0 ["self", "row"] []
  g_draw:mg "_law_draw" = some (.ref a.f_draw)
  F_draw:Fun K "_law_draw" "_law_draw" s_draw a.f_draw a.fd_draw
  b_draw : Binds K a.fd_draw ["_law_script", "_law_k", "_law_many"] []
  g_raised:mg "_law_raised" = some (.ref a.f_raised)
  F_raised:Fun K "_law_raised" "_law_raised" s_raised a.f_raised a.fd_raised
  b_raised : Binds K a.fd_raised ["_law_k", "_law_words", "_law_number"] []
  g_kinds:mg "_law_kinds" = some (.ref a.f_kinds)
  F_kinds:Fun K "_law_kinds" "_law_kinds" s_kinds a.f_kinds a.fd_kinds
  b_kinds:Binds K a.fd_kinds ["_law_e"] []
  g_field:mg "_law_field" = some (.ref a.f_field)
  F_field:Fun K "_law_field" "_law_field" s_field a.f_field a.fd_field
  b_field:Binds K a.fd_field ["_law_e"] []
  g_good:mg "_law_good" = some (.ref a.f_good)
  F_good:Fun K "_law_good" "_law_good" s_good a.f_good a.fd_good
  b_good : Binds K a.fd_good ["_law_k", "_law_words", "_law_number"] []
  g_law:mg "law" = some (.ref a.f_law)
  F_law:Fun K "law" "law" s_law a.f_law a.fd_law
  b_law:Binds K a.fd_law ["_law_script"] []
end K09
namespace K09
open PySem PySem.Spec PyProof.Rows L2 MM
def kind (a:Ad):Int→Addr
  | 0=>a.c_NoLetters
  | 1=>a.c_NoRoom
  | 2=>a.c_NoThing
  | 3=>a.c_NoPlace
  | 4=>a.c_NoHand
  | 5=>a.c_NoShelf
  | 6=>a.c_NoLine
  | _=>a.c_NoState
def leaves (k n:Int) (H:Hp) (E:Option Addr→Hp→Prop):Prop:=(k = 7→∀ d,H d = none→E (some d) (upd H d (.xd [("row",.int n)])))∧(k ≠ 7→E none H)
def spRaised (a:Ad):Sp:=fun vs H Q E=>∃ (k:Int) (m:List Nat) (n:Int),vs = [.int k,.str (txt m),.int n]∧0 ≤ k∧k ≤ 7∧m.length ≤ 1000∧n.natAbs.log2 < 1900∧leaves k n H (E (.ref (kind a k)))
def spKinds (a:Ad):Sp:=fun vs H Q _=>∃ (ea:Addr) (k:Int) (dd:Option Addr),vs = [.ref ea]∧H ea = some (excX ea (kind a k) dd)∧0 ≤ k∧k ≤ 7∧∀ p H',Same H H'→H' p = some (.lst ((List.range 8).map fun i:Nat=>V.bl (decide ((i:Int) = k))))→Q (.ref p) H'
def spField (a:Ad):Sp:=fun vs H Q _=>∃ (ea:Addr) (k:Int) (dd:Option Addr),vs = [.ref ea]∧H ea = some (excX ea (kind a k) dd)∧0 ≤ k∧k ≤ 7∧(k ≠ 7→Q (.int (-1)) H)∧(k = 7→∃ d n,dd = some d∧H d = some (.xd [("row",.int n)])∧Q (.int n) H)
def spGood (a:Ad):Sp:=fun vs H Q _=>∃ (k:Int) (m:List Nat) (n:Int),vs = [.int k,.str (txt m),.int n]∧0 ≤ k∧k ≤ 7∧m.length ≤ 1000∧n.natAbs.log2 < 1900∧∀ H',Same H H'→Q (.bl true) H'
def spLaw (K:PySem.W.Frag):Sp:=fun vs H Q _=>∃ (a:Addr) (ns:List Int),vs = [.ref a]∧SqL K H a (ns.map V.int)∧ns.length ≤ 63∧∀ H',Q (.bl true) H'
theorem sc_p0 : FnScope ["self", "row"] ["self", "row"] (defScope s_p0) := ⟨rfl, rfl, rfl, by decide +kernel, rfl, by decide +kernel, by decide +kernel⟩
def rd_p0 (K:PySem.W.Frag) (a:Ad):TS:=
    tSeq (tDrop (tBaseInit K a.c_NoState (tCons (tVar 0) (tCons (tFstr [.raw (tC (.str (txt [110,111,32,115,116,97,116,101,44,32,115,101,101,32,114,111,119,32]))),.fmt (tVar 1)]) tNil))))
      (sExcFld K a.c_NoState (tVar 0) (tVar 1) "row")
theorem pr_p0 {P:Program} {w:World} {K:PySem.W.Frag} {mg:Str→Option Value} {base:Heap} {a:Ad} (T:Tx K mg a) {f:Addr} {cdv:Value} {A:Around} {outer:List Env} {s:Shared} {H:Hp} {E:XK} (hr:Room 0 (A.deeper (envOfC "NoState.__init__" (defScope s_p0) s.heap.objs.size f cdv))) :
    QSs (cxOf CX0 P w K mg base ["self", "row"] "NoState.__init__" (defScope s_p0) f cdv A outer s H E).nox (defBody s_p0) (rd_p0 K a) := by
  exact kss_cons (ks_expr (ke_baseInit PySem.F.excBase_ValueError T.i_NoState T.m_ShelfError T.b1_ShelfError T.b2_ShelfError T.b3_ShelfError (by decide +kernel) (ka_cons (kv 0) (ka_cons (ke_fstr (kf_raw (ke_txt (by kernel_rfl)) (kf_fmt (kv 1) kf_nil))) ka_nil))))
      (kss_one (ks_excFld (kv 0) (kv 1) PySem.F.store_ValueError T.i_NoState T.sa_NoState T.nr_NoState))
theorem sc_draw : FnScope ["_law_script", "_law_k", "_law_many", "_law_cell", "_law_seed"] ["_law_script", "_law_k", "_law_many"] (defScope s_draw) := ⟨rfl, rfl, rfl, by decide +kernel, rfl, by decide +kernel, by decide +kernel⟩
def rd_draw (K:PySem.W.Frag) (a:Ad):TS:=
    tSeq (tAsg (tIf (tTest (tOp rGtI (tCB (rLenL K) (tCons (tVar 0) tNil)) (tC (.int 0)))) (tOp (rIxL K) (tVar 0) (tOp rModI (tVar 1) (tCB (rLenL K) (tCons (tVar 0) tNil)))) (tC (.int 0))) (gName 3))
      (tSeq (tIfS (tAnd (tTest (tOp rGtI (tCB (rLenL K) (tCons (tVar 0) tNil)) (tC (.int 0)))) (tTest (tOp rEq (tOp rModI (tOp (rIxL K) (tVar 0) (tC (.int 0))) (tC (.int 2))) (tC (.int 1))))) (tRet (tOp rModI (tOp rModI (tOp rShrI (tVar 3) (tOp rAddI (tOp rMulI (tC (.int 20)) (tOp rDivI (tVar 1) (tCB (rLenL K) (tCons (tVar 0) tNil)))) (tC (.int 1)))) (tC (.int 1048576))) (tVar 2))) (tNext))
      (tSeq (tAsg (tOp rAddI (tOp rAddI (tOp rModI (tVar 3) (tC (.int 1000003))) (tOp rMulI (tOp rMulI (tC (.int 31)) (tVar 1)) (tVar 1))) (tC (.int 1))) (gName 4))
      (tRet (tOp rModI (tOp rModI (tOp rMulI (tOp rModI (tOp rMulI (tVar 4) (tC (.int 48271))) (tC (.int 999983))) (tC (.int 7919))) (tC (.int 524287))) (tVar 2)))))
theorem pr_draw {P:Program} {w:World} {K:PySem.W.Frag} {mg:Str→Option Value} {base:Heap} {a:Ad} (T:Tx K mg a) {f:Addr} {cdv:Value} {A:Around} {outer:List Env} {s:Shared} {H:Hp} {E:XK} (hr:Room 0 (A.deeper (envOfC "_law_draw" (defScope s_draw) s.heap.objs.size f cdv))) :
    QSs (cxOf CX0 P w K mg base ["_law_script", "_law_k", "_law_many", "_law_cell", "_law_seed"] "_law_draw" (defScope s_draw) f cdv A outer s H E).nox (defBody s_draw) (rd_draw K a) := by
  exact kss_cons (ks_set (i:=3) sc_draw.nd (ke_ifExp (kt_cmp op_gt (ke_callB call_len_seq T.n_len PyProof.Rows.Boot.«len» (ka_cons (kv 0) ka_nil)) ke_int) (ke_ix ix_list (kv 0) (ke_op op_mod (kv 1) (ke_callB call_len_seq T.n_len PyProof.Rows.Boot.«len» (ka_cons (kv 0) ka_nil)))) ke_int))
      (kss_cons (ks_if (kt_w (kw_and (kt_cmp op_gt (ke_callB call_len_seq T.n_len PyProof.Rows.Boot.«len» (ka_cons (kv 0) ka_nil)) ke_int) (kw_and1 (kt_cmp op_eq (ke_op op_mod (ke_ix ix_list (kv 0) ke_int) ke_int) ke_int)))) (kss_one (ks_ret (ke_op op_mod (ke_op op_mod (ke_op op_shr (kv 3) (ke_op op_add (ke_op op_mulB ke_int (ke_op op_fdiv (kv 1) (ke_callB call_len_seq T.n_len PyProof.Rows.Boot.«len» (ka_cons (kv 0) ka_nil)))) ke_int)) ke_int) (kv 2)))) (kss_nil))
      (kss_cons (ks_set (i:=4) sc_draw.nd (ke_op op_add (ke_op op_add (ke_op op_mod (kv 3) ke_int) (ke_op op_mulB (ke_op op_mulB ke_int (kv 1)) (kv 1))) ke_int))
      (kss_one (ks_ret (ke_op op_mod (ke_op op_mod (ke_op op_mulB (ke_op op_mod (ke_op op_mulB (kv 4) ke_int) ke_int) ke_int) ke_int) (kv 2))))))
theorem sc_raised : FnScope ["_law_k", "_law_words", "_law_number"] ["_law_k", "_law_words", "_law_number"] (defScope s_raised) := ⟨rfl, rfl, rfl, by decide +kernel, rfl, by decide +kernel, by decide +kernel⟩
def rd_raised (K:PySem.W.Frag) (a:Ad) (E:XK):TS:=
    tSeq (tIfS (tTest (tOp rEq (tVar 0) (tC (.int 0)))) (tRaise (.ref a.c_NoLetters) E (tCons (tVar 1) tNil)) (tNext))
      (tSeq (tIfS (tTest (tOp rEq (tVar 0) (tC (.int 1)))) (tRaise (.ref a.c_NoRoom) E (tCons (tVar 1) tNil)) (tNext))
      (tSeq (tIfS (tTest (tOp rEq (tVar 0) (tC (.int 2)))) (tRaise (.ref a.c_NoThing) E (tCons (tVar 1) tNil)) (tNext))
      (tSeq (tIfS (tTest (tOp rEq (tVar 0) (tC (.int 3)))) (tRaise (.ref a.c_NoPlace) E (tCons (tVar 1) tNil)) (tNext))
      (tSeq (tIfS (tTest (tOp rEq (tVar 0) (tC (.int 4)))) (tRaise (.ref a.c_NoHand) E (tCons (tVar 1) tNil)) (tNext))
      (tSeq (tIfS (tTest (tOp rEq (tVar 0) (tC (.int 5)))) (tRaise (.ref a.c_NoShelf) E (tCons (tVar 1) tNil)) (tNext))
      (tSeq (tIfS (tTest (tOp rEq (tVar 0) (tC (.int 6)))) (tRaise (.ref a.c_NoLine) E (tCons (tVar 1) tNil)) (tNext))
      (tSeq (tIfS (tTest (tOp rEq (tVar 0) (tC (.int 7)))) (tRaiseD a.c_NoState (spNS a.c_NoState) E (tCons (tVar 2) tNil)) (tNext))
      (tRet (tVar 0)))))))))
theorem pr_raised {P : Program} {w : World} {K : PySem.W.Frag} {mg : Str → Option Value} {base : Heap} {a : Ad} (T : Tx K mg a) (G_p0 : FnOk P w K mg base CX0 1 a.f_p0 a.fd_p0 ["self", "row"] (spNS a.c_NoState)) {f : Addr} {cdv : Value} {A : Around} {outer : List Env} {s : Shared} {H : Hp} {E : XK} (hr : Room 2 (A.deeper (envOfC "_law_raised" (defScope s_raised) s.heap.objs.size f cdv))) :
    QSs (cxOf (CX1 P w) P w K mg base ["_law_k", "_law_words", "_law_number"] "_law_raised" (defScope s_raised) f cdv A outer s H E) (defBody s_raised) (rd_raised K a E) := by
  exact kss_cons (ks_if (kt_cmp op_eq (kv 0) ke_int) (kss_one (ks_raise PySem.F.excBase_ValueError T.x_NoLetters T.m_NoLetters (ka_cons (kv 1) ka_nil) (fun _ _ _ _ _ _ _ I m q=>made_def I m q))) (kss_nil))
      (kss_cons (ks_if (kt_cmp op_eq (kv 0) ke_int) (kss_one (ks_raise PySem.F.excBase_ValueError T.x_NoRoom T.m_NoRoom (ka_cons (kv 1) ka_nil) (fun _ _ _ _ _ _ _ I m q=>made_def I m q))) (kss_nil))
      (kss_cons (ks_if (kt_cmp op_eq (kv 0) ke_int) (kss_one (ks_raise PySem.F.excBase_ValueError T.x_NoThing T.m_NoThing (ka_cons (kv 1) ka_nil) (fun _ _ _ _ _ _ _ I m q=>made_def I m q))) (kss_nil))
      (kss_cons (ks_if (kt_cmp op_eq (kv 0) ke_int) (kss_one (ks_raise PySem.F.excBase_ValueError T.x_NoPlace T.m_NoPlace (ka_cons (kv 1) ka_nil) (fun _ _ _ _ _ _ _ I m q=>made_def I m q))) (kss_nil))
      (kss_cons (ks_if (kt_cmp op_eq (kv 0) ke_int) (kss_one (ks_raise PySem.F.excBase_ValueError T.x_NoHand T.m_NoHand (ka_cons (kv 1) ka_nil) (fun _ _ _ _ _ _ _ I m q=>made_def I m q))) (kss_nil))
      (kss_cons (ks_if (kt_cmp op_eq (kv 0) ke_int) (kss_one (ks_raise PySem.F.excBase_ValueError T.x_NoShelf T.m_NoShelf (ka_cons (kv 1) ka_nil) (fun _ _ _ _ _ _ _ I m q=>made_def I m q))) (kss_nil))
      (kss_cons (ks_if (kt_cmp op_eq (kv 0) ke_int) (kss_one (ks_raise PySem.F.excBase_ValueError T.x_NoLine T.m_NoLine (ka_cons (kv 1) ka_nil) (fun _ _ _ _ _ _ _ I m q=>made_def I m q))) (kss_nil))
      (kss_cons (ks_if (kt_cmp op_eq (kv 0) ke_int) (kss_one (ks_raiseD PySem.F.excBase_ValueError T.i_NoState G_p0 (by exact hr.mono (by decide)) T.b_p0 T.m_NoState (ka_cons (kv 2) ka_nil) (fun _ _ _ _ _ _ _ _ I1 hn I eD q=>made_defD I1 hn I eD q))) (kss_nil))
      (kss_one (ks_nox (ks_ret (kv 0)))))))))))
theorem sc_kinds : FnScope ["_law_e", "_law_first", "_law_second"] ["_law_e"] (defScope s_kinds) := ⟨rfl, rfl, rfl, by decide +kernel, rfl, by decide +kernel, by decide +kernel⟩
def rd_kinds (K:PySem.W.Frag) (a:Ad):TS:=
    tSeq (tAsg (tLst (tCons (tCB (rIsX K) (tCons (tVar 0) (tCons (tC (.ref a.c_NoLetters)) tNil))) (tCons (tCB (rIsX K) (tCons (tVar 0) (tCons (tC (.ref a.c_NoRoom)) tNil))) (tCons (tCB (rIsX K) (tCons (tVar 0) (tCons (tC (.ref a.c_NoThing)) tNil))) (tCons (tCB (rIsX K) (tCons (tVar 0) (tCons (tC (.ref a.c_NoPlace)) tNil))) tNil))))) (gName 1))
      (tSeq (tAsg (tLst (tCons (tCB (rIsX K) (tCons (tVar 0) (tCons (tC (.ref a.c_NoHand)) tNil))) (tCons (tCB (rIsX K) (tCons (tVar 0) (tCons (tC (.ref a.c_NoShelf)) tNil))) (tCons (tCB (rIsX K) (tCons (tVar 0) (tCons (tC (.ref a.c_NoLine)) tNil))) (tCons (tCB (rIsX K) (tCons (tVar 0) (tCons (tC (.ref a.c_NoState)) tNil))) tNil))))) (gName 2))
      (tRet (tOp rCat (tVar 1) (tVar 2))))
theorem pr_kinds {P:Program} {w:World} {K:PySem.W.Frag} {mg:Str→Option Value} {base:Heap} {a:Ad} (T:Tx K mg a) {f:Addr} {cdv:Value} {A:Around} {outer:List Env} {s:Shared} {H:Hp} {E:XK} {ea:Addr} :
    QSs (cxH P w K mg base ["_law_e", "_law_first", "_law_second"] "_law_kinds" (defScope s_kinds) f cdv A outer s H E ea) (defBody s_kinds) (rd_kinds K a) := by
  exact kss_cons (ks_set (i:=1) sc_kinds.nd (ke_lst (ka_cons (ke_callB call_isX T.n_isinstance PyProof.Rows.Boot.«isinstance» (ka_cons (kv 0) (ka_cons (ke_cls T.m_NoLetters) ka_nil))) (ka_cons (ke_callB call_isX T.n_isinstance PyProof.Rows.Boot.«isinstance» (ka_cons (kv 0) (ka_cons (ke_cls T.m_NoRoom) ka_nil))) (ka_cons (ke_callB call_isX T.n_isinstance PyProof.Rows.Boot.«isinstance» (ka_cons (kv 0) (ka_cons (ke_cls T.m_NoThing) ka_nil))) (ka_cons (ke_callB call_isX T.n_isinstance PyProof.Rows.Boot.«isinstance» (ka_cons (kv 0) (ka_cons (ke_cls T.m_NoPlace) ka_nil))) ka_nil))))))
      (kss_cons (ks_set (i:=2) sc_kinds.nd (ke_lst (ka_cons (ke_callB call_isX T.n_isinstance PyProof.Rows.Boot.«isinstance» (ka_cons (kv 0) (ka_cons (ke_cls T.m_NoHand) ka_nil))) (ka_cons (ke_callB call_isX T.n_isinstance PyProof.Rows.Boot.«isinstance» (ka_cons (kv 0) (ka_cons (ke_cls T.m_NoShelf) ka_nil))) (ka_cons (ke_callB call_isX T.n_isinstance PyProof.Rows.Boot.«isinstance» (ka_cons (kv 0) (ka_cons (ke_cls T.m_NoLine) ka_nil))) (ka_cons (ke_callB call_isX T.n_isinstance PyProof.Rows.Boot.«isinstance» (ka_cons (kv 0) (ka_cons (ke_cls T.m_NoState) ka_nil))) ka_nil))))))
      (kss_one (ks_ret (ke_op op_cat (kv 1) (kv 2)))))
theorem sc_field:FnScope ["_law_e"] ["_law_e"] (defScope s_field):=⟨rfl,rfl,rfl,by decide +kernel,rfl,by decide +kernel,by decide +kernel⟩
def rd_field (K:PySem.W.Frag) (a:Ad):TS:=
    tSeq (tIfS (tB (tCB (rIsX K) (tCons (tVar 0) (tCons (tC (.ref a.c_NoState)) tNil)))) (tRet (tExcFld K a.c_NoState (tVar 0) "row")) (tNext))
      (tRet (tUn rNegI (tC (.int 1))))
theorem pr_field {P:Program} {w:World} {K:PySem.W.Frag} {mg:Str→Option Value} {base:Heap} {a:Ad} (T:Tx K mg a) {f:Addr} {cdv:Value} {A:Around} {outer:List Env} {s:Shared} {H:Hp} {E:XK} {ea:Addr} :
    QSs (cxH P w K mg base ["_law_e"] "_law_field" (defScope s_field) f cdv A outer s H E ea) (defBody s_field) (rd_field K a):=by
  exact kss_cons (ks_if (kt_val (ke_callB call_isX T.n_isinstance PyProof.Rows.Boot.«isinstance» (ka_cons (kv 0) (ka_cons (ke_cls T.m_NoState) ka_nil)))) (kss_one (ks_ret (ke_excFld (kv 0) T.e_NoState T.cd_NoState T.nr_NoState))) (kss_nil))
      (kss_one (ks_ret (ke_un un_neg ke_int)))
theorem sc_good : FnScope ["_law_k", "_law_words", "_law_number", "_law_told", "_law_e", "_law_field_here"] ["_law_k", "_law_words", "_law_number"] (defScope s_good) := ⟨rfl, rfl, rfl, by decide +kernel, rfl, by decide +kernel, by decide +kernel⟩
def rd_good (K:PySem.W.Frag) (a:Ad):TS:=
    tSeq (tAsg (tTup (tCons (tLst tNil) (tCons (tUn rNegI (tC (.int 2))) (tCons (tC (.bl false)) tNil)))) (gName 3))
      (tSeq (tTryD K a.c_ShelfError 4 (fun Φ=>tDrop (tCallX (spRaised a) Φ (tCons (tVar 0) (tCons (tVar 1) (tCons (tVar 2) tNil))))) (tAsg (tTup (tCons (tCall (spKinds a) [] E0 (tCons (tVar 4) tNil)) (tCons (tCall (spField a) [] E0 (tCons (tVar 4) tNil)) (tCons (tCB (rIsX K) (tCons (tVar 4) (tCons (tC (.ty "ValueError")) tNil))) tNil)))) (gName 3)))
      (tSeq (tAsg (tUn rNegI (tC (.int 1))) (gName 5))
      (tSeq (tIfS (tTest (tOp rEq (tVar 0) (tC (.int 7)))) (tAsg (tVar 2) (gName 5)) (tNext))
      (tRet (tAndV (tOp (rEqD K) (tOp (rIxT K) (tVar 3) (tC (.int 0))) (tComp (iRng1 (tCons (tC (.int 8)) tNil)) [0] tYes (tOp rEq (tVar 0) (tVar 1)))) (tAndV (tOp (rIxT K) (tVar 3) (tC (.int 2))) (tOp rEq (tOp (rIxT K) (tVar 3) (tC (.int 1))) (tVar 5))))))))
theorem pr_good {P : Program} {w : World} {K : PySem.W.Frag} {mg : Str → Option Value} {base : Heap} {a : Ad} (T : Tx K mg a) (G_raised : FnOk P w K mg base (CX1 P w) 3 a.f_raised a.fd_raised ["_law_k", "_law_words", "_law_number"] (spRaised a)) (G_field : FnOkH P w K mg base  1 a.f_field a.fd_field ["_law_e"] (spField a)) (G_kinds : FnOkH P w K mg base  1 a.f_kinds a.fd_kinds ["_law_e"] (spKinds a)) {f : Addr} {cdv : Value} {A : Around} {outer : List Env} {s : Shared} {H : Hp} {E : XK} (hr : Room 3 (A.deeper (envOfC "_law_good" (defScope s_good) s.heap.objs.size f cdv))) :
    QSs (cxOf CX0 P w K mg base ["_law_k", "_law_words", "_law_number", "_law_told", "_law_e", "_law_field_here"] "_law_good" (defScope s_good) f cdv A outer s H E).nox (defBody s_good) (rd_good K a) := by
  have hu:=Room.units hr
  exact kss_cons (ks_set (i:=3) sc_good.nd (ke_tup (ka_cons (ke_lst ka_nil) (ka_cons (ke_un un_neg ke_int) (ka_cons ke_bl ka_nil)))))
      (kss_cons (ks_tryD (i:=4) sc_good.nd T.m_ShelfError (fun _ _ _ hx=>kss_one (ks_expr (ke_callX G_raised (by exact hr.mono (by decide)) T.g_raised T.F_raised.kp T.b_raised hx (ka_cons (kvc 0) (ka_cons (kv 1) (ka_cons (kv 2) ka_nil)))))) (fun _=>kss_one (ks_set (i:=3) sc_good.nd (ke_tup (ka_cons (ke_callH G_kinds (by exact (hr.mono (by decide)).toH _) T.g_kinds T.F_kinds.kp T.b_kinds (ka_cons (kv 4) ka_nil)) (ka_cons (ke_callH G_field (by exact (hr.mono (by decide)).toH _) T.g_field T.F_field.kp T.b_field (ka_cons (kv 4) ka_nil)) (ka_cons (ke_callB call_isX T.n_isinstance PyProof.Rows.Boot.«isinstance» (ka_cons (kv 4) (ka_cons (ke_ty T.n_ValueError PyProof.Rows.Boot.«ValueError») ka_nil))) ka_nil)))))))
      (kss_cons (ks_set (i:=5) sc_good.nd (ke_un un_neg ke_int))
      (kss_cons (ks_if (kt_cmp op_eq (kvc 0) ke_int) (kss_one (ks_set (i:=5) sc_good.nd (kv 2))) (kss_nil))
      (kss_one (ks_ret (ke_and (ke_cmp (op_eqD hu) (ke_ix ix_tup (kv 3) ke_int) (ke_comp [("_law_k",0)] (ki_range1 T.n_range (ka_cons ke_int ka_nil)) (fun _ _ _ _ _=>⟨kts_nil,ke_cmp op_eq (kv 0) (kvc 1)⟩))) (ke_and (ke_ix ix_tup (kv 3) ke_int) (ke_one (ke_cmp op_eq (ke_ix ix_tup (kv 3) ke_int) (kv 5))))))))))
theorem sc_law : FnScope ["_law_script", "_law_words", "_law_number", "_law_first", "_law_k"] ["_law_script"] (defScope s_law) := ⟨rfl, rfl, rfl, by decide +kernel, rfl, by decide +kernel, by decide +kernel⟩
def rd_law (K:PySem.W.Frag) (a:Ad):TS:=
    tSeq (tAsg (tC (.str (txt []))) (gName 1))
      (tSeq (tAsg (tC (.int 0)) (gName 2))
      (tSeq (tIfS (tTest (tOp rGtI (tCB (rLenL K) (tCons (tVar 0) tNil)) (tC (.int 0)))) (tSeq (tAsg (tCB rStrI (tCons (tOp rModI (tOp (rIxL K) (tVar 0) (tC (.int 0))) (tOp rPowI (tC (.int 10)) (tC (.int 9)))) tNil)) (gName 1))
      (tAsg (tOp rModI (tOp (rIxL K) (tVar 0) (tOp rDivI (tCB (rLenL K) (tCons (tVar 0) tNil)) (tC (.int 2)))) (tOp rPowI (tC (.int 10)) (tC (.int 18)))) (gName 2))) (tNext))
      (tSeq (tAsg (tCall (spDraw K) [] E0 (tCons (tVar 0) (tCons (tC (.int 0)) (tCons (tC (.int 8)) tNil)))) (gName 3))
      (tSeq (tFor (iRng1 (tCons (tC (.int 8)) tNil)) (gName 4) (tIfS (tOr (tNot (tB (tCall (spGood a) [] E0 (tCons (tOp rModI (tOp rAddI (tVar 4) (tVar 3)) (tC (.int 8))) (tCons (tVar 1) (tCons (tVar 2) tNil)))))) (tNot (tB (tCall (spGood a) [] E0 (tCons (tVar 4) (tCons (tC (.str (txt []))) (tCons (tC (.int 0)) tNil))))))) (tRet (tC (.bl false))) (tNext)))
      (tRet (tC (.bl true)))))))
theorem pr_law {P : Program} {w : World} {K : PySem.W.Frag} {mg : Str → Option Value} {base : Heap} {a : Ad} (T : Tx K mg a) (G_draw : FnOk P w K mg base CX0 1 a.f_draw a.fd_draw ["_law_script", "_law_k", "_law_many"] (spDraw K)) (G_good : FnOk P w K mg base CX0 4 a.f_good a.fd_good ["_law_k", "_law_words", "_law_number"] (spGood a)) {f : Addr} {cdv : Value} {A : Around} {outer : List Env} {s : Shared} {H : Hp} {E : XK} (hr : Room 4 (A.deeper (envOfC "law" (defScope s_law) s.heap.objs.size f cdv))) :
    QSs (cxOf CX0 P w K mg base ["_law_script", "_law_words", "_law_number", "_law_first", "_law_k"] "law" (defScope s_law) f cdv A outer s H E).nox (defBody s_law) (rd_law K a) := by
  exact kss_cons (ks_set (i:=1) sc_law.nd (ke_txt (by kernel_rfl)))
      (kss_cons (ks_set (i:=2) sc_law.nd ke_int)
      (kss_cons (ks_if (kt_cmp op_gt (ke_callB call_len_seq T.n_len PyProof.Rows.Boot.«len» (ka_cons (kv 0) ka_nil)) ke_int) (kss_cons (ks_set (i:=1) sc_law.nd (ke_callTy call_str_int T.n_str PyProof.Rows.Boot.«str» (ka_cons (ke_op op_mod (ke_ix ix_list (kv 0) ke_int) (ke_op op_pow ke_int ke_int)) ka_nil)))
      (kss_one (ks_set (i:=2) sc_law.nd (ke_op op_mod (ke_ix ix_list (kv 0) (ke_op op_fdiv (ke_callB call_len_seq T.n_len PyProof.Rows.Boot.«len» (ka_cons (kv 0) ka_nil)) ke_int)) (ke_op op_pow ke_int ke_int))))) (kss_nil))
      (kss_cons (ks_set (i:=3) sc_law.nd (ke_call G_draw (by exact hr.mono (by decide)) T.g_draw T.F_draw.kp T.b_draw pass0 (ka_cons (kv 0) (ka_cons ke_int (ka_cons ke_int ka_nil)))))
      (kss_cons (ks_for (ki_range1 T.n_range (ka_cons ke_int ka_nil)) (kg_name (i:=4) sc_law.nd) (kss_one (ks_if (kt_w (kw_or (kt_not (kt_val (ke_call G_good (by exact hr.mono (by decide)) T.g_good T.F_good.kp T.b_good pass0 (ka_cons (ke_op op_mod (ke_op op_add (kv 4) (kv 3)) ke_int) (ka_cons (kv 1) (ka_cons (kv 2) ka_nil)))))) (kw_or1 (kt_not (kt_val (ke_call G_good (by exact hr.mono (by decide)) T.g_good T.F_good.kp T.b_good pass0 (ka_cons (kv 4) (ka_cons (ke_txt (by kernel_rfl)) (ka_cons ke_int ka_nil))))))))) (kss_one (ks_ret ke_bl)) (kss_nil))))
      (kss_one (ks_ret ke_bl))))))
end K09
namespace K09
open PySem PySem.Spec PyProof.Rows L2 MM
variable {K:PySem.W.Frag} {mg:Str→Option Value} {a:Ad}
structure Kd (K:PySem.W.Frag) (a:Ad) (k:Int):Prop where
  x:ExcK K (kind a k)
  s:SubD K (kind a k) a.c_ShelfError
  v:PySem.W.kitOne K (.ref (kind a k)) (.type "ValueError") = some true
  q0:PySem.W.kitOne K (.ref (kind a k)) (.ref a.c_NoLetters) = some (decide ((0:Int) = k))
  q1:PySem.W.kitOne K (.ref (kind a k)) (.ref a.c_NoRoom) = some (decide ((1:Int) = k))
  q2:PySem.W.kitOne K (.ref (kind a k)) (.ref a.c_NoThing) = some (decide ((2:Int) = k))
  q3:PySem.W.kitOne K (.ref (kind a k)) (.ref a.c_NoPlace) = some (decide ((3:Int) = k))
  q4:PySem.W.kitOne K (.ref (kind a k)) (.ref a.c_NoHand) = some (decide ((4:Int) = k))
  q5:PySem.W.kitOne K (.ref (kind a k)) (.ref a.c_NoShelf) = some (decide ((5:Int) = k))
  q6:PySem.W.kitOne K (.ref (kind a k)) (.ref a.c_NoLine) = some (decide ((6:Int) = k))
  q7:PySem.W.kitOne K (.ref (kind a k)) (.ref a.c_NoState) = some (decide ((7:Int) = k))
theorem kd (T:Tx K mg a) {k:Int} (h0:0 ≤ k) (h7:k ≤ 7):Kd K a k:=by
  have e:k = 0 ∨ k = 1 ∨ k = 2 ∨ k = 3 ∨ k = 4 ∨ k = 5 ∨ k = 6 ∨ k = 7:=by omega
  rcases e with rfl | rfl | rfl | rfl | rfl | rfl | rfl | rfl
  · exact ⟨T.e_NoLetters,ExcSub.subD ⟨⟨_,_,T.x_NoLetters⟩,⟨_,_,T.x_ShelfError,rfl⟩,T.s_NoLetters_ShelfError⟩,T.j_64,T.j_0,T.j_1,T.j_2,T.j_3,T.j_4,T.j_5,T.j_6,T.j_7⟩
  · exact ⟨T.e_NoRoom,ExcSub.subD ⟨⟨_,_,T.x_NoRoom⟩,⟨_,_,T.x_ShelfError,rfl⟩,T.s_NoRoom_ShelfError⟩,T.j_65,T.j_8,T.j_9,T.j_10,T.j_11,T.j_12,T.j_13,T.j_14,T.j_15⟩
  · exact ⟨T.e_NoThing,ExcSub.subD ⟨⟨_,_,T.x_NoThing⟩,⟨_,_,T.x_ShelfError,rfl⟩,T.s_NoThing_ShelfError⟩,T.j_66,T.j_16,T.j_17,T.j_18,T.j_19,T.j_20,T.j_21,T.j_22,T.j_23⟩
  · exact ⟨T.e_NoPlace,ExcSub.subD ⟨⟨_,_,T.x_NoPlace⟩,⟨_,_,T.x_ShelfError,rfl⟩,T.s_NoPlace_ShelfError⟩,T.j_67,T.j_24,T.j_25,T.j_26,T.j_27,T.j_28,T.j_29,T.j_30,T.j_31⟩
  · exact ⟨T.e_NoHand,ExcSub.subD ⟨⟨_,_,T.x_NoHand⟩,⟨_,_,T.x_ShelfError,rfl⟩,T.s_NoHand_ShelfError⟩,T.j_68,T.j_32,T.j_33,T.j_34,T.j_35,T.j_36,T.j_37,T.j_38,T.j_39⟩
  · exact ⟨T.e_NoShelf,ExcSub.subD ⟨⟨_,_,T.x_NoShelf⟩,⟨_,_,T.x_ShelfError,rfl⟩,T.s_NoShelf_ShelfError⟩,T.j_69,T.j_40,T.j_41,T.j_42,T.j_43,T.j_44,T.j_45,T.j_46,T.j_47⟩
  · exact ⟨T.e_NoLine,ExcSub.subD ⟨⟨_,_,T.x_NoLine⟩,⟨_,_,T.x_ShelfError,rfl⟩,T.s_NoLine_ShelfError⟩,T.j_70,T.j_48,T.j_49,T.j_50,T.j_51,T.j_52,T.j_53,T.j_54,T.j_55⟩
  · exact ⟨T.e_NoState,T.i_NoState.subD ⟨_,_,T.x_ShelfError,rfl⟩ T.s_NoState_ShelfError,T.j_71,T.j_56,T.j_57,T.j_58,T.j_59,T.j_60,T.j_61,T.j_62,T.j_63⟩
theorem read_raised {N:List Str} {vs:List V} {H:Hp} {Q:VK} {E:XK} (T:Tx K mg a) (hN:N.length = 3) (h:spRaised a vs H Q E):rd_raised K a E { nx:=fun _ H'=>Q .non H',rt:=Q } (L2.start N vs) H:=by
  obtain ⟨k,m,n,rfl,h0,h7,hm,hn,hl⟩:=h
  unfold rd_raised L2.start
  rw [hN]
  have e:k = 0 ∨ k = 1 ∨ k = 2 ∨ k = 3 ∨ k = 4 ∨ k = 5 ∨ k = 6 ∨ k = 7:=by omega
  rcases e with rfl | rfl | rfl | rfl | rfl | rfl | rfl | rfl
  all_goals simp only [tCompSet,tRaise,tIsi,tSeq,tAsg,gName,tOp,tUn,tVar,tC,tTest,tB,tIf,tIfS,tAnd,tOr,tNot,tAndV,tOrV,tNotV,tRet,tRetN,tNext,tDrop,tCB,tCons,tNil,tBM,tBM0,tCall,tLst,tTup,tSl,tPart,tNoPart,tIsN,tNotN,tYes,tBreak,tCont,rI0,rI,rU,rEq,rNe,L2.start,compSt,List.map_cons,List.map_nil,List.length_cons,List.length_nil,List.replicate_succ,List.replicate_zero,List.cons_append,List.nil_append,List.append_nil,List.getElem?_cons_zero,List.getElem?_cons_succ,List.set_cons_zero,List.set_cons_succ,Option.some.injEq,Option.join_some,V.int.injEq,V.str.injEq,V.bl.injEq,V.ref.injEq,txt_inj,exists_eq_left',exists_eq_left,exists_and_left,and_true,true_and,decide_eq_true_eq,reduceCtorEq,decide_false,decide_true,Bool.not_false,Bool.not_true,if_true,if_false,Bool.false_eq_true,Nat.reduceAdd,Nat.reduceSub,Bool.not_eq_true',decide_eq_false_iff_not,not_true_eq_false,not_false_eq_true,tRaise,tRaiseD]
  all_goals repeat (first | refine ⟨rfl,?_⟩ | rw [if_neg (by decide)])
  · exact ⟨by decide,hl.2 (by decide)⟩
  · exact ⟨by decide,hl.2 (by decide)⟩
  · exact ⟨by decide,hl.2 (by decide)⟩
  · exact ⟨by decide,hl.2 (by decide)⟩
  · exact ⟨by decide,hl.2 (by decide)⟩
  · exact ⟨by decide,hl.2 (by decide)⟩
  · exact ⟨by decide,hl.2 (by decide)⟩
  · refine ⟨by decide,fun ea he=>⟨ea,n,rfl,upd_same,hn,fun d hd hne=>⟨rfl,d,upd_same,?_⟩⟩⟩
    rw [upd_ne hne] at hd
    have e : del (upd (upd (upd (upd H ea (excN ea a.c_NoState)) ea (excN ea a.c_NoState)) d (.xd [("row", .int n)])) ea (excD ea a.c_NoState d)) ea = upd H d (.xd [("row", .int n)]) := by
      funext x
      by_cases hx:x = ea
      · subst hx; rw [del_same,upd_ne (Ne.symm hne),he]
      · rw [del_ne hx,upd_ne hx]
        by_cases hy:x = d
        · subst hy; rw [upd_same,upd_same]
        · rw [upd_ne hy,upd_ne hy,upd_ne hx,upd_ne hx]
    rw [e]
    exact hl.1 rfl d hd
theorem read_field {N:List Str} {vs:List V} {H:Hp} {Q:VK} {E:XK} (T:Tx K mg a) (hN:N.length = 1) (h:spField a vs H Q E):rd_field K a { nx:=fun _ H'=>Q .non H',rt:=Q } (L2.start N vs) H:=by
  obtain ⟨ea,k,dd,rfl,hH,h0,h7,hf,hg⟩:=h
  have D:=kd T h0 h7
  unfold rd_field L2.start
  rw [hN]
  simp only [tCompSet,tRaise,tIsi,tSeq,tAsg,gName,tOp,tUn,tVar,tC,tTest,tB,tIf,tIfS,tAnd,tOr,tNot,tAndV,tOrV,tNotV,tRet,tRetN,tNext,tDrop,tCB,tCons,tNil,tBM,tBM0,tCall,tLst,tTup,tSl,tPart,tNoPart,tIsN,tNotN,tYes,tBreak,tCont,rI0,rI,rU,rEq,rNe,L2.start,compSt,List.map_cons,List.map_nil,List.length_cons,List.length_nil,List.replicate_succ,List.replicate_zero,List.cons_append,List.nil_append,List.append_nil,List.getElem?_cons_zero,List.getElem?_cons_succ,List.set_cons_zero,List.set_cons_succ,Option.some.injEq,Option.join_some,V.int.injEq,V.str.injEq,V.bl.injEq,V.ref.injEq,txt_inj,exists_eq_left',exists_eq_left,exists_and_left,and_true,true_and,decide_eq_true_eq,reduceCtorEq,decide_false,decide_true,Bool.not_false,Bool.not_true,if_true,if_false,Bool.false_eq_true,Nat.reduceAdd,Nat.reduceSub,Bool.not_eq_true',decide_eq_false_iff_not,not_true_eq_false,not_false_eq_true,tExcFld]
  refine isX_go hH D.x D.q7 ?_
  refine ⟨_,rfl,?_⟩
  by_cases hk:(7:Int) = k
  · subst hk
    obtain ⟨d,n,rfl,hd,q⟩:=hg rfl
    rw [if_pos (by decide)]
    exact ⟨d,hH,_,hd,n,by rfl,q⟩
  · rw [if_neg (by simpa using hk)]
    exact hf (fun e=>hk e.symm)
theorem read_kinds {N:List Str} {vs:List V} {H:Hp} {Q:VK} {E:XK} (T:Tx K mg a) (hN:N.length = 3) (h:spKinds a vs H Q E):rd_kinds K a { nx:=fun _ H'=>Q .non H',rt:=Q } (L2.start N vs) H:=by
  obtain ⟨ea,k,dd,rfl,hH,h0,h7,q⟩:=h
  have D:=kd T h0 h7
  unfold rd_kinds L2.start
  rw [hN]
  and_intros
  refine isX_go hH D.x D.q0 (isX_go hH D.x D.q1 (isX_go hH D.x D.q2 (isX_go hH D.x D.q3 ?_)))
  refine ⟨by decide,fun p hp=>?_⟩
  have hH1:∀ z,(upd H p z) ea = some (excX ea (kind a k) dd):=fun z=>by rw [upd_ne (ne_of_none hH hp)]; exact hH
  refine isX_go (hH1 _) D.x D.q4 (isX_go (hH1 _) D.x D.q5 (isX_go (hH1 _) D.x D.q6 (isX_go (hH1 _) D.x D.q7 ⟨by decide,fun p1 hp1=>?_⟩)))
  refine cat_go (by rw [upd_ne (ne_of_none upd_same hp1)]; exact upd_same) upd_same (by show (8:Nat) ≤ 100000; decide) fun p2 hp2=>?_
  refine q p2 _ ((((Same.refl H).new hp).new hp1).new hp2) ?_
  rw [upd_same]
  rfl
end K09
namespace K09
open PySem PySem.Spec PyProof.Rows L2 MM
variable {K:PySem.W.Frag} {mg:Str→Option Value} {a:Ad}
theorem dat_bools {H:Hp} (f:Nat→Bool):∀ l:List Nat,DatAll K H (l.map fun i=>V.bl (f i)) (l.map fun i=>PyData.bool (f i))
  | []=>.nil
  | i :: l=>.cons (.bl _) (dat_bools f l)
theorem eqv_bools (f:Nat→Bool):∀ l:List Nat,PyData.eqvAll (l.map fun i=>PyData.bool (f i)) (l.map fun i=>PyData.bool (f i)) = true
  | []=>by simp [PyData.eqvAll]
  | i :: l=>by
    have:=eqv_bools f l
    simp [PyData.eqvAll,PyData.eqv,this]
theorem eq_bools {H:Hp} {p q:Addr} {f:Nat→Bool} {l:List Nat} {Q:VK} (hs:SeqAt.shaped (.list (l.map fun i=>PyData.bool (f i))) = true) (hp:SqL K H p (l.map fun i=>V.bl (f i))) (hq:SqL K H q (l.map fun i=>V.bl (f i))) (h:Q (.bl true) H):rEqD K (.ref p) (.ref q) H Q:=by
  refine ⟨_,_,.lst hp (dat_bools f l),.lst hq (dat_bools f l),hs,hs,?_⟩
  have e:PyData.eqv (.list (l.map fun i=>PyData.bool (f i))) (.list (l.map fun i=>PyData.bool (f i))) = true:=by
    simp [PyData.eqv,eqv_bools f l]
  rw [e]
  exact h
theorem read_good {N:List Str} {vs:List V} {H:Hp} {Q:VK} {E:XK} (T:Tx K mg a) (hN:N.length = 6) (h:spGood a vs H Q E):rd_good K a { nx:=fun _ H'=>Q .non H',rt:=Q } (L2.start N vs) H:=by
  obtain ⟨k,m,n,rfl,h0,h7,hm,hn,q⟩:=h
  have D:=kd T h0 h7
  unfold rd_good L2.start
  rw [hN]
  simp only [tCompSet,tRaise,tIsi,tSeq,tAsg,gName,tOp,tUn,tVar,tC,tTest,tB,tIf,tIfS,tAnd,tOr,tNot,tAndV,tOrV,tNotV,tRet,tRetN,tNext,tDrop,tCB,tCons,tNil,tBM,tBM0,tCall,tLst,tTup,tSl,tPart,tNoPart,tIsN,tNotN,tYes,tBreak,tCont,rI0,rI,rU,rEq,rNe,L2.start,compSt,List.map_cons,List.map_nil,List.length_cons,List.length_nil,List.replicate_succ,List.replicate_zero,List.cons_append,List.nil_append,List.append_nil,List.getElem?_cons_zero,List.getElem?_cons_succ,List.set_cons_zero,List.set_cons_succ,Option.some.injEq,Option.join_some,V.int.injEq,V.str.injEq,V.bl.injEq,V.ref.injEq,txt_inj,exists_eq_left',exists_eq_left,exists_and_left,and_true,true_and,decide_eq_true_eq,reduceCtorEq,decide_false,decide_true,Bool.not_false,Bool.not_true,if_true,if_false,Bool.false_eq_true,Nat.reduceAdd,Nat.reduceSub,Bool.not_eq_true',decide_eq_false_iff_not,not_true_eq_false,not_false_eq_true,tTryD,tCallX]
  refine ⟨by decide,fun p hp=>⟨by decide,fun p1 hp1=>?_⟩⟩
  have sm:Same H (upd (upd H p (HO.lst [])) p1 (HO.tup [V.ref p,V.int (-2),V.bl false])):=((Same.refl H).new hp).new hp1
  generalize upd (upd H p (HO.lst [])) p1 (HO.tup [V.ref p,V.int (-2),V.bl false]) = H0 at sm ⊢
  refine ⟨k,m,n,rfl,h0,h7,hm,hn,?_⟩
  generalize hE:TakenD K a.c_ShelfError _ = EE
  have fin:∀ (dd:Option Addr) (H1:Hp),Same H0 H1→(k = 7→∃ d,dd = some d∧H1 d = some (.xd [("row",.int n)]))→EE (.ref (kind a k)) dd H1:=by
    intro dd H1 s1 hd
    subst hE
    refine ⟨kind a k,rfl,D.s,fun ea hea=>?_⟩
    refine ⟨ea,k,dd,rfl,upd_same,h0,h7,fun pl H2 s2 hpl=>?_⟩
    have s3:Same H H2:=(sm.trans s1).trans ((Same.up H1 hea).trans s2)
    have hx:H2 ea = some (excX ea (kind a k) dd):=s2 _ _ upd_same
    refine ⟨ea,k,dd,rfl,hx,h0,h7,fun hk=>?_,fun hk=>?_⟩
    · refine isXT_go hx D.x D.v ⟨by decide,fun p3 hp3=>⟨rfl,?_⟩⟩
      rw [if_neg hk]
      have s4:=s3.new (o:=HO.tup [V.ref pl,V.int (-1),V.bl true]) hp3
      have hl4:upd H2 p3 (HO.tup [V.ref pl,V.int (-1),V.bl true]) pl = _:=(upd_ne (ne_of_none hpl hp3)).trans hpl
      have ht4:upd H2 p3 (HO.tup [V.ref pl,V.int (-1),V.bl true]) p3 = _:=upd_same
      generalize upd H2 p3 (HO.tup [V.ref pl,V.int (-1),V.bl true]) = H4 at s4 hl4 ht4 ⊢
      refine ixT_go (.inl (.inl ht4)) (by decide) rfl ?_
      refine comp_r1 (j:=8) (fun Q h=>h) (by decide) (by decide) (by decide) (fun i ys H'=>H' = H4∧ys = (List.range i).map fun i:Nat=>V.bl (decide ((i:Int) = k))) ⟨rfl,rfl⟩ (fun i ys H' _ p=>by rw [p.2,List.length_map,List.length_range]; exact Nat.le_refl _) ?_ ?_
      · rintro i ys H' hi ⟨rfl,rfl⟩ R hR
        and_intros
        refine ⟨rfl,hR _ _ ⟨rfl,?_⟩⟩
        rw [List.range_succ,List.map_append]; rfl
      · rintro ys H' ⟨rfl,rfl⟩ p5 hp5
        refine eq_bools (f:=fun i=>decide ((i:Int) = k)) (l:=List.range 8) (by rfl) (.inl (.inl (by rw [upd_ne (ne_of_none hl4 hp5)]; exact hl4))) SqL.here ⟨_,rfl,?_⟩
        rw [if_pos rfl]
        have ht5:upd H' p5 (HO.lst (List.map (fun i:Nat=>V.bl (decide ((i:Int) = k))) (List.range (Int.toNat 8)))) p3 = _:=(upd_ne (ne_of_none ht4 hp5)).trans ht4
        refine ixT_go (.inl (.inl ht5)) (by decide) rfl ⟨_,rfl,?_⟩
        rw [if_pos rfl]
        refine ixT_go (.inl (.inl ht5)) (by decide) rfl ⟨rfl,?_⟩
        rw [decide_eq_true rfl]
        exact q _ (s4.new hp5)
    · obtain ⟨d,rfl,ed⟩:=hd hk
      refine ⟨d,n,rfl,s2 _ _ (Same.up H1 hea _ _ ed),?_⟩
      refine isXT_go hx D.x D.v ⟨by decide,fun p3 hp3=>⟨rfl,?_⟩⟩
      rw [if_pos hk]
      have s4:=s3.new (o:=HO.tup [V.ref pl,V.int n,V.bl true]) hp3
      have hl4:upd H2 p3 (HO.tup [V.ref pl,V.int n,V.bl true]) pl = _:=(upd_ne (ne_of_none hpl hp3)).trans hpl
      have ht4:upd H2 p3 (HO.tup [V.ref pl,V.int n,V.bl true]) p3 = _:=upd_same
      generalize upd H2 p3 (HO.tup [V.ref pl,V.int n,V.bl true]) = H4 at s4 hl4 ht4 ⊢
      refine ixT_go (.inl (.inl ht4)) (by decide) rfl ?_
      refine comp_r1 (j:=8) (fun Q h=>h) (by decide) (by decide) (by decide) (fun i ys H'=>H' = H4∧ys = (List.range i).map fun i:Nat=>V.bl (decide ((i:Int) = k))) ⟨rfl,rfl⟩ (fun i ys H' _ p=>by rw [p.2,List.length_map,List.length_range]; exact Nat.le_refl _) ?_ ?_
      · rintro i ys H' hi ⟨rfl,rfl⟩ R hR
        and_intros
        refine ⟨rfl,hR _ _ ⟨rfl,?_⟩⟩
        rw [List.range_succ,List.map_append]; rfl
      · rintro ys H' ⟨rfl,rfl⟩ p5 hp5
        refine eq_bools (f:=fun i=>decide ((i:Int) = k)) (l:=List.range 8) (by rfl) (.inl (.inl (by rw [upd_ne (ne_of_none hl4 hp5)]; exact hl4))) SqL.here ⟨_,rfl,?_⟩
        rw [if_pos rfl]
        have ht5:upd H' p5 (HO.lst (List.map (fun i:Nat=>V.bl (decide ((i:Int) = k))) (List.range (Int.toNat 8)))) p3 = _:=(upd_ne (ne_of_none ht4 hp5)).trans ht4
        refine ixT_go (.inl (.inl ht5)) (by decide) rfl ⟨_,rfl,?_⟩
        rw [if_pos rfl]
        refine ixT_go (.inl (.inl ht5)) (by decide) rfl ⟨rfl,?_⟩
        rw [decide_eq_true rfl]
        exact q _ (s4.new hp5)
  exact ⟨fun e d hd=>fin (some d) _ (Same.up H0 hd) fun _=>⟨d,rfl,upd_same⟩,fun e=>fin none H0 (Same.refl H0) fun e'=>absurd e' e⟩
theorem txtInt {i:Int} (h:i.natAbs.log2 < 900):∃ m:List Nat,V.str (toString i) = V.str (txt m)∧m.length ≤ 1000:=by
  refine ⟨(Str.ofString (toString i)).cps.toList,rfl,?_⟩
  have h1:=int_text_length_le (by decide) h
  have h2:(Str.ofString (toString i)).cps.toList.length = (toString i).length:=by rw [Array.length_toList]; exact PySem.ofString_length _
  omega
theorem log2_lt {i:Int} (h0:0 ≤ i) (h:i < 2 ^ 60):i.natAbs.log2 < 900:=by
  by_cases e:i.natAbs = 0
  · rw [e]; decide
  · have:=(Nat.log2_lt e (k:=60)).mpr (by omega)
    omega
theorem read_law {N:List Str} {vs:List V} {H:Hp} {Q:VK} {E:XK} (hN:N.length = 5) (h:spLaw K vs H Q E):rd_law K a { nx:=fun _ H'=>Q .non H',rt:=Q } (L2.start N vs) H:=by
  obtain ⟨p,ns,rfl,hS,hl,q⟩:=h
  unfold rd_law L2.start
  rw [hN]
  refine seq_any fun c hc=>?_
  and_intros
  refine hc _ _ ?_
  clear hc c
  refine seq_any fun c hc=>?_
  and_intros
  refine hc _ _ ?_
  clear hc c
  refine seq_any fun c hc=>?_
  replace hc:∀ (m:List Nat) (n:Int),m.length ≤ 1000→n.natAbs.log2 < 900→c [some (.ref p),some (.str (txt m)),some (.int n),none,none] H:=fun m n hm hn=>hc _ _ (by
    clear hc c
    refine seq_set fun c hc=>?_
    and_intros
    refine ⟨p,ns,_,_,rfl,hS,hl,by decide,by decide,by decide,fun r hr0 hr1=>hc _ _ ?_⟩
    clear hc c
    refine seq_any fun c hc=>?_
    refine for_r1 (j:=8) (fun Q h=>h) (by decide) (by decide) (fun i σ H'=>∃ v4,σ = [some (.ref p),some (.str (txt m)),some (.int n),some (.int r),v4]) ⟨_,rfl⟩ ?_ ?_
    · rintro i σ H1 hi ⟨v4,rfl⟩
      and_intros
      refine ⟨by decide,_,m,n,rfl,by omega,by omega,hm,by omega,fun H2 s2=>⟨_,rfl,?_⟩⟩
      rw [if_neg (by decide)]
      refine ⟨_,[],0,rfl,by omega,by omega,by decide,by decide,fun H3 s3=>⟨_,rfl,?_⟩⟩
      rw [if_neg (by decide)]
      exact ⟨_,rfl⟩
    · rintro σ H1 ⟨v4,rfl⟩
      refine hc _ _ ?_
      and_intros
      exact q _)
  and_intros
  refine lenI_go hS ⟨_,rfl,?_⟩
  split
  · rename_i hpos
    have p9:(10:Int) ^ Int.toNat 9 = 1000000000:=by decide
    have p18:(10:Int) ^ Int.toNat 18 = 1000000000000000000:=by decide
    rw [p9,p18]
    refine ixI_go hS (by decide) (by omega) fun z _ _=>⟨⟨by decide,by decide,by decide⟩,z,rfl,by decide,?_⟩
    have h1:=Int.emod_nonneg z (b:=1000000000) (by decide)
    have h2:=Int.emod_lt_of_pos z (b:=1000000000) (by decide)
    have l1:=log2_lt h1 (by omega)
    refine ⟨_,rfl,by omega,lenI_go hS ⟨_,rfl,cdiv (by omega) (by omega),ixI_go hS (by omega) (by omega) fun y _ _=>⟨⟨by decide,by decide,by decide⟩,y,rfl,by decide,?_⟩⟩⟩
    have h3:=Int.emod_nonneg y (b:=1000000000000000000) (by decide)
    have h4:=Int.emod_lt_of_pos y (b:=1000000000000000000) (by decide)
    obtain ⟨m,e,hm⟩:=txtInt l1
    rw [e]
    exact hc m _ hm (log2_lt h3 (by omega))
  · exact hc [] 0 (by decide) (by decide)
end K09
namespace K09
open PySem PySem.Spec PyProof.Rows L2 MM
section
variable {P:Program} {w:World} {K:PySem.W.Frag} {mg:Str→Option Value} {base:Heap} {a:Ad}
theorem ok_p0 (T : Tx K mg a) : FnOk P w K mg base CX0 1 a.f_p0 a.fd_p0 ["self", "row"] (spNS a.c_NoState) :=
  T.F_p0.okQ sc_p0 (fun _ _ _ _ h=>by obtain ⟨_,_,e,_⟩:=h; rw [e]; rfl) (fun _ _ _ _ _ _ hr=>pr_p0 T  hr) fun _ _ _ _ h=>read_ns (by decide) rfl h
theorem ok_draw (T : Tx K mg a) : FnOk P w K mg base CX0 1 a.f_draw a.fd_draw ["_law_script", "_law_k", "_law_many"] (spDraw K) :=
  T.F_draw.okQ sc_draw (fun _ _ _ _ h=>by obtain ⟨_,_,_,_,e,_⟩:=h; rw [e]; rfl) (fun _ _ _ _ _ _ hr=>pr_draw T  hr) fun _ _ _ _ h=>read_draw rfl h
theorem ok_raised (T : Tx K mg a) : FnOk P w K mg base (CX1 P w) 3 a.f_raised a.fd_raised ["_law_k", "_law_words", "_law_number"] (spRaised a) :=
  T.F_raised.okX sc_raised (fun _ _ _ _ h=>by obtain ⟨_,_,_,e,_⟩:=h; rw [e]; rfl) (fun _ _ _ _ _ _ hr=>pr_raised T (ok_p0 T) hr) fun _ _ _ _ h=>read_raised T rfl h
theorem ok_kinds (T:Tx K mg a):FnOkH P w K mg base 1 a.f_kinds a.fd_kinds ["_law_e"] (spKinds a):=
  T.F_kinds.okH sc_kinds (fun _ _ _ _ ⟨_,_,_,e,_⟩=>by rw [e]; rfl) (fun _ _ _ _ _ _ _=>pr_kinds T) fun _ _ _ _ h=>read_kinds T rfl h
theorem ok_field (T:Tx K mg a):FnOkH P w K mg base 1 a.f_field a.fd_field ["_law_e"] (spField a):=
  T.F_field.okH sc_field (fun _ _ _ _ ⟨_,_,_,e,_⟩=>by rw [e]; rfl) (fun _ _ _ _ _ _ _=>pr_field T) fun _ _ _ _ h=>read_field T rfl h
theorem ok_good (T : Tx K mg a) : FnOk P w K mg base CX0 4 a.f_good a.fd_good ["_law_k", "_law_words", "_law_number"] (spGood a) :=
  T.F_good.okQ sc_good (fun _ _ _ _ h=>by obtain ⟨_,_,_,e,_⟩:=h; rw [e]; rfl) (fun _ _ _ _ _ _ hr=>pr_good T (ok_raised T) (ok_field T) (ok_kinds T) hr) fun _ _ _ _ h=>read_good T rfl h
theorem ok_law (T:Tx K mg a):FnOk P w K mg base CX0 5 a.f_law a.fd_law ["_law_script"] (spLaw K):=
  T.F_law.okQ sc_law (fun _ _ _ _ h=>by obtain ⟨_,_,e,_⟩:=h; rw [e]; rfl) (fun _ _ _ _ _ _ hr=>pr_law T (ok_draw T) (ok_good T) hr) fun _ _ _ _ h=>read_law rfl h
end
theorem tx_mk {K:PySem.W.Frag} {h:Heap} {mg:Str→Option Value} (X:K.In h) (G:h.Ns mainGlobals mg)
    {f_p0:Addr} {od_p0 an_p0:Option Addr} {sl_p0:Array (Option Value)} {oc_p0 kV_p0 dc_p0 pm_p0 cd_p0 ct_p0:Value}
    (i_p0 : PySem.W.isFn K (.ref f_p0) = true) (l_p0 : K.lookup f_p0 = some ⟨oc_p0, od_p0, .func (PySem.W.fnOf "__init__" "NoState.__init__" (defArgs s_p0) (defBody s_p0) (defScope s_p0) .none kV_p0 dc_p0 pm_p0 an_p0 cd_p0 ct_p0), sl_p0⟩) (c_p0 : PySem.W.codeIn K cd_p0 "NoState.__init__" = true) (k_p0 : PySem.W.keepIn K (.ref f_p0) = true)
    {f_draw:Addr} {od_draw an_draw:Option Addr} {sl_draw:Array (Option Value)} {oc_draw kV_draw dc_draw pm_draw cd_draw ct_draw:Value}
    (a_draw : PySem.W.nsIn K mainGlobals "_law_draw" = some (some (.ref f_draw))) (l_draw : K.lookup f_draw = some ⟨oc_draw, od_draw, .func (PySem.W.fnOf "_law_draw" "_law_draw" (defArgs s_draw) (defBody s_draw) (defScope s_draw) .none kV_draw dc_draw pm_draw an_draw cd_draw ct_draw), sl_draw⟩) (c_draw : PySem.W.codeIn K cd_draw "_law_draw" = true) (k_draw : PySem.W.keepIn K (.ref f_draw) = true)
    {f_raised:Addr} {od_raised an_raised:Option Addr} {sl_raised:Array (Option Value)} {oc_raised kV_raised dc_raised pm_raised cd_raised ct_raised:Value}
    (a_raised : PySem.W.nsIn K mainGlobals "_law_raised" = some (some (.ref f_raised))) (l_raised : K.lookup f_raised = some ⟨oc_raised, od_raised, .func (PySem.W.fnOf "_law_raised" "_law_raised" (defArgs s_raised) (defBody s_raised) (defScope s_raised) .none kV_raised dc_raised pm_raised an_raised cd_raised ct_raised), sl_raised⟩) (c_raised : PySem.W.codeIn K cd_raised "_law_raised" = true) (k_raised : PySem.W.keepIn K (.ref f_raised) = true)
    {f_kinds:Addr} {od_kinds an_kinds:Option Addr} {sl_kinds:Array (Option Value)} {oc_kinds kV_kinds dc_kinds pm_kinds cd_kinds ct_kinds:Value}
    (a_kinds : PySem.W.nsIn K mainGlobals "_law_kinds" = some (some (.ref f_kinds))) (l_kinds : K.lookup f_kinds = some ⟨oc_kinds, od_kinds, .func (PySem.W.fnOf "_law_kinds" "_law_kinds" (defArgs s_kinds) (defBody s_kinds) (defScope s_kinds) .none kV_kinds dc_kinds pm_kinds an_kinds cd_kinds ct_kinds), sl_kinds⟩) (c_kinds : PySem.W.codeIn K cd_kinds "_law_kinds" = true) (k_kinds : PySem.W.keepIn K (.ref f_kinds) = true)
    {f_field:Addr} {od_field an_field:Option Addr} {sl_field:Array (Option Value)} {oc_field kV_field dc_field pm_field cd_field ct_field:Value}
    (a_field : PySem.W.nsIn K mainGlobals "_law_field" = some (some (.ref f_field))) (l_field : K.lookup f_field = some ⟨oc_field, od_field, .func (PySem.W.fnOf "_law_field" "_law_field" (defArgs s_field) (defBody s_field) (defScope s_field) .none kV_field dc_field pm_field an_field cd_field ct_field), sl_field⟩) (c_field : PySem.W.codeIn K cd_field "_law_field" = true) (k_field : PySem.W.keepIn K (.ref f_field) = true)
    {f_good:Addr} {od_good an_good:Option Addr} {sl_good:Array (Option Value)} {oc_good kV_good dc_good pm_good cd_good ct_good:Value}
    (a_good : PySem.W.nsIn K mainGlobals "_law_good" = some (some (.ref f_good))) (l_good : K.lookup f_good = some ⟨oc_good, od_good, .func (PySem.W.fnOf "_law_good" "_law_good" (defArgs s_good) (defBody s_good) (defScope s_good) .none kV_good dc_good pm_good an_good cd_good ct_good), sl_good⟩) (c_good : PySem.W.codeIn K cd_good "_law_good" = true) (k_good : PySem.W.keepIn K (.ref f_good) = true)
    {f_law:Addr} {od_law an_law:Option Addr} {sl_law:Array (Option Value)} {oc_law kV_law dc_law pm_law cd_law ct_law:Value}
    (a_law : PySem.W.nsIn K mainGlobals "law" = some (some (.ref f_law))) (l_law : K.lookup f_law = some ⟨oc_law, od_law, .func (PySem.W.fnOf "law" "law" (defArgs s_law) (defBody s_law) (defScope s_law) .none kV_law dc_law pm_law an_law cd_law ct_law), sl_law⟩) (c_law : PySem.W.codeIn K cd_law "law" = true) (k_law : PySem.W.keepIn K (.ref f_law) = true)
    {c_NoHand : Addr} (ac_NoHand : PySem.W.nsIn K mainGlobals "NoHand" = some (some (.ref c_NoHand))) (xc_NoHand : PySem.W.excIn K c_NoHand [.type "ValueError", .type "Exception", .type "BaseException", .type "object"] "ValueError.__new__" = true)
    {c_NoLetters : Addr} (ac_NoLetters : PySem.W.nsIn K mainGlobals "NoLetters" = some (some (.ref c_NoLetters))) (xc_NoLetters : PySem.W.excIn K c_NoLetters [.type "ValueError", .type "Exception", .type "BaseException", .type "object"] "ValueError.__new__" = true)
    {c_NoLine : Addr} (ac_NoLine : PySem.W.nsIn K mainGlobals "NoLine" = some (some (.ref c_NoLine))) (xc_NoLine : PySem.W.excIn K c_NoLine [.type "ValueError", .type "Exception", .type "BaseException", .type "object"] "ValueError.__new__" = true)
    {c_NoPlace : Addr} (ac_NoPlace : PySem.W.nsIn K mainGlobals "NoPlace" = some (some (.ref c_NoPlace))) (xc_NoPlace : PySem.W.excIn K c_NoPlace [.type "ValueError", .type "Exception", .type "BaseException", .type "object"] "ValueError.__new__" = true)
    {c_NoRoom : Addr} (ac_NoRoom : PySem.W.nsIn K mainGlobals "NoRoom" = some (some (.ref c_NoRoom))) (xc_NoRoom : PySem.W.excIn K c_NoRoom [.type "ValueError", .type "Exception", .type "BaseException", .type "object"] "ValueError.__new__" = true)
    {c_NoShelf : Addr} (ac_NoShelf : PySem.W.nsIn K mainGlobals "NoShelf" = some (some (.ref c_NoShelf))) (xc_NoShelf : PySem.W.excIn K c_NoShelf [.type "ValueError", .type "Exception", .type "BaseException", .type "object"] "ValueError.__new__" = true)
    {c_NoThing : Addr} (ac_NoThing : PySem.W.nsIn K mainGlobals "NoThing" = some (some (.ref c_NoThing))) (xc_NoThing : PySem.W.excIn K c_NoThing [.type "ValueError", .type "Exception", .type "BaseException", .type "object"] "ValueError.__new__" = true)
    {c_ShelfError : Addr} (ac_ShelfError : PySem.W.nsIn K mainGlobals "ShelfError" = some (some (.ref c_ShelfError))) (xc_ShelfError : PySem.W.excIn K c_ShelfError [.type "ValueError", .type "Exception", .type "BaseException", .type "object"] "ValueError.__new__" = true)
    {c_NoState:Addr} (ac_NoState:PySem.W.nsIn K mainGlobals "NoState" = some (some (.ref c_NoState)))
    (e1_NoLetters : PySem.W.findIn K (.ref c_NoLetters) "__getattribute__" = some (some (.builtin "BaseException.__getattribute__"))) (e2_NoLetters : PySem.W.findIn K (.ref c_NoLetters) "__getattr__" = some none) (e3_NoLetters : PySem.W.findIn K (.ref c_NoLetters) "__class__" = some (some (.builtin "object.__class__")))
    (e4_NoLetters : PySem.W.mroIn K c_NoLetters (.type "object") = some true) (e5_NoLetters : PySem.W.mroIn K c_NoLetters (.type "BaseException") = some true)
    (e1_NoRoom : PySem.W.findIn K (.ref c_NoRoom) "__getattribute__" = some (some (.builtin "BaseException.__getattribute__"))) (e2_NoRoom : PySem.W.findIn K (.ref c_NoRoom) "__getattr__" = some none) (e3_NoRoom : PySem.W.findIn K (.ref c_NoRoom) "__class__" = some (some (.builtin "object.__class__")))
    (e4_NoRoom : PySem.W.mroIn K c_NoRoom (.type "object") = some true) (e5_NoRoom : PySem.W.mroIn K c_NoRoom (.type "BaseException") = some true)
    (e1_NoThing : PySem.W.findIn K (.ref c_NoThing) "__getattribute__" = some (some (.builtin "BaseException.__getattribute__"))) (e2_NoThing : PySem.W.findIn K (.ref c_NoThing) "__getattr__" = some none) (e3_NoThing : PySem.W.findIn K (.ref c_NoThing) "__class__" = some (some (.builtin "object.__class__")))
    (e4_NoThing : PySem.W.mroIn K c_NoThing (.type "object") = some true) (e5_NoThing : PySem.W.mroIn K c_NoThing (.type "BaseException") = some true)
    (e1_NoPlace : PySem.W.findIn K (.ref c_NoPlace) "__getattribute__" = some (some (.builtin "BaseException.__getattribute__"))) (e2_NoPlace : PySem.W.findIn K (.ref c_NoPlace) "__getattr__" = some none) (e3_NoPlace : PySem.W.findIn K (.ref c_NoPlace) "__class__" = some (some (.builtin "object.__class__")))
    (e4_NoPlace : PySem.W.mroIn K c_NoPlace (.type "object") = some true) (e5_NoPlace : PySem.W.mroIn K c_NoPlace (.type "BaseException") = some true)
    (e1_NoHand : PySem.W.findIn K (.ref c_NoHand) "__getattribute__" = some (some (.builtin "BaseException.__getattribute__"))) (e2_NoHand : PySem.W.findIn K (.ref c_NoHand) "__getattr__" = some none) (e3_NoHand : PySem.W.findIn K (.ref c_NoHand) "__class__" = some (some (.builtin "object.__class__")))
    (e4_NoHand : PySem.W.mroIn K c_NoHand (.type "object") = some true) (e5_NoHand : PySem.W.mroIn K c_NoHand (.type "BaseException") = some true)
    (e1_NoShelf : PySem.W.findIn K (.ref c_NoShelf) "__getattribute__" = some (some (.builtin "BaseException.__getattribute__"))) (e2_NoShelf : PySem.W.findIn K (.ref c_NoShelf) "__getattr__" = some none) (e3_NoShelf : PySem.W.findIn K (.ref c_NoShelf) "__class__" = some (some (.builtin "object.__class__")))
    (e4_NoShelf : PySem.W.mroIn K c_NoShelf (.type "object") = some true) (e5_NoShelf : PySem.W.mroIn K c_NoShelf (.type "BaseException") = some true)
    (e1_NoLine : PySem.W.findIn K (.ref c_NoLine) "__getattribute__" = some (some (.builtin "BaseException.__getattribute__"))) (e2_NoLine : PySem.W.findIn K (.ref c_NoLine) "__getattr__" = some none) (e3_NoLine : PySem.W.findIn K (.ref c_NoLine) "__class__" = some (some (.builtin "object.__class__")))
    (e4_NoLine : PySem.W.mroIn K c_NoLine (.type "object") = some true) (e5_NoLine : PySem.W.mroIn K c_NoLine (.type "BaseException") = some true)
    (e1_NoState : PySem.W.findIn K (.ref c_NoState) "__getattribute__" = some (some (.builtin "BaseException.__getattribute__"))) (e2_NoState : PySem.W.findIn K (.ref c_NoState) "__getattr__" = some none) (e3_NoState : PySem.W.findIn K (.ref c_NoState) "__class__" = some (some (.builtin "object.__class__")))
    (e4_NoState : PySem.W.mroIn K c_NoState (.type "object") = some true) (e5_NoState : PySem.W.mroIn K c_NoState (.type "BaseException") = some true)
    (ty_NoRoom:PySem.W.typeIn K (.ref c_NoRoom) = some (.type "type"))
    (mo_NoRoom:PySem.W.mroIn K c_NoRoom (.type "object") = some true)
    (mr_NoLetters_NoRoom:PySem.W.mroIn K c_NoLetters (.ref c_NoRoom) = some false)
    (ne_NoLetters_NoRoom:(c_NoLetters == c_NoRoom) = false)
    (ty_NoThing:PySem.W.typeIn K (.ref c_NoThing) = some (.type "type"))
    (mo_NoThing:PySem.W.mroIn K c_NoThing (.type "object") = some true)
    (mr_NoLetters_NoThing:PySem.W.mroIn K c_NoLetters (.ref c_NoThing) = some false)
    (ne_NoLetters_NoThing:(c_NoLetters == c_NoThing) = false)
    (ty_NoPlace:PySem.W.typeIn K (.ref c_NoPlace) = some (.type "type"))
    (mo_NoPlace:PySem.W.mroIn K c_NoPlace (.type "object") = some true)
    (mr_NoLetters_NoPlace:PySem.W.mroIn K c_NoLetters (.ref c_NoPlace) = some false)
    (ne_NoLetters_NoPlace:(c_NoLetters == c_NoPlace) = false)
    (ty_NoHand:PySem.W.typeIn K (.ref c_NoHand) = some (.type "type"))
    (mo_NoHand:PySem.W.mroIn K c_NoHand (.type "object") = some true)
    (mr_NoLetters_NoHand:PySem.W.mroIn K c_NoLetters (.ref c_NoHand) = some false)
    (ne_NoLetters_NoHand:(c_NoLetters == c_NoHand) = false)
    (ty_NoShelf:PySem.W.typeIn K (.ref c_NoShelf) = some (.type "type"))
    (mo_NoShelf:PySem.W.mroIn K c_NoShelf (.type "object") = some true)
    (mr_NoLetters_NoShelf:PySem.W.mroIn K c_NoLetters (.ref c_NoShelf) = some false)
    (ne_NoLetters_NoShelf:(c_NoLetters == c_NoShelf) = false)
    (ty_NoLine:PySem.W.typeIn K (.ref c_NoLine) = some (.type "type"))
    (mo_NoLine:PySem.W.mroIn K c_NoLine (.type "object") = some true)
    (mr_NoLetters_NoLine:PySem.W.mroIn K c_NoLetters (.ref c_NoLine) = some false)
    (ne_NoLetters_NoLine:(c_NoLetters == c_NoLine) = false)
    (ty_NoState:PySem.W.typeIn K (.ref c_NoState) = some (.type "type"))
    (mo_NoState:PySem.W.mroIn K c_NoState (.type "object") = some true)
    (mr_NoLetters_NoState:PySem.W.mroIn K c_NoLetters (.ref c_NoState) = some false)
    (ne_NoLetters_NoState:(c_NoLetters == c_NoState) = false)
    (ty_NoLetters:PySem.W.typeIn K (.ref c_NoLetters) = some (.type "type"))
    (mo_NoLetters:PySem.W.mroIn K c_NoLetters (.type "object") = some true)
    (mr_NoRoom_NoLetters:PySem.W.mroIn K c_NoRoom (.ref c_NoLetters) = some false)
    (ne_NoRoom_NoLetters:(c_NoRoom == c_NoLetters) = false)
    (mr_NoRoom_NoThing:PySem.W.mroIn K c_NoRoom (.ref c_NoThing) = some false)
    (ne_NoRoom_NoThing:(c_NoRoom == c_NoThing) = false)
    (mr_NoRoom_NoPlace:PySem.W.mroIn K c_NoRoom (.ref c_NoPlace) = some false)
    (ne_NoRoom_NoPlace:(c_NoRoom == c_NoPlace) = false)
    (mr_NoRoom_NoHand:PySem.W.mroIn K c_NoRoom (.ref c_NoHand) = some false)
    (ne_NoRoom_NoHand:(c_NoRoom == c_NoHand) = false)
    (mr_NoRoom_NoShelf:PySem.W.mroIn K c_NoRoom (.ref c_NoShelf) = some false)
    (ne_NoRoom_NoShelf:(c_NoRoom == c_NoShelf) = false)
    (mr_NoRoom_NoLine:PySem.W.mroIn K c_NoRoom (.ref c_NoLine) = some false)
    (ne_NoRoom_NoLine:(c_NoRoom == c_NoLine) = false)
    (mr_NoRoom_NoState:PySem.W.mroIn K c_NoRoom (.ref c_NoState) = some false)
    (ne_NoRoom_NoState:(c_NoRoom == c_NoState) = false)
    (mr_NoThing_NoLetters:PySem.W.mroIn K c_NoThing (.ref c_NoLetters) = some false)
    (ne_NoThing_NoLetters:(c_NoThing == c_NoLetters) = false)
    (mr_NoThing_NoRoom:PySem.W.mroIn K c_NoThing (.ref c_NoRoom) = some false)
    (ne_NoThing_NoRoom:(c_NoThing == c_NoRoom) = false)
    (mr_NoThing_NoPlace:PySem.W.mroIn K c_NoThing (.ref c_NoPlace) = some false)
    (ne_NoThing_NoPlace:(c_NoThing == c_NoPlace) = false)
    (mr_NoThing_NoHand:PySem.W.mroIn K c_NoThing (.ref c_NoHand) = some false)
    (ne_NoThing_NoHand:(c_NoThing == c_NoHand) = false)
    (mr_NoThing_NoShelf:PySem.W.mroIn K c_NoThing (.ref c_NoShelf) = some false)
    (ne_NoThing_NoShelf:(c_NoThing == c_NoShelf) = false)
    (mr_NoThing_NoLine:PySem.W.mroIn K c_NoThing (.ref c_NoLine) = some false)
    (ne_NoThing_NoLine:(c_NoThing == c_NoLine) = false)
    (mr_NoThing_NoState:PySem.W.mroIn K c_NoThing (.ref c_NoState) = some false)
    (ne_NoThing_NoState:(c_NoThing == c_NoState) = false)
    (mr_NoPlace_NoLetters:PySem.W.mroIn K c_NoPlace (.ref c_NoLetters) = some false)
    (ne_NoPlace_NoLetters:(c_NoPlace == c_NoLetters) = false)
    (mr_NoPlace_NoRoom:PySem.W.mroIn K c_NoPlace (.ref c_NoRoom) = some false)
    (ne_NoPlace_NoRoom:(c_NoPlace == c_NoRoom) = false)
    (mr_NoPlace_NoThing:PySem.W.mroIn K c_NoPlace (.ref c_NoThing) = some false)
    (ne_NoPlace_NoThing:(c_NoPlace == c_NoThing) = false)
    (mr_NoPlace_NoHand:PySem.W.mroIn K c_NoPlace (.ref c_NoHand) = some false)
    (ne_NoPlace_NoHand:(c_NoPlace == c_NoHand) = false)
    (mr_NoPlace_NoShelf:PySem.W.mroIn K c_NoPlace (.ref c_NoShelf) = some false)
    (ne_NoPlace_NoShelf:(c_NoPlace == c_NoShelf) = false)
    (mr_NoPlace_NoLine:PySem.W.mroIn K c_NoPlace (.ref c_NoLine) = some false)
    (ne_NoPlace_NoLine:(c_NoPlace == c_NoLine) = false)
    (mr_NoPlace_NoState:PySem.W.mroIn K c_NoPlace (.ref c_NoState) = some false)
    (ne_NoPlace_NoState:(c_NoPlace == c_NoState) = false)
    (mr_NoHand_NoLetters:PySem.W.mroIn K c_NoHand (.ref c_NoLetters) = some false)
    (ne_NoHand_NoLetters:(c_NoHand == c_NoLetters) = false)
    (mr_NoHand_NoRoom:PySem.W.mroIn K c_NoHand (.ref c_NoRoom) = some false)
    (ne_NoHand_NoRoom:(c_NoHand == c_NoRoom) = false)
    (mr_NoHand_NoThing:PySem.W.mroIn K c_NoHand (.ref c_NoThing) = some false)
    (ne_NoHand_NoThing:(c_NoHand == c_NoThing) = false)
    (mr_NoHand_NoPlace:PySem.W.mroIn K c_NoHand (.ref c_NoPlace) = some false)
    (ne_NoHand_NoPlace:(c_NoHand == c_NoPlace) = false)
    (mr_NoHand_NoShelf:PySem.W.mroIn K c_NoHand (.ref c_NoShelf) = some false)
    (ne_NoHand_NoShelf:(c_NoHand == c_NoShelf) = false)
    (mr_NoHand_NoLine:PySem.W.mroIn K c_NoHand (.ref c_NoLine) = some false)
    (ne_NoHand_NoLine:(c_NoHand == c_NoLine) = false)
    (mr_NoHand_NoState:PySem.W.mroIn K c_NoHand (.ref c_NoState) = some false)
    (ne_NoHand_NoState:(c_NoHand == c_NoState) = false)
    (mr_NoShelf_NoLetters:PySem.W.mroIn K c_NoShelf (.ref c_NoLetters) = some false)
    (ne_NoShelf_NoLetters:(c_NoShelf == c_NoLetters) = false)
    (mr_NoShelf_NoRoom:PySem.W.mroIn K c_NoShelf (.ref c_NoRoom) = some false)
    (ne_NoShelf_NoRoom:(c_NoShelf == c_NoRoom) = false)
    (mr_NoShelf_NoThing:PySem.W.mroIn K c_NoShelf (.ref c_NoThing) = some false)
    (ne_NoShelf_NoThing:(c_NoShelf == c_NoThing) = false)
    (mr_NoShelf_NoPlace:PySem.W.mroIn K c_NoShelf (.ref c_NoPlace) = some false)
    (ne_NoShelf_NoPlace:(c_NoShelf == c_NoPlace) = false)
    (mr_NoShelf_NoHand:PySem.W.mroIn K c_NoShelf (.ref c_NoHand) = some false)
    (ne_NoShelf_NoHand:(c_NoShelf == c_NoHand) = false)
    (mr_NoShelf_NoLine:PySem.W.mroIn K c_NoShelf (.ref c_NoLine) = some false)
    (ne_NoShelf_NoLine:(c_NoShelf == c_NoLine) = false)
    (mr_NoShelf_NoState:PySem.W.mroIn K c_NoShelf (.ref c_NoState) = some false)
    (ne_NoShelf_NoState:(c_NoShelf == c_NoState) = false)
    (mr_NoLine_NoLetters:PySem.W.mroIn K c_NoLine (.ref c_NoLetters) = some false)
    (ne_NoLine_NoLetters:(c_NoLine == c_NoLetters) = false)
    (mr_NoLine_NoRoom:PySem.W.mroIn K c_NoLine (.ref c_NoRoom) = some false)
    (ne_NoLine_NoRoom:(c_NoLine == c_NoRoom) = false)
    (mr_NoLine_NoThing:PySem.W.mroIn K c_NoLine (.ref c_NoThing) = some false)
    (ne_NoLine_NoThing:(c_NoLine == c_NoThing) = false)
    (mr_NoLine_NoPlace:PySem.W.mroIn K c_NoLine (.ref c_NoPlace) = some false)
    (ne_NoLine_NoPlace:(c_NoLine == c_NoPlace) = false)
    (mr_NoLine_NoHand:PySem.W.mroIn K c_NoLine (.ref c_NoHand) = some false)
    (ne_NoLine_NoHand:(c_NoLine == c_NoHand) = false)
    (mr_NoLine_NoShelf:PySem.W.mroIn K c_NoLine (.ref c_NoShelf) = some false)
    (ne_NoLine_NoShelf:(c_NoLine == c_NoShelf) = false)
    (mr_NoLine_NoState:PySem.W.mroIn K c_NoLine (.ref c_NoState) = some false)
    (ne_NoLine_NoState:(c_NoLine == c_NoState) = false)
    (mr_NoState_NoLetters:PySem.W.mroIn K c_NoState (.ref c_NoLetters) = some false)
    (ne_NoState_NoLetters:(c_NoState == c_NoLetters) = false)
    (mr_NoState_NoRoom:PySem.W.mroIn K c_NoState (.ref c_NoRoom) = some false)
    (ne_NoState_NoRoom:(c_NoState == c_NoRoom) = false)
    (mr_NoState_NoThing:PySem.W.mroIn K c_NoState (.ref c_NoThing) = some false)
    (ne_NoState_NoThing:(c_NoState == c_NoThing) = false)
    (mr_NoState_NoPlace:PySem.W.mroIn K c_NoState (.ref c_NoPlace) = some false)
    (ne_NoState_NoPlace:(c_NoState == c_NoPlace) = false)
    (mr_NoState_NoHand:PySem.W.mroIn K c_NoState (.ref c_NoHand) = some false)
    (ne_NoState_NoHand:(c_NoState == c_NoHand) = false)
    (mr_NoState_NoShelf:PySem.W.mroIn K c_NoState (.ref c_NoShelf) = some false)
    (ne_NoState_NoShelf:(c_NoState == c_NoShelf) = false)
    (mr_NoState_NoLine:PySem.W.mroIn K c_NoState (.ref c_NoLine) = some false)
    (ne_NoState_NoLine:(c_NoState == c_NoLine) = false)
    (mv_NoLetters_ValueError:PySem.W.mroIn K c_NoLetters (.type "ValueError") = some true)
    (mv_NoRoom_ValueError:PySem.W.mroIn K c_NoRoom (.type "ValueError") = some true)
    (mv_NoThing_ValueError:PySem.W.mroIn K c_NoThing (.type "ValueError") = some true)
    (mv_NoPlace_ValueError:PySem.W.mroIn K c_NoPlace (.type "ValueError") = some true)
    (mv_NoHand_ValueError:PySem.W.mroIn K c_NoHand (.type "ValueError") = some true)
    (mv_NoShelf_ValueError:PySem.W.mroIn K c_NoShelf (.type "ValueError") = some true)
    (mv_NoLine_ValueError:PySem.W.mroIn K c_NoLine (.type "ValueError") = some true)
    (mv_NoState_ValueError:PySem.W.mroIn K c_NoState (.type "ValueError") = some true)
    {dx_NoState nx_NoState bx_NoState Nx_NoState qx_NoState sx_NoState ux_NoState ax_NoState ox_NoState w0_NoState w1_NoState w2_NoState w3_NoState w5_NoState} (li_NoState : K.lookup c_NoState = some ⟨.type "type", dx_NoState, .cls ⟨nx_NoState, bx_NoState, .ref c_NoState :: .ref c_ShelfError :: [.type "ValueError", .type "Exception", .type "BaseException", .type "object"], Nx_NoState, qx_NoState, true, sx_NoState, ux_NoState, ax_NoState, ox_NoState, false⟩, #[w0_NoState, w1_NoState, w2_NoState, w3_NoState, some (.builtin "ValueError.__new__"), w5_NoState]⟩)
    (ni_NoState:PySem.W.nsIn K Nx_NoState "__init__" = some (some (.ref f_p0))) (no_NoState:PySem.W.nsOkIn K Nx_NoState = true)
    (sa_NoState : PySem.W.findIn K (.ref c_NoState) "__setattr__" = some (some (.builtin "object.__setattr__"))) (nr_NoState : PySem.W.findIn K (.ref c_NoState) "row" = some none)
    (b1_ShelfError : PySem.W.specialIn K (.ref c_ShelfError) "__getattribute__" = some (some (.builtin "type.__getattribute__"))) (b2_ShelfError : PySem.W.readsIn K c_ShelfError (.type "type") = true) (b3_ShelfError : PySem.W.findCls K (.ref c_ShelfError) (.type "type") "__init__" = some (.val (.builtin "ValueError.__init__")))
    (sc_NoLetters_ShelfError:PySem.W.mroIn K c_NoLetters (.ref c_ShelfError) = some true)
    (sc_NoRoom_ShelfError:PySem.W.mroIn K c_NoRoom (.ref c_ShelfError) = some true)
    (sc_NoThing_ShelfError:PySem.W.mroIn K c_NoThing (.ref c_ShelfError) = some true)
    (sc_NoPlace_ShelfError:PySem.W.mroIn K c_NoPlace (.ref c_ShelfError) = some true)
    (sc_NoHand_ShelfError:PySem.W.mroIn K c_NoHand (.ref c_ShelfError) = some true)
    (sc_NoShelf_ShelfError:PySem.W.mroIn K c_NoShelf (.ref c_ShelfError) = some true)
    (sc_NoLine_ShelfError:PySem.W.mroIn K c_NoLine (.ref c_ShelfError) = some true)
    (sc_NoState_ShelfError:PySem.W.mroIn K c_NoState (.ref c_ShelfError) = some true)
    (z_ValueError:PySem.W.nsIn K mainGlobals "ValueError" = some none)
    (z_isinstance:PySem.W.nsIn K mainGlobals "isinstance" = some none)
    (z_len:PySem.W.nsIn K mainGlobals "len" = some none)
    (z_range:PySem.W.nsIn K mainGlobals "range" = some none)
    (z_str:PySem.W.nsIn K mainGlobals "str" = some none)
    : ∃ a : Ad, Tx K mg a ∧ mg "law" = some (.ref a.f_law) ∧ ∀ (s : Shared) (v : Value), BindsTo s a.fd_law ⟨[v], []⟩ [("_law_script", v)] := by
  have F_p0:=fun_mk (st:=s_p0) l_p0 c_p0 k_p0
  have b_p0 := F_p0.binds (ps := ["self", "row"]) fun _ _ _ _ _ _ us hl => by obtain ⟨_, _, e⟩ := ex2 hl; subst e; rfl
  have F_draw:=fun_mk (st:=s_draw) l_draw c_draw k_draw
  have b_draw := F_draw.binds (ps := ["_law_script", "_law_k", "_law_many"]) fun _ _ _ _ _ _ us hl => by obtain ⟨_, _, _, e⟩ := ex3 hl; subst e; rfl
  have F_raised:=fun_mk (st:=s_raised) l_raised c_raised k_raised
  have b_raised := F_raised.binds (ps := ["_law_k", "_law_words", "_law_number"]) fun _ _ _ _ _ _ us hl => by obtain ⟨_, _, _, e⟩ := ex3 hl; subst e; rfl
  have F_kinds:=fun_mk (st:=s_kinds) l_kinds c_kinds k_kinds
  have b_kinds:=F_kinds.binds (ps:=["_law_e"]) fun _ _ _ _ _ _ us hl=>by obtain ⟨_,e⟩:=ex1 hl; subst e; rfl
  have F_field:=fun_mk (st:=s_field) l_field c_field k_field
  have b_field:=F_field.binds (ps:=["_law_e"]) fun _ _ _ _ _ _ us hl=>by obtain ⟨_,e⟩:=ex1 hl; subst e; rfl
  have F_good:=fun_mk (st:=s_good) l_good c_good k_good
  have b_good := F_good.binds (ps := ["_law_k", "_law_words", "_law_number"]) fun _ _ _ _ _ _ us hl => by obtain ⟨_, _, _, e⟩ := ex3 hl; subst e; rfl
  have F_law:=fun_mk (st:=s_law) l_law c_law k_law
  have b_law:=F_law.binds (ps:=["_law_script"]) fun _ _ _ _ _ _ us hl=>by obtain ⟨_,e⟩:=ex1 hl; subst e; rfl
  exact ⟨⟨c_NoHand,c_NoLetters,c_NoLine,c_NoPlace,c_NoRoom,c_NoShelf,c_NoThing,c_ShelfError,c_NoState,f_p0,f_draw,f_raised,f_kinds,f_field,f_good,f_law,_,_,_,_,_,_,_⟩,⟨PySem.W.mg_none_of X G z_ValueError,PySem.W.mg_none_of X G z_isinstance,PySem.W.mg_none_of X G z_len,PySem.W.mg_none_of X G z_range,PySem.W.mg_none_of X G z_str,PySem.W.mg_of X G ac_NoHand,xc_NoHand,PySem.W.mg_of X G ac_NoLetters,xc_NoLetters,PySem.W.mg_of X G ac_NoLine,xc_NoLine,PySem.W.mg_of X G ac_NoPlace,xc_NoPlace,PySem.W.mg_of X G ac_NoRoom,xc_NoRoom,PySem.W.mg_of X G ac_NoShelf,xc_NoShelf,PySem.W.mg_of X G ac_NoThing,xc_NoThing,PySem.W.mg_of X G ac_ShelfError,xc_ShelfError,PySem.W.mg_of X G ac_NoState,⟨e1_NoLetters,e2_NoLetters,e3_NoLetters,e4_NoLetters,e5_NoLetters⟩,⟨e1_NoRoom,e2_NoRoom,e3_NoRoom,e4_NoRoom,e5_NoRoom⟩,⟨e1_NoThing,e2_NoThing,e3_NoThing,e4_NoThing,e5_NoThing⟩,⟨e1_NoPlace,e2_NoPlace,e3_NoPlace,e4_NoPlace,e5_NoPlace⟩,⟨e1_NoHand,e2_NoHand,e3_NoHand,e4_NoHand,e5_NoHand⟩,⟨e1_NoShelf,e2_NoShelf,e3_NoShelf,e4_NoShelf,e5_NoShelf⟩,⟨e1_NoLine,e2_NoLine,e3_NoLine,e4_NoLine,e5_NoLine⟩,⟨e1_NoState,e2_NoState,e3_NoState,e4_NoState,e5_NoState⟩,excI_mk li_NoState xc_ShelfError ni_NoState no_NoState i_p0,sa_NoState,nr_NoState,cls_has li_NoState,b1_ShelfError,b2_ShelfError,b3_ShelfError,(kit_self),(kit_cl ty_NoRoom mo_NoRoom mr_NoLetters_NoRoom ne_NoLetters_NoRoom),(kit_cl ty_NoThing mo_NoThing mr_NoLetters_NoThing ne_NoLetters_NoThing),(kit_cl ty_NoPlace mo_NoPlace mr_NoLetters_NoPlace ne_NoLetters_NoPlace),(kit_cl ty_NoHand mo_NoHand mr_NoLetters_NoHand ne_NoLetters_NoHand),(kit_cl ty_NoShelf mo_NoShelf mr_NoLetters_NoShelf ne_NoLetters_NoShelf),(kit_cl ty_NoLine mo_NoLine mr_NoLetters_NoLine ne_NoLetters_NoLine),(kit_cl ty_NoState mo_NoState mr_NoLetters_NoState ne_NoLetters_NoState),(kit_cl ty_NoLetters mo_NoLetters mr_NoRoom_NoLetters ne_NoRoom_NoLetters),(kit_self),(kit_cl ty_NoThing mo_NoThing mr_NoRoom_NoThing ne_NoRoom_NoThing),(kit_cl ty_NoPlace mo_NoPlace mr_NoRoom_NoPlace ne_NoRoom_NoPlace),(kit_cl ty_NoHand mo_NoHand mr_NoRoom_NoHand ne_NoRoom_NoHand),(kit_cl ty_NoShelf mo_NoShelf mr_NoRoom_NoShelf ne_NoRoom_NoShelf),(kit_cl ty_NoLine mo_NoLine mr_NoRoom_NoLine ne_NoRoom_NoLine),(kit_cl ty_NoState mo_NoState mr_NoRoom_NoState ne_NoRoom_NoState),(kit_cl ty_NoLetters mo_NoLetters mr_NoThing_NoLetters ne_NoThing_NoLetters),(kit_cl ty_NoRoom mo_NoRoom mr_NoThing_NoRoom ne_NoThing_NoRoom),(kit_self),(kit_cl ty_NoPlace mo_NoPlace mr_NoThing_NoPlace ne_NoThing_NoPlace),(kit_cl ty_NoHand mo_NoHand mr_NoThing_NoHand ne_NoThing_NoHand),(kit_cl ty_NoShelf mo_NoShelf mr_NoThing_NoShelf ne_NoThing_NoShelf),(kit_cl ty_NoLine mo_NoLine mr_NoThing_NoLine ne_NoThing_NoLine),(kit_cl ty_NoState mo_NoState mr_NoThing_NoState ne_NoThing_NoState),(kit_cl ty_NoLetters mo_NoLetters mr_NoPlace_NoLetters ne_NoPlace_NoLetters),(kit_cl ty_NoRoom mo_NoRoom mr_NoPlace_NoRoom ne_NoPlace_NoRoom),(kit_cl ty_NoThing mo_NoThing mr_NoPlace_NoThing ne_NoPlace_NoThing),(kit_self),(kit_cl ty_NoHand mo_NoHand mr_NoPlace_NoHand ne_NoPlace_NoHand),(kit_cl ty_NoShelf mo_NoShelf mr_NoPlace_NoShelf ne_NoPlace_NoShelf),(kit_cl ty_NoLine mo_NoLine mr_NoPlace_NoLine ne_NoPlace_NoLine),(kit_cl ty_NoState mo_NoState mr_NoPlace_NoState ne_NoPlace_NoState),(kit_cl ty_NoLetters mo_NoLetters mr_NoHand_NoLetters ne_NoHand_NoLetters),(kit_cl ty_NoRoom mo_NoRoom mr_NoHand_NoRoom ne_NoHand_NoRoom),(kit_cl ty_NoThing mo_NoThing mr_NoHand_NoThing ne_NoHand_NoThing),(kit_cl ty_NoPlace mo_NoPlace mr_NoHand_NoPlace ne_NoHand_NoPlace),(kit_self),(kit_cl ty_NoShelf mo_NoShelf mr_NoHand_NoShelf ne_NoHand_NoShelf),(kit_cl ty_NoLine mo_NoLine mr_NoHand_NoLine ne_NoHand_NoLine),(kit_cl ty_NoState mo_NoState mr_NoHand_NoState ne_NoHand_NoState),(kit_cl ty_NoLetters mo_NoLetters mr_NoShelf_NoLetters ne_NoShelf_NoLetters),(kit_cl ty_NoRoom mo_NoRoom mr_NoShelf_NoRoom ne_NoShelf_NoRoom),(kit_cl ty_NoThing mo_NoThing mr_NoShelf_NoThing ne_NoShelf_NoThing),(kit_cl ty_NoPlace mo_NoPlace mr_NoShelf_NoPlace ne_NoShelf_NoPlace),(kit_cl ty_NoHand mo_NoHand mr_NoShelf_NoHand ne_NoShelf_NoHand),(kit_self),(kit_cl ty_NoLine mo_NoLine mr_NoShelf_NoLine ne_NoShelf_NoLine),(kit_cl ty_NoState mo_NoState mr_NoShelf_NoState ne_NoShelf_NoState),(kit_cl ty_NoLetters mo_NoLetters mr_NoLine_NoLetters ne_NoLine_NoLetters),(kit_cl ty_NoRoom mo_NoRoom mr_NoLine_NoRoom ne_NoLine_NoRoom),(kit_cl ty_NoThing mo_NoThing mr_NoLine_NoThing ne_NoLine_NoThing),(kit_cl ty_NoPlace mo_NoPlace mr_NoLine_NoPlace ne_NoLine_NoPlace),(kit_cl ty_NoHand mo_NoHand mr_NoLine_NoHand ne_NoLine_NoHand),(kit_cl ty_NoShelf mo_NoShelf mr_NoLine_NoShelf ne_NoLine_NoShelf),(kit_self),(kit_cl ty_NoState mo_NoState mr_NoLine_NoState ne_NoLine_NoState),(kit_cl ty_NoLetters mo_NoLetters mr_NoState_NoLetters ne_NoState_NoLetters),(kit_cl ty_NoRoom mo_NoRoom mr_NoState_NoRoom ne_NoState_NoRoom),(kit_cl ty_NoThing mo_NoThing mr_NoState_NoThing ne_NoState_NoThing),(kit_cl ty_NoPlace mo_NoPlace mr_NoState_NoPlace ne_NoState_NoPlace),(kit_cl ty_NoHand mo_NoHand mr_NoState_NoHand ne_NoState_NoHand),(kit_cl ty_NoShelf mo_NoShelf mr_NoState_NoShelf ne_NoState_NoShelf),(kit_cl ty_NoLine mo_NoLine mr_NoState_NoLine ne_NoState_NoLine),(kit_self),(kit_ty (by kernel_rfl) mv_NoLetters_ValueError),(kit_ty (by kernel_rfl) mv_NoRoom_ValueError),(kit_ty (by kernel_rfl) mv_NoThing_ValueError),(kit_ty (by kernel_rfl) mv_NoPlace_ValueError),(kit_ty (by kernel_rfl) mv_NoHand_ValueError),(kit_ty (by kernel_rfl) mv_NoShelf_ValueError),(kit_ty (by kernel_rfl) mv_NoLine_ValueError),(kit_ty (by kernel_rfl) mv_NoState_ValueError),sc_NoLetters_ShelfError,sc_NoRoom_ShelfError,sc_NoThing_ShelfError,sc_NoPlace_ShelfError,sc_NoHand_ShelfError,sc_NoShelf_ShelfError,sc_NoLine_ShelfError,sc_NoState_ShelfError,F_p0,b_p0,PySem.W.mg_of X G a_draw,F_draw,b_draw,PySem.W.mg_of X G a_raised,F_raised,b_raised,PySem.W.mg_of X G a_kinds,F_kinds,b_kinds,PySem.W.mg_of X G a_field,F_field,b_field,PySem.W.mg_of X G a_good,F_good,b_good,PySem.W.mg_of X G a_law,F_law,b_law⟩,PySem.W.mg_of X G a_law,fun s v=>.of_eq rfl⟩
theorem walk {l:PySem.W.OpenLaw} {q:Program} {loose:List Str} {XP:(Str→Option Value)→Heap→Prop} {YP:World→Heap→Prop} {d:DefRec} {K:Params→PySem.W.Frag} (hn:l.most = some 63) (hdf:d.params.defaults = [])
    (hY:∀ (w:World) (h:Heap),YP w h→(K w.params).In h)
    (F:∀ (w:World) (mg:Str→Option Value) (fa:Addr) (h:Heap),(K w.params).In h→h.Ns mainGlobals mg→mg d.name = some (.ref fa)→
      ∃ fd : FuncData, (∀ (s : Shared) (u : Value), BindsTo s fd ⟨[u], []⟩ [("_law_script", u)]) ∧ ∀ base : Heap, (K w.params).In base → base.Ns mainGlobals mg → FnOk l.prog w (K w.params) mg base CX0 5 fa fd ["_law_script"] (spLaw (K w.params))) :
    PySem.W.WalkO q loose XP YP l.row.toRowW d [] (fun f vs=>PySem.call f vs):=
  L2.walk_of (n:=63) (k:=5) (x:="_law_script") (CX:=fun _=>CX0) (sp:=fun w=>spLaw (K w.params)) hn (by decide) hdf ⟨rfl,by decide,by decide⟩ hY F (fun _ _ a ns hl _ hS=>⟨a,ns,rfl,hS,hl,fun _=>rfl⟩) fun _ _ _ _ _ z=>z
end K09
open PySem PySem.W PyProof.Rows
set_option maxRecDepth 100000 in
set_option maxHeartbeats 0 in
theorem PySem.Challenge.cw_shelfmark_k09_refusals_apart_holds : PySem.Challenge.rw_shelfmark_k09_refusals_apart.Holds := by
  w_on; o_law; k_head; (case hw=>w_witness2)
  k_fill
  refine K09.walk (l:=PySem.Challenge.rw_shelfmark_k09_refusals_apart) rfl rfl (fun w h Y=>PySem.W.kIn_of Y) ?F
  case F=>
    intro w mg fa h KX G hmg
    have M : ∃ a : K09.Ad, K09.Tx (L2.KOf KX) mg a ∧ mg "law" = some (.ref a.f_law) ∧ ∀ (s : Shared) (v : Value), BindsTo s a.fd_law ⟨[v], []⟩ [("_law_script", v)] := by
      dsimp only [L2.KOf]
      refine' K09.tx_mk KX G (ac_ShelfError:=?ac_ShelfError) (ac_NoState:=?ac_NoState) (li_NoState:=?li_NoState) (ni_NoState:=?ni_NoState) (no_NoState:=?no_NoState) (i_p0:=?i_p0) (l_p0:=?l_p0) (c_p0:=?c_p0) (k_p0:=?k_p0) (a_draw:=?a_draw) (l_draw:=?l_draw) (c_draw:=?c_draw) (k_draw:=?k_draw) (a_raised:=?a_raised) (l_raised:=?l_raised) (c_raised:=?c_raised) (k_raised:=?k_raised) (a_kinds:=?a_kinds) (l_kinds:=?l_kinds) (c_kinds:=?c_kinds) (k_kinds:=?k_kinds) (a_field:=?a_field) (l_field:=?l_field) (c_field:=?c_field) (k_field:=?k_field) (a_good:=?a_good) (l_good:=?l_good) (c_good:=?c_good) (k_good:=?k_good) (a_law:=?a_law) (l_law:=?l_law) (c_law:=?c_law) (k_law:=?k_law) (ac_NoHand:=?ac_NoHand) (xc_NoHand:=?xc_NoHand) (ac_NoLetters:=?ac_NoLetters) (xc_NoLetters:=?xc_NoLetters) (ac_NoLine:=?ac_NoLine) (xc_NoLine:=?xc_NoLine) (ac_NoPlace:=?ac_NoPlace) (xc_NoPlace:=?xc_NoPlace) (ac_NoRoom:=?ac_NoRoom) (xc_NoRoom:=?xc_NoRoom) (ac_NoShelf:=?ac_NoShelf) (xc_NoShelf:=?xc_NoShelf) (ac_NoThing:=?ac_NoThing) (xc_NoThing:=?xc_NoThing) (xc_ShelfError:=?xc_ShelfError) (sa_NoState:=?sa_NoState) (nr_NoState:=?nr_NoState) (b1_ShelfError:=?b1_ShelfError) (b2_ShelfError:=?b2_ShelfError) (b3_ShelfError:=?b3_ShelfError) (e1_NoLetters:=?e1_NoLetters) (e2_NoLetters:=?e2_NoLetters) (e3_NoLetters:=?e3_NoLetters) (e4_NoLetters:=?e4_NoLetters) (e5_NoLetters:=?e5_NoLetters) (e1_NoRoom:=?e1_NoRoom) (e2_NoRoom:=?e2_NoRoom) (e3_NoRoom:=?e3_NoRoom) (e4_NoRoom:=?e4_NoRoom) (e5_NoRoom:=?e5_NoRoom) (e1_NoThing:=?e1_NoThing) (e2_NoThing:=?e2_NoThing) (e3_NoThing:=?e3_NoThing) (e4_NoThing:=?e4_NoThing) (e5_NoThing:=?e5_NoThing) (e1_NoPlace:=?e1_NoPlace) (e2_NoPlace:=?e2_NoPlace) (e3_NoPlace:=?e3_NoPlace) (e4_NoPlace:=?e4_NoPlace) (e5_NoPlace:=?e5_NoPlace) (e1_NoHand:=?e1_NoHand) (e2_NoHand:=?e2_NoHand) (e3_NoHand:=?e3_NoHand) (e4_NoHand:=?e4_NoHand) (e5_NoHand:=?e5_NoHand) (e1_NoShelf:=?e1_NoShelf) (e2_NoShelf:=?e2_NoShelf) (e3_NoShelf:=?e3_NoShelf) (e4_NoShelf:=?e4_NoShelf) (e5_NoShelf:=?e5_NoShelf) (e1_NoLine:=?e1_NoLine) (e2_NoLine:=?e2_NoLine) (e3_NoLine:=?e3_NoLine) (e4_NoLine:=?e4_NoLine) (e5_NoLine:=?e5_NoLine) (e1_NoState:=?e1_NoState) (e2_NoState:=?e2_NoState) (e3_NoState:=?e3_NoState) (e4_NoState:=?e4_NoState) (e5_NoState:=?e5_NoState) (ty_NoRoom:=?ty_NoRoom) (mo_NoRoom:=?mo_NoRoom) (mr_NoLetters_NoRoom:=?mr_NoLetters_NoRoom) (ne_NoLetters_NoRoom:=?ne_NoLetters_NoRoom) (ty_NoThing:=?ty_NoThing) (mo_NoThing:=?mo_NoThing) (mr_NoLetters_NoThing:=?mr_NoLetters_NoThing) (ne_NoLetters_NoThing:=?ne_NoLetters_NoThing) (ty_NoPlace:=?ty_NoPlace) (mo_NoPlace:=?mo_NoPlace) (mr_NoLetters_NoPlace:=?mr_NoLetters_NoPlace) (ne_NoLetters_NoPlace:=?ne_NoLetters_NoPlace) (ty_NoHand:=?ty_NoHand) (mo_NoHand:=?mo_NoHand) (mr_NoLetters_NoHand:=?mr_NoLetters_NoHand) (ne_NoLetters_NoHand:=?ne_NoLetters_NoHand) (ty_NoShelf:=?ty_NoShelf) (mo_NoShelf:=?mo_NoShelf) (mr_NoLetters_NoShelf:=?mr_NoLetters_NoShelf) (ne_NoLetters_NoShelf:=?ne_NoLetters_NoShelf) (ty_NoLine:=?ty_NoLine) (mo_NoLine:=?mo_NoLine) (mr_NoLetters_NoLine:=?mr_NoLetters_NoLine) (ne_NoLetters_NoLine:=?ne_NoLetters_NoLine) (ty_NoState:=?ty_NoState) (mo_NoState:=?mo_NoState) (mr_NoLetters_NoState:=?mr_NoLetters_NoState) (ne_NoLetters_NoState:=?ne_NoLetters_NoState) (ty_NoLetters:=?ty_NoLetters) (mo_NoLetters:=?mo_NoLetters) (mr_NoRoom_NoLetters:=?mr_NoRoom_NoLetters) (ne_NoRoom_NoLetters:=?ne_NoRoom_NoLetters) (mr_NoRoom_NoThing:=?mr_NoRoom_NoThing) (ne_NoRoom_NoThing:=?ne_NoRoom_NoThing) (mr_NoRoom_NoPlace:=?mr_NoRoom_NoPlace) (ne_NoRoom_NoPlace:=?ne_NoRoom_NoPlace) (mr_NoRoom_NoHand:=?mr_NoRoom_NoHand) (ne_NoRoom_NoHand:=?ne_NoRoom_NoHand) (mr_NoRoom_NoShelf:=?mr_NoRoom_NoShelf) (ne_NoRoom_NoShelf:=?ne_NoRoom_NoShelf) (mr_NoRoom_NoLine:=?mr_NoRoom_NoLine) (ne_NoRoom_NoLine:=?ne_NoRoom_NoLine) (mr_NoRoom_NoState:=?mr_NoRoom_NoState) (ne_NoRoom_NoState:=?ne_NoRoom_NoState) (mr_NoThing_NoLetters:=?mr_NoThing_NoLetters) (ne_NoThing_NoLetters:=?ne_NoThing_NoLetters) (mr_NoThing_NoRoom:=?mr_NoThing_NoRoom) (ne_NoThing_NoRoom:=?ne_NoThing_NoRoom) (mr_NoThing_NoPlace:=?mr_NoThing_NoPlace) (ne_NoThing_NoPlace:=?ne_NoThing_NoPlace) (mr_NoThing_NoHand:=?mr_NoThing_NoHand) (ne_NoThing_NoHand:=?ne_NoThing_NoHand) (mr_NoThing_NoShelf:=?mr_NoThing_NoShelf) (ne_NoThing_NoShelf:=?ne_NoThing_NoShelf) (mr_NoThing_NoLine:=?mr_NoThing_NoLine) (ne_NoThing_NoLine:=?ne_NoThing_NoLine) (mr_NoThing_NoState:=?mr_NoThing_NoState) (ne_NoThing_NoState:=?ne_NoThing_NoState) (mr_NoPlace_NoLetters:=?mr_NoPlace_NoLetters) (ne_NoPlace_NoLetters:=?ne_NoPlace_NoLetters) (mr_NoPlace_NoRoom:=?mr_NoPlace_NoRoom) (ne_NoPlace_NoRoom:=?ne_NoPlace_NoRoom) (mr_NoPlace_NoThing:=?mr_NoPlace_NoThing) (ne_NoPlace_NoThing:=?ne_NoPlace_NoThing) (mr_NoPlace_NoHand:=?mr_NoPlace_NoHand) (ne_NoPlace_NoHand:=?ne_NoPlace_NoHand) (mr_NoPlace_NoShelf:=?mr_NoPlace_NoShelf) (ne_NoPlace_NoShelf:=?ne_NoPlace_NoShelf) (mr_NoPlace_NoLine:=?mr_NoPlace_NoLine) (ne_NoPlace_NoLine:=?ne_NoPlace_NoLine) (mr_NoPlace_NoState:=?mr_NoPlace_NoState) (ne_NoPlace_NoState:=?ne_NoPlace_NoState) (mr_NoHand_NoLetters:=?mr_NoHand_NoLetters) (ne_NoHand_NoLetters:=?ne_NoHand_NoLetters) (mr_NoHand_NoRoom:=?mr_NoHand_NoRoom) (ne_NoHand_NoRoom:=?ne_NoHand_NoRoom) (mr_NoHand_NoThing:=?mr_NoHand_NoThing) (ne_NoHand_NoThing:=?ne_NoHand_NoThing) (mr_NoHand_NoPlace:=?mr_NoHand_NoPlace) (ne_NoHand_NoPlace:=?ne_NoHand_NoPlace) (mr_NoHand_NoShelf:=?mr_NoHand_NoShelf) (ne_NoHand_NoShelf:=?ne_NoHand_NoShelf) (mr_NoHand_NoLine:=?mr_NoHand_NoLine) (ne_NoHand_NoLine:=?ne_NoHand_NoLine) (mr_NoHand_NoState:=?mr_NoHand_NoState) (ne_NoHand_NoState:=?ne_NoHand_NoState) (mr_NoShelf_NoLetters:=?mr_NoShelf_NoLetters) (ne_NoShelf_NoLetters:=?ne_NoShelf_NoLetters) (mr_NoShelf_NoRoom:=?mr_NoShelf_NoRoom) (ne_NoShelf_NoRoom:=?ne_NoShelf_NoRoom) (mr_NoShelf_NoThing:=?mr_NoShelf_NoThing) (ne_NoShelf_NoThing:=?ne_NoShelf_NoThing) (mr_NoShelf_NoPlace:=?mr_NoShelf_NoPlace) (ne_NoShelf_NoPlace:=?ne_NoShelf_NoPlace) (mr_NoShelf_NoHand:=?mr_NoShelf_NoHand) (ne_NoShelf_NoHand:=?ne_NoShelf_NoHand) (mr_NoShelf_NoLine:=?mr_NoShelf_NoLine) (ne_NoShelf_NoLine:=?ne_NoShelf_NoLine) (mr_NoShelf_NoState:=?mr_NoShelf_NoState) (ne_NoShelf_NoState:=?ne_NoShelf_NoState) (mr_NoLine_NoLetters:=?mr_NoLine_NoLetters) (ne_NoLine_NoLetters:=?ne_NoLine_NoLetters) (mr_NoLine_NoRoom:=?mr_NoLine_NoRoom) (ne_NoLine_NoRoom:=?ne_NoLine_NoRoom) (mr_NoLine_NoThing:=?mr_NoLine_NoThing) (ne_NoLine_NoThing:=?ne_NoLine_NoThing) (mr_NoLine_NoPlace:=?mr_NoLine_NoPlace) (ne_NoLine_NoPlace:=?ne_NoLine_NoPlace) (mr_NoLine_NoHand:=?mr_NoLine_NoHand) (ne_NoLine_NoHand:=?ne_NoLine_NoHand) (mr_NoLine_NoShelf:=?mr_NoLine_NoShelf) (ne_NoLine_NoShelf:=?ne_NoLine_NoShelf) (mr_NoLine_NoState:=?mr_NoLine_NoState) (ne_NoLine_NoState:=?ne_NoLine_NoState) (mr_NoState_NoLetters:=?mr_NoState_NoLetters) (ne_NoState_NoLetters:=?ne_NoState_NoLetters) (mr_NoState_NoRoom:=?mr_NoState_NoRoom) (ne_NoState_NoRoom:=?ne_NoState_NoRoom) (mr_NoState_NoThing:=?mr_NoState_NoThing) (ne_NoState_NoThing:=?ne_NoState_NoThing) (mr_NoState_NoPlace:=?mr_NoState_NoPlace) (ne_NoState_NoPlace:=?ne_NoState_NoPlace) (mr_NoState_NoHand:=?mr_NoState_NoHand) (ne_NoState_NoHand:=?ne_NoState_NoHand) (mr_NoState_NoShelf:=?mr_NoState_NoShelf) (ne_NoState_NoShelf:=?ne_NoState_NoShelf) (mr_NoState_NoLine:=?mr_NoState_NoLine) (ne_NoState_NoLine:=?ne_NoState_NoLine) (mv_NoLetters_ValueError:=?mv_NoLetters_ValueError) (mv_NoRoom_ValueError:=?mv_NoRoom_ValueError) (mv_NoThing_ValueError:=?mv_NoThing_ValueError) (mv_NoPlace_ValueError:=?mv_NoPlace_ValueError) (mv_NoHand_ValueError:=?mv_NoHand_ValueError) (mv_NoShelf_ValueError:=?mv_NoShelf_ValueError) (mv_NoLine_ValueError:=?mv_NoLine_ValueError) (mv_NoState_ValueError:=?mv_NoState_ValueError) (sc_NoLetters_ShelfError:=?sc_NoLetters_ShelfError) (sc_NoRoom_ShelfError:=?sc_NoRoom_ShelfError) (sc_NoThing_ShelfError:=?sc_NoThing_ShelfError) (sc_NoPlace_ShelfError:=?sc_NoPlace_ShelfError) (sc_NoHand_ShelfError:=?sc_NoHand_ShelfError) (sc_NoShelf_ShelfError:=?sc_NoShelf_ShelfError) (sc_NoLine_ShelfError:=?sc_NoLine_ShelfError) (sc_NoState_ShelfError:=?sc_NoState_ShelfError) (z_ValueError:=?z_ValueError) (z_isinstance:=?z_isinstance) (z_len:=?z_len) (z_range:=?z_range) (z_str:=?z_str)
      (case ac_ShelfError=>k_is)
      (case ac_NoState=>k_is)
      (case li_NoState=>k_is)
      (case ni_NoState=>k_is)
      (case no_NoState=>kernel_rfl)
      (case i_p0=>k_is)
      (case l_p0=>k_is)
      (case c_p0=>k_is)
      (case k_p0=>k_is)
      (case a_draw=>k_is)
      (case l_draw=>k_is)
      (case c_draw=>k_is)
      (case k_draw=>k_is)
      (case a_raised=>k_is)
      (case l_raised=>k_is)
      (case c_raised=>k_is)
      (case k_raised=>k_is)
      (case a_kinds=>k_is)
      (case l_kinds=>k_is)
      (case c_kinds=>k_is)
      (case k_kinds=>k_is)
      (case a_field=>k_is)
      (case l_field=>k_is)
      (case c_field=>k_is)
      (case k_field=>k_is)
      (case a_good=>k_is)
      (case l_good=>k_is)
      (case c_good=>k_is)
      (case k_good=>k_is)
      (case a_law=>k_is)
      (case l_law=>k_is)
      (case c_law=>k_is)
      (case k_law=>k_is)
      (case ac_NoHand=>k_is)
      (case xc_NoHand=>k_exc)
      (case ac_NoLetters=>k_is)
      (case xc_NoLetters=>k_exc)
      (case ac_NoLine=>k_is)
      (case xc_NoLine=>k_exc)
      (case ac_NoPlace=>k_is)
      (case xc_NoPlace=>k_exc)
      (case ac_NoRoom=>k_is)
      (case xc_NoRoom=>k_exc)
      (case ac_NoShelf=>k_is)
      (case xc_NoShelf=>k_exc)
      (case ac_NoThing=>k_is)
      (case xc_NoThing=>k_exc)
      (case xc_ShelfError=>k_exc)
      (case sa_NoState=>k_is)
      (case nr_NoState=>k_is)
      (case b1_ShelfError=>k_is)
      (case b2_ShelfError=>k_is)
      (case b3_ShelfError=>k_is)
      (case e1_NoLetters=>k_is)
      (case e2_NoLetters=>k_is)
      (case e3_NoLetters=>k_is)
      (case e4_NoLetters=>k_is)
      (case e5_NoLetters=>k_is)
      (case e1_NoRoom=>k_is)
      (case e2_NoRoom=>k_is)
      (case e3_NoRoom=>k_is)
      (case e4_NoRoom=>k_is)
      (case e5_NoRoom=>k_is)
      (case e1_NoThing=>k_is)
      (case e2_NoThing=>k_is)
      (case e3_NoThing=>k_is)
      (case e4_NoThing=>k_is)
      (case e5_NoThing=>k_is)
      (case e1_NoPlace=>k_is)
      (case e2_NoPlace=>k_is)
      (case e3_NoPlace=>k_is)
      (case e4_NoPlace=>k_is)
      (case e5_NoPlace=>k_is)
      (case e1_NoHand=>k_is)
      (case e2_NoHand=>k_is)
      (case e3_NoHand=>k_is)
      (case e4_NoHand=>k_is)
      (case e5_NoHand=>k_is)
      (case e1_NoShelf=>k_is)
      (case e2_NoShelf=>k_is)
      (case e3_NoShelf=>k_is)
      (case e4_NoShelf=>k_is)
      (case e5_NoShelf=>k_is)
      (case e1_NoLine=>k_is)
      (case e2_NoLine=>k_is)
      (case e3_NoLine=>k_is)
      (case e4_NoLine=>k_is)
      (case e5_NoLine=>k_is)
      (case e1_NoState=>k_is)
      (case e2_NoState=>k_is)
      (case e3_NoState=>k_is)
      (case e4_NoState=>k_is)
      (case e5_NoState=>k_is)
      (case ty_NoRoom=>k_is)
      (case mo_NoRoom=>k_is)
      (case mr_NoLetters_NoRoom=>k_is)
      (case ne_NoLetters_NoRoom=>rfl)
      (case ty_NoThing=>k_is)
      (case mo_NoThing=>k_is)
      (case mr_NoLetters_NoThing=>k_is)
      (case ne_NoLetters_NoThing=>rfl)
      (case ty_NoPlace=>k_is)
      (case mo_NoPlace=>k_is)
      (case mr_NoLetters_NoPlace=>k_is)
      (case ne_NoLetters_NoPlace=>rfl)
      (case ty_NoHand=>k_is)
      (case mo_NoHand=>k_is)
      (case mr_NoLetters_NoHand=>k_is)
      (case ne_NoLetters_NoHand=>rfl)
      (case ty_NoShelf=>k_is)
      (case mo_NoShelf=>k_is)
      (case mr_NoLetters_NoShelf=>k_is)
      (case ne_NoLetters_NoShelf=>rfl)
      (case ty_NoLine=>k_is)
      (case mo_NoLine=>k_is)
      (case mr_NoLetters_NoLine=>k_is)
      (case ne_NoLetters_NoLine=>rfl)
      (case ty_NoState=>k_is)
      (case mo_NoState=>k_is)
      (case mr_NoLetters_NoState=>k_is)
      (case ne_NoLetters_NoState=>rfl)
      (case ty_NoLetters=>k_is)
      (case mo_NoLetters=>k_is)
      (case mr_NoRoom_NoLetters=>k_is)
      (case ne_NoRoom_NoLetters=>rfl)
      (case mr_NoRoom_NoThing=>k_is)
      (case ne_NoRoom_NoThing=>rfl)
      (case mr_NoRoom_NoPlace=>k_is)
      (case ne_NoRoom_NoPlace=>rfl)
      (case mr_NoRoom_NoHand=>k_is)
      (case ne_NoRoom_NoHand=>rfl)
      (case mr_NoRoom_NoShelf=>k_is)
      (case ne_NoRoom_NoShelf=>rfl)
      (case mr_NoRoom_NoLine=>k_is)
      (case ne_NoRoom_NoLine=>rfl)
      (case mr_NoRoom_NoState=>k_is)
      (case ne_NoRoom_NoState=>rfl)
      (case mr_NoThing_NoLetters=>k_is)
      (case ne_NoThing_NoLetters=>rfl)
      (case mr_NoThing_NoRoom=>k_is)
      (case ne_NoThing_NoRoom=>rfl)
      (case mr_NoThing_NoPlace=>k_is)
      (case ne_NoThing_NoPlace=>rfl)
      (case mr_NoThing_NoHand=>k_is)
      (case ne_NoThing_NoHand=>rfl)
      (case mr_NoThing_NoShelf=>k_is)
      (case ne_NoThing_NoShelf=>rfl)
      (case mr_NoThing_NoLine=>k_is)
      (case ne_NoThing_NoLine=>rfl)
      (case mr_NoThing_NoState=>k_is)
      (case ne_NoThing_NoState=>rfl)
      (case mr_NoPlace_NoLetters=>k_is)
      (case ne_NoPlace_NoLetters=>rfl)
      (case mr_NoPlace_NoRoom=>k_is)
      (case ne_NoPlace_NoRoom=>rfl)
      (case mr_NoPlace_NoThing=>k_is)
      (case ne_NoPlace_NoThing=>rfl)
      (case mr_NoPlace_NoHand=>k_is)
      (case ne_NoPlace_NoHand=>rfl)
      (case mr_NoPlace_NoShelf=>k_is)
      (case ne_NoPlace_NoShelf=>rfl)
      (case mr_NoPlace_NoLine=>k_is)
      (case ne_NoPlace_NoLine=>rfl)
      (case mr_NoPlace_NoState=>k_is)
      (case ne_NoPlace_NoState=>rfl)
      (case mr_NoHand_NoLetters=>k_is)
      (case ne_NoHand_NoLetters=>rfl)
      (case mr_NoHand_NoRoom=>k_is)
      (case ne_NoHand_NoRoom=>rfl)
      (case mr_NoHand_NoThing=>k_is)
      (case ne_NoHand_NoThing=>rfl)
      (case mr_NoHand_NoPlace=>k_is)
      (case ne_NoHand_NoPlace=>rfl)
      (case mr_NoHand_NoShelf=>k_is)
      (case ne_NoHand_NoShelf=>rfl)
      (case mr_NoHand_NoLine=>k_is)
      (case ne_NoHand_NoLine=>rfl)
      (case mr_NoHand_NoState=>k_is)
      (case ne_NoHand_NoState=>rfl)
      (case mr_NoShelf_NoLetters=>k_is)
      (case ne_NoShelf_NoLetters=>rfl)
      (case mr_NoShelf_NoRoom=>k_is)
      (case ne_NoShelf_NoRoom=>rfl)
      (case mr_NoShelf_NoThing=>k_is)
      (case ne_NoShelf_NoThing=>rfl)
      (case mr_NoShelf_NoPlace=>k_is)
      (case ne_NoShelf_NoPlace=>rfl)
      (case mr_NoShelf_NoHand=>k_is)
      (case ne_NoShelf_NoHand=>rfl)
      (case mr_NoShelf_NoLine=>k_is)
      (case ne_NoShelf_NoLine=>rfl)
      (case mr_NoShelf_NoState=>k_is)
      (case ne_NoShelf_NoState=>rfl)
      (case mr_NoLine_NoLetters=>k_is)
      (case ne_NoLine_NoLetters=>rfl)
      (case mr_NoLine_NoRoom=>k_is)
      (case ne_NoLine_NoRoom=>rfl)
      (case mr_NoLine_NoThing=>k_is)
      (case ne_NoLine_NoThing=>rfl)
      (case mr_NoLine_NoPlace=>k_is)
      (case ne_NoLine_NoPlace=>rfl)
      (case mr_NoLine_NoHand=>k_is)
      (case ne_NoLine_NoHand=>rfl)
      (case mr_NoLine_NoShelf=>k_is)
      (case ne_NoLine_NoShelf=>rfl)
      (case mr_NoLine_NoState=>k_is)
      (case ne_NoLine_NoState=>rfl)
      (case mr_NoState_NoLetters=>k_is)
      (case ne_NoState_NoLetters=>rfl)
      (case mr_NoState_NoRoom=>k_is)
      (case ne_NoState_NoRoom=>rfl)
      (case mr_NoState_NoThing=>k_is)
      (case ne_NoState_NoThing=>rfl)
      (case mr_NoState_NoPlace=>k_is)
      (case ne_NoState_NoPlace=>rfl)
      (case mr_NoState_NoHand=>k_is)
      (case ne_NoState_NoHand=>rfl)
      (case mr_NoState_NoShelf=>k_is)
      (case ne_NoState_NoShelf=>rfl)
      (case mr_NoState_NoLine=>k_is)
      (case ne_NoState_NoLine=>rfl)
      (case mv_NoLetters_ValueError=>k_is)
      (case mv_NoRoom_ValueError=>k_is)
      (case mv_NoThing_ValueError=>k_is)
      (case mv_NoPlace_ValueError=>k_is)
      (case mv_NoHand_ValueError=>k_is)
      (case mv_NoShelf_ValueError=>k_is)
      (case mv_NoLine_ValueError=>k_is)
      (case mv_NoState_ValueError=>k_is)
      (case sc_NoLetters_ShelfError=>k_is)
      (case sc_NoRoom_ShelfError=>k_is)
      (case sc_NoThing_ShelfError=>k_is)
      (case sc_NoPlace_ShelfError=>k_is)
      (case sc_NoHand_ShelfError=>k_is)
      (case sc_NoShelf_ShelfError=>k_is)
      (case sc_NoLine_ShelfError=>k_is)
      (case sc_NoState_ShelfError=>k_is)
      (case z_ValueError=>k_is)
      (case z_isinstance=>k_is)
      (case z_len=>k_is)
      (case z_range=>k_is)
      (case z_str=>k_is)
    obtain ⟨a,T,hl,hb⟩:=M
    have e0:=hmg.symm.trans hl
    cases e0
    exact ⟨_,hb,fun base _ _=>K09.ok_law T⟩
