import PyProof.Rows.All
import Wide.All
import OpenK.AllK
import Wide.FinOn
import Lean
import PyProof.EqAt
import PyProof.EqKinds
import PyProof.TupleCall
import KE.IntBitsLaws
import PyProof.Rows.CallKwBuiltin
import KE.KRevIter
import KE.KDictSum
import PyProof.Rows.SetFrom
import PyProof.DictStraight
import PyProof.FactsAll.set_1
import PyProof.DictIter
import PyProof.DictWalks
import PyProof.FactsAll.set_2
import PyProof.AttrMissHeap
import KE.KDictOf
import KE.KSortTup
import KE.KItemsList
import PyProof.LongRange
import PyProof.Rows.FStr
import PyProof.Rows.StrNews
import PyProof.StrLawsTight
import PyProof.StrLawsChain
import KE.KIntText
import PySem.Challenge.RW_shelfmark_k92_whole_laying
set_option Elab.async false
set_option linter.all false
set_option maxRecDepth 100000
set_option maxHeartbeats 4000000
local macro_rules | `(tactic| omega)=>`(tactic| lia)
local macro_rules | `(tactic| rfl') => `(tactic| kernel_rfl)
open Nat (lt_of_lt_of_le ne_of_lt le_of_lt ne_of_gt le_refl zero_le lt_succ_self le_succ lt_or_ge lt_succ_of_lt pow_succ mul_le_mul_right add_mul one_mul mul_comm lt_trichotomy mod_lt mod_eq_of_lt div_add_mod add_zero eq_or_lt_of_le min_eq_left min_le_left sub_self)
open List (mem_filter mem_range filterMap_cons mem_cons_self mem_cons_of_mem mem_cons mem_append mem_append_left mem_filterMap mem_append_right length_cons map_cons length_map append_nil nodup_cons length_take getElem?_append_right getElem?_append_left getElem?_map mem_of_getElem? length_append length_drop size_toArray map_nil lookup_cons mem_map mem_singleton length_eq_zero_iff drop_zero take_length length_nil drop_eq_getElem_cons getElem?_eq_getElem foldl_cons map_map pairwise_cons map_id all_eq_true getElem_mem getD_eq_getElem?_getD not_mem_nil cons_ne_nil cons_lt_cons_iff append_assoc nil_append replicate_succ cons_append filter_cons filter_eq_nil_iff pairwise_map length_pos_iff find?_cons nodup_nil nodup_append map_append length_range getElem?_eq_none pairwise_iff_getElem getElem_map replicate_zero getElem?_cons_succ set_cons_zero set_cons_succ length_filter_le range_succ filter_append take_append_drop take_succ drop_length mem_iff_getElem take_add_one getElem?_of_mem mem_map_of_mem drop_subset take_take)
open Int (toNat_natCast eq_ofNat_of_zero_le emod_nonneg natCast_add natCast_mul)
open Bool (false_eq_true and_eq_true not_eq_true')
open Option (map_some isSome_map map_eq_some_iff)
local macro_rules | `(tactic| and_intros)=>`(tactic| simp only[set_cons_zero,set_cons_succ,replicate_succ,replicate_zero,map_cons,map_nil,cons_append,nil_append])
abbrev WM:=List Nat
abbrev WN:=List WM
abbrev WO:=List (WM×WM)
abbrev WQ:=Option WM
abbrev WR.{u}(α:Type u):=List α
namespace L2
open PySem PySem.Spec PyProof.Rows
inductive Key where
 |inl (i:Int)|inr (x:Str)|non
deriving DecidableEq
def SI:Value->Bool
 |.none=>true
 |_=>false
def rV:Key->Value->Bool
 |.inl k,v=>Value.isInt k v
 |.inr x,v=>Value.isStrOf x v
 |.non,v=>SI v
def VC(w:World):Key->Int
 |.inl k=>hashInt k
 |.inr x=>hashStr w x
 |.non=>(reduceHash 4238894112)
theorem cH:∀{k:Key} {v:Value},rV k v=true->(∃i t,k=Key.inl i/\v=Value.int i t)\/(∃x t,k=Key.inr x/\v=Value.str x t)\/(k=Key.non/\v=Value.none)
 |.inl i,v,h=>by
  obtain⟨t,e⟩:=Value.isInt_shape (k:=i) (v:=v) h;exact .inl ⟨i,t,rfl,e⟩
 |.inr x,v,h=>by
  obtain⟨t,e⟩:=Value.isStrOf_shape (x:=x) (v:=v) h;exact .inr (.inl ⟨x,t,rfl,e⟩)
 |.non,v,h=>by
  cases v<;>first|exact .inr (.inr ⟨rfl,rfl⟩)|exact nomatch (show false=true from h)
theorem Hl(i:Int)(t:Tok):rV (.inl i) (.int i t)=true:=by simp[rV,Value.isInt]
theorem Ho(x:Str)(t:Tok):rV (.inr x) (.str x t)=true:=by simp[rV,Value.isStrOf]
theorem PV(a b:Int):decide (Key.inl a=Key.inl b)=(a==b):=by
 by_cases e:a=b
 .subst e;simp
 .rw[decide_eq_false (λq=>e (Key.inl.inj q))];exact(beq_eq_false_iff_ne.mpr e).symm
theorem PX(a b:Str):decide (Key.inr a=Key.inr b)=decide (a=b):=by
 by_cases e:a=b
 .subst e;simp
 .rw[decide_eq_false (λq=>e (Key.inr.inj q)),decide_eq_false e]
theorem Jv{prog:Program}{w:World}{A:Around}{E:Value->Shared->Prop}{s:Shared}{Q:Int->Shared->Prop}(h:Q (reduceHash 4238894112) {s with toks:=s.toks+1}):wpAny (model prog w) A (pyHash .none) Q E s:=
 W.pyHash_slot (T:="NoneType") rfl F.slot_NoneType_hash F.entry_NoneType_hash (F.args_NoneType_hash_1 _) (beq_builtin_none _) (.inl rfl) (wpAny_bind (wpAny_pure (wpAny_bind (wpAny_mkInt (wpAny_pure ⟨_,_,rfl,h⟩)))))
theorem PY{prog:Program}{w:World}{A:Around}{E:Value->Shared->Prop}{s:Shared}{Q:Bool->Shared->Prop}(h:Q true s):wpAny (model prog w) A (eqBool .none .none) Q E s:=by
 unfold eqBool;refine wpAny_holding ?_;rw[if_pos (by decide)];exact wpAny_bind (wpAny_rule (wpAny_pure h))
def bU(prog:Program)(w:World):PySem.KeyKind prog w Key where
 is:=rV
 hash:=VC w
 inj:=λv a b ha hb=>by
  rcases cH ha with⟨i,t,rfl,rfl⟩|⟨x,t,rfl,rfl⟩|⟨rfl,rfl⟩<;>rcases cH hb with⟨j,u,rfl,e⟩|⟨y,u,rfl,e⟩|⟨rfl,e⟩<;>
   first|(cases e;rfl)|cases e
 byValue:=λk v h=>by
  rcases cH h with⟨i,t,rfl,rfl⟩|⟨x,t,rfl,rfl⟩|⟨rfl,rfl⟩<;>rfl
 pyHash:=λhv h=>by
  rcases cH hv with⟨i,t,rfl,rfl⟩|⟨x,t,rfl,rfl⟩|⟨rfl,rfl⟩
  .exact wpAny_pyHash_int h
  .exact wpAny_pyHash_str h
  .exact Jv h
 eqBool:=λhu hv h=>by
  rcases cH hu with⟨i,t,rfl,rfl⟩|⟨x,t,rfl,rfl⟩|⟨rfl,rfl⟩<;>rcases cH hv with⟨j,u,rfl,rfl⟩|⟨y,u,rfl,rfl⟩|⟨rfl,rfl⟩
  .rw[PV] at h;exact wpAny_eqBool_int h
  .exact SeqAt.EqAt.int_str i t y u _ _ _ _ h
  .exact SeqAt.EqAt.int_none i t _ _ _ _ h
  .exact SeqAt.EqAt.str_int x t j u _ _ _ _ h
  .rw[PX] at h;exact wpAny_eqBool_str h
  .exact SeqAt.EqAt.str_none x t _ _ _ _ h
  .exact SeqAt.EqAt.none_int j u _ _ _ _ h
  .exact SeqAt.EqAt.none_str y u _ _ _ _ h
  .exact PY h
 «strs»:=λk x t v h=>by
  rcases cH h with⟨i,u,rfl,e⟩|⟨y,u,rfl,e⟩|⟨rfl,e⟩
  .exact nomatch e
  .injection e with e1 _
   subst e1;cases v<;>rfl
  .exact nomatch e
theorem AO(prog:Program)(w:World)(i:Int)(t:Tok):(bU prog w).is (.inl i) (.int i t)=true:=Hl i t
theorem AQ(prog:Program)(w:World)(x:Str)(t:Tok):(bU prog w).is (.inr x) (.str x t)=true:=Ho x t
inductive V where
 |non|bl (b:Bool)|int (i:Int)|str (x:Str)|byt (b:Array UInt8)|flt (b:UInt64)|ref (a:Addr)|ty (n:String)
 deriving DecidableEq
def RelV:V->Value->Prop
 |.non,u=>u=Value.none
 |.bl b,u=>u=Value.bool b
 |.int i,u=>∃t,u=Value.int i t
 |.str x,u=>∃t,u=Value.str x t
 |.byt b,u=>∃t,u=Value.bytes b t
 |.flt b,u=>∃t,u=Value.float b t
 |.ref a,u=>u=Value.ref a
 |.ty n,u=>u=Value.type n
abbrev Vals:WR V->WR Value->Prop:=Paired RelV
theorem Vals.length{xs:WR V}{us:WR Value}(r:Vals xs us):xs.length=us.length:=Paired.length r
theorem Vals.get:∀{xs:WR V} {us:WR Value} {i:Nat} {x:V},Vals xs us->xs[i]?=some x->∃u,us[i]?=some u/\RelV x u
 |_,_,_,_,.nil,e=>by simp at e
 |_,_,0,_,.cons r _,e=>by simp at e;subst e;exact⟨_,rfl,r⟩
 |_,_,i+1,x,.cons _ t,e=>by
  obtain⟨u,h1,h2⟩:=Vals.get (i:=i) (x:=x) t (by simpa using e);exact⟨u,by simpa using h1,h2⟩
theorem Vals.append:∀{xs ys:WR V} {us ws:WR Value},Vals xs us->Vals ys ws->Vals (xs++ys) (us++ws)
 |_,_,_,_,.nil,s=>s
 |_,_,_,_,.cons r t,s=>.cons r (Vals.append t s)
theorem Vals.take:∀{xs:WR V} {us:WR Value} (n:Nat),Vals xs us->Vals (xs.take n) (us.take n)
 |_,_,0,_=>.nil
 |_,_,_+1,.nil=>.nil
 |_,_,n+1,.cons r t=>.cons r (Vals.take n t)
theorem Vals.drop:∀{xs:WR V} {us:WR Value} (n:Nat),Vals xs us->Vals (xs.drop n) (us.drop n)
 |_,_,0,r=>r
 |_,_,_+1,.nil=>.nil
 |_,_,n+1,.cons _ t=>Vals.drop n t
def j6:Option V->Option Value->Prop
 |some v,some u=>RelV v u
 |none,none=>True
 |_,_=>False
def KV{κ:Type}:WR (κ×V)->WR (κ×Value)->Prop:=Paired λ(p:κ×V) (q:κ×Value)=>p.1=q.1/\RelV p.2 q.2
def kV:Key->V
 |.inl i=>.int i
 |.inr x=>.str x
 |.non=>.non
inductive HO where
 |lst (xs:WR V)
 |tup (xs:WR V)
 |dK (kvs:WR (Key×V))|dT (kvs:WR (WR Key×V))
 |set (S:Int->Bool) (n:Nat)
 |ins (C dx:Addr) (fs:WR (Str×V))
 |own (x:Addr)
 |xd (fs:WR (Str×V))
 |met (f x:Addr)
 |rng (lo hi:Int)
 |frz (o:Obj) (u:HO)
 |tbl (ps:Array Value)
 |ext (φ:Heap->Prop)
abbrev Hp:=Addr->Option HO
def upd(H:Hp)(a:Addr)(o:HO):Hp:=λb=>if b=a then some o else H b
theorem aq{H:Hp}{a:Addr}{o:HO}:upd H a o a=some o:=by unfold upd;rw[if_pos rfl]
theorem aH{H:Hp}{a b:Addr}{o:HO}(h:b≠a):upd H a o b=H b:=by unfold upd;rw[if_neg h]
theorem SM{H:Hp}{a b:Addr}{o u:HO}(h:H a=some o)(h':H b=some u)(d:o≠u):a≠b:=by
 intro e;subst e;rw[h] at h';exact d (Option.some.inj h')
theorem eO{H:Hp}{a b:Addr}{o:HO}(h:H a=some o)(h':H b=none):a≠b:=by
 intro e;subst e;rw[h] at h';cases h'
section
variable(P:Program)(w:World)
def bZ(H:Hp)(h:Heap)(a:Addr):HO->Prop
 |.lst xs=>xs.length<=sizeLine/\∃(its:WR Value) (n:Nat),Vals xs its/\h.get? a=some {cls:=.type "list",data:=.seq its.toArray n}
 |.tup xs=>xs.length<=sizeLine/\∃its:WR Value,Vals xs its/\IsTup h a its.toArray
 |.dK kvs=>kvs.length<=sizeLine/\(a==sysModules)=false/\∃vs,KV kvs vs/\h.DictOf (bU P w) a vs
 |.dT kvs=>kvs.length<=sizeLine/\(a==sysModules)=false/\∃xs:WR (WR Key×Addr×Value),
   Paired (λ(p:WR Key×V) (q:WR Key×Addr×Value)=>p.1=q.1/\H q.2.1=some (.tup (p.1.map kV))/\RelV p.2 q.2.2) kvs xs/\
   ∃o es ep,h.get? a=some o/\o.ExactDict/\o.data=.dict es ep/\es.toList=xs.map (entryOfKey (tupleKind (bU P w)))/\(xs.map (·.1)).Nodup
 |.set S n=>h.SetOf (intKind P w) a S n
 |.ins C dx fs=>H dx=some (.own a)/\fs.length<=1000/\dx≠a/\h.get? a=some (W.instObj C dx)/\
   ∃mA,h.Ns1 dx mA/\(∀f,j6 (fs.lookup f) (mA f))/\PySem.Within mA (fs.map (·.1))
 |.own _=>∃o,h.get? a=some o
 |.xd fs=>∃mA,h.Ns1 a mA/\∀f,j6 (fs.lookup f) (mA f)
 |.rng lo hi=>∃t u v,h.get? a=some {cls:=.type "range",data:=.fields #[.int lo t,.int hi u,.int 1 v] }
 |.frz o u=>h.get? a=some o/\bZ H h a u
 |.tbl ps=>h.get? a=some {cls:=.none,data:=.fields ps}
 |.met f x=>h.get? a=some (W.methodObj (.ref f) (.ref x))
 |.ext φ=>φ h/\(∃o,h.get? a=some o)/\∀h1 h2:Heap,φ h1->(∀o,h1.get? a=some o->h2.get? a=some o)->φ h2
def jV(H:Hp)(h:Heap):Prop:=∀a o,H a=some o->bZ P w H h a o
end
section
variable{P:Program}{w:World}{H H':Hp}{h h':Heap}{a:Addr}{o:HO}
theorem bZ.lt(x:bZ P w H h a o):a<h.objs.size:=by
 cases o with
 |lst xs=>obtain⟨_,_,_,_,e⟩:=x;exact Heap.lt_size e
 |tup xs=>obtain⟨_,_,_,p⟩:=x;exact p.lt
 |dK kvs=>obtain⟨_,_,_,_,o,_,_,e,_⟩:=x;exact Heap.lt_size e
 |dT kvs=>obtain⟨_,_,_,_,o,_,_,e,_⟩:=x;exact Heap.lt_size e
 |set S n=>obtain⟨o,_,_,_,e,_⟩:=x;exact Heap.lt_size e
 |ins C dx fs=>obtain⟨_,_,_,e,_⟩:=x;exact Heap.lt_size e
 |own y=>obtain⟨_,e⟩:=x;exact Heap.lt_size e
 |xd fs=>obtain⟨_,⟨_,_,_,e,_⟩,_⟩:=x;exact Heap.lt_size e
 |rng lo hi=>obtain⟨_,_,_,e⟩:=x;exact Heap.lt_size e
 |frz ob u=>obtain⟨e,_⟩:=x;exact Heap.lt_size e
 |tbl ps=>exact Heap.lt_size (show h.get? a=some _ from x)
 |met f y=>exact Heap.lt_size (show h.get? a=some _ from x)
 |ext φ=>obtain⟨_,⟨_,e⟩,_⟩:=x;exact Heap.lt_size e
theorem Paired.PZ{α β:Type}{F G:α->β->Prop}:∀{l₁:WR α} {l₂:WR β},Paired F l₁ l₂->(∀a b,F a b->G a b)->Paired G l₁ l₂
 |_,_,.nil,_=>.nil
 |_,_,.cons r t,f=>.cons (f _ _ r) (Paired.PZ t f)
theorem bZ.stay(x:bZ P w H h a o)(k:∀b u,(b=a\/H b=some (.own a))->h.get? b=some u->h'.get? b=some u)
  (ho:∀b,H b=some (.own a)->H' b=some (.own a)) (ht:∀b xs,H b=some (.tup xs)->H' b=some (.tup xs)):bZ P w H' h' a o:=by
 induction o with
 |lst xs=>obtain⟨z,its,n,r,e⟩:=x;exact⟨z,its,n,r,k _ _ (.inl rfl) e⟩
 |tup xs=>obtain⟨z,its,r,ob,e,c⟩:=x;exact⟨z,its,r,ob,k _ _ (.inl rfl) e,c⟩
 |dK kvs=>obtain⟨z,y,vs,r,ob,es,ep,e,c⟩:=x;exact⟨z,y,vs,r,ob,es,ep,k _ _ (.inl rfl) e,c⟩
 |dT kvs=>
  obtain⟨z,y,xs,r,ob,es,ep,e,c⟩:=x;exact⟨z,y,xs,Paired.PZ r λp q z=>⟨z.1,ht _ _ z.2.1,z.2.2⟩,ob,es,ep,k _ _ (.inl rfl) e,c⟩
 |set S n=>obtain⟨ob,es,ep,t,e,c⟩:=x;exact⟨ob,es,ep,t,k _ _ (.inl rfl) e,c⟩
 |ins C dx fs=>
  obtain⟨d,z,ne,e,mA,⟨od,es,ep,e2,c⟩,r⟩:=x;exact⟨ho _ d,z,ne,k _ _ (.inl rfl) e,mA,⟨od,es,ep,k _ _ (.inr d) e2,c⟩,r⟩
 |own y=>obtain⟨ob,e⟩:=x;exact⟨ob,k _ _ (.inl rfl) e⟩
 |xd fs=>obtain⟨mA,⟨od,es,ep,e,c⟩,r⟩:=x;exact⟨mA,⟨od,es,ep,k _ _ (.inl rfl) e,c⟩,r⟩
 |rng lo hi=>obtain⟨t,u,v,e⟩:=x;exact⟨t,u,v,k _ _ (.inl rfl) e⟩
 |frz ob u ih=>obtain⟨e,q⟩:=x;exact⟨k _ _ (.inl rfl) e,ih q⟩
 |tbl ps=>
  have e:h.get? a=some {cls:=.none,data:=.fields ps}:=x;show h'.get? a=some {cls:=.none,data:=.fields ps};exact k a _ (.inl rfl) e
 |met f y=>
  have e:h.get? a=some (W.methodObj (.ref f) (.ref y)):=x;show h'.get? a=some (W.methodObj (.ref f) (.ref y));exact k a _ (.inl rfl) e
 |ext φ=>obtain⟨p,⟨o,e⟩,st⟩:=x;exact⟨st _ _ p λo q=>k _ _ (.inl rfl) q,⟨o,k _ _ (.inl rfl) e⟩,st⟩
theorem jV.lt(x:jV P w H h)(e:H a=some o):a<h.objs.size:=(x a o e).lt
theorem jV.fresh(x:jV P w H h)(e:h.objs.size<=a):H a=none:=by
 cases q:H a with
 |none=>rfl
 |some u=>exact absurd (lt_of_lt_of_le (x.lt q) e) (Nat.lt_irrefl _)
theorem jV.kept(x:jV P w H h)(k:∀b u,h.get? b=some u->h'.get? b=some u):jV P w H h':=λa o e=>
 (x a o e).stay (λb u _ q=>k b u q) (λ_ q=>q) λ_ _ q=>q
theorem jV.laid(x:jV P w H h)(k:∀b u,h.get? b=some u->h'.get? b=some u)(hp:h.objs.size<=a)(new:bZ P w (upd H a o) h' a o):jV P w (upd H a o) h':=λb u e=>by
 have hn:=x.fresh hp
 by_cases hb:b=a
 .subst hb;rw[aq] at e;cases e;exact new
 .rw[aH hb] at e;exact(x b u e).stay (λc v _ q=>k c v q) (λc q=>by rw[aH (eO q hn)];exact q) λc xs q=>by rw[aH (eO q hn)];exact q
end
def Rd(H:Hp)(a:Addr)(u:HO):Prop:=H a=some u\/∃o,H a=some (.frz o u)
theorem Rd.ok{P:Program}{w:World}{H:Hp}{h:Heap}{a:Addr}{u:HO}(r:Rd H a u)(x:jV P w H h):bZ P w H h a u:=by
 rcases r with r|⟨o,r⟩
 .exact x a u r
 .obtain⟨_,q⟩:=x a _ r;exact q
def SN:Option HO->Prop
 |some (.lst _)=>True
 |some (.dK _)=>True
 |some (.dT _)=>True
 |some (.set _ _)=>True
 |some (.ins _ _ _)=>True
 |some (.ext _)=>True
 |_=>False
section
variable{P:Program}{w:World}{H:Hp}{h h':Heap}{x e:Addr}{o':HO}
theorem jV.write(ok:jV P w H h)(mu:SN (H x))(he:e=x\/H e=some (.own x))(k:∀b u,b≠e->h.get? b=some u->h'.get? b=some u)(heo:∃u,h'.get? e=some u)
  (new:bZ P w (upd H x o') h' x o'):jV P w (upd H x o') h':=λb u q=>by
 have SO:∀c y,H c=some (.own y)->c≠x:=λc y r z=>by subst z;rw[r] at mu;exact mu
 have VD:∀c xs,H c=some (.tup xs)->c≠x:=λc xs r z=>by subst z;rw[r] at mu;exact mu
 by_cases hb:b=x
 .subst hb;rw[aq] at q;cases q;exact new
 .rw[aH hb] at q
  by_cases hbe:b=e
  .have q':H b=some (.own x):=by
    rcases he with z|z
    .exact absurd (hbe.trans z) hb
    .rw[hbe];exact z
   rw[q] at q';cases q';obtain⟨v,hv⟩:=heo;exact⟨v,by rw[hbe];exact hv⟩
  .refine(ok b u q).stay (λc v hc r=>k c v ?_ r) (λc r=>by rw[aH (SO c b r)];exact r) λc xs r=>by rw[aH (VD c xs r)];exact r
   rcases hc with rfl|hc
   .exact hbe
   .rintro rfl
    rcases he with z|z
    .exact SO c b hc z
    .rw[hc] at z;cases z;exact hb rfl
end
structure Un(fs ex:WR Addr)(H H':Hp)(h h':Heap):Prop where
 keep:∀b o,h.get? b=some o->H b=none->b∉fs->b∉ex->h'.get? b=some o
 slot:∀b o,h.get? b=some o->H b=none->b∈fs->b∉ex->∃sl,h'.get? b=some {o with slots:=sl}
 free:∀b o,h.get? b=some o->H b=none->b∉ex->H' b=none
 there:∀b o,h.get? b=some o->b∉ex->∃o',h'.get? b=some o'
 tups:∀b xs,H b=some (.tup xs)->H' b=some (.tup xs)
 frzs:∀b o u,H b=some (.frz o u)->H' b=some (.frz o u)
 tbls:∀b ps,H b=some (.tbl ps)->∃more,H' b=some (.tbl (ps++more))
section
variable{fs fs' ex ex':WR Addr}{H H1 H2:Hp}{h h1 h2 h':Heap}{a x e:Addr}{o:HO}
theorem Un.any(u:Un fs ex H H1 h h1){b:Addr}{ob:Obj}(q:h.get? b=some ob)(n:H b=none)(hx:b∉ex):∃sl,h1.get? b=some {ob with slots:=sl}:=by
 by_cases hb:b∈fs
 .exact u.slot b ob q n hb hx
 .exact⟨ob.slots,u.keep b ob q n hb hx⟩
theorem Un.kept(k:∀b u,h.get? b=some u->h'.get? b=some u):Un fs ex H H h h':=
 ⟨λb ob q _ _ _=>k b ob q,λb ob q _ _ _=>⟨ob.slots,k b ob q⟩,λ_ _ _ n _=>n,λb ob q _=>⟨ob,k b ob q⟩,λ_ _ q=>q,λ_ _ _ q=>q,λ_ ps q=>⟨#[],by rw[q];simp⟩⟩
theorem Un.refl:Un fs ex H H h h:=Un.kept λ_ _ q=>q
theorem Un.laid(k:∀b u,h.get? b=some u->h'.get? b=some u)(hp:h.objs.size<=a)(hn:H a=none):Un fs ex H (upd H a o) h h' where
 keep:=λb u q _ _ _=>k b u q
 slot:=λb u q _ _ _=>⟨u.slots,k b u q⟩
 free:=λb u q n _=>by rw[aH (ne_of_lt (lt_of_lt_of_le (Heap.lt_size q) hp))];exact n
 there:=λb u q _=>⟨u,k b u q⟩
 tups:=λb xs q=>by rw[aH (eO q hn)];exact q
 frzs:=λb u xs q=>by rw[aH (eO q hn)];exact q
 tbls:=λb ps q=>⟨#[],by rw[aH (eO q hn),q];simp⟩
theorem Un.write(mu:SN (H x))(he:e=x\/H e=some (.own x))(k:∀b u,b≠e->h.get? b=some u->h'.get? b=some u)(heo:∃u,h'.get? e=some u):Un fs ex H (upd H x o) h h':=by
 have hx:∀b,H b=none->b≠x:=λb n z=>by subst z;rw[n] at mu;exact mu
 have hb:∀b,H b=none->b≠e:=λb n z=>by
  subst z
  rcases he with r|r
  .exact hx b n r
  .rw[n] at r;cases r
 have hm:∀b u,H b=some u->¬SN (some u)->b≠x:=λb u q nm z=>by subst z;rw[q] at mu;exact nm mu
 refine⟨λb u q n _ _=>k b u (hb b n) q,λb u q n _ _=>⟨u.slots,k b u (hb b n) q⟩,λb u q n _=>by rw[aH (hx b n)];exact n,λb u q _=>?_,
  λb xs q=>by rw[aH (hm b _ q λz=>z)];exact q,λb u xs q=>by rw[aH (hm b _ q λz=>z)];exact q,λb ps q=>⟨#[],by rw[aH (hm b _ q λz=>z),q];simp⟩⟩
 by_cases hbe:b=e
 .subst hbe;exact heo
 .exact⟨u,k b u hbe q⟩
end
def Vu(h:Heap)(H:Hp):WR Addr:=(List.range h.objs.size).filter λa=>(H a).isSome
def yL(h:Heap)(H:Hp):Heap:=W.hideAll h (Vu h H)
theorem Hq(h:Heap)(H:Hp):(yL h H).objs.size=h.objs.size:=W.hideAll_size _ _
theorem Jw{h:Heap}{H:Hp}{b:Addr}{o:Obj}(e:h.get? b=some o)(n:H b=none):(yL h H).get? b=some o:=
 W.hideAll_get _ e λhm=>by
  have q:(H b).isSome=true:=(mem_filter.mp hm).2;rw[n] at q;simp at q
theorem Np{h:Heap}{H:Hp}{b:Addr}{o:Obj}(e:(yL h H).get? b=some o):h.get? b=some o/\H b=none:=by
 have e':h.get? b=some o:=W.of_hideAll (Vu h H) e;refine⟨e',?_⟩;cases q:H b with
 |none=>rfl
 |some x=>
  have hm:b∈Vu h H:=mem_filter.mpr ⟨mem_range.mpr (Heap.lt_size e'),by simp[q]⟩;have z:(yL h H).get? b=none:=W.hideAll_none (Vu h H) hm;rw[z] at e;cases e
structure Mod(K:W.Frag)(mg:Str->Option Value)(base:Heap):Prop where
 kin:K.In base
 glob:base.Ns mainGlobals mg
 blt:∃mb,base.Ns builtinsNs mb/\∀x:Str,x ≠ "__name__"->mb x=bootBuiltins x
 nolimit:base.NoLimit
structure Cx where
 prog:Program
 w:World
 K:W.Frag
 mg:Str->Option Value
 base:Heap
 A:Around
 N:WR Str
 s₀:Shared
 H₀:Hp
 env:Env
 outer:WR Env
 stack:WR Env
 ex:WR Addr
 fn:Str->Bool
 calm:Bool
 pn:WR (Addr×Obj)
 xe:Value->Shared->Prop
def frs(l:WR Env):WR Addr:=l.filterMap (·.frame)
abbrev Cx.fs(X:Cx):WR Addr:=frs X.outer
def Vv(sc:Scope)(x:Str):Prop:=sc.names.lookup x=some .local\/sc.names.lookup x=some .cell\/sc.names.lookup x=some .free
def Loc(sc:Scope)(x:Str):Prop:=sc.names.lookup x=some .local\/sc.names.lookup x=some .cell
def Look(env:Env)(h:Heap)(m:Str->Option Value)(x:Str)(u:Value):Prop:=
 (env.kindOf x=some .local/\m x=some u)\/((env.kindOf x=some .cell\/env.kindOf x=some .free)/\∃c,env.cells.lookup x=some c/\h.IsCell c (some u))
structure Cx.Ok(X:Cx):Prop where
 mod:Mod X.K X.mg X.base
 kind:X.env.scope.kind=.function
 glob:X.env.globals=mainGlobals
 blt:X.env.builtins=builtinsNs
 above:X.s₀.heap.objs.size<=X.env.locals
 inj:∀x y c,X.env.cells.lookup x=some c->X.env.cells.lookup y=some c->x=y
 has:∀x,(X.env.kindOf x=some .cell\/X.env.kindOf x=some .free)->∃c,X.env.cells.lookup x=some c
 cab:∀x c,X.fn x=true->X.env.cells.lookup x=some c->X.s₀.heap.objs.size<=c
 hd:X.calm=true->X.A.handled=none
 frames:X.A.frames=some X.stack
 stk:X.stack=X.outer\/(X.stack=X.env::X.outer/\X.env.frame=some X.env.locals)
 exf:∀b∈X.ex,b≠X.env.locals/\∀x c,X.env.cells.lookup x=some c->c≠b
 bs:∀b o,X.base.get? b=some o->X.s₀.heap.get? b=some o/\X.H₀ b=none
 bsz:X.base.objs.size<=X.s₀.heap.objs.size
 noex:∀b o,X.base.get? b=some o->b∉X.ex
 exfs:∀b∈X.ex,b∉X.fs
 nW:X.s₀.heap.FunFrames X.base X.outer
 frf:∀b∈X.fs,X.H₀ b=none
structure Inv(X:Cx)(Z0:WR (Addr×Obj))(Z:WR (Option V))(H:Hp)(s:Shared):Prop where
 ok:X.Ok
 os:s.os=X.s₀.os
 bare:AllBare s.gens
 base:Un X.fs X.ex X.H₀ H X.s₀.heap s.heap
 loc:∃m,s.heap.Ns X.env.locals m/\∀(i:Nat) (x:Str) (v:V),X.N[i]?=some x->Z[i]?=some (some v)->Vv X.env.scope x->∃u,RelV v u/\Look X.env s.heap m x u
 cell:∀x c,X.env.cells.lookup x=some c->∃v,s.heap.IsCell c v
 free:H X.env.locals=none
 freeC:∀x c,X.env.cells.lookup x=some c->H c=none
 pin:∀p∈X.pn++Z0,s.heap.get? p.1=some p.2/\H p.1=none/\p.1≠X.env.locals/\p.1∉X.fs/\∀v,p.2.data≠.cell v
 hok:jV X.prog X.w H s.heap
 len:Z.length=X.N.length
section
variable{X:Cx}{Z0:WR (Addr×Obj)}{Z:WR (Option V)}{H H':Hp}{s:Shared}{h':Heap}
theorem Cx.Ok.VE(ok:X.Ok){b:Addr}{o:Obj}(e:X.base.get? b=some o):b∉X.fs:=λhb=>by
 have:=(ok.nW.mem hb).1;rw[e] at this;cases this
theorem Inv.bs(I:Inv X Z0 Z H s):∀b o,X.base.get? b=some o->s.heap.get? b=some o/\H b=none:=λb o e=>
 ⟨I.base.keep b o (I.ok.bs b o e).1 (I.ok.bs b o e).2 (I.ok.VE e) (I.ok.noex b o e),I.base.free b o (I.ok.bs b o e).1 (I.ok.bs b o e).2 (I.ok.noex b o e)⟩
theorem Inv.bk(I:Inv X Z0 Z H s):∀b o,X.base.get? b=some o->s.heap.get? b=some o:=λb o e=>(I.bs b o e).1
theorem Inv.mod(I:Inv X Z0 Z H s):Mod X.K X.mg X.base:=I.ok.mod
theorem Inv.nX(I:Inv X Z0 Z H s):X.K.In s.heap:=I.ok.mod.kin.keeps I.bk
theorem Inv.lt(I:Inv X Z0 Z H s):X.env.locals<s.heap.objs.size:=let ⟨_,hn,_⟩:=I.loc;hn.lt
theorem Inv.sz(I:Inv X Z0 Z H s):X.s₀.heap.objs.size<=s.heap.objs.size:=Nat.le_trans I.ok.above (le_of_lt I.lt)
theorem Inv.P0(I:Inv X Z0 Z H s){a:Addr}(h:s.heap.objs.size<=a):a∉X.fs:=λhb=>by
 obtain⟨_,o,ho,_⟩:=I.ok.nW.mem hb;exact absurd (lt_of_lt_of_le (Heap.lt_size ho) (Nat.le_trans I.sz h)) (Nat.lt_irrefl _)
theorem Inv.P1(I:Inv X Z0 Z H s):∀x c,X.env.cells.lookup x=some c->c≠X.env.locals:=λx c e z=>by
 obtain⟨v,o,ho,hd⟩:=I.cell x c e;obtain⟨m,⟨o',es,ep,ho',hd',_⟩,_⟩:=I.loc;rw[z,ho'] at ho;cases ho;rw[hd'] at hd;cases hd
theorem Inv.nW(I:Inv X Z0 Z H s):s.heap.FunFrames X.base X.outer:=by
 have all:∀(l:WR Env),(∀b∈frs l,b∈X.fs)->X.s₀.heap.FunFrames X.base l->s.heap.FunFrames X.base l:=by
  intro l
  induction l with
  |nil=>intro _ _;trivial
  |cons env r ih=>
   intro hs hl;obtain⟨hk,⟨L,o,hf,hn,ho,hd⟩,hr⟩:=hl;have hL:L∈X.fs:=hs L (by unfold frs;rw[filterMap_cons,hf];exact mem_cons_self);obtain⟨sl,e⟩:=I.base.slot L o ho (I.ok.frf L hL) hL λz=>I.ok.exfs L z hL;exact⟨hk,⟨L,_,hf,hn,e,hd⟩,ih (λb hb=>hs b (by unfold frs;rw[filterMap_cons,hf];exact mem_cons_of_mem _ hb)) hr⟩
 exact all X.outer (λ_ hb=>hb) I.ok.nW
theorem Inv.stack(I:Inv X Z0 Z H s):s.heap.FunFrames X.base X.stack:=by
 rcases I.ok.stk with e|⟨e,hf⟩
 .rw[e];exact I.nW
 .rw[e];obtain⟨m,hn,_⟩:=I.loc;refine .cons (by rw[I.ok.kind];decide) hf hn ?_ I.nW;exact Heap.get?_none_of_le (Nat.le_trans I.ok.bsz I.ok.above)
theorem Inv.j9(I:Inv X Z0 Z H s):∀b∈frs X.stack,b∈X.env.locals::X.fs:=λb hb=>by
 rcases I.ok.stk with e|⟨e,hf⟩
 .rw[e] at hb;exact mem_cons_of_mem _ hb
 .rw[e] at hb;unfold frs at hb;rw[filterMap_cons,hf] at hb;exact hb
theorem Inv.tT(I:Inv X Z0 Z H s):∀b∈frs X.stack,H b=none:=λb hb=>by
 rcases mem_cons.mp (I.j9 b hb) with e|hb
 .rw[e];exact I.free
 .obtain⟨_,o,ho,_⟩:=I.ok.nW.mem hb;exact I.base.free b o ho (I.ok.frf b hb) λz=>I.ok.exfs b z hb
theorem Inv.step{g':Array GenState}{t':Nat}{d':Drawn}{ch:WR Addr}(I:Inv X Z0 Z H s)
  (hch:∀b∈ch,(b∈X.ex\/X.s₀.heap.objs.size<=b)/\b≠X.env.locals/\(∀x c,X.env.cells.lookup x=some c->c≠b)/\∀p∈X.pn++Z0,p.1≠b)
  (keep:∀b o,b≠X.env.locals->b∉X.fs->b∉ch->s.heap.get? b=some o->H b=none->h'.get? b=some o)
  (slot:∀b o,b≠X.env.locals->b∈X.fs->b∉ch->s.heap.get? b=some o->H b=none->∃sl,h'.get? b=some {o with slots:=sl}) (free:∀b o,b∉ch->s.heap.get? b=some o->H b=none->H' b=none)
  (there:∀b o,b∉ch->s.heap.get? b=some o->∃o',h'.get? b=some o')
  (tups:∀b xs,H b=some (.tup xs)->H' b=some (.tup xs)) (frzs:∀b o u,H b=some (.frz o u)->H' b=some (.frz o u)) (tbls:∀b ps,H b=some (.tbl ps)->∃more,H' b=some (.tbl (ps++more)))
  (ns:∀m,s.heap.Ns X.env.locals m->h'.Ns X.env.locals m) (hok:jV X.prog X.w H' h') (hg:AllBare g'):
  Inv X Z0 Z H' {s with heap:=h',gens:=g',drawn:=d',toks:=t' }:=by
 have neL:∀b o,X.s₀.heap.get? b=some o->b≠X.env.locals:=λb o e=>ne_of_lt (lt_of_lt_of_le (Heap.lt_size e) I.ok.above);have neC:∀b o,X.s₀.heap.get? b=some o->b∉X.ex->b∉ch:=λb o e hx hb=>by
  rcases (hch b hb).1 with z|z
  .exact hx z
  .exact absurd (lt_of_lt_of_le (Heap.lt_size e) z) (Nat.lt_irrefl _)
 have cellK:∀x c,X.env.cells.lookup x=some c->∀v,s.heap.IsCell c v->h'.IsCell c v:=λx c e v ⟨o,ho,hd⟩=>by
  have nch:c∉ch:=λz=>(hch c z).2.2.1 x c e rfl
  by_cases hc:c∈X.fs
  .obtain⟨sl,q⟩:=slot c o (I.P1 x c e) hc nch ho (I.freeC x c e);exact⟨_,q,hd⟩
  .exact⟨o,keep c o (I.P1 x c e) hc nch ho (I.freeC x c e),hd⟩
 refine⟨I.ok,I.os,hg,⟨λb o e n hb hx=>?_,λb o e n hb hx=>?_,λb o e n hx=>?_,λb o e hx=>?_,λb xs e=>tups b xs (I.base.tups b xs e),λb o xs e=>frzs b o xs (I.base.frzs b o xs e),λb ps e=>?_⟩,?_,λx c e=>?_,?_,λx c e=>?_,λp hp=>?_,hok,I.len⟩
 .exact keep b o (neL b o e) hb (neC b o e hx) (I.base.keep b o e n hb hx) (I.base.free b o e n hx)
 .obtain⟨sl,e1⟩:=I.base.slot b o e n hb hx;obtain⟨sl',e2⟩:=slot b _ (neL b o e) hb (neC b o e hx) e1 (I.base.free b o e n hx);exact⟨sl',e2⟩
 .obtain⟨o',e1⟩:=I.base.there b o e hx;exact free b o' (neC b o e hx) e1 (I.base.free b o e n hx)
 .obtain⟨o',e1⟩:=I.base.there b o e hx;exact there b o' (neC b o e hx) e1
 .obtain⟨m1,e1⟩:=I.base.tbls b ps e;obtain⟨m2,e2⟩:=tbls b _ e1;exact⟨m1++m2,by rw[e2,Array.append_assoc]⟩
 .obtain⟨m,hn,hl⟩:=I.loc;refine⟨m,ns m hn,λi x v e1 e2 e3=>?_⟩;obtain⟨u,r,l⟩:=hl i x v e1 e2 e3;refine⟨u,r,?_⟩
  rcases l with l|⟨k,c,e,z⟩
  .exact .inl l
  .exact .inr ⟨k,c,e,cellK x c e _ z⟩
 .obtain⟨v,z⟩:=I.cell x c e;exact⟨v,cellK x c e v z⟩
 .obtain⟨m,⟨o,_,_,ho,_⟩,_⟩:=I.loc;exact free _ o (λz=>(hch _ z).2.1 rfl) ho I.free
 .obtain⟨v,o,ho,hd⟩:=I.cell x c e;exact free c o (λz=>(hch c z).2.2.1 x c e rfl) ho (I.freeC x c e)
 .obtain⟨e,n,ne,nf,d⟩:=I.pin p hp;have nch:p.1∉ch:=λz=>(hch p.1 z).2.2.2 p hp rfl;exact⟨keep p.1 p.2 ne nf nch e n,free p.1 p.2 nch e n,ne,nf,d⟩
theorem Inv.un{t':Nat}(I:Inv X Z0 Z H s)(u:Un X.fs [] H H' s.heap h')(hok:jV X.prog X.w H' h'):Inv X Z0 Z H' {s with heap:=h',toks:=t' }:=by
 obtain⟨m,⟨o,es,ep,ho,r⟩,_⟩:=id I.loc;obtain⟨sl,hL⟩:=u.any ho I.free (by simp);exact I.step (g':=s.gens) (d':=s.drawn) (ch:=[]) (λ_ z=>nomatch z) (λb o _ hb _ e n=>u.keep b o e n hb (by simp)) (λb o _ hb _ e n=>u.slot b o e n hb (by simp)) (λb o _ e n=>u.free b o e n (by simp)) (λb o _ e=>u.there b o e (by simp)) u.tups u.frzs u.tbls (λm' hm=>by
  obtain⟨o',es',ep',ho',r'⟩:=hm;rw[ho] at ho';cases ho';exact⟨_,es',ep',hL,r'⟩) hok I.bare
theorem Inv.call{g':Array GenState}{t':Nat}{d':Drawn}{ch:WR Addr}(I:Inv X Z0 Z H s)(u:Un (frs X.stack) ch H H' s.heap h')(hok:jV X.prog X.w H' h')(hg:AllBare g')
  (hch:∀b∈ch,(b∈X.ex\/X.s₀.heap.objs.size<=b)/\b≠X.env.locals/\(∀x c,X.env.cells.lookup x=some c->c≠b)/\∀p∈X.pn++Z0,p.1≠b):
  Inv X Z0 Z H' {s with heap:=h',gens:=g',drawn:=d',toks:=t' }:=by
 obtain⟨m,⟨o,es,ep,ho,r⟩,_⟩:=id I.loc;obtain⟨sl,hL⟩:=u.any ho I.free λz=>(hch _ z).2.1 rfl;exact I.step (ch:=ch) hch (λb o hL hb hc e n=>u.keep b o e n (λz=>(mem_cons.mp (I.j9 b z)).elim hL hb) hc) (λb o _ _ hc e n=>u.any e n hc) (λb o hc e n=>u.free b o e n hc) (λb o hc e=>u.there b o e hc) u.tups u.frzs u.tbls (λm' hm=>by
  obtain⟨o',es',ep',ho',r'⟩:=hm;rw[ho] at ho';cases ho';exact⟨_,es',ep',hL,r'⟩) hok hg
theorem Inv.turned{t':Nat}{it:Addr}(I:Inv X Z0 Z H s)(k:∀b o,b≠it->s.heap.get? b=some o->h'.get? b=some o)(hn:H it=none)(hL:it≠X.env.locals)
  (h1:it∈X.ex\/X.s₀.heap.objs.size<=it) (h2:∀x c,X.env.cells.lookup x=some c->c≠it) (h3:∀p∈X.pn++Z0,p.1≠it):Inv X Z0 Z H {s with heap:=h',toks:=t' }:=by
 have nit:∀b u,H b=some u->b≠it:=λb u e z=>by rw[z,hn] at e;cases e
 refine I.step (g':=s.gens) (d':=s.drawn) (ch:=[it]) (λb hb=>?_) (λb o _ _ hc e _=>k b o (λz=>hc (by simp[z])) e) (λb o _ _ hc e _=>⟨o.slots,k b o (λz=>hc (by simp[z])) e⟩) (λ_ _ _ _ n=>n)
  (λb o hc e=>⟨o,k b o (λz=>hc (by simp[z])) e⟩) (λ_ _ e=>e) (λ_ _ _ e=>e) (λb ps e=>⟨#[],by rw[e];simp⟩) (λm hm=>?_) (λb u e=>?_) I.bare
 .have e:b=it:=by simpa using hb
  subst e;exact⟨h1,hL,h2,h3⟩
 .obtain⟨o,es,ep,ho,r⟩:=hm;exact⟨o,es,ep,k _ o (Ne.symm hL) ho,r⟩
 .refine(I.hok b u e).stay (λc v hc q=>k c v ?_ q) (λ_ q=>q) λ_ _ q=>q
  rcases hc with z|z
  .rw[z];exact nit b u e
  .exact nit c _ z
theorem Inv.tok(I:Inv X Z0 Z H s)(t:Nat):Inv X Z0 Z H {s with toks:=t}:=I.un (h':=s.heap) (t':=t) Un.refl I.hok
theorem Inv.kept{t':Nat}(I:Inv X Z0 Z H s)(k:∀b u,s.heap.get? b=some u->h'.get? b=some u):Inv X Z0 Z H {s with heap:=h',toks:=t' }:=I.un (Un.kept k) (I.hok.kept k)
theorem Inv.laid{a:Addr}{o:HO}{t':Nat}(I:Inv X Z0 Z H s)(k:∀b u,s.heap.get? b=some u->h'.get? b=some u)(hp:s.heap.objs.size<=a)(new:bZ X.prog X.w (upd H a o) h' a o):
  Inv X Z0 Z (upd H a o) {s with heap:=h',toks:=t' }:=I.un (Un.laid k hp (I.hok.fresh hp)) (I.hok.laid k hp new)
theorem Inv.write{x e:Addr}{o:HO}{t':Nat}(I:Inv X Z0 Z H s)(mu:SN (H x))(he:e=x\/H e=some (.own x))(k:∀b u,b≠e->s.heap.get? b=some u->h'.get? b=some u)(heo:∃u,h'.get? e=some u)
  (new:bZ X.prog X.w (upd H x o) h' x o):Inv X Z0 Z (upd H x o) {s with heap:=h',toks:=t' }:=I.un (Un.write mu he k heo) (I.hok.write mu he k heo new)
theorem Inv.weak{σ':WR (Option V)}(I:Inv X Z0 Z H s)(hl:σ'.length=Z.length)(w:∀(i:Nat) v,σ'[i]?=some (some v)->Z[i]?=some (some v)):Inv X Z0 σ' H s:=
 ⟨I.ok,I.os,I.bare,I.base,let ⟨m,hn,hl'⟩:=I.loc;⟨m,hn,λi x v e1 e2 e3=>hl' i x v e1 (w i v e2) e3⟩,I.cell,I.free,I.freeC,I.pin,I.hok,hl.trans I.len⟩
theorem Inv.lF{pins':WR (Addr×Obj)}(I:Inv X Z0 Z H s)(h:∀p∈pins',s.heap.get? p.1=some p.2/\H p.1=none/\p.1≠X.env.locals/\p.1∉X.fs/\∀v,p.2.data≠.cell v):Inv X pins' Z H s:=
 ⟨I.ok,I.os,I.bare,I.base,I.loc,I.cell,I.free,I.freeC,λp hp=>(mem_append.mp hp).elim (λz=>I.pin p (mem_append_left _ z)) (h p),I.hok,I.len⟩
theorem AS{N:WR Str}(hN:N.Nodup){i j:Nat}{x:Str}(a:N[i]?=some x)(b:N[j]?=some x):i=j:=by
 obtain⟨h1,e1⟩:=List.getElem?_eq_some_iff.mp a;obtain⟨h2,e2⟩:=List.getElem?_eq_some_iff.mp b;exact(List.getElem_inj hN).mp (e1.trans e2.symm)
theorem qf{M:Model}{A:Around}{E:Value->Shared->Prop}{i:Nat}{x:Str}{v:V}{u:Value}{Q:Unit->Shared->Prop}(I:Inv X Z0 Z H s)(hN:X.N.Nodup)(hi:X.N[i]?=some x)(hx:Loc X.env.scope x)(r:RelV v u)
  (h:∀s',Inv X Z0 (Z.set i (some v)) H s'->(∃a,Heap.SameBut a s.heap s'.heap/\(a=X.env.locals\/X.env.cells.lookup x=some a))->Q () s') (hf:X.fn x=true\/X.env.scope.names.lookup x=some .local:=by first|exact .inl rfl|exact .inr rfl|assumption):wpAny M A (storeName X.env x u) Q E s:=by
 obtain⟨m,hn,hl⟩:=id I.loc;have hcls:(X.env.scope.kind ==.class||(X.env.scope.kind ==.module&&X.env.locals !=X.env.globals))=false:=by rw[I.ok.kind];rfl
 have hiσ:i<Z.length:=by rw[I.len];exact(List.getElem?_eq_some_iff.mp hi).1
 have P1:=I.P1;have tracked:∀{a:Addr} {h':Heap},(∃o,s.heap.get? a=some o/\H a=none)->Heap.SameBut a s.heap h'->jV X.prog X.w H h':=λ{a h'} ha hs b ob e=>by
  obtain⟨_,_,hfree⟩:=ha;refine(I.hok b ob e).stay (λc w' hc q=>(hs.2 c ?_).trans q) (λ_ q=>q) λ_ _ q=>q;rintro rfl
  rcases hc with rfl|hc
  .rw[hfree] at e;cases e
  .rw[hfree] at hc;cases hc
 rcases hx with hk|hk
 .refine wpAny_storeName_local hk hn (λh' hn' hs=>?_) hcls;obtain⟨oL,_,_,hoL,_⟩:=id hn;refine h _ ⟨I.ok,I.os,I.bare,⟨λb o e n hb hx=>?_,λb o e n hb hx=>?_,I.base.free,λb o e hx=>?_,I.base.tups,I.base.frzs,I.base.tbls⟩,⟨_,hn',λj y v' e1 e2 e3=>?_⟩,λy c e=>?_,I.free,I.freeC,λp hp=>?_,tracked ⟨oL,hoL,I.free⟩ hs,by simpa using I.len⟩ ⟨_,hs,.inl rfl⟩
  .exact(hs.2 b (ne_of_lt (lt_of_lt_of_le (Heap.lt_size e) I.ok.above))).trans (I.base.keep b o e n hb hx)
  .obtain⟨sl,e1⟩:=I.base.slot b o e n hb hx;exact⟨sl,(hs.2 b (ne_of_lt (lt_of_lt_of_le (Heap.lt_size e) I.ok.above))).trans e1⟩
  .obtain⟨o',e1⟩:=I.base.there b o e hx;exact⟨o',(hs.2 b (ne_of_lt (lt_of_lt_of_le (Heap.lt_size e) I.ok.above))).trans e1⟩
  .by_cases hj:j=i
   .subst hj;rw[hi] at e1;cases e1;rw[List.getElem?_set_self hiσ] at e2;cases e2;exact⟨u,r,.inl ⟨hk,by simp⟩⟩
   .rw[List.getElem?_set_ne (Ne.symm hj)] at e2;obtain⟨u',r',q⟩:=hl j y v' e1 e2 e3;refine⟨u',r',?_⟩
    rcases q with⟨k,e⟩|⟨k,c,e,z⟩
    .refine .inl ⟨k,?_⟩;have:y≠x:=λe=>hj (AS hN e1 (e▸hi));simp[this,e]
    .exact .inr ⟨k,c,e,z.sameBut hs (P1 y c e)⟩
  .obtain⟨w',z⟩:=I.cell y c e;exact⟨w',z.sameBut hs (P1 y c e)⟩
  .obtain⟨e,n,ne,nf,d⟩:=I.pin p hp;exact⟨(hs.2 p.1 ne).trans e,n,ne,nf,d⟩
 .have hfn:X.fn x=true:=by
   rcases hf with z|z
   .exact z
   .rw[z] at hk;cases hk
  obtain⟨c,hc⟩:=I.ok.has x (.inl hk);obtain⟨w',z⟩:=I.cell x c hc;refine wpAny_storeName_cell I.ok.kind hk hc z (λh' hc' hs=>?_);obtain⟨oc,hoc,VF⟩:=id z;refine h {s with heap:=h' } ⟨I.ok,I.os,I.bare,⟨λb o e n hb hx=>?_,λb o e n hb hx=>?_,I.base.free,λb o e hx=>?_,I.base.tups,I.base.frzs,I.base.tbls⟩,⟨m,hn.sameBut hs (Ne.symm (P1 x c hc)),λj y v' e1 e2 e3=>?_⟩,λy c' e=>?_,I.free,I.freeC,λp hp=>?_,tracked ⟨oc,hoc,I.freeC x c hc⟩ hs,by simpa using I.len⟩ ⟨c,hs,.inr hc⟩
  .exact(hs.2 b (ne_of_lt (lt_of_lt_of_le (Heap.lt_size e) (I.ok.cab x c hfn hc)))).trans (I.base.keep b o e n hb hx)
  .obtain⟨sl,e1⟩:=I.base.slot b o e n hb hx;exact⟨sl,(hs.2 b (ne_of_lt (lt_of_lt_of_le (Heap.lt_size e) (I.ok.cab x c hfn hc)))).trans e1⟩
  .obtain⟨o',e1⟩:=I.base.there b o e hx;exact⟨o',(hs.2 b (ne_of_lt (lt_of_lt_of_le (Heap.lt_size e) (I.ok.cab x c hfn hc)))).trans e1⟩
  .by_cases hj:j=i
   .subst hj;rw[hi] at e1;cases e1;rw[List.getElem?_set_self hiσ] at e2;cases e2;exact⟨u,r,.inr ⟨.inl hk,c,hc,hc'⟩⟩
   .rw[List.getElem?_set_ne (Ne.symm hj)] at e2;obtain⟨u',r',q⟩:=hl j y v' e1 e2 e3;refine⟨u',r',?_⟩
    rcases q with q|⟨k,c',e,z'⟩
    .exact .inl q
    .refine .inr ⟨k,c',e,z'.sameBut hs ?_⟩;rintro rfl;exact hj (AS hN e1 (I.ok.inj _ _ _ e hc▸hi))
  .by_cases hcc:c'=c
   .subst hcc;exact⟨_,hc'⟩
   .obtain⟨w2,z2⟩:=I.cell y c' e;exact⟨w2,z2.sameBut hs hcc⟩
  .obtain⟨e,n,ne,nf,d⟩:=I.pin p hp;refine⟨(hs.2 p.1 ?_).trans e,n,ne,nf,d⟩;intro q;rw[q,hoc] at e;have q':oc=p.2:=Option.some.inj e;exact d w' (by rw[<-q'];exact VF)
theorem AU{M:Model}{A:Around}{E:Value->Shared->Prop}{i:Nat}{x:Str}{v:V}{u:Value}{Q:Unit->Shared->Prop}(I:Inv X Z0 Z H s)(hN:X.N.Nodup)(hi:X.N[i]?=some x)(hx:Loc X.env.scope x)(r:RelV v u)
  (h:∀s',Inv X Z0 (Z.set i (some v)) H s'->Q () s') (hf:X.fn x=true\/X.env.scope.names.lookup x=some .local:=by first|exact .inl rfl|exact .inr rfl|assumption):wpAny M A (storeName X.env x u) Q E s:=
 qf I hN hi hx r (λs' I' _=>h s' I') hf
theorem Inv.Pj{s':Shared}{ch:WR Addr}(I:Inv X Z0 Z H s)(ho:s'.os=s.os)(u:Un (frs X.stack) ch H H' s.heap s'.heap)(hok:jV X.prog X.w H' s'.heap)(hg:AllBare s'.gens)
  (hch:∀b∈ch,(b∈X.ex\/X.s₀.heap.objs.size<=b)/\b≠X.env.locals/\(∀x c,X.env.cells.lookup x=some c->c≠b)/\∀p∈X.pn++Z0,p.1≠b):Inv X Z0 Z H' s':=by
 obtain⟨h',g',d',t',o'⟩:=s';have e:o'=s.os:=ho;subst e;exact I.call (g':=g') (t':=t') (d':=d') u hok hg hch
end
abbrev XK:=Value->Option Addr->Hp->Prop
abbrev St:=WR (Option V)
abbrev VK:=V->Hp->Prop
abbrev TE:=St->Hp->VK->Prop
abbrev TT:=St->Hp->(Bool->Hp->Prop)->Prop
abbrev TA:=St->Hp->(WR V->Hp->Prop)->Prop
structure Ends where
 nx:St->Hp->Prop
 rt:VK
 bk:St->Hp->Prop:=λ_ _=>False
 ct:St->Hp->Prop:=λ_ _=>False
abbrev TS:=Ends->St->Hp->Prop
def EP(X:Cx)(Z0:WR (Addr×Obj))(Z:St)(Q:VK)(u:Value)(s':Shared):Prop:=∃v H',Inv X Z0 Z H' s'/\RelV v u/\Q v H'
def TP(X:Cx)(Z0:WR (Addr×Obj))(Z:St)(Q:Bool->Hp->Prop)(b:Bool)(s':Shared):Prop:=∃H',Inv X Z0 Z H' s'/\Q b H'
def AP(X:Cx)(Z0:WR (Addr×Obj))(Z:St)(Q:WR V->Hp->Prop)(us:WR Value)(s':Shared):Prop:=∃vs H',Inv X Z0 Z H' s'/\Vals vs us/\Q vs H'
def SP(X:Cx)(Z0:WR (Addr×Obj))(D:Ends)(f:Flow)(s':Shared):Prop:=
 match f with
 |.next=>∃σ' H',Inv X Z0 σ' H' s'/\D.nx σ' H'
 |.brk=>∃σ' H',Inv X Z0 σ' H' s'/\D.bk σ' H'
 |.cont=>∃σ' H',Inv X Z0 σ' H' s'/\D.ct σ' H'
 |.ret u=>∃v σ' H',Inv X Z0 σ' H' s'/\RelV v u/\D.rt v H'
def PE(X:Cx)(e:Expr)(t:TE):Prop:=
 ∀(Z0:WR (Addr×Obj)) (s:Shared) (Z:St) (H:Hp) (Q:VK),Inv X Z0 Z H s->t Z H Q->wpAny (model X.prog X.w) X.A (eval e X.env) (EP X Z0 Z Q) X.xe s
def PT(X:Cx)(e:Expr)(t:TT):Prop:=
 ∀(Z0:WR (Addr×Obj)) (s:Shared) (Z:St) (H:Hp) (Q:Bool->Hp->Prop),Inv X Z0 Z H s->t Z H Q->wpAny (model X.prog X.w) X.A (isTrue e X.env (eval e X.env)) (TP X Z0 Z Q) X.xe s
def PW(X:Cx)(e:Expr)(t:TT):Prop:=
 ∀(whole:Sem Value) (Z0:WR (Addr×Obj)) (s:Shared) (Z:St) (H:Hp) (Q:Bool->Hp->Prop),Inv X Z0 Z H s->t Z H Q->wpAny (model X.prog X.w) X.A (isTrue e X.env whole) (TP X Z0 Z Q) X.xe s
theorem PW.pt{X:Cx}{e:Expr}{t:TT}(h:PW X e t):PT X e t:=h _
def PA(X:Cx)(es:WR Expr)(t:TA):Prop:=
 ∀(pos:Pos) (Z0:WR (Addr×Obj)) (s:Shared) (Z:St) (H:Hp) (Q:WR V->Hp->Prop),Inv X Z0 Z H s->t Z H Q->wpAny (model X.prog X.w) X.A (spliced (backTo pos (starEach es X.env))) (AP X Z0 Z Q) X.xe s
def PS(X:Cx)(st:Stmt)(t:TS):Prop:=
 ∀(Z0:WR (Addr×Obj)) (s:Shared) (Z:St) (H:Hp) (D:Ends),Inv X Z0 Z H s->t D Z H->wpAny (model X.prog X.w) X.A (exec st X.env) (SP X Z0 D) X.xe s
def CD(X:Cx)(st:WR Stmt)(t:TS):Prop:=
 ∀(Z0:WR (Addr×Obj)) (s:Shared) (Z:St) (H:Hp) (D:Ends),Inv X Z0 Z H s->t D Z H->wpAny (model X.prog X.w) X.A (execs st X.env) (SP X Z0 D) X.xe s
theorem cA{α:Type}{t:Sem α}{Q Q':α->Shared->Prop}{M:Model}{A:Around}{E:Value->Shared->Prop}{s:Shared}(h:wpAny M A t Q E s)(hQ:∀a s,Q a s->Q' a s):wpAny M A t Q' E s:=wpAny_mono h hQ λ_ _ x=>x
section
variable{X:Cx}
def ai(i:Nat):TE:=λZ H Q=>∃v,Z[i]?=some (some v)/\Q v H
def tC(v:V):TE:=λ_ H Q=>Q v H
theorem Jx{i:Nat}{x:Str}{pos:Pos}(hN:X.N[i]?=some x)(hv:Vv X.env.scope x)(hd:(x==("__debug__" :Str))=false:=by decide)(hcd:(x==("__classdict__" :Str))=false:=by decide):PE X (.Name x pos) (ai i):=by
 intro Z0 s Z H Q I h;obtain⟨v,e,h⟩:=h;obtain⟨m,hn,hl⟩:=I.loc;obtain⟨u,r,l⟩:=hl i x v hN e hv;have fin:EP X Z0 Z Q u s:=⟨v,H,I,r,h⟩
 rcases l with⟨hk,hm⟩|⟨hk,c,hc,hcell⟩
 .exact wpAny_Name (wpAny_loadName_local I.ok.kind hk hn hm fin) hd
 .rcases hk with hk|hk
  .exact wpAny_Name (wpAny_loadName_cell I.ok.kind hk hc hcell fin) hd
  .exact wpAny_Name (wpAny_loadName_free I.ok.kind hk hc hcell fin hcd) hd
theorem P4{i j pos}:PE X (.Constant (.int i) j pos) (tC (.int i)):=λ_ _ _ H _ I h=>wpAny_Constant_int ⟨.int i,H,I.tok _,⟨_,rfl⟩,h⟩
theorem SQ{b j pos}:PE X (.Constant (.bool b) j pos) (tC (.bl b)):=λ_ _ _ H _ I h=>Constant_bool ⟨.bl b,H,I,rfl,h⟩
theorem P5{j pos}:PE X (.Constant .none j pos) (tC .non):=λ_ _ _ H _ I h=>Constant_none ⟨.non,H,I,rfl,h⟩
theorem P6{x j pos}:PE X (.Constant (.str x) j pos) (tC (.str x)):=λ_ _ _ H _ I h=>Calls.Constant_str ⟨.str x,H,I.tok _,⟨_,rfl⟩,h⟩
def Gl(X:Cx)(x:Str):Prop:=X.env.kindOf x=some .globalImplicit
theorem lG{E:Value->Shared->Prop}{Z0:WR (Addr×Obj)}{s:Shared}{Z:St}{H:Hp}{x:Str}{u:Value}{pos:Pos}{Q:Value->Shared->Prop}(I:Inv X Z0 Z H s)(hg:Gl X x)(hm:X.mg x=some u)(h:Q u s)
  (hd:(x==("__debug__":Str))=false:=by decide):wpAny (model X.prog X.w) X.A (eval (.Name x pos) X.env) Q E s:=
 Calls.Name_function_global I.ok.kind hg (Calls.loadGlobal_global (by rw[I.ok.glob];exact I.mod.glob.keeps I.bk) hm h) hd
theorem kg{E:Value->Shared->Prop}{Z0:WR (Addr×Obj)}{s:Shared}{Z:St}{H:Hp}{x:Str}{u:Value}{pos:Pos}{Q:Value->Shared->Prop}(I:Inv X Z0 Z H s)(hg:Gl X x)(hm:X.mg x=none)(hv:bootBuiltins x=some u)(h:Q u s)
  (hn:x ≠ "__name__" :=by decide) (hd:(x==("__debug__" :Str))=false:=by decide):wpAny (model X.prog X.w) X.A (eval (.Name x pos) X.env) Q E s:=by
 obtain⟨mb,h1,h2⟩:=I.mod.blt;exact Calls.Name_function_global I.ok.kind hg (Calls.loadGlobal_builtin (by rw[I.ok.glob];exact I.mod.glob.keeps I.bk) hm (by rw[I.ok.blt];exact h1.keeps I.bk) ((h2 x hn).trans hv) h) hd
theorem EI{x:Str}{v:V}{u:Value}{pos:Pos}(hg:Gl X x)(hm:X.mg x=some u)(r:RelV v u)(hd:(x==("__debug__":Str))=false:=by decide):PE X (.Name x pos) (tC v):=
 λ_ _ _ H _ I h=>lG I hg hm ⟨v,H,I,r,h⟩ hd
theorem Nq{x:Str}{v:V}{u:Value}{pos:Pos}(hg:Gl X x)(hm:X.mg x=none)(hv:bootBuiltins x=some u)(r:RelV v u)(hn:x ≠ "__name__" :=by decide)(hd:(x==("__debug__" :Str))=false:=by decide):PE X (.Name x pos) (tC v):=
 λ_ _ _ H _ I h=>kg I hg hm hv ⟨v,H,I,r,h⟩ hn hd
variable{a b:Expr}{ta tb:TE}{pos:Pos}
def PC(X:Cx)(op:CmpOp)(a b:Expr)(t:TE):Prop:=
 ∀(Z0:WR (Addr×Obj)) (s:Shared) (Z:St) (H:Hp) (Q:VK),Inv X Z0 Z H s->t Z H Q->
  wpAny (model X.prog X.w) X.A (eval a X.env) (λv s₁=>wpAny (model X.prog X.w) X.A (eval b X.env) (λu a8=>wpAny (model X.prog X.w) X.A (compareOp op v u) (EP X Z0 Z Q) X.xe a8) X.xe s₁) X.xe s
theorem uH(b:Expr){op:CmpOp}(h:op≠.In)(h2:op≠.NotIn):behindInMarks op b=false:=by
 have e1:(op==CmpOp.In)=false:=by cases op<;>first|rfl|exact absurd rfl h
 have e2:(op==CmpOp.NotIn)=false:=by cases op<;>first|rfl|exact absurd rfl h2
 cases b<;>simp[behindInMarks,e1,e2]
def uI(ta:TE):TE:=λZ H Q=>ta Z H λx H1=>Q (.bl (decide (x=.non))) H1
def iY(ta:TE):TE:=λZ H Q=>ta Z H λx H1=>Q (.bl (!decide (x=.non))) H1
theorem RelV.AV{x:V}{v:Value}(r:RelV x v):(v==Value.none)=decide (x=.non):=by
 cases x with
 |non=>cases r;rfl
 |bl _=>cases r;rfl
 |int _=>obtain⟨t,rfl⟩:=r;rfl
 |str _=>obtain⟨t,rfl⟩:=r;rfl
 |byt _=>obtain⟨t,rfl⟩:=r;rfl
 |flt _=>obtain⟨t,rfl⟩:=r;rfl
 |ref _=>cases r;rfl
 |ty _=>cases r;rfl
theorem P7{j pos'}(ha:PE X a ta):PC X .Is a (.Constant .none j pos') (uI ta):=by
 intro Z0 s Z H Q I h;refine cA (ha Z0 s Z H _ I h) λv s1 ⟨x,H1,I1,r1,q1⟩=>?_;exact Constant_none (is_none_gen ⟨.bl _,H1,I1,by rw[r1.AV];rfl,q1⟩)
theorem Nr{j pos'}(ha:PE X a ta):PC X .IsNot a (.Constant .none j pos') (iY ta):=by
 intro Z0 s Z H Q I h;refine cA (ha Z0 s Z H _ I h) λv s1 ⟨x,H1,I1,r1,q1⟩=>?_;exact Constant_none (isnot_none_gen ⟨.bl _,H1,I1,by rw[r1.AV];rfl,q1⟩)
def tB(t:TE):TT:=λZ H Q=>t Z H λx H1=>∃c,x=.bl c/\Q c H1
theorem Jy{op:CmpOp}{t:TE}(h:PC X op a b t)(h1:behindInMarks op b=false:=by first|exact uH _ (by decide) (by decide)|rfl):PT X (.Compare a [op] [b] pos) (tB t):=by
 intro Z0 s Z H Q I hw;refine wpAny_isTrue_Compare1 (cA (h Z0 s Z H _ I hw) λv s1 h1=>cA h1 λu s2 h2=>cA h2 λc s3 ⟨x,H1,I1,r1,q1⟩=>?_) h1;obtain⟨d,rfl,q⟩:=q1;cases r1;exact wpAny_truthy_bool ⟨H1,I1,q⟩
theorem P8{e:Expr}{t:TE}(h:PE X e t)(he:∀whole,isTrue e X.env whole=(do let v <-whole;standAt e.pos;holding [v] (truthy v)):=by intro _;rfl):PT X e (tB t):=by
 intro Z0 s Z H Q I hw;refine isTrue_plain (cA (h Z0 s Z H _ I hw) λv s1 ⟨x,H1,I1,r1,q1⟩=>?_) (he _);obtain⟨d,rfl,q⟩:=q1;cases r1;exact wpAny_truthy_bool ⟨H1,I1,q⟩
variable{tA tB':TT}{rest:WR Expr}
def qh(t u:TT):TT:=λZ H Q=>t Z H λc H1=>if c=true then u Z H1 Q else Q false H1
def AM(t u:TT):TT:=λZ H Q=>t Z H λc H1=>if c=true then Q true H1 else u Z H1 Q
def qi(t:TT):TT:=λZ H Q=>t Z H λc H1=>Q (!c) H1
theorem Nt(ha:PT X a tA):PW X (.BoolOp .And [a] pos) tA:=by
 intro wh Z0 s Z H Q I h;refine isTrue_and (cA (ha Z0 s Z H Q I h) λc s1 e=>?_);cases c with
 |true=>exact isTrue_and_nil e
 |false=>exact e
theorem P9(ha:PT X a tA):PW X (.BoolOp .Or [a] pos) tA:=by
 intro wh Z0 s Z H Q I h;refine isTrue_or (cA (ha Z0 s Z H Q I h) λc s1 e=>?_);cases c with
 |false=>exact isTrue_or_nil e
 |true=>exact e
theorem Qa(ha:PT X a tA)(hb:PW X (.BoolOp .And (b::rest) pos) tB'):PW X (.BoolOp .And (a::b::rest) pos) (qh tA tB'):=by
 intro wh Z0 s Z H Q I h;refine isTrue_and (cA (ha Z0 s Z H _ I h) λc s1 ⟨H1,I1,q1⟩=>?_);cases c with
 |true=>exact hb wh Z0 s1 Z H1 Q I1 q1
 |false=>exact⟨H1,I1,q1⟩
theorem SR(ha:PT X a tA)(hb:PW X (.BoolOp .Or (b::rest) pos) tB'):PW X (.BoolOp .Or (a::b::rest) pos) (AM tA tB'):=by
 intro wh Z0 s Z H Q I h;refine isTrue_or (cA (ha Z0 s Z H _ I h) λc s1 ⟨H1,I1,q1⟩=>?_);cases c with
 |true=>exact⟨H1,I1,q1⟩
 |false=>exact hb wh Z0 s1 Z H1 Q I1 q1
theorem Qc(ha:PT X a tA):PT X (.UnaryOp .Not a pos) (qi tA):=by
 intro Z0 s Z H Q I h;exact isTrue_not (ha Z0 s Z H (λc H1=>Q (!c) H1) I h)
def iA(ta tb:TE):TE:=λZ H Q=>ta Z H λx H1=>∃c,x=.bl c/\if c=true then tb Z H1 Q else Q (.bl false) H1
def Jz(ta tb:TE):TE:=λZ H Q=>ta Z H λx H1=>∃c,x=.bl c/\if c=true then Q (.bl true) H1 else tb Z H1 Q
theorem Qd{op}{t:TE}(h:PE X a t):PE X (.BoolOp op [a] pos) t:=λZ0 s Z H Q I hw=>BoolOp_one (h Z0 s Z H Q I hw)
theorem Qf(ha:PE X a ta)(hb:PE X (.BoolOp .And (b::rest) pos) tb):PE X (.BoolOp .And (a::b::rest) pos) (iA ta tb):=by
 intro Z0 s Z H Q I h;refine BoolOp_and (cA (ha Z0 s Z H _ I h) λv s1 ⟨x,H1,I1,r1,q1⟩=>?_);obtain⟨c,rfl,q1⟩:=q1;cases r1;refine wpAny_truthy_bool ?_;cases c with
 |true=>exact hb Z0 s1 Z H1 Q I1 q1
 |false=>exact⟨.bl false,H1,I1,rfl,q1⟩
theorem SS(ha:PE X a ta)(hb:PE X (.BoolOp .Or (b::rest) pos) tb):PE X (.BoolOp .Or (a::b::rest) pos) (Jz ta tb):=by
 intro Z0 s Z H Q I h;refine BoolOp_or (cA (ha Z0 s Z H _ I h) λv s1 ⟨x,H1,I1,r1,q1⟩=>?_);obtain⟨c,rfl,q1⟩:=q1;cases r1;refine wpAny_truthy_bool ?_;cases c with
 |false=>exact hb Z0 s1 Z H1 Q I1 q1
 |true=>exact⟨.bl true,H1,I1,rfl,q1⟩
def Nu(t:TT)(ta tb:TE):TE:=λZ H Q=>t Z H λc H1=>if c=true then ta Z H1 Q else tb Z H1 Q
theorem JA{c:Expr}(hc:PT X c tA)(ha:PE X a ta)(hb:PE X b tb):PE X (.IfExp c a b pos) (Nu tA ta tb):=by
 intro Z0 s Z H Q I h;refine wpAny_IfExp (cA (hc Z0 s Z H _ I h) λd s1 ⟨H1,I1,q1⟩=>?_);cases d with
 |true=>exact ha Z0 s1 Z H1 Q I1 q1
 |false=>exact hb Z0 s1 Z H1 Q I1 q1
end
def aZ(K:W.Frag)(H:Hp)(a:Addr)(xs:WR V):Prop:=
 Rd H a (.lst xs)\/
  ∃(o:Obj) (its:Array Value) (n:Nat),K.lookup a=some o/\o.cls=.type "list"/\o.dict=none/\o.data=.seq its n/\its.size<=sizeLine/\Vals xs its.toList
def ff(K:W.Frag)(H:Hp)(a:Addr)(xs:WR V):Prop:=
 Rd H a (.tup xs)\/
  ∃(o:Obj) (its:Array Value) (n:Nat),K.lookup a=some o/\o.cls=.type "tuple"/\o.data=.seq its n/\its.size<=sizeLine/\Vals xs its.toList
def VG:Value->Option V
 |.none=>some .non
 |.bool b=>some (.bl b)
 |.int i _=>some (.int i)
 |.str x _=>some (.str x)
 |.bytes b _=>some (.byt b)
 |.float b _=>some (.flt b)
 |.ref a=>some (.ref a)
 |.type n=>some (.ty n)
 |_=>none
theorem RelV.abs{x:V}{u:Value}(r:RelV x u):VG u=some x:=by
 cases x with
 |non=>cases r;rfl
 |bl _=>cases r;rfl
 |int _=>obtain⟨t,rfl⟩:=r;rfl
 |str _=>obtain⟨t,rfl⟩:=r;rfl
 |byt _=>obtain⟨t,rfl⟩:=r;rfl
 |flt _=>obtain⟨t,rfl⟩:=r;rfl
 |ref _=>cases r;rfl
 |ty _=>cases r;rfl
theorem RelV.inj{x y:V}{u:Value}(r:RelV x u)(q:RelV y u):x=y:=Option.some.inj (r.abs.symm.trans q.abs)
theorem Vals.inj:∀{xs ys:WR V} {us:WR Value},Vals xs us->Vals ys us->xs=ys
 |_,_,_,.nil,.nil=>rfl
 |_,_,_,.cons r t,.cons r' t'=>by rw[r.inj r',Vals.inj t t']
section
variable{X:Cx}{Z0:WR (Addr×Obj)}{Z:St}{H:Hp}{s:Shared}{a:Addr}{xs ys:WR V}
theorem aZ.of{K:W.Frag}(h:H a=some (.lst xs)):aZ K H a xs:=.inl (.inl h)
theorem ff.of{K:W.Frag}(h:H a=some (.tup xs)):ff K H a xs:=.inl (.inl h)
theorem Inv.list(I:Inv X Z0 Z H s)(h:aZ X.K H a xs):∃its:WR Value,Vals xs its/\PlainL s.heap a its.toArray/\xs.length<=sizeLine:=by
 rcases h with h|⟨o,its,n,hk,hc,hd,hs,hz,r⟩
 .obtain⟨z,its,n,r,e⟩:=h.ok I.hok;exact⟨its,r,⟨_,n,e,rfl,rfl,rfl⟩,z⟩
 .refine⟨its.toList,r,⟨o,n,I.nX a o hk,hc,hd,by simpa using hs⟩,?_⟩;have e:=r.length;simp only[Array.length_toList] at e;omega
theorem Inv.tuple(I:Inv X Z0 Z H s)(h:ff X.K H a xs):∃its:WR Value,Vals xs its/\IsTup s.heap a its.toArray/\xs.length<=sizeLine:=by
 rcases h with h|⟨o,its,n,hk,hc,hs,hz,r⟩
 .obtain⟨z,its,r,p⟩:=h.ok I.hok;exact⟨its,r,p,z⟩
 .refine⟨its.toList,r,⟨o,I.nX a o hk,hc,n,by simpa using hs⟩,?_⟩;have e:=r.length;simp only[Array.length_toList] at e;omega
theorem Inv.JB(I:Inv X Z0 Z H s)(h:aZ X.K H a xs)(h':aZ X.K H a ys):xs=ys:=by
 obtain⟨its,r,⟨o,n,e,_,_,d⟩,_⟩:=I.list h;obtain⟨its',r',⟨o',n',e',_,_,d'⟩,_⟩:=I.list h';rw[e] at e';cases e';rw[d] at d';injection d' with d1 _
 have:its=its':=by simpa using congrArg Array.toList d1
 subst this;exact r.inj r'
end
abbrev Cx.uJ(X:Cx)(E:Value->Shared->Prop):Cx:={X with xe:=E}
abbrev Cx.Nv(X:Cx):Cx:=X.uJ λ_ _=>False
theorem Cx.Ok.uJ{X:Cx}(ok:X.Ok)(E:Value->Shared->Prop):(X.uJ E).Ok:=
 ⟨ok.mod,ok.kind,ok.glob,ok.blt,ok.above,ok.inj,ok.has,ok.cab,ok.hd,ok.frames,ok.stk,ok.exf,ok.bs,ok.bsz,ok.noex,ok.exfs,ok.nW,ok.frf⟩
theorem Cx.Ok.jh{X:Cx}{E:Value->Shared->Prop}(ok:(X.uJ E).Ok):X.Ok:=
 ⟨ok.mod,ok.kind,ok.glob,ok.blt,ok.above,ok.inj,ok.has,ok.cab,ok.hd,ok.frames,ok.stk,ok.exf,ok.bs,ok.bsz,ok.noex,ok.exfs,ok.nW,ok.frf⟩
section
variable{X:Cx}{Z0:WR (Addr×Obj)}{Z:St}{H:Hp}{s:Shared}{E:Value->Shared->Prop}
theorem Inv.uJ(I:Inv X Z0 Z H s)(E:Value->Shared->Prop):Inv (X.uJ E) Z0 Z H s:=⟨I.ok.uJ E,I.os,I.bare,I.base,I.loc,I.cell,I.free,I.freeC,I.pin,I.hok,I.len⟩
theorem Inv.jh(I:Inv (X.uJ E) Z0 Z H s):Inv X Z0 Z H s:=⟨I.ok.jh,I.os,I.bare,I.base,I.loc,I.cell,I.free,I.freeC,I.pin,I.hok,I.len⟩
theorem SP.jh{D:Ends}{f:Flow}{s':Shared}(h:SP (X.uJ E) Z0 D f s'):SP X Z0 D f s':=by
 cases f with
 |next=>obtain⟨σ',H',I,q⟩:=h;exact⟨σ',H',I.jh,q⟩
 |brk=>obtain⟨σ',H',I,q⟩:=h;exact⟨σ',H',I.jh,q⟩
 |cont=>obtain⟨σ',H',I,q⟩:=h;exact⟨σ',H',I.jh,q⟩
 |ret u=>obtain⟨v,σ',H',I,r,q⟩:=h;exact⟨v,σ',H',I.jh,r,q⟩
theorem CD.Nv{st:WR Stmt}{t:TS}(h:CD X.Nv st t):CD X st t:=λZ0 s Z H D I hw=>
 wpAny_mono (h Z0 s Z H D (I.uJ _) hw) (λ_ _ q=>q.jh) λ_ _ z=>False.elim z
end
section
variable{X:Cx}{st:Stmt}{rest:WR Stmt}{t u:TS}{e:Expr}{te:TE}{pos:Pos}
def b8:TS:=λD Z H=>D.nx Z H
def aJ(t u:TS):TS:=λD Z H=>t {D with nx:=u D} Z H
theorem Nx:CD X [] b8:=λ_ _ Z H _ I h=>wpAny_execs_nil ⟨Z,H,I,h⟩
theorem JC(h1:PS X st t)(h2:CD X rest u):CD X (st::rest) (aJ t u):=by
 intro Z0 s Z H D I h;refine wpAny_execs_cons (cA (h1 Z0 s Z H {D with nx:=u D} I h) λf s1 q=>?_);cases f with
 |next=>
  obtain⟨σ',H',I',q⟩:=q;exact h2 Z0 s1 σ' H' D I' q
 |ret v=>exact q
 |brk=>exact q
 |cont=>exact q
theorem Ny(h1:PS X st t):CD X [st] t:=by
 intro Z0 s Z H D I h;refine wpAny_execs_cons (cA (h1 Z0 s Z H D I h) λf s1 q=>?_);cases f with
 |next=>exact wpAny_execs_nil q
 |ret v=>exact q
 |brk=>exact q
 |cont=>exact q
theorem Inv.quiet{Z0:WR (Addr×Obj)}{Z:St}{H:Hp}{s:Shared}(I:Inv X Z0 Z H s):interactive X.env=false:=by simp[interactive,I.ok.kind]
def bR(te:TE):TS:=λD Z H=>te Z H λ_ H1=>D.nx Z H1
theorem Nz(he:PE X e te)(hs:swapsWith e none pos.line X.env=pure false:=by rfl):PS X (.Expr e pos) (bR te):=by
 intro Z0 s Z H D I h;exact wpAny_Expr_any (cA (he Z0 s Z H _ I h) λv s1 ⟨x,H1,I1,r1,q1⟩=>⟨Z,H1,I1,q1⟩) I.quiet hs
def bA(te:TE):TS:=λD Z H=>te Z H D.rt
theorem Qg(he:PE X e te):PS X (.Return (some e) pos) (bA te):=by
 intro Z0 s Z H D I h;exact wpAny_Return_some (cA (he Z0 s Z H _ I h) λv s1 ⟨x,H1,I1,r1,q1⟩=>⟨x,Z,H1,I1,r1,q1⟩)
def cW(c:TT)(t u:TS):TS:=λD Z H=>c Z H λb H1=>if b=true then t D Z H1 else u D Z H1
theorem SV{c:Expr}{a b:WR Stmt}{tc:TT}(hc:PT X c tc)(ha:CD X a t)(hb:CD X b u):PS X (.If c a b pos) (cW tc t u):=by
 intro Z0 s Z H D I h;refine wpAny_If (cA (hc Z0 s Z H _ I h) λd s1 ⟨H1,I1,q1⟩=>?_);cases d with
 |true=>exact ha Z0 s1 Z H1 D I1 q1
 |false=>exact hb Z0 s1 Z H1 D I1 q1
def qj:TS:=λ_ _ _=>False
theorem JD:PS X st qj:=λ_ _ _ _ _ _ h=>h.elim
end
abbrev TG:=V->St->Hp->(St->Hp->Prop)->Prop
abbrev Nk:=WR V->St->Hp->(St->Hp->Prop)->Prop
def PG(X:Cx)(target:Expr)(t:TG):Prop:=
 ∀(Z0:WR (Addr×Obj)) (s:Shared) (Z:St) (H:Hp) (v:V) (u:Value) (Q:St->Hp->Prop),Inv X Z0 Z H s->RelV v u->t v Z H Q->
  wpAny (model X.prog X.w) X.A (assign target X.env u) (λ_ s'=>∃σ' H',Inv X Z0 σ' H' s'/\Q σ' H') X.xe s
def SW(X:Cx)(ts:WR Expr)(t:Nk):Prop:=
 ∀(Z0:WR (Addr×Obj)) (s:Shared) (Z:St) (H:Hp) (vs:WR V) (us:WR Value) (Q:St->Hp->Prop),Inv X Z0 Z H s->Vals vs us->t vs Z H Q->
  wpAny (model X.prog X.w) X.A (assignInOrder ((assignEach ts X.env).map (·.2)) us) (λ_ s'=>∃σ' H',Inv X Z0 σ' H' s'/\Q σ' H') X.xe s
section
variable{X:Cx}{pos:Pos}
def aG(i:Nat):TG:=λv Z H Q=>Q (Z.set i (some v)) H
theorem tU{i:Nat}{x:Str}(hN:X.N.Nodup)(hi:X.N[i]?=some x)(hx:Loc X.env.scope x)(hf:X.fn x=true\/X.env.scope.names.lookup x=some .local:=by first|exact .inl rfl|exact .inr rfl|assumption):PG X (.Name x pos) (aG i):=by
 intro Z0 s Z H v u Q I r h;exact wpAny_assign_Name (AU I hN hi hx r (λs' I'=>⟨_,H,I',h⟩) hf)
def AW:Nk:=λvs Z H Q=>vs=[]/\Q Z H
def kh(t:TG)(u:Nk):Nk:=λvs Z H Q=>∃v r,vs=v::r/\t v Z H λσ' H'=>u r σ' H' Q
theorem EJ:SW X [] AW:=by
 intro Z0 s Z H vs us Q I r h;obtain⟨e,h⟩:=h;subst e;cases r;exact assignInOrder_nil ⟨Z,H,I,h⟩
theorem uK{e:Expr}{es:WR Expr}{t:TG}{u:Nk}(h1:PG X e t)(h2:SW X es u)
  (hs:(assignEach (e::es) X.env).map (·.2)=assign e X.env::(assignEach es X.env).map (·.2):=by rfl):SW X (e::es) (kh t u):=by
 intro Z0 s Z H vs us Q I r h;obtain⟨v,vr,e1,h⟩:=h;subst e1;cases r with
 |cons r rr=>
  rw[hs];refine assignInOrder_cons (cA (h1 Z0 s Z H _ _ _ I r h) λ_ s1 ⟨σ1,H1,I1,q1⟩=>?_);exact h2 Z0 s1 σ1 H1 _ _ Q I1 rr q1
def AX(K:W.Frag)(n:Nat)(t:Nk):TG:=λv Z H Q=>∃a xs,v=.ref a/\ff K H a xs/\xs.length=n/\t xs Z H Q
theorem JE{es:WR Expr}{k:Nat}{t:Nk}{n:Nat}(hc:X.calm=true)(h:SW X es t)
  (hn:(assignEach es X.env).length=n:=by rfl) (hst:(assignEach es X.env).findIdx? (·.1)=none:=by rfl):PG X (.Tuple es k pos) (AX X.K n t):=by
 intro Z0 s Z H v u Q I r hw;obtain⟨a,xs,e1,hq,hl,hw⟩:=hw;subst e1;cases r;obtain⟨its,rv,ht,hz⟩:=I.tuple hq;refine assign_Tuple_tuple (I.ok.hd hc) ht (by simp[hn,<-hl,rv.length]) hst λh' hx=>?_;have I1:Inv X Z0 Z H {s with heap:=h' }:=I.kept (t':=s.toks) λb o e=>hx b o (ne_of_lt (Heap.lt_size e)) e
 exact h Z0 _ Z H xs _ Q I1 (by simpa using rv) hw
def aY(te:TE)(g:TG):TS:=λD Z H=>te Z H λx H1=>g x Z H1 D.nx
theorem JF{i:Nat}{x:Str}{e:Expr}{te:TE}{pos':Pos}(hN:X.N.Nodup)(hi:X.N[i]?=some x)(hx:Loc X.env.scope x)(he:PE X e te)(hs:swapsWith e (some (.Name x pos')) pos.line X.env=pure false:=by rfl)(hf:X.fn x=true\/X.env.scope.names.lookup x=some .local:=by first|exact .inl rfl|exact .inr rfl|assumption):
  PS X (.Assign [.Name x pos'] e pos) (aY te (aG i)):=by
 intro Z0 s Z H D I h;refine wpAny_Assign_Name (cA (he Z0 s Z H _ I h) λv s1 ⟨y,H1,I1,r1,q1⟩=>?_) hs;exact AU I1 hN hi hx r1 (λs2 I2=>⟨_,H1,I2,q1⟩) hf
end
section
variable{X:Cx}{pos:Pos}
def qk(c:TT)(tb:TS):TS:=λD Z H=>∃W:Nat->St->Hp->Prop,(∃m,W m Z H)/\∀m Z H,W m Z H->
 c Z H λb H1=>if b=true then ∃N:St->Hp->Prop,(∀σ' H',N σ' H'->∃m',m'<m/\W m' σ' H')/\tb {D with nx:=N,ct:=N,bk:=D.nx} Z H1 else D.nx Z H1
theorem JG{c:Expr}{body:WR Stmt}{tc:TT}{tb:TS}(hp:PassesOwn (model X.prog X.w) X.A X.env X.xe)(hc:PT X c tc)(hb:CD X body tb):PS X (.While c body [] pos) (qk tc tb):=by
 intro Z0 s Z H D I h;obtain⟨W,⟨m0,w0⟩,turn⟩:=h;refine wpAny_While (codeAny_whileLoop (λn s'=>∃σ' H',Inv X Z0 σ' H' s'/\W n σ' H') ?_ m0 ⟨Z,H,I,w0⟩);rintro n s1 ⟨σ1,H1,I1,w1⟩;refine wpAny_passesOwn hp (cA (hc Z0 s1 σ1 H1 _ I1 (turn n σ1 H1 w1)) λb s2 ⟨H2,I2,q2⟩=>?_);cases b with
 |true=>
  obtain⟨N,hN,q2⟩:=q2;rw[if_pos rfl];refine wpAny_passesOwn hp (cA (hb Z0 s2 σ1 H2 _ I2 q2) λf s3 q3=>?_);cases f with
  |next=>
   obtain⟨σ3,H3,I3,n3⟩:=q3;obtain⟨m',hm,w3⟩:=hN σ3 H3 n3;exact⟨m',hm,σ3,H3,I3,w3⟩
  |cont=>
   obtain⟨σ3,H3,I3,n3⟩:=q3;obtain⟨m',hm,w3⟩:=hN σ3 H3 n3;exact⟨m',hm,σ3,H3,I3,w3⟩
  |brk=>exact q3
  |ret v=>exact q3
 |false=>
  rw[if_neg Bool.false_ne_true];exact wpAny_execs_nil ⟨σ1,H2,I2,q2⟩
end
structure It where
 go:Nat->Hp->Prop
 yld:Nat->Hp->V->Hp->Prop
 stop:Nat->Hp->Prop
def uL(X:Cx)(Z0:WR (Addr×Obj))(H:Hp)(b:Addr):Prop:=
 H b=none/\b≠X.env.locals/\b∉X.fs/\(b∈X.ex\/X.s₀.heap.objs.size<=b)/\(∀x c,X.env.cells.lookup x=some c->c≠b)/\∀p∈X.pn++Z0,p.1≠b
theorem Inv.NB{X:Cx}{Z0:WR (Addr×Obj)}{Z:St}{H H':Hp}{s:Shared}{b:Addr}(I:Inv X Z0 Z H s)(hb:s.heap.objs.size<=b)(hn:H' b=none):uL X Z0 H' b:=by
 refine⟨hn,ne_of_gt (lt_of_lt_of_le I.lt hb),I.P0 hb,.inr (Nat.le_trans I.sz hb),λx c e z=>?_,λp hp z=>?_⟩
 .obtain⟨v,q⟩:=I.cell x c e;exact absurd (lt_of_lt_of_le q.lt (by rw[z];exact hb)) (Nat.lt_irrefl _)
 .exact absurd (lt_of_lt_of_le (Heap.lt_size (I.pin p hp).1) (by rw[z];exact hb)) (Nat.lt_irrefl _)
structure Turn(P:Program)(w:World)(K:W.Frag)(tg:Expr)(J:It)(fp:WR Addr)(it:Addr)(tn:Nat->Heap->Prop):Prop where
 mem:it∈fp
 obj:∀i h,tn i h->∀b∈fp,∃o,h.get? b=some o/\∀v,o.data≠.cell v
 keep:∀i h h',tn i h->(∀b∈fp,∀o,h.get? b=some o->h'.get? b=some o)->tn i h'
 item:∀(X:Cx),X.prog=P->X.w=w->X.K=K->X.calm=true->∀(i:Nat) (Z0:WR (Addr×Obj)) (s:Shared) (Z:St) (H:Hp) (E:Value->Shared->Prop),Inv X Z0 Z H s->(∀b∈fp,uL X Z0 H b)->tn i s.heap->J.go i H->
  wpAny (model P w) X.A (pyNext (.ref it)) (λr s1=>∃u,r=some u/\
   wpAny (model P w) X.A (letOwnedTupleGo tg (.ref it) u) (λ_ s2=>∃x H',Inv X Z0 Z H' s2/\RelV x u/\J.yld i H x H'/\tn (i+1) s2.heap/\∀b∈fp,H' b=none) E s1) E s
 done:∀(X:Cx),X.prog=P->X.w=w->X.K=K->X.calm=true->∀(i:Nat) (Z0:WR (Addr×Obj)) (s:Shared) (Z:St) (H:Hp) (E:Value->Shared->Prop),Inv X Z0 Z H s->(∀b∈fp,uL X Z0 H b)->tn i s.heap->J.stop i H->
  wpAny (model P w) X.A (pyNext (.ref it)) (λr s1=>r=none/\Inv X Z0 Z H s1) E s
 self:∀(A:Around) (i:Nat) (s:Shared) (Q:Value->Shared->Prop) (E:Value->Shared->Prop),tn i s.heap->Q (.ref it) s->wpAny (model P w) A (pyIter (.ref it)) Q E s
abbrev TI:=St->Hp->(It->Hp->Prop)->Prop
def Ws(X:Cx)(Z0:WR (Addr×Obj))(Z:St)(tg:Expr)(R:It->Hp->Prop)(itv:Value)(s2:Shared):Prop:=
 ∃(it:Addr) (fp:WR Addr) (tn:Nat->Heap->Prop) (J:It) (H':Hp),itv=.ref it/\Inv X Z0 Z H' s2/\Turn X.prog X.w X.K tg J fp it tn/\tn 0 s2.heap/\(∀b∈fp,uL X Z0 H' b)/\R J H'
def PI(X:Cx)(tg iter:Expr)(wi:TI):Prop:=
 ∀(Z0:WR (Addr×Obj)) (s:Shared) (Z:St) (H:Hp) (R:It->Hp->Prop),Inv X Z0 Z H s->wi Z H R->
  wpAny (model X.prog X.w) X.A (eval iter X.env) (λv s1=>wpAny (model X.prog X.w) X.A (pyIter v) (Ws X Z0 Z tg R) X.xe s1) X.xe s
theorem EK{M:Model}{A:Around}{E:Value->Shared->Prop}{s:Shared}{tg:Expr}{it:Addr}{u:Value}{o:Obj}{n:String}{vs:Array Value}{Q:Unit->Shared->Prop}(ho:s.heap.get? it=some o)(hc:o.cls=.type n)(hd:o.data=.fields vs)
  (hn:["enumerate", "zip", "dict_itemiterator", "dict_reverseitemiterator", "odict_iterator", "itertools.zip_longest", "itertools.pairwise"].contains n=false) (hQ:Q () s):wpAny M A (letOwnedTupleGo tg (.ref it) u) Q E s:=by
 unfold letOwnedTupleGo;cases tg<;>first
  |exact wpAny_pure hQ
  |(cases u<;>first
    |exact wpAny_pure hQ
    |(refine wpAny_bind (wpAny_load ho ?_)
      rw[hc,hd];show wpAny M A (if (["enumerate", "zip", "dict_itemiterator", "dict_reverseitemiterator", "odict_iterator", "itertools.zip_longest", "itertools.pairwise"].contains n&&vs[0]?==some (rawInt _))=true then _ else _) Q E s
      rw[if_neg (by intro h;rw[hn,Bool.false_and] at h;cases h)];exact wpAny_pure hQ))
def Pk(K:W.Frag)(a:Addr):It:=
 ⟨λi H=>∃xs x,aZ K H a xs/\xs[i]?=some x,λi H x H'=>H'=H/\∀xs,aZ K H a xs->xs[i]?=some x,λi H=>∃xs,aZ K H a xs/\xs.length<=i⟩
def Nl(lo:Int)(n:Nat):It:=⟨λi _=>i<n,λi H x H'=>H'=H/\x=.int (lo+i),λi _=>n<=i⟩
theorem Hr{P:Program}{w:World}{K:W.Frag}{tg:Expr}(a it:Addr):Turn P w K tg (Pk K a) [it] it (λi h=>h.IsListIter it a i) where
 mem:=by simp
 obj:=λi h st b hb=>by
  have e:b=it:=by simpa using hb
  subst e;obtain⟨o,e,c,d⟩:=st;exact⟨o,e,λv z=>by rw[d] at z;cases z⟩
 keep:=λi h h' st k=>st.at λo e=>k it (by simp) o e
 item:=by
  intro X hP hw hK hc i Z0 s Z H E I hf st hg;subst hP hw hK;obtain⟨xs,x,hq,hx⟩:=hg;obtain⟨its,rv,p,hz⟩:=I.list hq;obtain⟨u,hu,ru⟩:=rv.get hx;obtain⟨f0,f1,f2,f3,f4,f5⟩:=hf it (by simp);refine wpAny_pyNext_list_item st p.isList (x:=u) (by simpa using hu) λh' st' sb=>?_;have I1:Inv X Z0 Z H {s with heap:=h' }:=I.turned (t':=s.toks) (λb o hb e=>(sb.2 b hb).trans e) f0 f1 f3 f4 f5
  obtain⟨o,e,c,d⟩:=id st';exact⟨u,rfl,EK (s:={s with heap:=h' }) e c d (by decide) ⟨x,H,I1,ru,⟨rfl,λys hy=>by rw[I.JB hy hq];exact hx⟩,st',λb hb=>(hf b hb).1⟩⟩
 done:=by
  intro X hP hw hK hc i Z0 s Z H E I hf st hg;subst hP hw hK;obtain⟨xs,hq,hx⟩:=hg;obtain⟨its,rv,p,hz⟩:=I.list hq;obtain⟨f0,f1,f2,f3,f4,f5⟩:=hf it (by simp);have hl:=rv.length;exact wpAny_pyNext_list_end (I.ok.hd hc) st p.isList (by simp;omega) λh' eb=>⟨rfl,I.turned (t':=s.toks) (λb o hb e=>eb b o hb e) f0 f1 f3 f4 f5⟩
 self:=λ_ _ _ _ _ st h=>wpAny_pyIter_listiter st h
theorem CJ{P:Program}{w:World}{K:PySem.W.Frag}{tg:Expr}(it:Addr)(lo:Int)(n:Nat):Turn P w K tg (Nl lo n) [it] it (λi h=>IsRangeIter h it (lo+(i:Nat)*1) ((n:Int)-(i:Nat)) 1) where
 mem:=by simp
 obj:=λi h st b hb=>by
  have e:b=it:=by simpa using hb
  subst e;exact⟨_,st,λv z=>by
   have z':Data.fields _=Data.cell v:=z;cases z'⟩
 keep:=λi h h' st k=>k it (by simp) _ st
 item:=by
  intro X hP hw hK hc i Z0 s Z H E I hf st hg;subst hP hw hK;obtain⟨f0,f1,f2,f3,f4,f5⟩:=hf it (by simp);have W:=Walks.range (prog:=X.prog) (w:=X.w) (I.ok.hd hc) it lo 1 n;refine W.item i s _ _ hg st λv h' tk hv st' kk=>?_;obtain⟨t,rfl⟩:=hv;have I1:Inv X Z0 Z H {s with heap:=h',toks:=tk}:=I.turned (λb o hb e=>kk b o (by simpa using hb) e) f0 f1 f3 f4 f5
  refine⟨_,rfl,EK (s:={s with heap:=h',toks:=tk}) (n:="range_iterator") st' rfl rfl (by decide) ⟨.int (lo+i),H,I1,⟨t,?_⟩,⟨rfl,rfl⟩,st',λb hb=>(hf b hb).1⟩⟩;rw[Int.mul_one]
 done:=by
  intro X hP hw hK hc i Z0 s Z H E I hf st hg;subst hP hw hK;obtain⟨f0,f1,f2,f3,f4,f5⟩:=hf it (by simp);exact wpAny_pyNext_range_end (I.ok.hd hc) st (by have:n<=i:=hg;omega) λh' eb=>⟨rfl,I.turned (t':=s.toks) (λb o hb e=>eb b o hb e) f0 f1 f3 f4 f5⟩
 self:=λ_ _ _ _ _ st h=>wpAny_pyIter_rangeiter st h
section
variable{X:Cx}{tg:Expr}
def bV(K:W.Frag)(tl:TE):TI:=λZ H R=>tl Z H λx H1=>∃a,x=.ref a/\(∃xs,aZ K H1 a xs)/\R (Pk K a) H1
theorem NC{l:Expr}{tl:TE}(hl:PE X l tl):PI X tg l (bV X.K tl):=by
 intro Z0 s Z H R I h;refine cA (hl Z0 s Z H _ I h) λv s1 ⟨x,H1,I1,r1,q1⟩=>?_;obtain⟨a,e,⟨xs,hq⟩,q⟩:=q1;subst e;cases r1;obtain⟨its,rv,p,hz⟩:=I1.list hq;refine wpAny_pyIter_list p.isList ?_;refine⟨s1.heap.objs.size,[s1.heap.objs.size],_,_,H1,rfl,I1.kept (t':=s1.toks) λb o e=>Heap.get?_push_of_some _ e,Hr a _,⟨_,Heap.get?_push_size _ rfl,rfl,rfl⟩,λb hb=>?_,q⟩;have e:b=s1.heap.objs.size:=by simpa using hb
 subst e;exact I1.NB (le_refl _) (I1.hok.fresh (le_refl _))
theorem AY{Z0:WR (Addr×Obj)}{Z:St}{H:Hp}{s:Shared}{R:It->Hp->Prop}{E:Value->Shared->Prop}{lo hi:Int}{t u v:Tok}{tk:Nat}(I:Inv X Z0 Z H s)(h1:-(2^62)<=lo)(h2:lo<2^62)(h3:-(2^62)<=hi)(h4:hi<2^62)
  (q:R (Nl lo (hi-lo).toNat) H):wpAny (model X.prog X.w) X.A (pyIter (.ref s.heap.objs.size)) (Ws X Z0 Z tg R) E {s with heap:=s.heap.push {cls:=.type "range",data:=.fields #[.int lo t,.int hi u,.int 1 v] },toks:=tk}:=by
 refine wpAny_pyIter_range (IsRange.new ..) (small_one h1 h2 h3 h4) ?_;have I1:Inv X Z0 Z H {s with heap:=s.heap.push {cls:=.type "range",data:=.fields #[.int lo t,.int hi u,.int 1 v] },toks:=tk}:=I.kept λb o e=>Heap.get?_push_of_some _ e
 refine⟨(s.heap.push {cls:=.type "range",data:=.fields #[.int lo t,.int hi u,.int 1 v] }).objs.size,[(s.heap.push {cls:=.type "range",data:=.fields #[.int lo t,.int hi u,.int 1 v] }).objs.size],_,_,H,rfl,
  I1.kept (t':=tk) λb o e=>Heap.get?_push_of_some _ e,CJ _ lo (hi-lo).toNat,?_,λb hb=>?_,q⟩
 .have e1:lo+((0:Nat):Int)*1=lo:=by simp
  have e2:(((hi-lo).toNat:Nat):Int)-((0:Nat):Int)=Builtin.Range.rangeSize lo hi 1:=by rw[rangeSize_one];split<;>omega
  show IsRangeIter _ _ (lo+((0:Nat):Int)*1) ((((hi-lo).toNat:Nat):Int)-((0:Nat):Int)) 1;rw[e1,e2];exact Heap.get?_push_size _ rfl
 .have e:b=(s.heap.push {cls:=.type "range",data:=.fields #[.int lo t,.int hi u,.int 1 v] }).objs.size:=by simpa using hb
  subst e;exact I1.NB (le_refl _) (I1.hok.fresh (le_refl _))
def jW(ta:TA):TI:=λZ H R=>ta Z H λvs H1=>∃j:Int,vs=[.int j]/\-(2^62)<=j/\j<2^62/\R (Nl 0 j.toNat) H1
def uM(ta:TA):TI:=λZ H R=>ta Z H λvs H1=>∃i j:Int,vs=[.int i,.int j]/\(-(2^62)<=i/\i<2^62/\-(2^62)<=j/\j<2^62)/\R (Nl i (j-i).toNat) H1
theorem Hs{a:Expr}{ta:TA}{p pos:Pos}(hg:Gl X "range")(hm:X.mg "range" =none)(ha:PA X [a] ta)(hs:starEach [a] X.env=[(false,eval a X.env)]:=by rfl):PI X tg (.Call (.Name "range" p) [a] [] pos) (jW ta):=by
 intro Z0 s Z H R I h;refine Call_ (kg I hg hm boot_range (PyProof.Rows.callWith_type1 (cA (ha pos Z0 s Z H _ I h) λus s1 ⟨vs,H1,I1,r1,q1⟩=>?_) hs rfl));obtain⟨j,e,q1,q2,q⟩:=q1;subst e;cases r1 with
 |cons r rr=>
  cases rr;obtain⟨t,rfl⟩:=r;exact call_range_1 (AY I1 (by omega) (by omega) q1 q2 (by simpa using q))
theorem Ht{a b:Expr}{ta:TA}{p pos:Pos}(hg:Gl X "range")(hm:X.mg "range" =none)(ha:PA X [a,b] ta)(hs:starEach [a,b] X.env=[(false,eval a X.env),(false,eval b X.env)]:=by rfl)(hs2:starEach [b] X.env=[(false,eval b X.env)]:=by rfl):
  PI X tg (.Call (.Name "range" p) [a,b] [] pos) (uM ta):=by
 intro Z0 s Z H R I h;refine Call_ (kg I hg hm boot_range (PyProof.Rows.callWith_type1 (cA (ha pos Z0 s Z H _ I h) λus s1 ⟨vs,H1,I1,r1,q1⟩=>?_) (by rw[hs,hs2]) (by rw[hs2];rfl)));obtain⟨i,j,e,⟨q1,q2,q3,q4⟩,q⟩:=q1;subst e;cases r1 with
 |cons r rr=>
  cases rr with
  |cons r' rr=>
   cases rr;obtain⟨t,rfl⟩:=r;obtain⟨t',rfl⟩:=r';exact call_range_2 (AY I1 q1 q2 q3 q4 q)
def iy(wi:TI)(g:TG)(tb:TS):TS:=λD Z H=>wi Z H λJ H1=>∃W:Nat->Nat->St->Hp->Prop,(∃m,W 0 m Z H1)/\∀i m Z H,W i m Z H->
 (J.stop i H/\D.nx Z H)\/(J.go i H/\∃N:St->Hp->Prop,(∀σ' H',N σ' H'->∃m',m'<m/\W (i+1) m' σ' H')/\∀x H',J.yld i H x H'->g x Z H' λσ2 H2=>tb {D with nx:=N,ct:=N,bk:=D.nx} σ2 H2)
def ql(fp:WR Addr)(h:Heap):WR (Addr×Obj):=fp.filterMap λb=>(h.get? b).map λo=>(b,o)
theorem fP{fp:WR Addr}{h:Heap}{b:Addr}{o:Obj}(hb:b∈fp)(e:h.get? b=some o):(b,o)∈ql fp h:=mem_filterMap.mpr ⟨b,hb,by rw[e];rfl⟩
theorem Hu{fp:WR Addr}{h:Heap}{p:Addr×Obj}(hp:p∈ql fp h):p.1∈fp/\h.get? p.1=some p.2:=by
 obtain⟨b,hb,e⟩:=mem_filterMap.mp hp;cases q:h.get? b with
 |none=>rw[q] at e;cases e
 |some o=>
  rw[q] at e;have e':(b,o)=p:=Option.some.inj e;subst e';exact⟨hb,q⟩
theorem Inv.pinned{Z0:WR (Addr×Obj)}{Z:St}{H:Hp}{s:Shared}{fp:WR Addr}(I:Inv X Z0 Z H s)(hf:∀b∈fp,uL X Z0 H b)(ho:∀b∈fp,∃o,s.heap.get? b=some o/\∀v,o.data≠.cell v):Inv X (Z0++ql fp s.heap) Z H s:=
 I.lF λp hp=>(mem_append.mp hp).elim (λz=>I.pin p (mem_append_right _ z)) λz=>by
  obtain⟨hb,e⟩:=Hu z;obtain⟨f0,f1,f2,_⟩:=hf p.1 hb;obtain⟨o,e',d⟩:=ho p.1 hb;rw[e] at e';cases e';exact⟨e,f0,f1,f2,d⟩
theorem Inv.uN{Z0 pl:WR (Addr×Obj)}{Z:St}{H:Hp}{s:Shared}(I:Inv X (Z0++pl) Z H s):Inv X Z0 Z H s:=I.lF λp hp=>I.pin p (mem_append_right _ (mem_append_left _ hp))
theorem Qh{iter:Expr}{body:WR Stmt}{wi:TI}{g:TG}{tb:TS}{pos:Pos}(hp:PassesOwn (model X.prog X.w) X.A X.env X.xe)(hc:X.calm=true)(hi:PI X tg iter wi)(hg:PG X tg g)(hb:CD X body tb)
  (hs:∀x,foldedSetIterable iter X.env x=pure x:=by intro _;rfl):PS X (.For tg iter body [] pos) (iy wi g tb):=by
 intro Z0 s Z H D I h;refine wpAny_For (cA (hi Z0 s Z H _ I h) λv s1 h1=>cA h1 λitv s2 h2=>?_) hs;obtain⟨it,fp,tn,J,H2,e,I2,T,st2,f2,W,⟨m0,w0⟩,turn⟩:=h2;subst e
 -- what stays true of the iterator's objects through the loop
 have uO:∀{H':Hp},(∀b∈fp,H' b=none)->∀b∈fp,uL X Z0 H' b:=λhn b hb=>⟨hn b hb,(f2 b hb).2⟩;refine codeAny_forLoop_any (λn s'=>∃i σ' H',Inv X Z0 σ' H' s'/\tn i s'.heap/\(∀b∈fp,H' b=none)/\W i n σ' H') ?_ m0 ⟨0,Z,H2,I2,st2,λb hb=>(f2 b hb).1,w0⟩;rintro n s3 ⟨i,σ3,H3,I3,st3,fr3,w3⟩
 rcases turn i n σ3 H3 w3 with⟨stop,qn⟩|⟨go,N,hN,step⟩
 .refine wpAny_passesOwn hp (cA (T.done X rfl rfl rfl hc i Z0 s3 σ3 H3 X.xe I3 (uO fr3) st3 stop) λr s4 ⟨hr,I4⟩=>?_);subst hr;exact wpAny_execs_nil ⟨σ3,H3,I4,qn⟩
 .refine wpAny_passesOwn hp (cA (T.item X rfl rfl rfl hc i Z0 s3 σ3 H3 X.xe I3 (uO fr3) st3 go) λr s4 ⟨u,hr,h4⟩=>?_);subst hr;refine wpAny_passesOwn hp (cA h4 λ_ s5 ⟨x,H5,I5,r5,y5,st5,fr5⟩=>?_);have I5':=I5.pinned (uO fr5) (T.obj _ _ st5);refine wpAny_passesOwn hp (cA (hg _ s5 σ3 H5 x u _ I5' r5 (step x H5 y5)) λ_ s6 ⟨σ6,H6,I6,q6⟩=>?_);refine wpAny_passesOwn hp (cA (hb _ s6 σ6 H6 _ I6 q6) λf s7 q7=>?_);have again:∀{σ7:St} {H7:Hp},Inv X (Z0++ql fp s5.heap) σ7 H7 s7->N σ7 H7->∃m,m<n/\∃i σ' H',Inv X Z0 σ' H' s7/\tn i s7.heap/\(∀b∈fp,H' b=none)/\W i m σ' H':=λ{σ7 H7} I7 n7=>by
   obtain⟨m',hm,w7⟩:=hN σ7 H7 n7;refine⟨m',hm,i+1,σ7,H7,I7.uN,T.keep _ _ _ st5 λb hb o e=>(I7.pin (b,o) (mem_append_right _ (mem_append_right _ (fP hb e)))).1,λb hb=>?_,w7⟩;obtain⟨o,e,d⟩:=T.obj _ _ st5 b hb;exact(I7.pin (b,o) (mem_append_right _ (mem_append_right _ (fP hb e)))).2.1
  cases f with
  |next=>obtain⟨σ7,H7,I7,n7⟩:=q7;exact again I7 n7
  |cont=>obtain⟨σ7,H7,I7,n7⟩:=q7;exact again I7 n7
  |brk=>obtain⟨σ7,H7,I7,q7⟩:=q7;exact⟨σ7,H7,I7.uN,q7⟩
  |ret v=>obtain⟨x7,σ7,H7,I7,r7,q7⟩:=q7;exact⟨x7,σ7,H7,I7.uN,r7,q7⟩
end
theorem JH{K:PySem.W.Frag}{a:Addr}{xs:WR V}{g:TG}{tb:TS}{D:Ends}{Z:St}{H:Hp}(Pv:Nat->St->Hp->Prop)(h0:Pv 0 Z H)(hl:∀i Z H,i<=xs.length->Pv i Z H->aZ K H a xs)
  (hs:∀i x Z H,xs[i]?=some x->Pv i Z H->g x Z H λσ2 H2=>tb {D with nx:=Pv (i+1),ct:=Pv (i+1),bk:=D.nx} σ2 H2) (hd:∀Z H,Pv xs.length Z H->D.nx Z H):
  ∃W:Nat->Nat->St->Hp->Prop,(∃m,W 0 m Z H)/\∀i m Z H,W i m Z H->
   ((Pk K a).stop i H/\D.nx Z H)\/((Pk K a).go i H/\∃N:St->Hp->Prop,(∀σ' H',N σ' H'->∃m',m'<m/\W (i+1) m' σ' H')/\∀x H',(Pk K a).yld i H x H'->g x Z H' λσ2 H2=>tb {D with nx:=N,ct:=N,bk:=D.nx} σ2 H2):=by
 refine⟨λi m Z H=>m=xs.length-i/\i<=xs.length/\Pv i Z H,⟨xs.length,by simp,zero_le _,h0⟩,?_⟩;rintro i m Z H ⟨rfl,hi,p⟩;have q:=hl i Z H hi p
 by_cases hlt:i<xs.length
 .refine .inr ⟨⟨xs,xs[i],q,by simp[hlt]⟩,Pv (i+1),λσ' H' p'=>⟨xs.length-(i+1),by omega,rfl,hlt,p'⟩,λx H' y=>?_⟩;obtain⟨e,y⟩:=y;subst e;exact hs i x Z _ (y xs q) p
 .have e:i=xs.length:=by omega
  subst e;exact .inl ⟨⟨xs,q,le_refl _⟩,hd Z H p⟩
theorem x9{lo:Int}{n:Nat}{g:TG}{tb:TS}{D:Ends}{Z:St}{H:Hp}(Pv:Nat->St->Hp->Prop)(h0:Pv 0 Z H)
  (hs:∀i Z H,i<n->Pv i Z H->g (.int (lo+i)) Z H λσ2 H2=>tb {D with nx:=Pv (i+1),ct:=Pv (i+1),bk:=D.nx} σ2 H2) (hd:∀Z H,Pv n Z H->D.nx Z H):
  ∃W:Nat->Nat->St->Hp->Prop,(∃m,W 0 m Z H)/\∀i m Z H,W i m Z H->
   ((Nl lo n).stop i H/\D.nx Z H)\/((Nl lo n).go i H/\∃N:St->Hp->Prop,(∀σ' H',N σ' H'->∃m',m'<m/\W (i+1) m' σ' H')/\∀x H',(Nl lo n).yld i H x H'->g x Z H' λσ2 H2=>tb {D with nx:=N,ct:=N,bk:=D.nx} σ2 H2):=by
 refine⟨λi m Z H=>m=n-i/\i<=n/\Pv i Z H,⟨n,by simp,zero_le _,h0⟩,?_⟩;rintro i m Z H ⟨rfl,hi,p⟩
 by_cases hlt:i<n
 .refine .inr ⟨hlt,Pv (i+1),λσ' H' p'=>⟨n-(i+1),by omega,rfl,hlt,p'⟩,λx H' y=>?_⟩;obtain⟨e,y⟩:=y;subst e y;exact hs i Z _ hlt p
 .have e:i=n:=by omega
  subst e;exact .inl ⟨le_refl _,hd Z H p⟩
abbrev R2:=V->V->Hp->VK->Prop
def mG(X:Cx)(f:Value->Value->Sem Value)(r:R2):Prop:=
 ∀(Z0:WR (Addr×Obj)) (s:Shared) (Z:St) (H:Hp) (x y:V) (v u:Value) (Q:VK),Inv X Z0 Z H s->RelV x v->RelV y u->r x y H Q->
  wpAny (model X.prog X.w) X.A (f v u) (EP X Z0 Z Q) X.xe s
def fh(X:Cx)(f:Value)(r:WR V->Hp->VK->Prop):Prop:=
 ∀(Z0:WR (Addr×Obj)) (s:Shared) (Z:St) (H:Hp) (xs:WR V) (us:WR Value) (Q:VK),Inv X Z0 Z H s->Vals xs us->r xs H Q->
  wpAny (model X.prog X.w) X.A (call f us) (EP X Z0 Z Q) X.xe s
def aS(r:R2)(ta tb:TE):TE:=λZ H Q=>ta Z H λx H1=>tb Z H1 λy H2=>r x y H2 Q
def rI(C:Int->Int->Prop)(g:Int->Int->V):R2:=λx y H Q=>∃i j,x=.int i/\y=.int j/\C i j/\Q (g i j) H
def CF(g:Int->Int->V):R2:=λx y H Q=>∃i j,x=.int i/\y=.int j/\Q (g i j) H
section
variable{X:Cx}{a b c:Expr}{ta tb tc:TE}{pos:Pos}
theorem Qi(ha:PE X a ta)(hb:PE X b tb){Z0:WR (Addr×Obj)}{s:Shared}{Z:St}{H:Hp}{R:V->V->Hp->Prop}(I:Inv X Z0 Z H s)
  (h:ta Z H λx H1=>tb Z H1 λy H2=>R x y H2) {Q:Value->Shared->Prop} {f:Value->Value->Sem Value}
  (hf:∀v u s2 x y H2,Inv X Z0 Z H2 s2->RelV x v->RelV y u->R x y H2->wpAny (model X.prog X.w) X.A (f v u) Q X.xe s2):
  wpAny (model X.prog X.w) X.A (eval a X.env) (λv s₁=>wpAny (model X.prog X.w) X.A (eval b X.env) (λu a8=>wpAny (model X.prog X.w) X.A (f v u) Q X.xe a8) X.xe s₁) X.xe s:=by
 refine cA (ha Z0 s Z H _ I h) λv s1 ⟨x,H1,I1,r1,q1⟩=>?_;refine cA (hb Z0 s1 Z H1 _ I1 q1) λu s2 ⟨y,H2,I2,r2,q2⟩=>?_;exact hf v u s2 x y H2 I2 r1 r2 q2
theorem SX{op:Operator}{r:R2}(ho:mG X (binaryOp op) r)(ha:PE X a ta)(hb:PE X b tb):PE X (.BinOp a op b pos) (aS r ta tb):=by
 intro Z0 s Z H Q I h;exact wpAny_BinOp (Qi ha hb I h λv u s2 x y H2 I2 rx ry q=>ho Z0 s2 Z H2 x y v u Q I2 rx ry q)
theorem Vw{f:Value->Value->Sem Value}{C:Int->Int->Prop}{g:Int->Int->Int}
  (rule:∀(i j:Int) (t u:Tok) (s:Shared) (Q:Value->Shared->Prop) (E:Value->Shared->Prop),C i j->Q (.int (g i j) s.toks) {s with toks:=s.toks+1}->wpAny (model X.prog X.w) X.A (f (.int i t) (.int j u)) Q E s):
  mG X f (rI C λi j=>.int (g i j)):=by
 intro Z0 s Z H x y v u Q I rx ry h;obtain⟨i,j,rfl,rfl,hc,q⟩:=h;obtain⟨t,rfl⟩:=rx;obtain⟨t',rfl⟩:=ry;exact rule i j t t' s _ _ hc ⟨.int (g i j),H,I.tok _,⟨_,rfl⟩,q⟩
theorem SY{f:Value->Value->Sem Value}{g:Int->Int->Int}
  (rule:∀(i j:Int) (t u:Tok) (s:Shared) (Q:Value->Shared->Prop) (E:Value->Shared->Prop),Q (.int (g i j) s.toks) {s with toks:=s.toks+1}->wpAny (model X.prog X.w) X.A (f (.int i t) (.int j u)) Q E s):
  mG X f (CF λi j=>.int (g i j)):=by
 intro Z0 s Z H x y v u Q I rx ry h;obtain⟨i,j,rfl,rfl,q⟩:=h;obtain⟨t,rfl⟩:=rx;obtain⟨t',rfl⟩:=ry;exact rule i j t t' s _ _ ⟨.int (g i j),H,I.tok _,⟨_,rfl⟩,q⟩
theorem ND{f:Value->Value->Sem Value}{g:Int->Int->Bool}
  (rule:∀(i j:Int) (t u:Tok) (s:Shared) (Q:Value->Shared->Prop) (E:Value->Shared->Prop),Q (.bool (g i j)) s->wpAny (model X.prog X.w) X.A (f (.int i t) (.int j u)) Q E s):
  mG X f (CF λi j=>.bl (g i j)):=by
 intro Z0 s Z H x y v u Q I rx ry h;obtain⟨i,j,rfl,rfl,q⟩:=h;obtain⟨t,rfl⟩:=rx;obtain⟨t',rfl⟩:=ry;exact rule i j t t' s _ _ ⟨.bl (g i j),H,I,rfl,q⟩
def NG(i j:Int):Prop:=0<j/\j<1073741824
def Qj(i j:Int):Prop:=(-(2^64)<i/\i<2^64)\/(-(2^64)<j/\j<2^64)
theorem Qj.ok{i j:Int}(h:Qj i j):IntMulOk i j:=by
 rcases h with⟨h1,h2⟩|⟨h1,h2⟩
 .exact .of_left (intBits_le_64 h1 h2)
 .exact .of_right (intBits_le_64 h1 h2)
theorem CL(k:Nat):(0:Int)<=2^k:=by
 rw[two_pow_cast];exact Int.natCast_nonneg _
theorem bE:mG X (binaryOp .Add) (CF λi j=>.int (i+j)):=SY λ_ _ _ _ _ _ _ q=>add_int q
theorem ki:mG X (binaryOp .Sub) (CF λi j=>.int (i-j)):=SY λ_ _ _ _ _ _ _ q=>sub_int q
theorem iB:mG X (binaryOp .FloorDiv) (rI NG λi j=>.int (i/j)):=Vw λi j _ _ _ _ _ hc q=>by
 have h1:(0:Int)<j:=hc.1;have h2:j<1073741824:=hc.2;exact floordiv_int (by omega) (by rw[Int.fdiv_eq_ediv_of_nonneg i (by omega)];exact q) (.inl (PyProof.noPylong_small (by omega)))
theorem fj:mG X (binaryOp .Mod) (rI (λ_ j=>0<j) λi j=>.int (i%j)):=Vw λi j _ _ _ _ _ hc q=>by
 have h1:(0:Int)<j:=hc;exact mod_int' (by omega) (by rw[Int.fmod_eq_emod_of_nonneg i (by omega)];exact q)
theorem Qk:mG X (binaryOp .RShift) (rI (λ_ j=>0<=j) λi j=>.int (i/2^j.toNat)):=Vw λi j _ _ _ _ _ hc q=>
 rshift_int hc (by rw[Int.fdiv_eq_ediv_of_nonneg i (CL _)];exact q)
end
def S7:V->V->Bool
 |.non,.non=>true |.non,.int _=>true |.int _,.non=>true |.non,.bl _=>true |.bl _,.non=>true |.non,.str _=>true |.str _,.non=>true
 |.int _,.int _=>true |.bl _,.bl _=>true |.str _,.str _=>true |.byt _,.byt _=>true
 |.int _,.str _=>true |.str _,.int _=>true |.bl _,.str _=>true |.str _,.bl _=>true
 |_,_=>false
def tV:R2:=λx y H Q=>S7 x y=true/\Q (.bl (decide (x=y))) H
def Sy:R2:=λx y H Q=>S7 x y=true/\Q (.bl (!decide (x=y))) H
theorem EL{i j:Int}:decide (V.int i=V.int j)=(i==j):=by
 rw[Bool.eq_iff_iff];simp
theorem JI{i j:Bool}:decide (V.bl i=V.bl j)=(i==j):=by
 rw[Bool.eq_iff_iff];simp
theorem EM{i j:Str}:decide (V.str i=V.str j)=(i==j):=by
 rw[Bool.eq_iff_iff];simp
theorem EO{i j:Array UInt8}:decide (V.byt i=V.byt j)=(i.toList==j.toList):=by
 rw[Bool.eq_iff_iff];cases i;cases j;simp
section
variable{X:Cx}{a b c:Expr}{ta tb tc:TE}{pos:Pos}
theorem bF{Z0:WR (Addr×Obj)}{Z:St}{H:Hp}{s:Shared}{Q:VK}{k k':Bool}(I:Inv X Z0 Z H s)(q:Q (.bl k) H)(e:k=k'):EP X Z0 Z Q (.bool k') s:=by
 subst e;exact⟨.bl k,H,I,rfl,q⟩
theorem dZ:mG X (compareOp .Eq) tV:=by
 intro Z0 s Z H x y v u Q I rx ry h;obtain⟨hs,q⟩:=h;cases x with
 |non=>
  cases rx;cases y with
  |non=>cases ry;exact PySem.EqNone.eq_none_none (bF I q (by simp))
  |bl j=>cases ry;exact PySem.EqNone.eq_none_bool (bF I q (by simp))
  |int j=>obtain⟨t',rfl⟩:=ry;exact PySem.EqNone.eq_none_int (bF I q (by simp))
  |str j=>obtain⟨t',rfl⟩:=ry;exact PySem.EqNone.eq_none_str (bF I q (by simp))
  |_=>exact absurd (show false=true from hs) Bool.false_ne_true
 |bl i=>
  cases rx;cases y with
  |non=>cases ry;exact PySem.EqNone.eq_bool_none (bF I q (by simp))
  |bl j=>cases ry;exact eq_bool (bF I q JI)
  |str j=>obtain⟨t',rfl⟩:=ry;exact PySem.EqMixed.eq_bool_str (bF I q (by simp))
  |_=>exact absurd (show false=true from hs) Bool.false_ne_true
 |int i=>
  obtain⟨t,rfl⟩:=rx;cases y with
  |non=>cases ry;exact PySem.EqNone.eq_int_none (bF I q (by simp))
  |int j=>obtain⟨t',rfl⟩:=ry;exact eq_int (bF I q EL)
  |str j=>obtain⟨t',rfl⟩:=ry;exact PySem.EqMixed.eq_int_str (bF I q (by simp))
  |_=>exact absurd (show false=true from hs) Bool.false_ne_true
 |str i=>
  obtain⟨t,rfl⟩:=rx;cases y with
  |non=>cases ry;exact PySem.EqNone.eq_str_none (bF I q (by simp))
  |bl j=>cases ry;exact PySem.EqMixed.eq_str_bool (bF I q (by simp))
  |int j=>obtain⟨t',rfl⟩:=ry;exact PySem.EqMixed.eq_str_int (bF I q (by simp))
  |str j=>obtain⟨t',rfl⟩:=ry;exact eq_str (bF I q EM)
  |_=>exact absurd (show false=true from hs) Bool.false_ne_true
 |byt i=>
  obtain⟨t,rfl⟩:=rx;cases y with
  |byt j=>obtain⟨t',rfl⟩:=ry;exact W.eq_bytes (bF I q EO)
  |_=>exact absurd (show false=true from hs) Bool.false_ne_true
 |_=>cases y<;>exact absurd (show false=true from hs) Bool.false_ne_true
theorem JJ:mG X (compareOp .NotEq) Sy:=by
 intro Z0 s Z H x y v u Q I rx ry h;obtain⟨hs,q⟩:=h;cases x with
 |non=>
  cases rx;cases y with
  |non=>cases ry;exact PySem.EqNone.ne_none_none (bF I q (by simp))
  |bl j=>cases ry;exact PySem.EqNone.ne_none_bool (bF I q (by simp))
  |int j=>obtain⟨t',rfl⟩:=ry;exact PySem.EqNone.ne_none_int (bF I q (by simp))
  |str j=>obtain⟨t',rfl⟩:=ry;exact PySem.EqNone.ne_none_str (bF I q (by simp))
  |_=>exact absurd (show false=true from hs) Bool.false_ne_true
 |bl i=>
  cases rx;cases y with
  |non=>cases ry;exact PySem.EqNone.ne_bool_none (bF I q (by simp))
  |bl j=>cases ry;exact ne_bool (bF I q (congrArg not JI))
  |str j=>obtain⟨t',rfl⟩:=ry;exact PySem.EqMixed.ne_bool_str (bF I q (by simp))
  |_=>exact absurd (show false=true from hs) Bool.false_ne_true
 |int i=>
  obtain⟨t,rfl⟩:=rx;cases y with
  |non=>cases ry;exact PySem.EqNone.ne_int_none (bF I q (by simp))
  |int j=>obtain⟨t',rfl⟩:=ry;exact ne_int (bF I q (congrArg not EL))
  |str j=>obtain⟨t',rfl⟩:=ry;exact PySem.EqMixed.ne_int_str (bF I q (by simp))
  |_=>exact absurd (show false=true from hs) Bool.false_ne_true
 |str i=>
  obtain⟨t,rfl⟩:=rx;cases y with
  |non=>cases ry;exact PySem.EqNone.ne_str_none (bF I q (by simp))
  |bl j=>cases ry;exact PySem.EqMixed.ne_str_bool (bF I q (by simp))
  |int j=>obtain⟨t',rfl⟩:=ry;exact PySem.EqMixed.ne_str_int (bF I q (by simp))
  |str j=>obtain⟨t',rfl⟩:=ry;exact ne_str (bF I q (congrArg not EM))
  |_=>exact absurd (show false=true from hs) Bool.false_ne_true
 |byt i=>
  obtain⟨t,rfl⟩:=rx;cases y with
  |byt j=>obtain⟨t',rfl⟩:=ry;exact W.ne_bytes (bF I q (congrArg not EO))
  |_=>exact absurd (show false=true from hs) Bool.false_ne_true
 |_=>cases y<;>exact absurd (show false=true from hs) Bool.false_ne_true
theorem kj:mG X (compareOp .Lt) (CF λi j=>.bl (decide (i<j))):=ND λ_ _ _ _ _ _ _ q=>lt_int q
theorem Po:mG X (compareOp .LtE) (CF λi j=>.bl (decide (i<=j))):=ND λ_ _ _ _ _ _ _ q=>le_int q
theorem nY:mG X (compareOp .Gt) (CF λi j=>.bl (decide (j<i))):=ND λ_ _ _ _ _ _ _ q=>gt_int q
theorem ER:mG X (compareOp .GtE) (CF λi j=>.bl (decide (j<=i))):=ND λ_ _ _ _ _ _ _ q=>ge_int q
theorem NH{op:CmpOp}{r:R2}(ho:mG X (compareOp op) r)(ha:PE X a ta)(hb:PE X b tb)(hm:behindInMarks op b=false):PE X (.Compare a [op] [b] pos) (aS r ta tb):=by
 intro Z0 s Z H Q I h;exact wpAny_Compare1 (Qi ha hb I h λv u s2 x y H2 I2 rx ry q=>ho Z0 s2 Z H2 x y v u Q I2 rx ry q) hm
def bD(t:TE):TT:=λZ H Q=>t Z H λx H'=>∃k,x=.bl k/\Q k H'
theorem NI{op:CmpOp}{r:R2}(ho:mG X (compareOp op) r)(ha:PE X a ta)(hb:PE X b tb)(hm:behindInMarks op b=false):PT X (.Compare a [op] [b] pos) (bD (aS r ta tb)):=by
 intro Z0 s Z H Q I h;refine wpAny_isTrue_Compare1 (cA (ha Z0 s Z H _ I h) λv s1 ⟨x,H1,I1,r1,q1⟩=>cA (hb Z0 s1 Z H1 _ I1 q1) λu s2 ⟨y,H2,I2,r2,q2⟩=>
  cA (ho Z0 s2 Z H2 x y v u _ I2 r1 r2 q2) λc s3 ⟨z,H3,I3,r3,k,e,q3⟩=>?_) hm
 subst e;cases r3;exact wpAny_truthy_bool ⟨H3,I3,q3⟩
theorem uP:(sizeLine:Nat)<2^63:=by rw[sizeLine_eq];decide
theorem CM:mG X (binaryOp .Add) (λx y H Q=>∃i j,x=.str i/\y=.str j/\i.length+j.length<=sizeLine/\Q (.str (i++j)) H):=by
 intro Z0 s Z H x y v u Q I rx ry h;obtain⟨i,j,rfl,rfl,hz,q⟩:=h;obtain⟨t,rfl⟩:=rx;obtain⟨t',rfl⟩:=ry;exact add_str (λt' tk=>⟨.str (i++j),H,I.tok _,⟨_,rfl⟩,q⟩) hz
theorem vals1{x:V}{us:WR Value}(r:Vals [x] us):∃u,us=[u]/\RelV x u:=by
 cases r with
 |cons r1 r2=>cases r2;exact⟨_,rfl,r1⟩
theorem vals2{x y:V}{us:WR Value}(r:Vals [x,y] us):∃u w',us=[u,w']/\RelV x u/\RelV y w':=by
 cases r with
 |cons r1 r2=>
  cases r2 with
  |cons r3 r4=>cases r4;exact⟨_,_,rfl,r1,r3⟩
theorem yM:fh X (.type "str") (λxs H Q=>∃i,xs=[.int i]/\i.natAbs.log2<1920/\Q (.str (toString i)) H):=by
 intro Z0 s Z H xs us Q I r h;obtain⟨i,rfl,hz,q⟩:=h;obtain⟨u,rfl,t,rfl⟩:=vals1 r;exact PySem.P.str_of_int hz ⟨.str _,H,I.tok _,⟨_,rfl⟩,q⟩
end
structure CN(h:Heap)(x dx C:Addr)(mA:Str->Option Value):Prop where
 obj:h.get? x=some (W.instObj C dx)
 ns:h.Ns1 dx mA
 ne:dx≠x
theorem Hv{h:Heap}{dx:Addr}{mA:Str->Option Value}(n:h.Ns1 dx mA):∃od,h.get? dx=some od/\∀name,W.lookIn name od=some (mA name):=by
 obtain⟨o,es,ep,ho,hd,hk,_,hm⟩:=n;refine⟨o,ho,λname=>?_⟩;have e:=hm name;unfold nsFind findBy at e;rw[<-Array.find?_toList] at e;unfold W.lookIn;rw[hd];dsimp only;split
 .rename_i y q
  rw[q] at e;exact congrArg some e
 .rename_i q
  rw[q] at e;have a:es.toList.any (·.refKey)=false:=by
   rw[List.any_eq_false];intro y hy;obtain⟨z,t,hkey⟩:=hk y (Array.mem_toList_iff.mp hy);simp[DictEntry.refKey,hkey]
  have a':¬es.toList.any (·.refKey)=true:=by rw[a];exact Bool.false_ne_true
  rw[if_neg a'];exact congrArg some e
theorem CN.look{h:Heap}{x dx C:Addr}{mA:Str->Option Value}(I:CN h x dx C mA):∃od,W.InstAt h x (W.instObj C dx) C (some od)/\∀name,W.lookIn name od=some (mA name):=
 let ⟨od,ho,hl⟩:=Hv I.ns
 ⟨od,⟨I.obj,rfl,rfl,ho⟩,hl⟩
section
variable{prog:Program}{w:World}{A:Around}{E:Value->Shared->Prop}{s:Shared}{K:W.Frag}{x dx C f:Addr}{mA:Str->Option Value}{name:Str}{v:Value}
theorem get_map{expr:Bool}{Q:Value->Shared->Prop}(X:K.In s.heap)(I:CN s.heap x dx C mA)(hg:W.plainGet K C name=true)(hh:W.hasDictIn K C=true)
  (ha:W.findIn K (.ref C) name=some none) (hv:mA name=some v) (hv':W.handedIn v=true) (h:Q v {s with toks:=s.toks+1}):
  wpAny (model prog w) A (getAttr (.ref x) name expr) Q E s:=by
 obtain⟨od,J,hl⟩:=I.look;exact W.get_value X J (W.plainGet_of hg).1 (W.findObj_own hh ha rfl (by rw[hl,hv])) hv' h
theorem JK{pl:Sem Bool}{Q:Value×WR Value->Shared->Prop}(X:K.In s.heap)(I:CN s.heap x dx C mA)(hg:W.plainGet K C name=true)
  (hf:W.findIn K (.ref C) name=some (some (.ref f))) (ht:W.isFn K (.ref f)=true) (hv:mA name=none) (h:Q (.ref f,[.ref x]) s):
  wpAny (model prog w) A (getMethod (.ref x) name pl) Q E s:=by
 obtain⟨od,J,hl⟩:=I.look;exact W.method_fn X J (W.plainGet_of hg).1 (W.plainGet_of hg).2 hf (beq_iff_eq.mp ht) (by show (W.lookIn name od).map (·.isSome)=some false;rw[hl,hv];rfl) h
theorem NJ{ns:WR Str}{Q:Unit->Shared->Prop}(X:K.In s.heap)(I:CN s.heap x dx C mA)
  (hs:W.findIn K (.ref C) "__setattr__" =some (some (.builtin "object.__setattr__"))) (hp:W.plainOver K C=true) (ht:W.takerIn K C name=some none) (hh:W.hasDictIn K C=true)
  (hw:PySem.Within mA ns) (hsz:ns.length<=sizeLine)
  (h:∀h',CN h' x dx C (λy=>if y=name then some v else mA y)->Heap.SameBut dx s.heap h'->Q () {s with heap:=h',toks:=s.toks+2}):
  wpAny (model prog w) A (setAttr (.ref x) name v) Q E s:=by
 obtain⟨od,J,hl⟩:=I.look;refine W.set_plain X J hs (W.osa_open (s:={s with toks:=s.toks+1}) (r:=none) X J hp ht λb=>?_);obtain⟨cd,hc,hd'⟩:=W.any_some hh;have hx:s.heap.get? x=some ⟨.ref C,some dx,.plain,#[]⟩:=I.obj;refine wpAny_bind (wpAny_pure (wpAny_bind (wpAny_bind (wpAny_loadPart hx (wpAny_bind (W.Looks.here (s:={s with toks:=s.toks+1}) (W.looks_clsIn X hc) ?_))))));rw[hd'];refine wpAny_pure (a:=some dx) (wpAny_bind (wpAny_pure (wpAny_bind ?_)));refine wpAny_nsSet1 (s:={s with toks:=s.toks+1}) I.ns λh' hn2 hs2=>?_;obtain⟨oD,esD,epD,hoD,hdD,hcD⟩:=hn2.count (PySem.Within.cons name v hw);refine wpAny_bind (wpAny_lookBehind hoD (by rw[hdD];exact pastItsLine_dict (Nat.le_trans hcD (by rw[length_cons];omega))) ?_)
 exact wpAny_pure (h _ ⟨(hs2.2 _ (Ne.symm I.ne)).trans I.obj,hn2,I.ne⟩ hs2)
theorem JL{R:Result->Shared->Prop}{vs:WR Value}{kw:WR (Str×Value)}(X:K.In s.heap)(hm:W.makesIn K C=true)
  (hi:W.findIn K (.ref C) "__init__" =some (some (.ref f))) (hf:W.typeIn K (.ref f)=some (.type "function"))
  (h:codeAny (model prog w) (A.under (.builtin "type.__call__" ⟨.ref C::vs,kw⟩)) (.call (.ref f) ⟨.ref (s.heap.objs.size+1)::vs,kw⟩) (W.InitBack (s.heap.objs.size+1) R)
   {s with heap:=(s.heap.push W.emptyDict).push (W.instObj C s.heap.objs.size)}):
  codeAny (model prog w) A (.call (.ref C) ⟨vs,kw⟩) R s:=by
 obtain⟨hh,g,d,t,os⟩:=s;exact W.make_core (W.makes_of X hm) (W.looks_findIn X hi) (λself=>W.bind_fn X self hf) (.inl rfl) h
end
def cz(f:Str)(v:V):WR (Str×V)->WR (Str×V)
 |[]=>[(f,v)]
 |(g,x)::r=>if g=f then(g,v)::r else(g,x)::cz f v r
theorem rW(f g:Str)(v:V):∀fs:WR (Str×V),(cz f v fs).lookup g=if g=f then some v else fs.lookup g
 |[]=>by
  show List.lookup g [(f,v)]=_
  by_cases h:g=f
  .have hb:(g==f)=true:=beq_iff_eq.mpr h;simp only[List.lookup,hb,if_pos h]
  .have hb:(g==f)=false:=beq_eq_false_iff_ne.mpr h;simp only[List.lookup,hb,if_neg h]
 |(k,x)::r=>by
  have ih:=rW f g v r;rw[show cz f v ((k,x)::r)=(if k=f then(k,v)::r else(k,x)::cz f v r) from rfl]
  by_cases hk:k=f
  .rw[if_pos hk]
   by_cases h:g=k
   .have hb:(g==k)=true:=beq_iff_eq.mpr h;simp only[List.lookup,hb,if_pos (h.trans hk)]
   .have hb:(g==k)=false:=beq_eq_false_iff_ne.mpr h;simp only[List.lookup,hb,if_neg (λe:g=f=>h (e.trans hk.symm))]
  .rw[if_neg hk]
   by_cases h:g=k
   .have hb:(g==k)=true:=beq_iff_eq.mpr h;simp only[List.lookup,hb,if_neg (λe:g=f=>hk (h.symm.trans e))]
   .have hb:(g==k)=false:=beq_eq_false_iff_ne.mpr h;simp only[List.lookup,hb];exact ih
theorem qm(f:Str)(v:V):∀fs:WR (Str×V),f∈(cz f v fs).map (·.1)/\∀g,g∈fs.map (·.1)->g∈(cz f v fs).map (·.1)
 |[]=>⟨by simp[cz],λg h=>by simp at h⟩
 |(k,x)::r=>by
  obtain⟨i1,i2⟩:=qm f v r;rw[show cz f v ((k,x)::r)=(if k=f then(k,v)::r else(k,x)::cz f v r) from rfl]
  by_cases hk:k=f
  .rw[if_pos hk];subst hk;exact⟨by simp,λg h=>by simpa using h⟩
  .rw[if_neg hk];refine⟨?_,λg h=>?_⟩
   .rw[map_cons];exact mem_cons_of_mem _ i1
   .rw[map_cons] at h ⊢
    rcases mem_cons.mp h with e|e
    .exact mem_cons.mpr (.inl e)
    .exact mem_cons_of_mem _ (i2 g e)
theorem rX(f:Str)(v:V):∀fs:WR (Str×V),(cz f v fs).length<=fs.length+1
 |[]=>by simp[cz]
 |(k,x)::r=>by
  have ih:=rX f v r;rw[show cz f v ((k,x)::r)=(if k=f then(k,v)::r else(k,x)::cz f v r) from rfl]
  by_cases hk:k=f
  .rw[if_pos hk,length_cons,length_cons];omega
  .rw[if_neg hk,length_cons,length_cons];omega
theorem j6.some_of{v:V}{o:Option Value}(r:j6 (some v) o):∃u,o=some u/\RelV v u:=by
 cases o with
 |none=>exact(show False from r).elim
 |some u=>exact⟨u,rfl,r⟩
theorem j6.none_of{o:Option Value}(r:j6 none o):o=none:=by
 cases o with
 |none=>rfl
 |some u=>exact(show False from r).elim
theorem Hw{v:V}{u:Value}(r:RelV v u):W.handedIn u=true:=by
 cases v with
 |non=>cases (show u=Value.none from r);rfl
 |bl b=>cases (show u=Value.bool b from r);rfl
 |int i=>obtain⟨t,e⟩:=(show ∃t,u=Value.int i t from r);cases e;rfl
 |str x=>obtain⟨t,e⟩:=(show ∃t,u=Value.str x t from r);cases e;rfl
 |byt b=>obtain⟨t,e⟩:=(show ∃t,u=Value.bytes b t from r);cases e;rfl
 |flt b=>obtain⟨t,e⟩:=(show ∃t,u=Value.float b t from r);cases e;rfl
 |ref a=>cases (show u=Value.ref a from r);rfl
 |ty n=>cases (show u=Value.type n from r);rfl
section
variable{P:Program}{w:World}{H H':Hp}{h h':Heap}{a C dx:Addr}{fs fs':WR (Str×V)}
theorem tW(hok:jV P w H h)(e:H a=some (.ins C dx fs)):∃mA,CN h a dx C mA/\(∀f,j6 (fs.lookup f) (mA f))/\PySem.Within mA (fs.map (·.1))/\fs.length<=1000/\H dx=some (.own a):=by
 obtain⟨d,z,ne,ob,mA,n,r,q⟩:=(show bZ P w H h a (.ins C dx fs) from hok a _ e);exact⟨mA,⟨ob,n,ne⟩,r,q,z,d⟩
end
structure ES(K:W.Frag)(C:Addr):Prop where
 pg:W.plainGet K C Str.empty=true
 hd:W.hasDictIn K C=true
 po:W.plainOver K C=true
 sa:W.findIn K (.ref C) "__setattr__" =some (some (.builtin "object.__setattr__"))
theorem ES.get{K:W.Frag}{C:Addr}(c:ES K C)(f:Str):W.plainGet K C f=true:=c.pg
def di(K:W.Frag)(C:Addr)(f:Str):Prop:=W.findIn K (.ref C) f=some none
theorem di.Tc{K:W.Frag}{C:Addr}{f:Str}(n:di K C f):W.takerIn K C f=some none:=by
 unfold W.takerIn;rw[show W.findIn K (.ref C) f=some none from n];rfl
structure Meth(K:W.Frag)(C:Addr)(m:Str)(f:Addr):Prop where
 at_:W.findIn K (.ref C) m=some (some (.ref f))
 fn:W.isFn K (.ref f)=true
 kp:W.keepIn K (.ref f)=true
section
variable{X:Cx}{Z0:WR (Addr×Obj)}{Z:St}{H:Hp}{s:Shared}{a C dx:Addr}{fs:WR (Str×V)}{f:Str}{v:V}{A:Around}{E:Value->Shared->Prop}
theorem CO{b:Bool}{Q:Value->Shared->Prop}(I:Inv X Z0 Z H s)(e:H a=some (.ins C dx fs))(c:ES X.K C)(n:di X.K C f)(l:fs.lookup f=some v)
  (h:∀u s',Inv X Z0 Z H s'->RelV v u->Q u s'):wpAny (model X.prog X.w) A (getAttr (.ref a) f b) Q E s:=by
 obtain⟨mA,O,r,_,_,_⟩:=tW I.hok e;obtain⟨u,hu,ru⟩:=j6.some_of (v:=v) (o:=mA f) (by rw[<-l];exact r f);exact get_map I.nX O (c.get f) c.hd n hu (Hw ru) (h u _ (I.tok _) ru)
theorem uQ{m:Str}{g:Addr}{pl:Sem Bool}{Q:Value×WR Value->Shared->Prop}(I:Inv X Z0 Z H s)(e:H a=some (.ins C dx fs))(c:ES X.K C)(k:Meth X.K C m g)(l:fs.lookup m=none)
  (h:Q (.ref g,[.ref a]) s):wpAny (model X.prog X.w) A (getMethod (.ref a) m pl) Q E s:=by
 obtain⟨mA,O,r,_,_,_⟩:=tW I.hok e;have hn:mA m=none:=j6.none_of (by rw[<-l];exact r m);exact JK I.nX O (c.get m) k.at_ k.fn hn h
theorem CP{y:V}{u:Value}{Q:Unit->Shared->Prop}(I:Inv X Z0 Z H s)(e:H a=some (.ins C dx fs))(c:ES X.K C)(n:di X.K C f)(hl:fs.length<1000)(ry:RelV y u)
  (h:∀s',Inv X Z0 Z (upd H a (.ins C dx (cz f y fs))) s'->Q () s'):wpAny (model X.prog X.w) A (setAttr (.ref a) f u) Q E s:=by
 obtain⟨mA,O,r,wi,_,ho⟩:=tW I.hok e;have hz:(fs.map (·.1)).length<=sizeLine:=by rw[length_map,sizeLine_eq];omega
 refine NJ I.nX O c.sa c.po n.Tc c.hd wi hz λh' O' sb=>h _ ?_;have hd:∃o,h'.get? dx=some o:=let ⟨o,_,_,e',_⟩:=O'.ns;⟨o,e'⟩;refine I.write (x:=a) (e:=dx) (by rw[e];exact True.intro) (.inr ho) (λb q hb z=>(sb.2 b hb).trans z) hd ?_;refine⟨by rw[aH O.ne];exact ho,?_,O.ne,O'.obj,_,O'.ns,λg=>?_,λg hg=>?_⟩
 .have:=rX f y fs;omega
 .show j6 ((cz f y fs).lookup g) (if g=f then some u else mA g);rw[rW]
  by_cases q:g=f
  .rw[if_pos q,if_pos q];exact ry
  .rw[if_neg q,if_neg q];exact r g
 .by_cases q:g=f
  .rw[q];exact(qm f y fs).1
  .refine(qm f y fs).2 g (wi g λz=>hg ?_);show (if g=f then some u else mA g)=none;rw[if_neg q];exact z
theorem Inv.made(I:Inv X Z0 Z H s):Inv X Z0 Z (upd (upd H s.heap.objs.size (.own (s.heap.objs.size+1))) (s.heap.objs.size+1) (.ins C s.heap.objs.size []))
  {s with heap:=(s.heap.push W.emptyDict).push (W.instObj C s.heap.objs.size)}:=by
 have e1:(s.heap.push W.emptyDict).get? s.heap.objs.size=some W.emptyDict:=Heap.get?_push_size s.heap rfl;have e2:((s.heap.push W.emptyDict).push (W.instObj C s.heap.objs.size)).get? (s.heap.objs.size+1)=some (W.instObj C s.heap.objs.size):=by
  have:=Heap.get?_push_size (s.heap.push W.emptyDict) (o:=W.instObj C s.heap.objs.size) rfl;rwa[Heap.size_push] at this
 have e3:(s.heap.push W.emptyDict).Ns s.heap.objs.size (λ_=>none):=⟨W.emptyDict,#[],_,e1,rfl,(λe he=>absurd he (by simp)),λ_=>rfl⟩;have I1:=I.laid (a:=s.heap.objs.size) (o:=.own (s.heap.objs.size+1)) (h':=s.heap.push W.emptyDict) (t':=s.toks) (λb u q=>Heap.get?_push_of_some _ q) (le_refl _) ⟨_,e1⟩;refine I1.laid (a:=s.heap.objs.size+1) (o:=.ins C s.heap.objs.size []) (t':=s.toks) (λb u q=>Heap.get?_push_of_some _ q) (Nat.le_of_eq (Heap.size_push _ _)) ?_;have ne:s.heap.objs.size≠s.heap.objs.size+1:=ne_of_lt (lt_succ_self _);refine⟨by rw[aH ne,aq],zero_le _,ne,e2,λ_=>none,(Heap.Ns1.of_empty e3).at λo q=>Heap.get?_push_of_some _ q,λ_=>True.intro,λy hy=>absurd rfl hy⟩
theorem NK{prog:Program}{w:World}{env:Env}{e:Expr}{f:Str}{pos:Pos}{s:Shared}{Q:Value->Shared->Prop}(hb:attributeBase e f env (eval e env)=eval e env)
  (h:wpAny (model prog w) A (eval e env) (λo s₁=>wpAny (model prog w) A (getAttr o f true) Q E s₁) E s):wpAny (model prog w) A (eval (.Attribute e f pos) env) Q E s:=
 Attribute_any_ h (by rw[arm_eval_Attribute,hb])
end
def dU(K:W.Frag)(ta:TE)(f:Str):TE:=λZ H Q=>ta Z H λx H1=>∃a C dx fs v,x=.ref a/\H1 a=some (.ins C dx fs)/\ES K C/\di K C f/\fs.lookup f=some v/\Q v H1
def iP(K:W.Frag)(ta tv:TE)(f:Str):TS:=λD Z H=>tv Z H λy H1=>ta Z H1 λx H2=>∃a C dx fs,x=.ref a/\H2 a=some (.ins C dx fs)/\ES K C/\di K C f/\fs.length<1000/\
 D.nx Z (upd H2 a (.ins C dx (cz f y fs)))
section
variable{X:Cx}{o e value:Expr}{f:Str}{pos pos' tpos:Pos}{ta tv:TE}
theorem Ql(he:PE X e ta)(hb:attributeBase e f X.env (eval e X.env)=eval e X.env):PE X (.Attribute e f pos) (dU X.K ta f):=by
 intro Z0 s Z H Q I h;refine NK hb (cA (he Z0 s Z H _ I h) λu s1 ⟨x,H1,I1,rx,a,C,dx,fs,v,ex,ea,c,n,l,q⟩=>?_);subst ex;obtain rfl:u=Value.ref a:=rx;exact CO I1 ea c n l λu' s2 I2 ru=>⟨v,H1,I2,ru,q⟩
theorem Qm(ha:PE X o ta)(hv:PE X value tv)(hs:swapsWith value (some (.Attribute o f pos')) pos.line X.env=pure false):PS X (.Assign [.Attribute o f pos'] value pos) (iP X.K ta tv f):=by
 intro Z0 s Z H D I h;refine plainObj_wpAny_Assign_Attribute (cA (hv Z0 s Z H _ I h) λu s1 ⟨y,H1,I1,ry,q⟩=>cA (ha Z0 s1 Z H1 _ I1 q) λov s2 ⟨x,H2,I2,rx,a,C,dx,fs,ex,ea,c,n,l,q2⟩=>?_) hs;subst ex;obtain rfl:ov=Value.ref a:=rx;exact CP I2 ea c n l ry λs3 I3=>⟨Z,_,I3,q2⟩
end
section
variable{X:Cx}{Z0:WR (Addr×Obj)}{Z:St}{H:Hp}{s:Shared}{A:Around}{E:Value->Shared->Prop}{Q:Value->Shared->Prop}{c:Value}{b:Bool}
inductive qo (K:W.Frag) (H:Hp):V->Value->Prop where
 |non:qo K H .non (.type "NoneType")
 |bl (x:Bool):qo K H (.bl x) (.type "bool")
 |int (i:Int):qo K H (.int i) (.type "int")
 |str (x:Str):qo K H (.str x) (.type "str")
 |flt (x:UInt64):qo K H (.flt x) (.type "float")
 |lst {a:Addr} {xs:WR V} (e:H a=some (.lst xs)):qo K H (.ref a) (.type "list")
 |frz {a:Addr} {o:Obj} {xs:WR V} (e:H a=some (.frz o (.lst xs))):qo K H (.ref a) (.type "list")
 |tup {a:Addr} {xs:WR V} (e:H a=some (.tup xs)):qo K H (.ref a) (.type "tuple")
 |dK {a:Addr} {kvs:WR (Key×V)} (e:H a=some (.dK kvs)):qo K H (.ref a) (.type "dict")
 |dT {a:Addr} {kvs:WR (WR Key×V)} (e:H a=some (.dT kvs)):qo K H (.ref a) (.type "dict")
 |ins {a C dx:Addr} {fs:WR (Str×V)} (e:H a=some (.ins C dx fs)) (cl:ES K C) (ha:W.findIn K (.ref C) "__class__" =some (some (.builtin "object.__class__")))
   (hn:W.specialIn K (.builtin "object.__class__") "__get__" =some (some (.builtin "getset_descriptor.__get__"))) (htk:W.takesIn K (.builtin "object.__class__")=some true)
   (hm:W.mroIn K C (.type "object")=some true):qo K H (.ref a) (.ref C)
theorem Hx{x:V}{u t:Value}(I:Inv X Z0 Z H s)(rx:RelV x u)(ty:qo X.K H x t)(e:W.kitOne X.K t c=some b)(h:∀tk,Q (.bool b) {s with toks:=tk}):
  wpAny (model X.prog X.w) A (call (.builtin "isinstance") [u,c]) Q E s:=by
 cases ty with
 |non=>cases (show u=Value.none from rx);exact W.kia_one W.kitx_none I.nX True.intro e (λz=>nomatch z) h
 |bl y=>cases (show u=Value.bool y from rx);exact W.kia_one W.kitx_bool I.nX True.intro e (λz=>nomatch z) h
 |int i=>obtain⟨t,q⟩:=(show ∃t,u=Value.int i t from rx);cases q;exact W.kia_one W.kitx_int I.nX True.intro e (λz=>nomatch z) h
 |str y=>obtain⟨t,q⟩:=(show ∃t,u=Value.str y t from rx);cases q;exact W.kia_one W.kitx_str I.nX True.intro e (λz=>nomatch z) h
 |flt y=>obtain⟨t,q⟩:=(show ∃t,u=Value.float y t from rx);cases q;exact W.kia_one W.kitx_float I.nX True.intro e (λz=>nomatch z) h
 |@lst a xs ea=>
  cases (show u=Value.ref a from rx);obtain⟨_,_,n,_,h1⟩:=(show bZ X.prog X.w H s.heap a (.lst xs) from I.hok a _ ea);exact W.kia_one W.kitx_list I.nX ⟨_,h1,rfl⟩ e (λz=>nomatch z) h
 |@frz a ob xs ea=>
  cases (show u=Value.ref a from rx);obtain⟨_,_,_,n,_,h1⟩:=(show bZ X.prog X.w H s.heap a (.frz ob (.lst xs)) from I.hok a _ ea);exact W.kia_one W.kitx_list I.nX ⟨_,h1,rfl⟩ e (λz=>nomatch z) h
 |@tup a xs ea=>
  cases (show u=Value.ref a from rx);obtain⟨_,_,_,p⟩:=(show bZ X.prog X.w H s.heap a (.tup xs) from I.hok a _ ea);obtain⟨o,h1,h2,_⟩:=p;exact W.kia_one W.kitx_tuple I.nX ⟨o,h1,h2⟩ e (λz=>nomatch z) h
 |@dK a kvs ea=>
  cases (show u=Value.ref a from rx);obtain⟨_,_,vs,_,p⟩:=(show bZ X.prog X.w H s.heap a (.dK kvs) from I.hok a _ ea);obtain⟨o,es,ep,h1,h2,_⟩:=p;exact W.kia_one W.kitx_dict I.nX ⟨o,h1,h2.1⟩ e (λz=>nomatch z) h
 |@dT a kvs ea=>
  cases (show u=Value.ref a from rx);obtain⟨_,_,xs,_,o,es,ep,h1,h2,_⟩:=(show bZ X.prog X.w H s.heap a (.dT kvs) from I.hok a _ ea);exact W.kia_one W.kitx_dict I.nX ⟨o,h1,h2.1⟩ e (λz=>nomatch z) h
 |@ins a C dx fs ea cl ha hn htk hm=>
  cases (show u=Value.ref a from rx);obtain⟨mA,O,_⟩:=tW I.hok ea;obtain⟨od,J,_⟩:=O.look;exact W.kia_one (W.kitx_own (cl.get _) cl.hd ha hn htk hm) I.nX J e (λz=>nomatch z) h
end
structure b6(k:Nat)(A:Around):Prop where
 hd:A.handled=none
 dp:A.depth+3*k+5<recursionLimit
 un:A.units+16*k+200<cLine
theorem b6.mono{j k:Nat}{A:Around}(r:b6 k A)(h:j<=k):b6 j A:=⟨r.hd,by have:=r.dp;omega,by have:=r.un;omega⟩
theorem b6.deeper{k:Nat}{A:Around}(r:b6 (k+1) A)(env:Env):b6 k (A.deeper env):=
 ⟨r.hd,by have:=r.dp;show A.depth+1+3*k+5<_;omega,by have:=r.un;show A.units+3+16*k+200<_;omega⟩
theorem CQ{A:Around}{C:Addr}{us:WR Value}{kw:WR (Str×Value)}:(A.under (.builtin "type.__call__" ⟨.ref C::us,kw⟩)).depth=A.depth+1:=by
 first|rfl|simp[Around.under,Code.weight,Code.isCreation,Code.isGuard,Code.isCaller,Code.frames,Code.isFrame,guardIds]
theorem CS{A:Around}{C:Addr}{us:WR Value}{kw:WR (Str×Value)}:(A.under (.builtin "type.__call__" ⟨.ref C::us,kw⟩)).units=A.units+1:=by
 first|rfl|simp[Around.under,Code.cUnits,Code.frames,Code.isFrame]
theorem b6.make{k:Nat}{A:Around}(r:b6 (k+1) A)(C:Addr)(us:WR Value)(kw:WR (Str×Value)):b6 k (A.under (.builtin "type.__call__" ⟨.ref C::us,kw⟩)):=
 ⟨r.hd,by have:=r.dp;rw[CQ];omega,by have:=r.un;rw[CS];omega⟩
theorem b6.depth{k:Nat}{A:Around}(r:b6 k A):A.depth<recursionLimit:=by have:=r.dp;omega
theorem b6.units{k:Nat}{A:Around}(r:b6 k A):A.units+64<cLine:=by have:=r.un;omega
def az:TA:=λ_ H Q=>Q [] H
def ah(ta:TE)(tr:TA):TA:=λZ H Q=>ta Z H λx H1=>tr Z H1 λxs H2=>Q (x::xs) H2
section
variable{X:Cx}{e:Expr}{es:WR Expr}{te:TE}{t:TA}{pos:Pos}
theorem yN:PA X [] az:=λ_ _ _ _ H Q I h=>Calls.spliced_nil ⟨[],H,I,.nil,h⟩
theorem nZ(ha:PE X e te)(hr:PA X es t)(hs:starEach (e::es) X.env=(false,eval e X.env)::starEach es X.env:=by rfl):PA X (e::es) (ah te t):=by
 intro pos Z0 s Z H Q I h;rw[hs];show wpAny _ _ (spliced ((false,eval e X.env)::backTo pos (starEach es X.env))) _ _ s;refine Calls.spliced_cons (cA (ha Z0 s Z H _ I h) λu s1 ⟨x,H1,I1,r1,q1⟩=>?_);exact cA (hr pos Z0 s1 Z H1 _ I1 q1) λus s2 ⟨xs,H2,I2,r2,q2⟩=>⟨x::xs,H2,I2,.cons r1 r2,q2⟩
def iZ(t:TA):TE:=λZ H Q=>t Z H λxs H1=>xs.length<=sizeLine/\∀p,H1 p=none->Q (.ref p) (upd H1 p (.tup xs))
def mU(t:TA):TE:=λZ H Q=>t Z H λxs H1=>xs.length<=sizeLine/\∀p,H1 p=none->Q (.ref p) (upd H1 p (.lst xs))
theorem Qn{x1}(h:PA X es t):PE X (.Tuple es x1 pos) (iZ t):=by
 intro Z0 s Z H Q I hq;refine wpAny_Tuple_spliced (cA (h pos Z0 s Z H _ I hq) λus s1 ⟨xs,H1,I1,r,z,q⟩=>⟨by rw[<-r.length];exact z,?_⟩);have hf:H1 s1.heap.objs.size=none:=I1.hok.fresh (le_refl _);refine⟨.ref s1.heap.objs.size,upd H1 s1.heap.objs.size (.tup xs),I1.laid (t':=s1.toks) (λb u e=>Heap.get?_push_of_some _ e) (le_refl _) ?_,rfl,q _ hf⟩;exact⟨z,us,r,⟨_,Heap.get?_push_size _ rfl,rfl,_,rfl⟩⟩
theorem Qo(h:PA X es t):PE X (.List es pos) (mU t):=by
 intro Z0 s Z H Q I hq;refine wpAny_List_spliced (cA (h pos Z0 s Z H _ I hq) λus s1 ⟨xs,H1,I1,r,z,q⟩=>⟨by rw[<-r.length];exact z,?_⟩);have hf:H1 s1.heap.objs.size=none:=I1.hok.fresh (le_refl _);refine⟨.ref s1.heap.objs.size,upd H1 s1.heap.objs.size (.lst xs),I1.laid (t':=s1.toks) (λb u e=>Heap.get?_push_of_some _ e) (le_refl _) ?_,rfl,q _ hf⟩;exact⟨z,us,0,r,Heap.get?_push_size _ rfl⟩
end
abbrev Sp:=WR V->Hp->VK->XK->Prop
abbrev AZ:=WR Env->Hp->Shared->XK->Value->Shared->Prop
structure CT(P:Program)(w:World)(K:W.Frag)(mg:Str->Option Value)(base:Heap)(A:Around)(outer:WR Env)(s:Shared)(H:Hp):Prop where
 frames:A.frames=some outer
 mod:Mod K mg base
 bs:∀b o,base.get? b=some o->s.heap.get? b=some o/\H b=none
 bsz:base.objs.size<=s.heap.objs.size
 nW:s.heap.FunFrames base outer
 frf:∀b∈frs outer,H b=none
 hok:jV P w H s.heap
 bare:AllBare s.gens
def CE(outer:WR Env)(P:Program)(w:World)(H:Hp)(s:Shared)(Q:VK)(u:Value)(s':Shared):Prop:=
 ∃v H',s'.os=s.os/\AllBare s'.gens/\Un (frs outer) [] H H' s.heap s'.heap/\jV P w H' s'.heap/\RelV v u/\Q v H'
def CR(CX:AZ)(outer:WR Env)(P:Program)(w:World)(H:Hp)(s:Shared)(Q:VK)(E:XK)(r:Result)(s':Shared):Prop:=
 match r with
 |.ok (.ret u)=>CE outer P w H s Q u s'
 |.ok _=>False
 |.error e=>CX outer H s E e s'
structure gK(P:Program)(w:World)(K:W.Frag)(mg:Str->Option Value)(base:Heap)(CX:AZ)(k:Nat)(f:Addr)(fd:FuncData)(ps:WR Str)(sp:Sp):Prop where
 len:∀vs H Q E,sp vs H Q E->vs.length=ps.length
 run:∀(A:Around) (outer:WR Env) (s:Shared) (H:Hp) (args:Args) (us:WR Value) (vs:WR V) (Q:VK) (E:XK),b6 k A->CT P w K mg base A outer s H->BindsTo s fd args (ps.zip us)->Vals vs us->sp vs H Q E->
  codeAny (model P w) A (.call (.ref f) args) (CR CX outer P w H s Q E) s
theorem CT.make{P:Program}{w:World}{K:W.Frag}{mg:Str->Option Value}{base:Heap}{A:Around}{outer:WR Env}{s:Shared}{H:Hp}(e:CT P w K mg base A outer s H)(C:Addr)(us:WR Value)(kw:WR (Str×Value)):
  CT P w K mg base (A.under (.builtin "type.__call__" ⟨.ref C::us,kw⟩)) outer s H:=⟨by first|exact e.frames|(simpa [Around.under,Code.envs,Code.isFrame,pushEnvs] using e.frames),e.mod,e.bs,e.bsz,e.nW,e.frf,e.hok,e.bare⟩
section
variable{X:Cx}{Z0:WR (Addr×Obj)}{Z:St}{H:Hp}{s s':Shared}
theorem Inv.Qp(I:Inv X Z0 Z H s):CT X.prog X.w X.K X.mg X.base X.A X.stack s H:=
 ⟨I.ok.frames,I.ok.mod,I.bs,Nat.le_trans I.ok.bsz I.sz,I.stack,I.tT,I.hok,I.bare⟩
theorem Inv.after{Q:VK}{u:Value}(I:Inv X Z0 Z H s)(h:CE X.stack X.prog X.w H s Q u s'):EP X Z0 Z Q u s':=by
 obtain⟨v,H',os,bare,un,hok,r,q⟩:=h;obtain⟨hh,g,d,t,os'⟩:=s';obtain rfl:os'=s.os:=os;exact⟨v,H',I.call (h':=hh) (g':=g) (d':=d) (t':=t) (ch:=[]) un hok bare (λb z=>absurd z (by simp)),r,q⟩
end
def aF(sp:Sp)(dvs:WR V)(E:XK)(t:TA):TE:=λZ H Q=>t Z H λvs H1=>sp (vs++dvs) H1 Q E
def cI(C:Addr)(m:Str)(sp:Sp)(dvs:WR V)(E:XK)(ta:TE)(t:TA):TE:=λZ H Q=>ta Z H λx H1=>∃a dx fs,x=.ref a/\H1 a=some (.ins C dx fs)/\fs.lookup m=none/\
 t Z H1 λvs H2=>sp (x::(vs++dvs)) H2 Q E
def ET(C:Addr)(sp:Sp)(dvs:WR V)(E:XK)(t:TA):TE:=λZ H Q=>t Z H λvs H1=>∀x dx,H1 x=none->H1 dx=none->dx≠x->
 sp (.ref x::(vs++dvs)) (upd (upd H1 dx (.own x)) x (.ins C dx [])) (λv H2=>v=.non/\Q (.ref x) H2) E
def Binds(K:W.Frag)(fd:FuncData)(ps:WR Str)(ds:WR Value):Prop:=
 ∀(s:Shared) (us:WR Value),K.In s.heap->(us++ds).length=ps.length->BindsTo s fd ⟨us,[]⟩ (ps.zip (us++ds))
theorem Binds.all{K:W.Frag}{fd:FuncData}{ps:WR Str}(h:∀us:WR Value,us.length=ps.length->bindArgs fd ⟨us,[]⟩=pure (ps.zip us)):Binds K fd ps []:=λs us _ hl=>by
 rw[append_nil] at hl ⊢;exact .of_eq (h us hl)
def Passes(CX:AZ)(X:Cx)(E:XK):Prop:=∀(Z0:WR (Addr×Obj)) (Z:St) (H:Hp) (s:Shared) (e:Value) (s':Shared),Inv X Z0 Z H s->CX X.stack H s E e s'->X.xe e s'
section
variable{X:Cx}{CX:AZ}{k:Nat}{f C:Addr}{fd:FuncData}{ps:WR Str}{sp:Sp}{dvs:WR V}{ds:WR Value}{E:XK}{x m:Str}{p pos apos:Pos}{e o:Expr}{es:WR Expr}{ta:TE}{t:TA}
theorem CU{Z0:WR (Addr×Obj)}{Z:St}{H:Hp}{s:Shared}{Q:VK}{us:WR Value}{vs:WR V}(F:gK X.prog X.w X.K X.mg X.base CX k f fd ps sp)(hr:b6 k X.A)(hb:Binds X.K fd ps ds)(hd:Vals dvs ds)(hx:Passes CX X E)
  (I:Inv X Z0 Z H s) (r:Vals vs us) (h:sp (vs++dvs) H Q E):wpAny (model X.prog X.w) X.A (call (.ref f) us) (EP X Z0 Z Q) X.xe s:=by
 have r2:Vals (vs++dvs) (us++ds):=r.append hd;have hl:(us++ds).length=ps.length:=by rw[<-r2.length];exact F.len _ _ _ _ h
 refine wpAny_call (codeAny_mono (F.run X.A X.stack s H ⟨us,[]⟩ (us++ds) (vs++dvs) Q E hr I.Qp (hb s us I.nX hl) r2 h) λr s' hq=>?_);cases r with
 |error e=>exact hx Z0 Z H s e s' I hq
 |ok fl=>
  cases fl with
  |ret u=>exact I.after hq
  |next=>exact False.elim hq
  |brk=>exact False.elim hq
  |cont=>exact False.elim hq
theorem NL(F:gK X.prog X.w X.K X.mg X.base CX k f fd ps sp)(hr:b6 k X.A)(hg:Gl X x)(hm:X.mg x=some (.ref f))(hk:W.keepIn X.K (.ref f)=true)(hb:Binds X.K fd ps ds)(hd:Vals dvs ds)(hx:Passes CX X E)
  (ha:PA X (e::es) t) (hdb:(x==("__debug__":Str))=false:=by decide) (he:starEach (e::es) X.env=(false,eval e X.env)::starEach es X.env:=by rfl) (hpl:(backTo pos (starEach es X.env)).any (·.1)=false:=by rfl):
  PE X (.Call (.Name x p) (e::es) [] pos) (aF sp dvs E t):=by
 intro Z0 s Z H Q I h;refine wpAny_Call_Name_kw (lG I hg hm ?_ hdb);refine W.callWith_K (h₀:=X.base) I.ok.mod.kin hk (cA (ha pos Z0 s Z H _ I h) λus s1 ⟨vs,H1,I1,r,q⟩=>⟨I1.nX,?_⟩) he hpl;exact CU F hr hb hd hx I1 r q
theorem NN{pl:Sem Bool}(he:PE X o ta)(c:ES X.K C)(hm:Meth X.K C m f)(F:gK X.prog X.w X.K X.mg X.base CX k f fd ps sp)(hr:b6 k X.A)(hb:Binds X.K fd ps ds)(hd:Vals dvs ds)(hx:Passes CX X E)(ha:PA X (e::es) t)
  (hst:starEach (e::es) X.env=(false,eval e X.env)::starEach es X.env:=by rfl) (hpl:(backTo pos (starEach es X.env)).any (·.1)=false:=by rfl)
  (ht:eval (.Call (.Attribute o m apos) (e::es) [] pos) X.env=(do
   let ov <-eval o X.env
   standAt apos.atName
   let (f,first) <-holding [ov] (getMethod ov m pl)
   callWith pos f first (backTo pos (starEach (e::es) X.env)) (backToKw pos (keywordEach [] X.env))):=by rfl):
  PE X (.Call (.Attribute o m apos) (e::es) [] pos) (cI C m sp dvs E ta t):=by
 intro Z0 s Z H Q I h;refine W.methodCall_KW (pl:=pl) (cA (he Z0 s Z H _ I h) λu s1 ⟨x,H1,I1,rx,a,dx,fs,ex,ea,l,q⟩=>?_) ht;subst ex;obtain rfl:u=Value.ref a:=rx;refine uQ I1 ea c hm l ?_;refine W.callWith_K (first:=[.ref a]) (h₀:=X.base) I.ok.mod.kin hm.kp (cA (ha pos Z0 s1 Z H1 _ I1 q) λus s2 ⟨vs,H2,I2,r,q2⟩=>⟨I2.nX,?_⟩) hst hpl;exact CU (us:=.ref a::us) (vs:=.ref a::vs) F hr hb hd hx I2 (.cons rfl r) q2
theorem JM{pl:Sem Bool}(he:PE X o ta)(c:ES X.K C)(hm:Meth X.K C m f)(F:gK X.prog X.w X.K X.mg X.base CX k f fd ps sp)(hr:b6 k X.A)(hb:Binds X.K fd ps ds)(hd:Vals dvs ds)(hx:Passes CX X E)
  (ht:eval (.Call (.Attribute o m apos) [] [] pos) X.env=(do
   let ov <-eval o X.env
   standAt apos.atName
   let (f,first) <-holding [ov] (getMethod ov m pl)
   callWith pos f first (backTo pos (starEach [] X.env)) (backToKw pos (keywordEach [] X.env))):=by rfl):
  PE X (.Call (.Attribute o m apos) [] [] pos) (cI C m sp dvs E ta az):=by
 intro Z0 s Z H Q I h;refine W.methodCall_KW (pl:=pl) (cA (he Z0 s Z H _ I h) λu s1 ⟨x,H1,I1,rx,a,dx,fs,ex,ea,l,q⟩=>?_) ht;subst ex;obtain rfl:u=Value.ref a:=rx;refine uQ I1 ea c hm l ?_;exact W.callWith_K0 (first:=[.ref a]) I1.nX hm.kp (CU (us:=[.ref a]) (vs:=[.ref a]) F hr hb hd hx I1 (.cons rfl .nil) q)
structure Mk(K:W.Frag)(C f:Addr):Prop where
 makes:W.makesIn K C=true
 init:W.findIn K (.ref C) "__init__" =some (some (.ref f))
 fn:W.isFn K (.ref f)=true
 kp:W.keepIn K (.ref C)=true
theorem JN{Z0:WR (Addr×Obj)}{Z:St}{H:Hp}{s:Shared}{Q:VK}{us:WR Value}{vs:WR V}(M:Mk X.K C f)(F:gK X.prog X.w X.K X.mg X.base CX k f fd ps sp)(hr:b6 (k+1) X.A)(hb:Binds X.K fd ps ds)(hd:Vals dvs ds)
  (hx:Passes CX X E) (I:Inv X Z0 Z H s) (r:Vals vs us)
  (h:∀x dx,H x=none->H dx=none->dx≠x->sp (.ref x::(vs++dvs)) (upd (upd H dx (.own x)) x (.ins C dx [])) (λv H2=>v=.non/\Q (.ref x) H2) E):
  wpAny (model X.prog X.w) X.A (call (.ref C) us) (EP X Z0 Z Q) X.xe s:=by
 have hq:=h (s.heap.objs.size+1) s.heap.objs.size (I.hok.fresh (le_succ _)) (I.hok.fresh (le_refl _)) (ne_of_lt (lt_succ_self _));have I2:=Inv.made (C:=C) I;have r2:Vals (V.ref (s.heap.objs.size+1)::(vs++dvs)) (Value.ref (s.heap.objs.size+1)::(us++ds)):=.cons rfl (r.append hd);have hl:(Value.ref (s.heap.objs.size+1)::us++ds).length=ps.length:=by
  have e:=r2.length;rw[F.len _ _ _ _ hq] at e;exact e.symm
 refine wpAny_call (JL (f:=f) I.nX M.makes M.init (beq_iff_eq.mp M.fn) (codeAny_mono (F.run _ X.stack _ _ ⟨Value.ref (s.heap.objs.size+1)::us,[]⟩ (Value.ref (s.heap.objs.size+1)::(us++ds)) _ _ E (hr.make C us [])
  (I2.Qp.make C us []) (hb _ (Value.ref (s.heap.objs.size+1)::us) I2.nX hl) r2 hq) λr s' hq'=>?_))
 cases r with
 |error e=>exact hx Z0 Z _ _ e s' I2 hq'
 |ok fl=>
  cases fl with
  |ret u=>
   obtain⟨v,H',I3,rv,ev,q3⟩:=I2.after hq';subst ev;exact⟨rv,⟨V.ref (s.heap.objs.size+1),H',I3,rfl,q3⟩⟩
  |next=>exact False.elim hq'
  |brk=>exact False.elim hq'
  |cont=>exact False.elim hq'
theorem NO(M:Mk X.K C f)(F:gK X.prog X.w X.K X.mg X.base CX k f fd ps sp)(hr:b6 (k+1) X.A)(hg:Gl X x)(hm:X.mg x=some (.ref C))(hb:Binds X.K fd ps ds)(hd:Vals dvs ds)(hx:Passes CX X E)
  (ha:PA X (e::es) t) (hdb:(x==("__debug__":Str))=false:=by decide) (he:starEach (e::es) X.env=(false,eval e X.env)::starEach es X.env:=by rfl) (hpl:(backTo pos (starEach es X.env)).any (·.1)=false:=by rfl):
  PE X (.Call (.Name x p) (e::es) [] pos) (ET C sp dvs E t):=by
 intro Z0 s Z H Q I h;refine wpAny_Call_Name_kw (lG I hg hm ?_ hdb);refine W.callWith_K (h₀:=X.base) I.ok.mod.kin M.kp (cA (ha pos Z0 s Z H _ I h) λus s1 ⟨vs,H1,I1,r,q⟩=>⟨I1.nX,?_⟩) he hpl;exact JN M F hr hb hd hx I1 r q
end
def PK(X:Cx)(kws:WR Keyword)(t:TA):Prop:=
 ∀(pos:Pos) (Z0:WR (Addr×Obj)) (s:Shared) (Z:St) (H:Hp) (Q:WR V->Hp->Prop),Inv X Z0 Z H s->t Z H Q->wpAny (model X.prog X.w) X.A (evalAll ((backToKw pos (keywordEach kws X.env)).map (·.2))) (AP X Z0 Z Q) X.xe s
section
variable{X:Cx}{CX:AZ}{k:Nat}{f C:Addr}{fd:FuncData}{ps ks:WR Str}{sp:Sp}{E:XK}{x m:Str}{p pos apos kpos:Pos}{e o:Expr}{es:WR Expr}{kws:WR Keyword}{te ta:TE}{t tk:TA}{nm:Option Str}
theorem Qq:PK X [] az:=λ_ _ _ _ H Q I h=>wpAny_evalAll_nil ⟨[],H,I,.nil,h⟩
theorem NP(ha:PE X e te)(hr:PK X kws t):PK X (⟨nm,e,kpos⟩::kws) (ah te t):=by
 intro pos Z0 s Z H Q I h;show wpAny _ _ (evalAll ((do let v <-eval e X.env;standAt pos;pure v)::(backToKw pos (keywordEach kws X.env)).map (·.2))) _ _ s;refine wpAny_evalAll_cons (wpAny_bind (cA (ha Z0 s Z H _ I h) λu s1 ⟨x,H1,I1,r1,q1⟩=>wpAny_bind (wpAny_standAt (wpAny_pure ?_))));exact cA (hr pos Z0 s1 Z H1 _ I1 q1) λus s2 ⟨xs,H2,I2,r2,q2⟩=>⟨x::xs,H2,I2,.cons r1 r2,q2⟩
variable{g:WR Value->WR Value->WR Value}{gV:WR V->WR V->WR V}
end
structure aK(N P:WR Str)(sc:Scope):Prop where
 kind:sc.kind=.function
 co:sc.isCoroutine=false
 gen:sc.isGenerator=false
 nd:N.Nodup
 pre:N.take P.length=P
 par:∀x∈P,sc.names.lookup x=some .local\/sc.names.lookup x=some .cell
 nofree:∀y∈sc.names,y.2≠.free
theorem ya{kindOf:Str->Option NameKind}{x:Str}:∀{binds:WR (Str×Value)} {m:Str->Option Value},(∀v,(x,v)∉binds)->bindL kindOf binds m x=m x
 |[],_,_=>rfl
 |(n,v)::r,m,h=>by
  unfold bindL;rw[ya λw hw=>h w (mem_cons_of_mem _ hw)];split
  .have:x≠n:=by rintro rfl;exact h v mem_cons_self
   simp[this]
  .rfl
theorem yb{kindOf:Str->Option NameKind}{x:Str}:∀{binds:WR (Str×Value)} {m:Str->Option Value},(∀v,(x,v)∉binds)->bindC kindOf binds m x=m x
 |[],_,_=>rfl
 |(n,v)::r,m,h=>by
  unfold bindC;rw[yb λw hw=>h w (mem_cons_of_mem _ hw)];split
  .rfl
  .have:x≠n:=by rintro rfl;exact h v mem_cons_self
   simp[this]
theorem yc{kindOf:Str->Option NameKind}{x:Str}{v:Value}:∀{P:WR Str} {vs:WR Value} {i:Nat} {m:Str->Option Value},P.Nodup->P[i]?=some x->vs[i]?=some v->kindOf x=some .local->
  bindL kindOf (P.zip vs) m x=some v
 |[],_,_,_,_,h,_,_=>by simp at h
 |_::_,[],_,_,_,_,h,_=>by simp at h
 |p::P,w::vs,0,m,nd,h1,h2,hk=>by
  simp at h1 h2;subst h1;subst h2
  show bindL kindOf ((p,w)::P.zip vs) m p=_;unfold bindL;rw[ya λv hv=>(nodup_cons.mp nd).1 (List.of_mem_zip hv).1,if_pos hk];simp
 |p::P,w::vs,i+1,m,nd,h1,h2,hk=>by
  show bindL kindOf ((p,w)::P.zip vs) m x=_;unfold bindL;exact yc (i:=i) (nodup_cons.mp nd).2 (by simpa using h1) (by simpa using h2) hk
theorem yd{kindOf:Str->Option NameKind}{x:Str}{v:Value}:∀{P:WR Str} {vs:WR Value} {i:Nat} {m:Str->Option Value},P.Nodup->P[i]?=some x->vs[i]?=some v->kindOf x≠some .local->
  bindC kindOf (P.zip vs) m x=some v
 |[],_,_,_,_,h,_,_=>by simp at h
 |_::_,[],_,_,_,_,h,_=>by simp at h
 |p::P,w::vs,0,m,nd,h1,h2,hk=>by
  simp at h1 h2;subst h1;subst h2
  show bindC kindOf ((p,w)::P.zip vs) m p=_;unfold bindC;rw[yb λv hv=>(nodup_cons.mp nd).1 (List.of_mem_zip hv).1,if_neg hk];simp
 |p::P,w::vs,i+1,m,nd,h1,h2,hk=>by
  show bindC kindOf ((p,w)::P.zip vs) m x=_;unfold bindC;exact yd (i:=i) (nodup_cons.mp nd).2 (by simpa using h1) (by simpa using h2) hk
def start(N:WR Str)(vs:WR V):St:=vs.map some++List.replicate (N.length-vs.length) none
def mV(CX:AZ)(P:Program)(w:World)(K:W.Frag)(mg:Str->Option Value)(base:Heap)(N:WR Str)(qual:Str)(scope:Scope)(f:Addr)(cd:Value)(A:Around)(outer:WR Env)(s:Shared)(H:Hp)(E:XK):Cx where
 prog:=P
 w:=w
 K:=K
 mg:=mg
 base:=base
 A:=A.deeper (envOfC qual scope s.heap.objs.size f cd)
 N:=N
 s₀:=s
 H₀:=H
 env:=envOfC qual scope s.heap.objs.size f cd
 outer:=outer
 stack:=envOfC qual scope s.heap.objs.size f cd::outer
 ex:=[]
 calm:=true
 fn:=λ_=>true
 pn:=[]
 xe:=λe s'=>wpAny (model P w) (A.deeper (envOfC qual scope s.heap.objs.size f cd)) (leaving (envOfC qual scope s.heap.objs.size f cd) e) (λ_ s''=>CX outer H s E e s'') (λe' s''=>CX outer H s E e' s'') s'
theorem A5{sc:Scope}{n:Nat}{x:Str}(h:sc.names.lookup x=some .cell):∃c,(cellsFrom n sc.names []).lookup x=some c:=by
 have q:=W.cellsFrom_some sc.names n [] (.inl h);exact Option.isSome_iff_exists.mp q
theorem Hy{CX:AZ}{P:Program}{w:World}{K:W.Frag}{mg:Str->Option Value}{base:Heap}{N ps:WR Str}{qual:Str}{scope:Scope}{f:Addr}{cd:Value}{A:Around}{outer:WR Env}{s s1:Shared}{H:Hp}{E:XK}{us:WR Value}{vs:WR V}
  (S:aK N ps scope) (hd:A.handled=none) (e0:CT P w K mg base A outer s H) (hl:vs.length=ps.length) (r:Vals vs us)
  (x:InCallC s s.heap.objs.size (bindL (envOfC qual scope s.heap.objs.size f cd).kindOf (ps.zip us) λ_=>none) (cellsFrom (s.heap.objs.size+1) scope.names []) (bindC (envOfC qual scope s.heap.objs.size f cd).kindOf (ps.zip us) λ_=>none) s1):
  Inv (mV CX P w K mg base N qual scope f cd A outer s H E) [] (start N vs) H s1:=by
 have hpl:ps.length<=N.length:=by have:=congrArg List.length S.pre;rw[length_take] at this;omega
 obtain⟨h1,tk,rfl,hk⟩:=x.done;have noA:∀b:Addr,b∉(mV CX P w K mg base N qual scope f cd A outer s H E).ex:=λb z=>absurd (show b∈([]:WR Addr) from z) (by simp);refine⟨⟨e0.mod,S.kind,rfl,rfl,le_refl _,λy z c h1 h2=>?_,λy hy=>?_,λy c _ h=>?_,λ_=>hd,Around.frames_deeper e0.frames,.inr ⟨rfl,rfl⟩,λb z=>absurd z (noA b),e0.bs,e0.bsz,λb _ _=>noA b,λb z=>absurd z (noA b),e0.nW,e0.frf⟩,
  rfl,e0.bare,Un.kept hk,⟨_,x.toInCall.ns,λi y v h1 h2 h3=>?_⟩,λy c h=>⟨_,x.cell y c h⟩,e0.hok.fresh (le_refl _),λy c h=>?_,λp hp=>absurd (show p∈([]:WR (Addr×Obj)) from hp) (by simp),e0.hok.kept hk,?_⟩
 .exact name_of_addr x.apart (PySem.mem_of_lookup h1) (PySem.mem_of_lookup h2)
 .have hy:scope.names.lookup y=some .cell\/scope.names.lookup y=some .free:=hy
  rcases hy with hy|hy
  .exact A5 hy
  .exact absurd rfl (S.nofree _ (PySem.mem_of_lookup hy))
 .exact le_of_lt (x.above y c (PySem.mem_of_lookup h))
 .have hi:i<vs.length:=by
   unfold start at h2
   by_cases hi:i<vs.length
   .exact hi
   .rw[getElem?_append_right (by simpa using hi)] at h2;rw[List.getElem?_replicate] at h2;split at h2<;>cases h2
  have ha:vs[i]?=some v:=by
   unfold start at h2;rw[getElem?_append_left (by simpa using hi),getElem?_map] at h2;cases e:vs[i]? with
   |none=>rw[e] at h2;cases h2
   |some a=>rw[e] at h2;cases h2;rfl
  obtain⟨u,hu,rv⟩:=r.get ha;have hp:ps[i]?=some y:=by
   rw[<-S.pre,List.getElem?_take_of_lt (by omega)];exact h1
  have ndP:ps.Nodup:=by rw[<-S.pre];exact S.nd.sublist (List.take_sublist _ _)
  refine⟨u,rv,?_⟩
  rcases S.par y (mem_of_getElem? hp) with k|k
  .exact .inl ⟨k,yc ndP hp hu k⟩
  .obtain⟨c,e⟩:=A5 (n:=s.heap.objs.size+1) k;refine .inr ⟨.inl k,c,e,?_⟩;have q:=x.cell y c e;rw[yd ndP hp hu (by show scope.names.lookup y≠_;rw[k];decide)] at q;exact q
 .exact e0.hok.fresh (le_of_lt (x.above y c (PySem.mem_of_lookup h)))
 .unfold start;show _=N.length;rw[length_append,length_map,List.length_replicate];omega
theorem Pp{CX:AZ}{P:Program}{w:World}{K:W.Frag}{mg:Str->Option Value}{base:Heap}{k:Nat}{f:Addr}{name qual:Str}{params:Arguments}{body:WR Stmt}{scope:Scope}{dV kV doc pm cdv ct oc:Value}{an od:Option Addr}
  {osl:Array (Option Value)} {N ps:WR Str} {sp:Sp} (lk:K.lookup f=some ⟨oc,od,.func (W.fnOf name qual params body scope dV kV doc pm an cdv ct),osl⟩) (hcd:W.codeIn K cdv qual=true) (S:aK N ps scope)
  (len:∀vs H Q E,sp vs H Q E->vs.length=ps.length)
  (hbody:∀(A:Around) (outer:WR Env) (s:Shared) (H:Hp) (vs:WR V) (Q:VK) (E:XK),b6 k (A.deeper (envOfC qual scope s.heap.objs.size f cdv))->sp vs H Q E->
   ∃t,CD (mV CX P w K mg base N qual scope f cdv A outer s H E) body t/\t {nx:=λ_ H'=>Q .non H',rt:=Q} (start N vs) H):
  gK P w K mg base CX (k+1) f (W.fnOf name qual params body scope dV kV doc pm an cdv ct) ps sp:=by
 refine⟨len,λA outer s H args us vs Q E hr e0 hb r hsp=>?_⟩;have hl:=len _ _ _ _ hsp;have KX:K.In s.heap:=e0.mod.kin.keeps λb o e=>(e0.bs b o e).1;have lim:s.heap.NoLimit:=e0.mod.nolimit.keeps λb o e=>(e0.bs b o e).1;have hkind:∀y∈ps.zip us,scope.names.lookup y.1=some .local\/(scope.names.lookup y.1=some .cell/\((cellsFrom (s.heap.objs.size+1) scope.names []).lookup y.1).isSome=true):=λ⟨n,v⟩ hy=>by
  rcases S.par n (List.of_mem_zip hy).1 with q|q
  .exact .inl q
  .exact .inr ⟨q,W.cellsFrom_some _ _ _ (.inl q)⟩
 refine codeAny_call_function hr.depth (KX _ _ lk) rfl S.co S.gen rfl (W.codeRec_of KX hcd) (hb _ _ _ _ ?_);refine wpAny_newFunctionEnv_cells S.kind hkind λenv he s1 x=>?_;subst he;refine⟨lim.keeps x.toInCall.keep,codeAny_func ?_⟩;obtain⟨t,ht,hq⟩:=hbody A outer s H vs Q E (hr.deeper _) hsp;have I:Inv (mV CX P w K mg base N qual scope f cdv A outer s H E) [] (start N vs) H s1:=Hy S hr.hd e0 hl r x;refine wpAny_mono (ht [] s1 (start N vs) H _ I hq) (λfl s' hs=>?_) λe s' hs=>hs;have fin:∀{σ':St} {H':Hp} {v:V} {u:Value},Inv (mV CX P w K mg base N qual scope f cdv A outer s H E) [] σ' H' s'->RelV v u->Q v H'->CE outer P w H s Q u s':=
  λ{σ' H' v u} J rv q=>⟨v,H',J.os,J.bare,J.base,J.hok,rv,q⟩
 cases fl with
 |ret u=>
  obtain⟨v,σ',H',J,rv,q⟩:=hs;exact fin J rv q
 |next=>
  obtain⟨σ',H',J,q⟩:=hs;exact fin (v:=V.non) (u:=Value.none) J rfl q
 |brk=>
  obtain⟨_,_,_,q⟩:=hs;exact False.elim q
 |cont=>
  obtain⟨_,_,_,q⟩:=hs;exact False.elim q
section
variable{X:Cx}{x:Str}{p pos:Pos}{e:Expr}{es:WR Expr}{t:TA}{id T:String}{r:WR V->Hp->VK->Prop}
def dj(r:WR V->Hp->VK->Prop)(t:TA):TE:=λZ H Q=>t Z H λvs H1=>r vs H1 Q
theorem uR(hc:fh X (.builtin id) r)(hg:Gl X x)(hm:X.mg x=none)(hv:bootBuiltins x=some (.builtin id))(ha:PA X (e::es) t)(hn:x ≠ "__name__" :=by decide)(hdb:(x==("__debug__" :Str))=false:=by decide)
  (he:starEach (e::es) X.env=(false,eval e X.env)::starEach es X.env:=by rfl) (hpl:(backTo pos (starEach es X.env)).any (·.1)=false:=by rfl):PE X (.Call (.Name x p) (e::es) [] pos) (dj r t):=by
 intro Z0 s Z H Q I h;refine wpAny_Call_Name_kw (kg I hg hm hv ?_ hn hdb);exact PyProof.Rows.callWith_builtin1 (cA (ha pos Z0 s Z H _ I h) λus s1 ⟨vs,H1,I1,r1,q1⟩=>hc Z0 s1 Z H1 vs us Q I1 r1 q1) he hpl
theorem ye(hc:fh X (.type T) r)(hg:Gl X x)(hm:X.mg x=none)(hv:bootBuiltins x=some (.type T))(ha:PA X (e::es) t)(hn:x ≠ "__name__" :=by decide)(hdb:(x==("__debug__" :Str))=false:=by decide)
  (he:starEach (e::es) X.env=(false,eval e X.env)::starEach es X.env:=by rfl) (hpl:(backTo pos (starEach es X.env)).any (·.1)=false:=by rfl):PE X (.Call (.Name x p) (e::es) [] pos) (dj r t):=by
 intro Z0 s Z H Q I h;refine wpAny_Call_Name_kw (kg I hg hm hv ?_ hn hdb);exact PyProof.Rows.callWith_type1 (cA (ha pos Z0 s Z H _ I h) λus s1 ⟨vs,H1,I1,r1,q1⟩=>hc Z0 s1 Z H1 vs us Q I1 r1 q1) he hpl
end
end L2
namespace HT
open PySem PyProof.Rows
section
open PySem.SeqAt
open PySem.AutoSeq1 (wpAny_loadPart')
open PySem.MeetsSeq PySem.MeetsSeq2 PySem.MeetsSeq3
end
section
variable{prog:Program}{w:World}{A:Around}{E:Value->Shared->Prop}{s:Shared}
def mW(n d:Nat):Option Int->Nat
 |none=>d
 |some v=>if v<0 then(v+(n:Int)).toNat else min v.toNat n
theorem uS(n d:Nat):mW n d none=d:=rfl
theorem yO(n d k:Nat):mW n d (some (k:Int))=min k n:=by
 show (if (k:Int)<0 then((k:Int)+(n:Int)).toNat else min (k:Int).toNat n)=min k n
 rw[if_neg (by omega),toNat_natCast]
end
end HT
namespace L2
open PySem PySem.Spec PyProof.Rows
abbrev TO:=St->Hp->(Option Int->Hp->Prop)->Prop
def PO(X:Cx)(e:Option Expr)(t:TO):Prop:=
 ∀(Z0:WR (Addr×Obj)) (s:Shared) (Z:St) (H:Hp) (Q:Option Int->Hp->Prop),Inv X Z0 Z H s->t Z H Q->
  wpAny (model X.prog X.w) X.A (evalPart e X.env) (λu s'=>∃o H',Inv X Z0 Z H' s'/\IsPart u o/\Q o H') X.xe s
def fV:TO:=λ_ H Q=>Q none H
def mH(t:TE):TO:=λZ H Q=>t Z H λx H1=>∃i,x=.int i/\Q (some i) H1
section
variable{X:Cx}{e:Expr}{te:TE}{lo hi:Option Expr}{tl th:TO}{pos p2:Pos}
theorem NQ:PO X none fV:=by
 intro Z0 s Z H Q I h;rw[evalPart_none];exact wpAny_pure ⟨none,H,I,.none,h⟩
theorem NR(h:PE X e te):PO X (some e) (mH te):=by
 intro Z0 s Z H Q I hw;rw[evalPart_some];refine cA (h Z0 s Z H _ I hw) λu s1 ⟨x,H1,I1,r1,q1⟩=>?_;obtain⟨i,rfl,q⟩:=q1;obtain⟨t,rfl⟩:=r1;exact⟨some i,H1,I1,.int i t,q⟩
def Vx(X:Cx)(r:V->Option Int->Option Int->Hp->VK->Prop):Prop:=
 ∀(Z0:WR (Addr×Obj)) (s:Shared) (Z:St) (H:Hp) (x:V) (v vl vu:Value) (lo hi:Option Int) (sl:Addr) (Q:VK),Inv X Z0 Z H s->RelV x v->s.heap.IsSliceOf sl vl vu .none->IsPart vl lo->IsPart vu hi->r x lo hi H Q->
  ∃T id,typeLookup (.type T) "__getitem__" =pure (some (.builtin id))/\s.TypeIs v T/\wpAny (model X.prog X.w) X.A (getItem v (.ref sl)) (EP X Z0 Z Q) X.xe s
def Nm(r:V->Option Int->Option Int->Hp->VK->Prop)(te:TE)(tl th:TO):TE:=λZ H Q=>te Z H λx H1=>tl Z H1 λl H2=>th Z H2 λu H3=>r x l u H3 Q
theorem JO{r:V->Option Int->Option Int->Hp->VK->Prop}(hr:Vx X r)(he:PE X e te)(hl:PO X lo tl)(hu:PO X hi th):PE X (.Subscript e (.Slice lo hi none p2) pos) (Nm r te tl th):=by
 intro Z0 s Z H Q I h;refine Subscript_ (cA (he Z0 s Z H _ I h) λv s1 ⟨x,H1,I1,r1,q1⟩=>?_);refine wpAny_Slice (cA (hl Z0 s1 Z H1 _ I1 q1) λvl s2 ⟨l,H2,I2,pl,q2⟩=>cA (hu Z0 s2 Z H2 _ I2 q2) λvu s3 ⟨u,H3,I3,pu,q3⟩=>?_);rw[evalPart_none];refine wpAny_pure ?_;have I4:Inv X Z0 Z H3 {s3 with heap:=s3.heap.push {cls:=.type "slice",data:=.fields #[vl,vu,.none] } }:=I3.kept (t':=s3.toks) λb ob q=>Heap.get?_push_of_some _ q
 obtain⟨T,id,hT,ht,hg⟩:=hr Z0 {s3 with heap:=s3.heap.push {cls:=.type "slice",data:=.fields #[vl,vu,.none] } } Z H3 x v vl vu l u s3.heap.objs.size Q I4 r1 (Heap.IsSliceOf.new ..) pl pu q3
 show wpAny (model X.prog X.w) X.A (subscriptTail e (.Slice lo hi none p2) v (.ref s3.heap.objs.size)) (EP X Z0 Z Q) X.xe {s3 with heap:=s3.heap.push {cls:=.type "slice",data:=.fields #[vl,vu,.none] } }
 exact tail_any (ops:=[.ref s3.heap.objs.size,v]) ht hT hg (by with_unfolding_all rfl)
def yP(xs:WR V)(lo hi:Option Int):WR V:=(xs.drop (HT.mW xs.length 0 lo)).take (HT.mW xs.length xs.length hi-HT.mW xs.length 0 lo)
theorem A6(xs:WR V)(lo hi:Option Int):(yP xs lo hi).length<=xs.length:=by
 unfold yP;rw[length_take,length_drop];omega
end
def Sz(n:Nat)(i:Int):Option Nat:=if 0<=i then(if i<n then some i.toNat else none) else if -(n:Int)<=i then some (i+n).toNat else none
def Pq{α:Type}(xs:WR α)(i:Int):Option α:=(Sz xs.length i).bind λj=>xs[j]?
theorem NS{n:Nat}{i:Int}{j:Nat}(h:Sz n i=some j):seqIndex? i n=some j/\j<n/\-(n:Int)<=i/\i<n:=by
 unfold Sz at h
 by_cases h0:0<=i
 .rw[if_pos h0] at h
  by_cases h1:i<n
  .rw[if_pos h1] at h;have e:i.toNat=j:=Option.some.inj h;exact⟨by rw[seqIndex_of h0 h1,e],by omega,by omega,h1⟩
  .rw[if_neg h1] at h;cases h
 .rw[if_neg h0] at h
  by_cases h1:-(n:Int)<=i
  .rw[if_pos h1] at h;have e:(i+n).toNat=j:=Option.some.inj h;exact⟨by rw[seqIndex_neg (by omega) h1,e],by omega,h1,by omega⟩
  .rw[if_neg h1] at h;cases h
theorem yQ{α:Type}{xs:WR α}{i:Int}{v:α}(h:Pq xs i=some v):∃j,seqIndex? i xs.length=some j/\xs[j]?=some v/\j<xs.length/\-(xs.length:Int)<=i/\i<xs.length:=by
 unfold Pq at h;cases e:Sz xs.length i with
 |none=>rw[e] at h;cases h
 |some j=>
  rw[e] at h;obtain⟨h1,h2,h3,h4⟩:=NS e;exact⟨j,h1,h,h2,h3,h4⟩
theorem yR{α:Type}{xs:WR α}{j:Nat}{v:α}(h:xs[j]?=some v):Pq xs (j:Int)=some v:=by
 have hj:j<xs.length:=(List.getElem?_eq_some_iff.mp h).1;have e:Sz xs.length (j:Int)=some j:=by
  unfold Sz;rw[if_pos (by omega),if_pos (by omega)];simp
 unfold Pq;rw[e];exact h
def NT(b:Expr):Prop:=∀o i,subscripted b false o i=operate [o,i] (getItem o i)
def SG(X:Cx)(r:R2):Prop:=
 ∀(value slice:Expr) (Z0:WR (Addr×Obj)) (s:Shared) (Z:St) (H:Hp) (x y:V) (v u:Value) (Q:VK),Inv X Z0 Z H s->RelV x v->RelV y u->r x y H Q->
  subscripted slice false v u=operate [v,u] (getItem v u)->wpAny (model X.prog X.w) X.A (subscriptTail value slice v u) (EP X Z0 Z Q) X.xe s
def Jq(X:Cx)(id:String)(r:V->WR V->Hp->VK->Prop):Prop:=
 ∀(Z0:WR (Addr×Obj)) (s:Shared) (Z:St) (H:Hp) (x:V) (xs:WR V) (v:Value) (us:WR Value) (Q:VK),Inv X Z0 Z H s->RelV x v->Vals xs us->r x xs H Q->
  wpAny (model X.prog X.w) X.A (call (.builtin id) (v::us)) (EP X Z0 Z Q) X.xe s
section
variable{X:Cx}{a b:Expr}{ta tb:TE}{pos:Pos}
theorem Td{r:R2}(hr:SG X r)(ha:PE X a ta)(hb:PE X b tb)(hs:NT b):PE X (.Subscript a b pos) (aS r ta tb):=by
 intro Z0 s Z H Q I h;exact Subscript_ (Qi ha hb I h λv u s2 x y H2 I2 rx ry q=>hr a b Z0 s2 Z H2 x y v u Q I2 rx ry q (hs _ _))
def bY(K:W.Frag):R2:=λx y H Q=>∃p xs i v,x=.ref p/\y=.int i/\aZ K H p xs/\Pq xs i=some v/\Q v H
def dF(K:W.Frag):R2:=λx y H Q=>∃p xs i v,x=.ref p/\y=.int i/\ff K H p xs/\Pq xs i=some v/\Q v H
def VH:R2:=λx y H Q=>∃z i c,x=.str z/\y=.int i/\z.length<=sizeLine/\Pq z.cps.toList i=some c/\Q (.str ⟨#[c]⟩) H
theorem aU:SG X (bY X.K):=by
 intro value slice Z0 s Z H x y v u Q I rx ry h hs;obtain⟨p,xs,i,z,rfl,rfl,hq,he,q⟩:=h;cases rx;obtain⟨t,rfl⟩:=ry;obtain⟨its,r,pl,hz⟩:=I.list hq;obtain⟨j,h1,h2,h3,h4,h5⟩:=yQ he;obtain⟨w,ew,rw'⟩:=r.get h2;have hl:=r.length;have hn:=uP;have fin:EP X Z0 Z Q w s:=⟨z,H,I,rw',q⟩
 by_cases h0:0<=i
 .have hj:i.toNat=j:=by
   rw[seqIndex_of h0 h5] at h1;exact Option.some.inj h1
  exact item_listR pl.isList h0 (by omega) (by rw[hj];simpa using ew) fin hs
 .have hj:(i+(its.toArray.size:Int)).toNat=j:=by
   rw[seqIndex_neg (by omega) h4] at h1;rw[size_toArray,<-hl];exact Option.some.inj h1
  exact subscriptTail_builtinR (x:=w) pl.isList.typeIs slot_list_getitem.lookup
   (wpAny_getItem_list_neg (Q:=λr s'=>r=w/\EP X Z0 Z Q r s') pl.isList (by omega) (by rw[size_toArray]<;>omega) (by omega) (by rw[hj];simpa using ew) ⟨rfl,fin⟩) hs
theorem bh:SG X (dF X.K):=by
 intro value slice Z0 s Z H x y v u Q I rx ry h hs;obtain⟨p,xs,i,z,rfl,rfl,hq,he,q⟩:=h;cases rx;obtain⟨t,rfl⟩:=ry;obtain⟨its,r,pl,hz⟩:=I.tuple hq;obtain⟨j,h1,h2,h3,h4,h5⟩:=yQ he;obtain⟨w,ew,rw'⟩:=r.get h2;have hl:=r.length;have hn:=uP;have fin:EP X Z0 Z Q w s:=⟨z,H,I,rw',q⟩;exact subscriptTail_builtinR (x:=w) pl.typeIs slot_tuple_getitem.lookup
  (getItem_tuple (j:=j) (Q:=λr s'=>r=w/\EP X Z0 Z Q r s') pl (by omega) (by omega) (by rw[size_toArray,<-hl];exact h1) (by simpa using ew) ⟨rfl,fin⟩) hs
theorem Qs:SG X VH:=by
 intro value slice Z0 s Z H x y v u Q I rx ry h hs;obtain⟨z,i,c,rfl,rfl,hz,he,q⟩:=h;obtain⟨t,rfl⟩:=rx;obtain⟨t',rfl⟩:=ry;obtain⟨j,h1,h2,h3,h4,h5⟩:=yQ he;have hl:z.cps.toList.length=z.length:=by simp[Str.length]
 rw[hl] at h1 h4 h5;have hn:=uP;exact tail_any (typeIs_str s z t) slot_str_getitem.lookup (getItem_str (c:=c) (by
  have e1:decide (i < -(2^63:Int))=false:=decide_eq_false (by omega);have e2:decide (i≥2^63)=false:=decide_eq_false (by omega);rw[e1,e2,Bool.or_false]) (by rw[h1];simpa using h2) ⟨.str ⟨#[c]⟩,H,I.tok _,⟨_,rfl⟩,q⟩) hs
theorem yS(lo hi:Option Int)(n:Nat):(sliceBounds lo hi none n).1=((HT.mW n 0 lo:Nat):Int)/\(sliceBounds lo hi none n).2.1=((HT.mW n n hi:Nat):Int)/\(sliceBounds lo hi none n).2.2=1:=by
 refine⟨?_,?_,rfl⟩
 .cases lo with
  |none=>simp[sliceBounds,HT.mW]
  |some i=>
   simp only[sliceBounds,HT.mW,Option.getD_none,show (1:Int)>0 by decide,if_true]
   by_cases h:i<0
   .simp only[h,if_true]<;>omega
   .simp only[h,if_false]<;>omega
 .cases hi with
  |none=>simp[sliceBounds,HT.mW]
  |some i=>
   simp only[sliceBounds,HT.mW,Option.getD_none,show (1:Int)>0 by decide,if_true]
   by_cases h:i<0
   .simp only[h,if_true]<;>omega
   .simp only[h,if_false]<;>omega
theorem xC(its:WR Value)(lo hi:Option Int):slicePick its.toArray lo hi none=((its.drop (HT.mW its.length 0 lo)).take (HT.mW its.length its.length hi-HT.mW its.length 0 lo)).toArray:=by
 obtain⟨h1,h2,h3⟩:=yS lo hi its.toArray.size;unfold slicePick;rw[h1,h2,h3];simp only[sliceRange_one,pick_run,size_toArray]<;>rfl
def CV(K:W.Frag):V->Option Int->Option Int->Hp->VK->Prop:=λx lo hi H Q=>∃a xs,x=.ref a/\aZ K H a xs/\∀p,H p=none->Q (.ref p) (upd H p (.lst (yP xs lo hi)))
theorem lH:Vx X (CV X.K):=by
 intro Z0 s Z H x v vl vu lo hi sl Q I rx hs pl pu h;obtain⟨a,xs,rfl,hx,q⟩:=h;cases rx;obtain⟨its,r,ht,hz⟩:=I.list hx;have hlen:=r.length;refine⟨"list",_,slot_list_getitem.lookup,ht.isList.typeIs,?_⟩;refine wpAny_getItem_list_slice ht.isList hs pl pu .none (by simp) ?_ (by rw[size_toArray]<;>omega);rw[xC,<-hlen];refine⟨.ref s.heap.objs.size,_,I.laid (t':=s.toks) (o:=.lst (yP xs lo hi)) (λb ob q=>Heap.get?_push_of_some _ q) (le_refl _) ?_,rfl,q _ (I.hok.fresh (le_refl _))⟩;exact⟨Nat.le_trans (A6 xs lo hi) hz,_,0,(r.drop (HT.mW xs.length 0 lo)).take (HT.mW xs.length xs.length hi-HT.mW xs.length 0 lo),Heap.get?_push_size _ rfl⟩
theorem aL:fh X (.builtin "len") (λxs H Q=>∃p ys,xs=[.ref p]/\(aZ X.K H p ys\/ff X.K H p ys)/\Q (.int ys.length) H):=by
 intro Z0 s Z H xs us Q I r h;obtain⟨p,ys,rfl,hq,q⟩:=h;obtain⟨u,rfl,rx⟩:=vals1 r;cases rx;have hn:=uP
 rcases hq with hq|hq
 .obtain⟨its,r',pl,hz⟩:=I.list hq;have hlen:=r'.length;exact Calls.call_len_list pl.isList (by simp only[size_toArray]<;>omega) ⟨.int ys.length,H,I.tok _,⟨s.toks+1,by rw[size_toArray,hlen]⟩,q⟩
 .obtain⟨its,r',pl,hz⟩:=I.tuple hq;have hlen:=r'.length;exact len_tuple pl (by simp only[size_toArray]<;>omega) ⟨.int ys.length,H,I.tok _,⟨s.toks+1,by rw[size_toArray,hlen]⟩,q⟩
theorem yT:fh X (.builtin "len") (λxs H Q=>∃z,xs=[.str z]/\z.length<=sizeLine/\Q (.int z.length) H):=by
 intro Z0 s Z H xs us Q I r h;obtain⟨z,rfl,hz,q⟩:=h;obtain⟨u,rfl,t,rfl⟩:=vals1 r;have hn:=uP;exact len_str (by omega) ⟨.int z.length,H,I.tok _,⟨_,rfl⟩,q⟩
theorem fm:fh X (.type "list") (λxs H Q=>∃p ys,xs=[.ref p]/\(aZ X.K H p ys\/ff X.K H p ys)/\∀l,H l=none->Q (.ref l) (upd H l (.lst ys))):=by
 intro Z0 s Z H xs us Q I r h;obtain⟨p,ys,rfl,hq,q⟩:=h;obtain⟨u,rfl,rx⟩:=vals1 r;cases rx;have fin:∀(its:WR Value),Vals ys its->ys.length<=sizeLine->∀(h':Heap) (c':Nat),(∀b o',s.heap.get? b=some o'->h'.get? b=some o')->
   h'.get? s.heap.objs.size=some {cls:=.type "list",dict:=none,data:=.seq its.toArray c',slots:=#[] }->EP X Z0 Z Q (.ref s.heap.objs.size) {s with heap:=h' }:=λits r' hz h' c' kp e=>
  ⟨.ref s.heap.objs.size,_,I.laid (t':=s.toks) kp (le_refl _) (show bZ X.prog X.w _ h' _ (.lst ys) from⟨hz,its,c',r',e⟩),rfl,q _ (I.hok.fresh (le_refl _))⟩
 rcases hq with hq|hq
 .obtain⟨its,r',pl,hz⟩:=I.list hq;have hlen:=r'.length;obtain⟨o,ho,hc,n,hd⟩:=pl.isList;exact call_list_seq p (.inl rfl) ho hc hd (λh' c' kp e=>fin its r' hz h' c' kp e) (by simp only[size_toArray]<;>omega)
 .obtain⟨its,r',pl,hz⟩:=I.tuple hq;have hlen:=r'.length;obtain⟨o,ho,hc,n,hd⟩:=pl;exact call_list_seq p (.inr rfl) ho hc hd (λh' c' kp e=>fin its r' hz h' c' kp e) (by simp only[size_toArray]<;>omega)
def VI(K:W.Frag)(T:String)(x:V)(H:Hp):Prop:=match x with
 |.str _=>T = "str"
 |.int _=>T = "int"
 |.ref p=>(T = "list" /\∃xs,aZ K H p xs)\/(T = "tuple" /\∃o,K.lookup p=some o/\o.cls=.type "tuple" /\o.dict=none)\/
   (T = "dict" /\((∃kvs,H p=some (.dK kvs))\/∃kvs,H p=some (.dT kvs)))\/(T = "set" /\∃S n,H p=some (.set S n))
 |_=>False
theorem JP{Z0:WR (Addr×Obj)}{Z:St}{H:Hp}{s:Shared}{T:String}{x:V}{v:Value}(I:Inv X Z0 Z H s)(r:RelV x v)(ty:VI X.K T x H):
  s.TypeIs v T/\∀a,v=.ref a->∃ob,s.heap.get? a=some ob/\ob.dict=none:=by
 cases x with
 |str z=>
  obtain⟨t,rfl⟩:=r;cases (show T = "str" from ty);exact⟨typeIs_str s z t,λ_ e=>nomatch e⟩
 |int i=>
  obtain⟨t,rfl⟩:=r;cases (show T = "int" from ty);exact⟨typeIs_int s i t,λ_ e=>nomatch e⟩
 |ref p=>
  cases r
  rcases ty with⟨rfl,xs,hq⟩|⟨rfl,o,hk,hc,hd⟩|⟨rfl,hk⟩|⟨rfl,S,n,hk⟩
  .obtain⟨its,_,pl,_⟩:=I.list hq;refine⟨pl.isList.typeIs,λa e=>?_⟩;cases e;obtain⟨o,n,e,c,hd,_⟩:=pl;exact⟨o,e,hd⟩
  .refine⟨⟨o,I.nX p o hk,hc⟩,λa e=>?_⟩;cases e;exact⟨o,I.nX _ o hk,hd⟩
  .have z:∃o,s.heap.get? p=some o/\o.ExactDict:=by
    rcases hk with⟨kvs,hk⟩|⟨kvs,hk⟩
    .obtain⟨_,_,_,_,o,_,_,e,ex,_⟩:=I.hok p _ hk;exact⟨o,e,ex⟩
    .obtain⟨_,_,_,_,o,_,_,e,ex,_⟩:=I.hok p _ hk;exact⟨o,e,ex⟩
   obtain⟨o,e,ex⟩:=z;refine⟨⟨o,e,ex.1⟩,λa e2=>?_⟩;cases e2;exact⟨o,e,ex.2.1⟩
  .obtain⟨o,_,_,_,e,ex,_⟩:=I.hok p _ hk;refine⟨⟨o,e,ex.1⟩,λa e2=>?_⟩;cases e2;exact⟨o,e,ex.2.1⟩
 |_=>exact False.elim ty
def Hz(K:W.Frag)(T:String)(r:V->WR V->Hp->VK->Prop)(to:TE):TE:=λZ H Q=>to Z H λx H1=>VI K T x H1/\r x [] H1 Q
def xD(K:W.Frag)(T:String)(r:V->WR V->Hp->VK->Prop)(to:TE)(t:TA):TE:=λZ H Q=>to Z H λx H1=>VI K T x H1/\t Z H1 λxs H2=>r x xs H2 Q
variable{o e:Expr}{es:WR Expr}{to:TE}{t:TA}{name:Str}{apos cpos:Pos}{T id:String}{r:V->WR V->Hp->VK->Prop}
theorem Qt(pa:PlainAttrs T)(slot:Slot T name id)(hty:typeOf (.builtin id)=pure (.type "method_descriptor"))(hm:Jq X id r)(ho:PE X o to)
  (hbase:attributeBase o name X.env (eval o X.env)=eval o X.env:=by rfl) (hline:(apos.endLine==cpos.line)=true:=by rfl):PE X (.Call (.Attribute o name apos) [] [] cpos) (Hz X.K T r to):=by
 intro Z0 s Z H Q I h;refine wpAny_Call_method0_late hbase hline (cA (ho Z0 s Z H _ I h) λv s1 ⟨x,H1,I1,r1,ty,q1⟩=>?_);obtain⟨h1,h2⟩:=JP I1 r1 ty;exact⟨T,id,pa,slot,hty,h1,h2,Calls.callWith_builtin rfl (PySem.evalArgs_none (hm Z0 s1 Z H1 x [] v [] Q I1 r1 .nil q1))⟩
theorem Te(pa:PlainAttrs T)(slot:Slot T name id)(hty:typeOf (.builtin id)=pure (.type "method_descriptor"))(hm:Jq X id r)(ho:PE X o to)(ha:PA X (e::es) t)
  (hbase:attributeBase o name X.env (eval o X.env)=eval o X.env:=by rfl)
  (hfew:((backTo cpos (starEach (e::es) X.env)).all (λx=>!x.1)&&(backToKw cpos (keywordEach [] X.env)).all (λx=>x.1.isSome)
   && decide ((e::es).length+([]:WR Keyword).length+(if ([]:WR Keyword).isEmpty then 0 else 1)<30))=true:=by rfl)
  (hline:(apos.endLine==cpos.line)=true:=by rfl) (hs:starEach (e::es) X.env=(false,eval e X.env)::starEach es X.env:=by rfl) (hplain:(backTo cpos (starEach es X.env)).any (·.1)=false:=by rfl):
  PE X (.Call (.Attribute o name apos) (e::es) [] cpos) (xD X.K T r to t):=by
 intro Z0 s Z H Q I h;refine wpAny_Call_method_late hbase hfew hline rfl (cA (ho Z0 s Z H _ I h) λv s1 ⟨x,H1,I1,r1,ty,q1⟩=>?_);obtain⟨h1,h2⟩:=JP I1 r1 ty;refine⟨T,id,pa,slot,hty,h1,h2,?_⟩;have hA:=ha cpos Z0 s1 Z H1 _ I1 q1;rw[hs] at hA ⊢;refine Calls.callWith_builtin (by show (false||(backTo cpos (starEach es X.env)).any (·.1))=false;rw[hplain]<;>rfl) (Calls.evalArgs_plain ?_)
 exact cA hA λus s2 ⟨vs,H2,I2,r2,q2⟩=>hm Z0 s2 Z H2 x vs v us Q I2 r1 r2 q2
end
def Wt(X:Cx)(id:String)(r:V->WR V->Hp->VK->Prop):Prop:=
 ∀(Z0:WR (Addr×Obj)) (s:Shared) (Z:St) (H:Hp) (x:V) (xs:WR V) (v:Value) (us:WR Value) (Q:VK),Inv X Z0 Z H s->RelV x v->Vals xs us->r x xs H Q->
  wpAny (model X.prog X.w) X.A (call (.builtin id) (v::us)) (EP X Z0 Z Q) X.xe s
theorem Vals.one:∀{x:V} {us:WR Value},Vals [x] us->∃u,us=[u]/\RelV x u
 |_,_,.cons r .nil=>⟨_,rfl,r⟩
theorem Vals.zero:∀{us:WR Value},Vals [] us->us=[]
 |_,.nil=>rfl
theorem Vals.reverse{xs:WR V}{us:WR Value}(h:Vals xs us):Vals xs.reverse us.reverse:=by
 induction h with
 |nil=>exact .nil
 |cons r t ih=>rw[List.reverse_cons,List.reverse_cons];exact Vals.append ih (.cons r .nil)
section
variable{X:Cx}{Z0:WR (Addr×Obj)}{Z:St}{H:Hp}{s:Shared}{l b:Addr}{xs ys zs:WR V}
theorem Inv.Tf{its its':WR Value}{n:Nat}{f:Array Value->Array Value}{t':Nat}(I:Inv X Z0 Z H s)(hH:H l=some (.lst xs))
  (e:s.heap.get? l=some {cls:=.type "list",data:=.seq its.toArray n}) (hf:f its.toArray=its'.toArray) (hv:Vals ys its') (hz:ys.length<=sizeLine):
  Inv X Z0 Z (upd H l (.lst ys)) {s with heap:=s.heap.update l (Obj.mapSeq f),toks:=t' }:=by
 have q:=PySem.IsL.update e f;rw[hf] at q;refine I.write (x:=l) (e:=l) (by rw[hH];exact trivial) (.inl rfl) (λb' u hb hu=>(Heap.get?_update_other s.heap (Obj.mapSeq f) (Ne.symm hb)).trans hu) ⟨_,q⟩ ?_;exact⟨hz,its',_,hv,q⟩
theorem Inv.VJ{its:WR Value}{t':Nat}(I:Inv X Z0 Z H s)(hv:Vals ys its)(hz:ys.length<=sizeLine):
  Inv X Z0 Z (upd H s.heap.objs.size (.lst ys)) {s with heap:=s.heap.push {cls:=.type "list",data:=.seq its.toArray},toks:=t' }:=
 I.laid (λ_ _ q=>Heap.get?_push_of_some _ q) (le_refl _) ⟨hz,its,0,hv,Heap.get?_push_size _ rfl⟩
theorem Inv.fresh(I:Inv X Z0 Z H s):H s.heap.objs.size=none:=I.hok.fresh (le_refl _)
theorem Inv.HF(I:Inv X Z0 Z H s)(hH:H l=some (.lst xs)):xs.length<=sizeLine/\∃(its:WR Value) (n:Nat),Vals xs its/\xs.length=its.length/\s.heap.get? l=some {cls:=.type "list",data:=.seq its.toArray n}:=by
 obtain⟨z,its,n,r,e⟩:=I.hok l _ hH;exact⟨z,its,n,r,r.length,e⟩
theorem JQ{n:Nat}(h:n<=sizeLine):Builtin.List.listTooLong n=false:=by
 unfold Builtin.List.listTooLong;exact decide_eq_false (by omega)
end
section
variable{X:Cx}
def fq:V->WR V->Hp->VK->Prop:=λx vs H Q=>∃l xs y,x=.ref l/\vs=[y]/\H l=some (.lst xs)/\xs.length<sizeLine/\Q .non (upd H l (.lst (xs++[y])))
theorem dM:Wt X "list.append" fq:=by
 intro Z0 s Z H x vs v us Q I rx rv h;obtain⟨l,xs,y,rfl,rfl,hH,hz,q⟩:=h;cases rx;obtain⟨u,rfl,ru⟩:=rv.one;obtain⟨z,its,n,r,hl,e⟩:=I.HF hH;refine call_meets F.slot_list_append ⟨_,e,rfl⟩ F.entry_list_append (F.args_list_append_2 _ _) (PySem.list_append l its.toArray n u (by rw[size_toArray];omega)) ⟨e,?_⟩;refine⟨.non,_,I.Tf (its':=its++[u]) hH e (by simp) (r.append (.cons ru .nil)) ?_,rfl,q⟩;rw[length_append,List.length_singleton];omega
def EU:V->WR V->Hp->VK->Prop:=λx vs H Q=>∃l b xs zs,x=.ref l/\vs=[.ref b]/\H l=some (.lst xs)/\H b=some (.lst zs)/\xs.length+zs.length<=sizeLine/\Q .non (upd H l (.lst (xs++zs)))
theorem HG:Wt X "list.extend" EU:=by
 intro Z0 s Z H x vs v us Q I rx rv h;obtain⟨l,b,xs,zs,rfl,rfl,hH,hB,hz,q⟩:=h;cases rx;obtain⟨u,rfl,ru⟩:=rv.one;cases ru;obtain⟨z,its,n,r,hl,e⟩:=I.HF hH;obtain⟨z2,its2,n2,r2,hl2,e2⟩:=I.HF hB;have hsz:its.toArray.size+its2.toArray.size<=sizeLine:=by rw[size_toArray,size_toArray];omega
 have Tg:¬(!its.toArray.isEmpty&&Builtin.List.listTooLong (its.toArray.size+its2.toArray.size))=true:=by
  rw[JQ hsz,Bool.and_false];exact Bool.false_ne_true
 refine call_meets F.slot_list_extend ⟨_,e,rfl⟩ F.entry_list_extend (F.args_list_extend_2 _ _)
  (AutoSeq1.list_extend_list_list_0 l its.toArray n b its2.toArray n2 Tg (by rw[size_toArray];omega) (by omega)) ⟨e,e2,?_⟩
 refine⟨.non,_,I.Tf (its':=its++its2) hH e (by simp) (r.append r2) ?_,rfl,q⟩;rw[length_append];omega
def yU:R2:=λx y H Q=>∃l b xs zs,x=.ref l/\y=.ref b/\H l=some (.lst xs)/\H b=some (.lst zs)/\xs.length+zs.length<=sizeLine/\∀p,H p=none->Q (.ref p) (upd H p (.lst (xs++zs)))
theorem ko:mG X (binaryOp .Add) yU:=by
 intro Z0 s Z H x y v u Q I rx ry h;obtain⟨l,b,xs,zs,rfl,rfl,hH,hB,hz,q⟩:=h;cases rx;cases ry;obtain⟨z,its,n,r,hl,e⟩:=I.HF hH;obtain⟨z2,its2,n2,r2,hl2,e2⟩:=I.HF hB;refine PySem.P.add_list e e2 ?_ (by rw[size_toArray,size_toArray];omega);have ea:its.toArray++its2.toArray=(its++its2).toArray:=by simp
 rw[ea];exact⟨.ref _,_,I.VJ (t':=s.toks) (r.append r2) (by rw[length_append];omega),rfl,q _ I.fresh⟩
end
end L2
namespace Att
open PySem PySem.W PySem.Calls PyProof.Rows
theorem tE{P:Params}{h:Heap}:∀(ns:WR Int) (vs:WR Value),WellAll P h vs (ns.map WData.int)->IntsAre vs ns:=by
 intro ns
 induction ns with
 |nil=>
  intro vs w;rw[map_nil] at w;cases w;exact .nil
 |cons n ns ih=>
  intro vs w;rw[map_cons] at w;cases w with
  |cons a b=>
   cases a;exact .cons _ _ (ih _ b)
theorem HJ{l:OpenLaw}{n:Nat}(hn:l.most=some n){P:Params}{h:Heap}{args:WR WData}{vals:WR Value}
  (hpre:l.row.toRowW.claim.pre args=true) (hwl:WellAll P h vals args):
  ∃a vs ns,vals=[Value.ref a]/\args=[WData.list (ns.map WData.int)]/\h.get? a=some {cls:=.type "list",data:=.seq vs.toArray}/\IntsAre vs ns/\ns.length<=n:=by
 have hsh:WShape.hasAll [] args [.list .int]=true:=(pre_splitW hpre).1;have hc:l.pre.holds [] {args:=args}=true:=(pre_splitW hpre).2;obtain⟨d,r,rfl,h1,h2⟩:=hasAllW_cons hsh;obtain rfl:=hasAllW_nil h2;obtain⟨xs,rfl,h3⟩:=hasW_list h1;obtain⟨ns,rfl⟩:=items_int h3;have hlen:ns.length<=n:=by
  unfold OpenLaw.pre at hc;have h4:(WTm.not (.lt (.lit (.int (n:Int))) (.len (.arg 0)))).holds [] {args:=[.list (ns.map .int)] }=true:=by
   have h4:=(holds_andW hc).1;rw[hn] at h4;exact h4
  have h5:=condW_of h4 (w_not (w_lt w_lit (w_len_list (w_arg rfl))));rw[length_map] at h5;refine Nat.le_of_not_lt λq=>?_;have q':(n:Int)<((ns.length:Nat):Int):=by omega
  first
   |(rw[decide_eq_true q'] at h5;exact absurd h5 (by decide))
   |(simp at h5;omega)
 cases hwl with
 |cons w1 w2=>
  cases w2;cases w1 with
  |list ho hall=>exact⟨_,_,ns,rfl,rfl,ho,tE ns _ hall,hlen⟩
theorem HL(l:OpenLaw)(args:WR WData):l.row.toRowW.claim.post args (.bool true) args=true:=
 postW_of (r:=l.row.toRowW) (X:=(true==true))
  (show WShape.has [] (.bool true) .bool=true by first|rfl|decide|simp[WShape.has,WShape.arms,WShape.armsAll])
  (show (WTm.eq .res (.lit (.bool true))).value [] {args:=args,res:=some (.bool true),after:=args}=some (.bool (true==true)) from w_eq_bool (w_res rfl) w_lit) rfl
theorem Ba{l:OpenLaw}{n:Nat}{q:Program}{loose:WR Str}{XP:(Str->Option Value)->Heap->Prop}{YP:World->Heap->Prop}{d:DefRec}
  (hn:l.most=some n) (hdf:d.params.defaults=[])
  (call:∀(w:World) (s₀ s₁:Shared) (mg mb:Str->Option Value) (fa:Addr) (o:Obj) (pm cd doc:Value) (a:Addr) (vs:WR Value) (ns:WR Int),
   Ground q loose [] XP w s₀ mg mb s₁.heap->YP w s₁.heap->
   s₁.heap.get? fa=some o->o.data=.func (docDef d.name d.params d.body d.scope pm cd doc)->s₁.heap.CodeRec cd d.name->mg d.name=some (.ref fa)->
   s₁.heap.get? a=some {cls:=.type "list",data:=.seq vs.toArray}->IntsAre vs ns->ns.length<=n->s₁.gens = #[]->
   codeAny (model l.prog w) callerA (.call (.ref fa) ⟨[.ref a],[]⟩) (λr s'=>r=.ok (.ret (.bool true))/\OldK s₁.heap s'.heap/\s'.os=s₁.os/\AllBare s'.gens) s₁):
  WalkO q loose XP YP l.row.toRowW d [] (λf vs=>PySem.call f vs):=by
 intro w s₀ s₁ mg mb G Y fa o pm cd doc dV kV ho hd hcd hD hmg hg args vals as hpre hlay hrd hwl hlo;obtain rfl:dV=.none:=Dflts.none hD hdf;obtain rfl:kV=.none:=Dflts.noKw hD;obtain⟨a,vs,ns,rfl,rfl,hobj,hints,hlen⟩:=HJ hn hpre hwl;refine enter_call (codeAny_mono (call w s₀ s₁ mg mb fa o pm cd doc a vs ns G Y ho (fd_plain hd) hcd hmg hobj hints hlen hg) λr s' hq=>?_);obtain⟨rfl,h2,h3,h4⟩:=hq;exact⟨.inl ⟨.bool true,.bool true,[],rfl,λ_=>rfl,.bool true,HL l _,λ_=>⟨List.Pairwise.nil,λ_ hm=>(nomatch hm)⟩⟩,h2,h3,h4⟩
end Att
namespace L2
open PySem PySem.Spec PyProof.Rows
theorem yf:∀{vs:WR Value} {ns:WR Int},IntsAre vs ns->Vals (ns.map V.int) vs
 |_,_,.nil=>.nil
 |_,_,.cons n t h=>.cons ⟨t,rfl⟩ (yf h)
def Qu(H:Hp):Prop:=∀b,H b=none\/∃o xs,H b=some (.frz o (.lst xs))
theorem JR{P:Program}{w:World}{K:W.Frag}{mg mb:Str->Option Value}{CX:AZ}{k:Nat}{fa a:Addr}{fd:FuncData}{x:Str}{sp:Sp}{s₁:Shared}{vs:WR Value}{ns:WR Int}
  (KX:K.In s₁.heap) (hns:s₁.heap.Ns mainGlobals mg) (hb:s₁.heap.Ns builtinsNs mb) (hbb:∀x:Str,x ≠ "__name__"->mb x=bootBuiltins x) (hlim:s₁.heap.NoLimit) (hg:s₁.gens = #[])
  (ha:s₁.heap.get? a=some {cls:=.type "list",data:=.seq vs.toArray}) (hi:IntsAre vs ns) (hl:ns.length<=sizeLine) (hr:b6 k callerA)
  (F:∀base:Heap,K.In base->base.Ns mainGlobals mg->gK P w K mg base CX k fa fd [x] sp) (hbind:∀(s:Shared) (u:Value),BindsTo s fd ⟨[u],[]⟩ [(x,u)])
  (hsp:∀H:Hp,Qu H->aZ K H a (ns.map V.int)->sp [.ref a] H (λv _=>v=.bl true) λ_ _ _=>False)
  (hCX:∀H e s',CX [] H s₁ (λ_ _ _=>False) e s'->False):
  codeAny (model P w) callerA (.call (.ref fa) ⟨[.ref a],[]⟩) (λr s'=>r=.ok (.ret (.bool true))/\OldK s₁.heap s'.heap/\s'.os=s₁.os/\AllBare s'.gens) s₁:=by
 have rv:=yf hi;have VL:=hi.length
 -- from an abstract heap in which nothing but the script may be tracked
 have core:∀H:Hp,Qu H->aZ K H a (ns.map V.int)->jV P w H s₁.heap->(∀b,H b≠none->b=a)->(H a≠none->K.lookup a=none)->
   codeAny (model P w) callerA (.call (.ref fa) ⟨[.ref a],[]⟩) (λr s'=>r=.ok (.ret (.bool true))/\OldK s₁.heap s'.heap/\s'.os=s₁.os/\AllBare s'.gens) s₁:=by
  intro H hO hS hok hA hK;have EV:∀{b:Addr} {o:Obj},s₁.heap.get? b=some o->H b=none->(yL s₁.heap H).get? b=some o:=λe n=>Jw e n;have noA:∀{b:Addr} {o:Obj} {es:Array DictEntry} {ep:Nat},s₁.heap.get? b=some o->o.data=.dict es ep->H b=none:=λ{b o es ep} e d=>by
   cases q:H b with
   |none=>rfl
   |some u=>
    have e':b=a:=hA b (by rw[q];simp);subst e';rw[ha] at e;cases e;have d':Data.seq vs.toArray _=Data.dict es ep:=d;cases d'
  have nsK:∀{b:Addr} {m:Str->Option Value},s₁.heap.Ns b m->(yL s₁.heap H).Ns b m:=λ{b m} ⟨o,es,ep,e,d,r⟩=>⟨o,es,ep,EV e (noA e d),d,r⟩;have hKb:K.In (yL s₁.heap H):=λb o e=>EV (KX b o e) (by
   cases q:H b with
   |none=>rfl
   |some u=>
    have e':b=a:=hA b (by rw[q];simp);subst e';rw[hK (by rw[q];simp)] at e;cases e)
  have hM:Mod K mg (yL s₁.heap H):=⟨hKb,nsK hns,⟨mb,nsK hb,hbb⟩,let ⟨mc,h1,h2⟩:=hlim;⟨mc,nsK h1,h2⟩⟩;have e0:CT P w K mg (yL s₁.heap H) callerA [] s₁ H:=⟨rfl,hM,λb o e=>Np e,Nat.le_of_eq (Hq _ _),trivial,λb hb=>absurd (show b∈([]:WR Addr) from hb) (by simp),hok,.of_eq hg⟩;refine codeAny_mono ((F _ hKb (nsK hns)).run callerA [] s₁ H ⟨[.ref a],[]⟩ [.ref a] [.ref a] _ _ hr e0 (hbind s₁ (.ref a)) (.cons rfl .nil) (hsp H hO hS)) λr s' h=>?_;cases r with
  |error e=>exact(hCX H e s' h).elim
  |ok fl=>
   cases fl with
   |next=>exact False.elim h
   |brk=>exact False.elim h
   |cont=>exact False.elim h
   |ret u=>
    obtain⟨v,H',os,bare,un,VM,r',q⟩:=h;have q':v=.bl true:=q;subst q';obtain rfl:u=Value.bool true:=r';refine⟨rfl,OldK.of_keep λb o e=>?_,os,bare⟩;cases q:H b with
    |none=>exact un.keep b o e q (by intro z;exact absurd (show b∈([]:WR Addr) from z) (by simp)) (by simp)
    |some u=>
     rcases hO b with z|⟨ob,xs,z⟩
     .rw[q] at z;cases z
     .have z2:=un.frzs b ob _ z;obtain⟨e1,_⟩:=hok b _ z;obtain⟨e2,_⟩:=VM b _ z2;rw[e] at e1;cases e1;exact e2
 cases hk:K.lookup a with
 |some o=>
  -- the script is one of the module's own objects
  have e:=KX a o hk;rw[ha] at e;cases e;refine core (λ_=>none) (λ_=>.inl rfl) (.inr ⟨_,vs.toArray,_,hk,rfl,rfl,rfl,by rw[size_toArray,VL];exact hl,by simpa using rv⟩) (λb u z=>by have z':(none:Option HO)=some u:=z;cases z') (λb z=>absurd rfl z) λz=>absurd rfl z
 |none=>
  refine core (λb=>if b=a then some (.frz {cls:=.type "list",data:=.seq vs.toArray} (.lst (ns.map V.int))) else none) (λb=>?_) (.inl (.inr ⟨{cls:=.type "list",data:=.seq vs.toArray},if_pos rfl⟩)) (λb u z=>?_) (λb z=>?_) λ_=>hk
  .by_cases hb:b=a
   .exact .inr ⟨_,_,if_pos hb⟩
   .exact .inl (if_neg hb)
  .by_cases hb:b=a
   .have z':=(if_pos hb).symm.trans z;cases z';subst hb;exact⟨ha,by rw[length_map];exact hl,vs,_,rv,ha⟩
   .have z':=(if_neg hb).symm.trans z;cases z'
  .by_cases hb:b=a
   .exact hb
   .exact absurd (if_neg hb) z
abbrev Vy{K:W.Frag}{h:Heap}(_:K.In h):W.Frag:=K
theorem EW{l:W.OpenLaw}{n k:Nat}{q:Program}{loose:WR Str}{XP:(Str->Option Value)->Heap->Prop}{YP:World->Heap->Prop}{d:DefRec}{K:Params->W.Frag}{CX:World->AZ}{sp:World->Sp}{x:Str}
  (hn:l.most=some n) (hn2:n<=sizeLine) (hdf:d.params.defaults=[]) (hr:b6 k callerA)
  (hY:∀(w:World) (h:Heap),YP w h->(K w.params).In h)
  (F:∀(w:World) (mg:Str->Option Value) (fa:Addr) (h:Heap),(K w.params).In h->h.Ns mainGlobals mg->mg d.name=some (.ref fa)->
   ∃fd:FuncData,(∀(s:Shared) (u:Value),BindsTo s fd ⟨[u],[]⟩ [(x,u)])/\
    ∀base:Heap,(K w.params).In base->base.Ns mainGlobals mg->gK l.prog w (K w.params) mg base (CX w) k fa fd [x] (sp w))
  (hsp:∀(w:World) (H:Hp) (a:Addr) (ns:WR Int),ns.length<=n->Qu H->aZ (K w.params) H a (ns.map V.int)->sp w [.ref a] H (λv _=>v=.bl true) λ_ _ _=>False)
  (hCX:∀(w:World) (H:Hp) (s:Shared) (e:Value) (s':Shared),CX w [] H s (λ_ _ _=>False) e s'->False):
  W.WalkO q loose XP YP l.row.toRowW d [] (λf vs=>PySem.call f vs):=by
 refine Att.Ba hn hdf λw s₀ s₁ mg mb fa o pm cd doc a vs ns G Y ho hd hcd hmg hobj hints hlen hg=>?_;have KX:=hY w _ Y;obtain⟨fd,hb,hF⟩:=F w mg fa _ KX G.T.g hmg;exact JR KX G.T.g G.T.b G.T.builtins G.T.nolimit hg hobj hints (Nat.le_trans hlen hn2) hr hF hb (λH hO hS=>hsp w H a ns hlen hO hS) λH e s'=>hCX w H s₁ e s'
end L2
namespace L2
open PySem PySem.Spec PyProof.Rows
def inClass(s:Stmt)(j:Nat):Stmt:=match s with
 |.ClassDef _ _ _ body _ _ _ _ _ _ _=>body.getD j (.Pass ⟨0,0,0,0⟩)
 |_=>.Pass ⟨0,0,0,0⟩
def iC(s:Stmt):Arguments:=match s with
 |.FunctionDef _ a _ _ _ _ _ _ _ _=>a
 |_=>{posonlyargs:=[],args:=[],vararg:=none,kwonlyargs:=[],kw_defaults:=[],kwarg:=none,defaults:=[] }
def fu(s:Stmt):WR Stmt:=match s with
 |.FunctionDef _ _ b _ _ _ _ _ _ _=>b
 |_=>[]
def aB(s:Stmt):Scope:=match s with
 |.FunctionDef _ _ _ _ _ _ sc _ _ _=>sc
 |_=>{kind:=.function,names:=[],isGenerator:=false,isCoroutine:=false}
abbrev fc:AZ:=λ_ _ _ _ _ _=>False
abbrev E0:XK:=λ_ _ _=>False
theorem gM{X:Cx}:Passes fc X E0:=λ_ _ _ _ _ _ _ h=>h.elim
structure EX(K:W.Frag)(x qual:Str)(st:Stmt)(f:Addr)(fd:FuncData):Prop where
 ex:∃(oc:Value) (od:Option Addr) (kV doc pm:Value) (an:Option Addr) (cdv ct:Value) (osl:Array (Option Value)),
  fd=W.fnOf x qual (iC st) (fu st) (aB st) .none kV doc pm an cdv ct/\K.lookup f=some ⟨oc,od,.func fd,osl⟩/\W.codeIn K cdv qual=true
 kp:W.keepIn K (.ref f)=true
section
variable{P:Program}{w:World}{K:W.Frag}{mg:Str->Option Value}{base:Heap}
theorem EX.ok{x qual:Str}{st:Stmt}{f:Addr}{fd:FuncData}{N ps:WR Str}{k:Nat}{sp:Sp}(F:EX K x qual st f fd)(S:aK N ps (aB st))(len:∀vs H Q E,sp vs H Q E->vs.length=ps.length)
  (hbody:∀(cdv:Value) (A:Around) (outer:WR Env) (s:Shared) (H:Hp) (vs:WR V) (Q:VK) (E:XK),b6 k (A.deeper (envOfC qual (aB st) s.heap.objs.size f cdv))->sp vs H Q E->
   ∃t,CD (mV fc P w K mg base N qual (aB st) f cdv A outer s H E).Nv (fu st) t/\t {nx:=λ_ H'=>Q .non H',rt:=Q} (start N vs) H):gK P w K mg base fc (k+1) f fd ps sp:=by
 obtain⟨oc,od,kV,doc,pm,an,cdv,ct,osl,rfl,lk,hcd⟩:=F.ex;refine Pp lk hcd S len λA outer s H vs Q E hr hsp=>?_;obtain⟨t,h,q⟩:=hbody cdv A outer s H vs Q E hr hsp;exact⟨t,h.Nv,q⟩
theorem EX.binds{x qual:Str}{st:Stmt}{f:Addr}{fd:FuncData}{ps:WR Str}(F:EX K x qual st f fd)
  (h:∀(kV doc pm:Value) (an:Option Addr) (cdv ct:Value) (us:WR Value),us.length=ps.length->bindArgs (W.fnOf x qual (iC st) (fu st) (aB st) .none kV doc pm an cdv ct) ⟨us,[]⟩=pure (ps.zip us)):Binds K fd ps []:=by
 obtain⟨oc,od,kV,doc,pm,an,cdv,ct,osl,rfl,lk,hcd⟩:=F.ex;exact .all (h kV doc pm an cdv ct)
theorem Qx{x qual:Str}{st:Stmt}{f:Addr}{oc:Value}{od an:Option Addr}{osl:Array (Option Value)}{kV doc pm cdv ct:Value}(l:K.lookup f=some ⟨oc,od,.func (W.fnOf x qual (iC st) (fu st) (aB st) .none kV doc pm an cdv ct),osl⟩)
  (c:W.codeIn K cdv qual=true) (k:W.keepIn K (.ref f)=true):EX K x qual st f (W.fnOf x qual (iC st) (fu st) (aB st) .none kV doc pm an cdv ct):=⟨⟨oc,od,kV,doc,pm,an,cdv,ct,osl,rfl,l,c⟩,k⟩
end
def aI(H H':Hp):Prop:=∀b o,H b=some o->H' b=some o
theorem aI.refl(H:Hp):aI H H:=λ_ _ h=>h
theorem aI.trans{H H1 H2:Hp}(a:aI H H1)(b:aI H1 H2):aI H H2:=λc o h=>b c o (a c o h)
theorem aI.free{H H':Hp}(e:aI H H'){l:Addr}(h:H' l=Option.none):H l=Option.none:=by
 cases q:H l with
 |none=>rfl
 |some o=>
  rw[e l o q] at h;cases h
theorem aI.seq{K:W.Frag}{H H':Hp}{a:Addr}{xs:WR V}(e:aI H H')(h:aZ K H a xs):aZ K H' a xs:=by
 rcases h with(h|⟨o,h⟩)|h
 .exact .inl (.inl (e _ _ h))
 .exact .inl (.inr ⟨o,e _ _ h⟩)
 .exact .inr h
end L2
namespace DictK
open PySem PyProof.Rows
def Kd{α:Type}:Sem α->Prop
 |.pure _=>True
 |.raise _=>True
 |.unsupported _=>True
 |.finish _=>True
 |.rule _ k=>Kd (k ())
 |.at _ k=>Kd (k ())
 |.load _ _ k=>∀o,Kd (k o)
 |.update _ _ f k=>(∀o,(f o).dict=o.dict/\(o.isFreed=false->(f o).isFreed=false))/\Kd (k ())
 |.alloc _ k=>∀a,Kd (k a)
 |.loadIfAlive _ k=>∀o,Kd (k o)
 |.point _ k=>Kd (k ())
 |.register _ _=>True
 |.fresh k=>∀t,Kd (k t)
 |.ask k=>∀x,Kd (k x)
 |.choose _ _ k=>∀n,Kd (k n)
 |.os _ _ k=>∀r,Kd (k r)
 |.call ..=>False
 |.handled _ k=>∀v,Kd (k v)
 |.newGen _ k=>∀g,Kd (k g)
 |.genState _ k=>∀x,Kd (k x)
 |.resume ..=>False
 |.yield ..=>True
 |.stack k=>∀l,Kd (k l)
 |.fork ..=>True
 |.thread k=>∀n,Kd (k n)
 |.await ..=>True
def Kept(h h':Heap):Prop:=∀b o,h.get? b=some o->∃o',h'.get? b=some o'/\o'.dict=o.dict
theorem Kept.refl(h:Heap):Kept h h:=λb o e=>⟨o,e,rfl⟩
theorem Kept.trans{h₁ b0 h9:Heap}(x:Kept h₁ b0)(y:Kept b0 h9):Kept h₁ h9:=λb o e=>by
 obtain⟨o1,e1,d1⟩:=x b o e;obtain⟨o2,e2,d2⟩:=y b o1 e1;exact⟨o2,e2,d2.trans d1⟩
theorem Kept.push{h₀ h:Heap}(x:Kept h₀ h)(u:Obj):Kept h₀ (h.push u):=λb o e=>by
 obtain⟨o1,e1,d1⟩:=x b o e;exact⟨o1,Heap.get?_push_of_some u e1,d1⟩
theorem Kept.update{h₀ h:Heap}(x:Kept h₀ h){a:Addr}{f:Obj->Obj}(hf:∀o,(f o).dict=o.dict/\(o.isFreed=false->(f o).isFreed=false)):Kept h₀ (h.update a f):=λb o e=>by
 obtain⟨o1,e1,d1⟩:=x b o e
 by_cases z:a=b
 .subst z;exact⟨f o1,Heap.get?_update_self f e1 ((hf o1).2 (Heap.get?_some_iff.mp e1).2),((hf o1).1).trans d1⟩
 .exact⟨o1,(Heap.get?_update_other h f z).trans e1,d1⟩
theorem Th{α:Type}(M:Model)(Γ:Ctx)(h₀:Heap)(t:Sem α){Q:α->Pos->Shared->Prop}{E:Value->Pos->Shared->Prop}(p:Pos)(s:Shared)(hk:Kd t)(h0:Kept h₀ s.heap)(h:Sem.wp M Γ t Q E p s):
  Sem.wp M Γ t (λa p' s'=>Q a p' s'/\Kept h₀ s'.heap) E p s:=by
 revert hk h0 h
 induction t generalizing p s with
 |pure x=>exact λ_ h0 h=>⟨h,h0⟩
 |raise v=>exact λ_ _ h=>h
 |unsupported|finish|yield|fork|await|register=>exact λ_ _ h=>h
 |rule _ k ih | «at» _ k ih|point _ k ih=>exact λhk h0 h=>ih _ _ _ hk h0 h
 |loadIfAlive _ k ih|fresh k ih|ask k ih|os _ _ k ih|handled _ k ih|newGen _ k ih|stack k ih|thread k ih=>exact λhk h0 h=>ih _ _ _ (hk _) h0 h
 |alloc o k ih=>exact λhk h0 h=>ih _ _ _ (hk _) (h0.push o) h
 |load a _ k ih|genState a k ih=>exact λhk h0 ⟨o,ho,h⟩=>⟨o,ho,ih _ _ _ (hk _) h0 h⟩
 |update a _ f k ih=>exact λhk h0 ⟨ha,h⟩=>⟨ha,ih _ _ _ hk.2 (h0.update hk.1) h⟩
 |choose _ _ k ih=>exact λhk h0 ⟨ha,h⟩=>⟨ha,ih _ _ _ (hk _) h0 h⟩
 |call c h g l k ih=>exact λhk=>hk.elim
 |resume g r l k ih=>exact λhk=>hk.elim
theorem yV{α:Type}{M:Model}{A:Around}{t:Sem α}{Q:α->Shared->Prop}{E:Value->Shared->Prop}{s:Shared}(hk:Kd t)(h:wpAny M A t Q E s):wpAny M A t (λa s'=>Q a s'/\Kept s.heap s'.heap) E s:=
 λΓ p hΓ=>Th M Γ s.heap t p s hk (Kept.refl _) (h Γ p hΓ)
theorem bM{α β:Type}{f:α->Sem β}(hf:∀a,Kd (f a)):∀{m:Sem α},Kd m->Kd (m>>=f):=by
 intro m;show Kd m->Kd (m.bind f)
 induction m with
 |pure x=>exact λ_=>hf x
 |raise v=>exact λ_=>trivial
 |unsupported|finish|yield|fork|await|register=>exact λ_=>trivial
 |rule _ k ih | «at» _ k ih|point _ k ih=>exact λh=>ih _ h
 |loadIfAlive _ k ih|fresh k ih|ask k ih|os _ _ k ih|handled _ k ih|newGen _ k ih|stack k ih|thread k ih|alloc _ k ih|load a _ k ih|genState a k ih|choose _ _ k ih=>exact λh x=>ih x (h x)
 |update a _ f k ih=>exact λh=>⟨h.1,ih _ h.2⟩
 |call c h g l k ih=>exact λh=>h.elim
 |resume g r l k ih=>exact λh=>h.elim
theorem ji{α:Type}(a:α):Kd (pure a:Sem α):=trivial
theorem Qy{α:Type}(w:String):Kd (unsupported w:Sem α):=trivial
theorem yW(a:Addr):Kd (load a):=λ_=>trivial
theorem Bb(v:Value):Kd (fieldsOf v):=by
 unfold fieldsOf;split
 .refine bM (λo=>?_) (yW _);split<;>trivial
 .trivial
theorem n5(v:Value)(i:Nat):Kd (field v i):=by
 unfold field;refine bM (λo=>?_) (Bb v);split<;>trivial
theorem JS(f:Array Value->Array Value)(o:Obj):(Obj.mapFields f o).dict=o.dict/\(o.isFreed=false->(Obj.mapFields f o).isFreed=false):=by
 obtain⟨c,d,dt,sl⟩:=o;cases dt<;>exact⟨rfl,λh=>h⟩
theorem kq(v:Value)(i:Nat)(x:Value):Kd (setField v i x):=by
 unfold setField;split
 .unfold updateField;refine bM (λo=>?_) (yW _);split
  .split
   .exact⟨JS _,trivial⟩
   .trivial
  .trivial
 .trivial
theorem uT:Kd stack:=λ_=>trivial
theorem oh(e:Value)(fr:Option Addr):Kd (setFlight e fr):=by
 unfold setFlight;refine bM (λtb=>?_) (n5 e 1);split
 .exact kq _ _ _
 .trivial
theorem HM(env:Env)(outer:WR Env):Kd (behindIsImport env outer):=by
 unfold behindIsImport;split
 .trivial
 .split
  .trivial
  .exact bM (λ_=>ji _) (n5 _ _)
theorem Bc(env:Env)(i:Bool)(outer:WR Env):Kd (keptBack env i outer):=by
 cases outer with
 |nil=>
  unfold keptBack;dsimp only
  by_cases h:(env.scope.isGenerator||env.scope.isCoroutine)=true
  .rw[if_pos h];exact ji _
  .rw[if_neg h];refine bM (λ_=>ji _) ?_;unfold underTheClaimsCaller;exact bM (λ_=>ji _) uT
 |cons c r=>exact trivial
theorem CW{o:Obj}{sl:Array (Option Value)}(h:o.isFreed=false):({o with slots:=sl}:Obj).isFreed=false:=by
 obtain⟨c,d,dt,s0⟩:=o;cases dt<;>exact h
theorem Be:∀l:WR Env,Kd (readyFrames l)
 |[]=>trivial
 |env::outer=>by
  unfold readyFrames;split
  .refine bM (λo=>?_) (yW _);split
   .trivial
   .refine bM (λi=>?_) (HM env outer);refine bM (λb=>?_) (Bc env i outer);refine bM (λ_=>Be outer) ?_;exact⟨λo=>⟨rfl,λh=>CW h⟩,trivial⟩
  .trivial
theorem CY(env:Env):Kd (PySem.frameOf env):=by
 unfold PySem.frameOf;refine bM (λl=>bM (λf=>?_) ?_) ?_
 .split<;>trivial
 .generalize List.dropWhile _ l=m;cases m with
  |nil=>trivial
  |cons e r=>
   unfold frameObject;exact bM (λ_=>ji _) (Be _)
 .unfold frameEnvs;exact bM (λ_=>ji _) uT
theorem JT(f:Addr)(b:Bool):Kd (entryPlaceOf f b):=by
 unfold entryPlaceOf;refine bM (λl=>?_) uT;split<;>trivial
theorem Bf(a b c d e:Value)(l:WR Value):Kd (EntryCells.newEntry a b c d e l):=by
 unfold EntryCells.newEntry newFields newObj;dsimp only;have h:∀dt,Kd (newObjAsIs (.type "traceback") dt):=λdt=>by
  unfold newObjAsIs;exact bM (λa=>ji _) λ_=>trivial
 generalize (if l.isEmpty=true then List.replicate 6 Value.none else l)=m
 by_cases z:([a,b,c,d,e]++m).toArray.size>sizeLine+2
 .rw[if_pos z];exact bM (λ_=>h _) (Qy _)
 .rw[if_neg z];exact h _
theorem EY(e:Value)(env:Env):Kd (noteFrame e env):=by
 unfold noteFrame;split
 .refine bM (λhead=>?_) (n5 e 1);have last:∀f,Kd (do setField e 1 (<-EntryCells.newEntry head (<-PySem.frameOf env) .none (rawInt f) .none (<-entryPlaceOf f (head !=.none)))):=λf=>
   bM (λa=>bM (λb=>bM (λc=>kq _ _ _) (Bf _ _ _ _ _ _)) (JT _ _)) (CY env)
  split
  .refine bM (λx=>?_) (n5 head 3);split
   .trivial
   .exact bM (λ_=>last _) (kq _ _ _)
  .exact last _
 .trivial
theorem uU(env:Env)(e:Value):Kd (leaving env e):=by
 unfold leaving;exact bM (λ_=>oh e none) (EY e env)
end DictK
namespace DictK
open PySem PyProof.Rows
end DictK
namespace DictK
open PySem PyProof.Rows Builtin Builtin.ObjectAttr
end DictK
namespace L2
open PySem PySem.Spec PyProof.Rows
theorem oj{prog:Program}{w:World}{A:Around}{R:Result->Shared->Prop}{s:Shared}{elt target iter:Expr}{ifs:WR Expr}{scope:Scope}{pos:Pos}{it acc:Value}{env:Env}(I:Nat->Shared->Prop)
  (turn:∀n s,I n s->wpAny (model prog w) A (pyNext it) (λr s₁=>match r with
   |none=>R (.ok .next) s₁
   |some v=>wpAny (model prog w) A (letOwnedTupleGo target it v) (λ_ s₁'=>wpAny (model prog w) A (assign target env v) (λ_ a8=>
     wpAny (model prog w) A (forIn ifs true λc r=>if r=true then do let ok <-isTrue c env (eval c env);pure (ForInStep.yield ok) else pure (ForInStep.yield r)) (λok a7=>
      if ok=true then wpAny (model prog w) A (eval elt env) (λx i5=>
       wpAny (model prog w) A (call (.builtin "list.append") [acc,x]) (λ_ s₅=>∃m,m<n/\I m s₅) (λ_ _=>False) i5) (λ_ _=>False) a7
      else ∃m,m<n/\I m a7) (λ_ _=>False) a8) (λ_ _=>False) s₁') (λ_ _=>False) s₁) (λ_ _=>False) s)
  (n:Nat) (h:I n s):
  codeAny (model prog w) A (.compLoop (.ListComp elt [⟨target,iter,ifs,0⟩] scope pos) 0 it acc env) R s:=by
 refine codeAny_loop rfl I (λn s hI=>?_) n h;show wpAny _ A ((compTurn (.ListComp elt [⟨target,iter,ifs,0⟩] scope pos) 0 it acc env).onRaise (λx=>do noteFrame x env;theTreesLotGoes x)) _ _ s;refine wpAny_noted ?_;rw[compTurn_list];refine wpAny_bind (wpAny_standAt (wpAny_bind (wpAny_mono (turn n s hI) (λr s₁ h₁=>?_) λ_ _ h'=>h'.elim)));cases r with
 |none=>exact wpAny_pure h₁
 |some v=>
  refine wpAny_bind (wpAny_mono h₁ (λ_ s₁' h₁'=>?_) λ_ _ h'=>h'.elim);refine wpAny_bind (wpAny_mono h₁' (λ_ a8 b0=>wpAny_bind (wpAny_mono b0 (λok a7 h9=>?_) λ_ _ h'=>h'.elim)) λ_ _ h'=>h'.elim);cases ok with
  |false=>exact wpAny_pure ⟨rfl,h9⟩
  |true=>
   exact wpAny_bind (wpAny_bind (wpAny_mono h9 (λx i5 h₄=>wpAny_bind (wpAny_mono h₄ (λ_ s₅ h₅=>wpAny_pure (wpAny_pure ⟨rfl,h₅⟩)) λ_ _ h'=>h'.elim)) λ_ _ h'=>h'.elim))
def JU(X:Cx)(ifs:WR Expr)(t:TT):Prop:=
 ∀(Z0:WR (Addr×Obj)) (s:Shared) (Z:St) (H:Hp) (Q:Bool->Hp->Prop),Inv X Z0 Z H s->t Z H Q->
  wpAny (model X.prog X.w) X.A (forIn ifs true λc r=>if r=true then do let ok <-isTrue c X.env (eval c X.env);pure (ForInStep.yield ok) else pure (ForInStep.yield r)) (TP X Z0 Z Q) X.xe s
def gO:TT:=λ_ H Q=>Q true H
theorem NU{X:Cx}:JU X [] gO:=λ_ _ _ H _ I h=>wpAny_tests_nil ⟨H,I,h⟩
theorem NV{X:Cx}{c:Expr}{t:TT}(h:PT X c t):JU X [c] t:=λZ0 s Z H Q I hw=>wpAny_tests_one (h Z0 s Z H Q I hw)
theorem mX{env:Env}:∀(names:WR (Str×NameKind)) (acc:WR (Str×Addr)),(∀y∈names,y.2=.free->∃c,env.cells.lookup y.1=some c)->(∀y∈acc,env.cells.lookup y.1=some y.2)->
  ∃cl:WR (Str×Addr),(forIn (m:=Sem) names acc λ(x:Str×NameKind) cs=>if (x.2==NameKind.free)=true then(do let a <-cellOf env x.1;pure (ForInStep.yield ((x.1,a)::cs))) else pure (ForInStep.yield cs))=pure cl/\
   (∀y∈cl,env.cells.lookup y.1=some y.2)/\(∀y∈acc,y∈cl)/\∀y∈names,y.2=.free->∃c,(y.1,c)∈cl
 |[],acc,_,ha=>⟨acc,rfl,ha,λ_ h=>h,λ_ h=>nomatch h⟩
 |(n,k)::r,acc,hf,ha=>by
  by_cases hk:k=.free
  .subst hk;obtain⟨c,hc⟩:=hf (n,.free) mem_cons_self rfl;obtain⟨cl,e,h1,h2,h3⟩:=mX r ((n,c)::acc) (λy hy=>hf y (mem_cons_of_mem _ hy)) (λy hy=>by
    rcases mem_cons.mp hy with rfl|hy
    .exact hc
    .exact ha y hy)
   refine⟨cl,?_,h1,λy hy=>h2 y (mem_cons_of_mem _ hy),λy hy hk=>?_⟩
   .rw[List.forIn_cons];have e1:cellOf env n=pure c:=by unfold cellOf;rw[hc]
    simp only[beq_self_eq_true,if_true,e1];exact e
   .rcases mem_cons.mp hy with rfl|hy
    .exact⟨c,h2 _ mem_cons_self⟩
    .exact h3 y hy hk
  .have hb:(k==NameKind.free)=false:=by simpa using hk
   obtain⟨cl,e,h1,h2,h3⟩:=mX r acc (λy hy=>hf y (mem_cons_of_mem _ hy)) ha;refine⟨cl,?_,h1,h2,λy hy hk'=>?_⟩
   .rw[List.forIn_cons];simp only[hb,false_eq_true,if_false];exact e
   .rcases mem_cons.mp hy with rfl|hy
    .exact absurd hk' hk
    .exact h3 y hy hk'
theorem fW{env:Env}{scope:Scope}(hf:∀y∈scope.names,y.2=.free->∃c,env.cells.lookup y.1=some c):
  ∃cl:WR (Str×Addr),closureFor scope env=pure cl/\(∀y∈cl,env.cells.lookup y.1=some y.2)/\∀y∈scope.names,y.2=.free->∃c,(y.1,c)∈cl:=by
 obtain⟨cl,e,h1,_,h3⟩:=mX scope.names [] hf (λ_ h=>nomatch h);refine⟨cl,?_,h1,h3⟩;unfold closureFor;simp only[bind_pure];exact e
abbrev b9(X:Cx)(scope:Scope)(cl:WR (Str×Addr))(C:Addr)(N:WR Str)(s₀:Shared)(H₀:Hp)(ex:WR Addr):Cx where
 prog:=X.prog
 w:=X.w
 K:=X.K
 mg:=X.mg
 base:=X.base
 A:=X.A
 N:=N
 s₀:=s₀
 H₀:=H₀
 env:=compEnvC scope cl C X.env
 outer:=X.stack
 stack:=X.stack
 ex:=ex
 fn:=λ_=>false
 calm:=X.calm
 pn:=[]
 xe:=λ_ _=>False
theorem lookup_mem{α β:Type}[BEq α][LawfulBEq α]{l:WR (α×β)}{x:α}{y:β}(h:l.lookup x=some y):(x,y)∈l:=by
 induction l with
 |nil=>cases h
 |cons p r ih=>
  obtain⟨a,b⟩:=p;rw[lookup_cons] at h;cases e:(x==a) with
  |true=>rw[e] at h;cases h;rw[eq_of_beq e];exact mem_cons_self
  |false=>rw[e] at h;exact mem_cons_of_mem _ (ih h)
theorem mem_lookup{α β:Type}[BEq α][LawfulBEq α]{l:WR (α×β)}{x:α}{y:β}(h:(x,y)∈l):∃z,l.lookup x=some z:=by
 induction l with
 |nil=>cases h
 |cons p r ih=>
  obtain⟨a,b⟩:=p;rw[lookup_cons];cases e:(x==a) with
  |true=>exact⟨_,rfl⟩
  |false=>
   rcases mem_cons.mp h with q|q
   .cases q;simp at e
   .exact ih q
theorem iD{scope:Scope}{env:Env}{y:Str}{k:NameKind}(h:(y,k)∈(relabel scope env).names):(y,k)∈scope.names\/(k=.cell/\(y,NameKind.free)∈scope.names):=by
 unfold relabel at h;obtain⟨⟨n,k'⟩,hm,e⟩:=mem_map.mp h;dsimp only at e;split at e
 .rename_i hc
  cases e;have:k'=.free:=by
   have:=hc;simp only[and_eq_true,beq_iff_eq] at this;exact this.1.1
  subst this;exact .inr ⟨rfl,hm⟩
 .cases e;exact .inl hm
theorem dW{env:Env}:∀{names:WR (Str×NameKind)} {x:Str},names.lookup x=some .free->
  (names.map λ(n,k)=>if (k==NameKind.free&&env.scope.kind ==.function&&env.kindOf n==some .cell) then(n,NameKind.cell) else(n,k)).lookup x=some .cell\/
  (names.map λ(n,k)=>if (k==NameKind.free&&env.scope.kind ==.function&&env.kindOf n==some .cell) then(n,NameKind.cell) else(n,k)).lookup x=some .free
 |[],_,h=>by simp at h
 |(n,k)::r,x,h=>by
  have ih:=@dW env r x;show List.lookup x ((if (k==NameKind.free&&env.scope.kind ==.function&&env.kindOf n==some .cell)=true then(n,NameKind.cell) else(n,k))::_)=_\/List.lookup x ((if (k==NameKind.free&&env.scope.kind ==.function&&env.kindOf n==some .cell)=true then(n,NameKind.cell) else(n,k))::_)=_;cases hx:x==n with
  |true=>
   simp only[lookup_cons,hx] at h;cases h
   by_cases hc:(NameKind.free==NameKind.free&&env.scope.kind ==.function&&env.kindOf n==some .cell)=true
   .rw[if_pos hc];simp[lookup_cons,hx]
   .rw[if_neg hc];simp[lookup_cons,hx]
  |false=>
   simp only[lookup_cons,hx] at h
   by_cases hc:(k==NameKind.free&&env.scope.kind ==.function&&env.kindOf n==some .cell)=true
   .rw[if_pos hc];simp only[lookup_cons,hx];exact ih h
   .rw[if_neg hc];simp only[lookup_cons,hx];exact ih h
def bg(fs:WM)(Z:St):St:=fs.map λj=>(Z[j]?).join
def dw(wi:TI)(fs:WM)(tt:TT)(te:TE):TE:=λZ H Q=>wi Z H λJ H1=>∃W:Nat->Nat->WR V->Hp->Prop,(∃m,W 0 m [] H1)/\∀i m ys H,W i m ys H->ys.length<=sizeLine/\
 ((J.stop i H/\∀p,H p=none->Q (.ref p) (upd H p (.lst ys)))\/
  (J.go i H/\ys.length<sizeLine/\∀x H',J.yld i H x H'->tt (some x::bg fs Z) H' λb H2=>if b=true then te (some x::bg fs Z) H2 λy H3=>∃m',m'<m/\W (i+1) m' (ys++[y]) H3 else ∃m',m'<m/\W (i+1) m' ys H2))
section
variable{X:Cx}
theorem uV{elt iter:Expr}{x:Str}{px pos:Pos}{ifs:WR Expr}{scope:Scope}{fs:WR (Str×Nat)}{tt:TT}{te:TE}
  {Z0:WR (Addr×Obj)} {Z:St} {H2:Hp} {s2:Shared} {it:Addr} {fp:WR Addr} {tn:Nat->Heap->Prop} {J:It} {cl:WR (Str×Addr)} {E:Value->Shared->Prop}
  {P:Value->Addr->Result->Shared->Prop}
  (hc:X.calm=true) (hkind:scope.kind=.function) (hcell:∀y∈scope.names,y.2≠.cell) (hx:scope.names.lookup x=some .local)
  (hnd:(x::fs.map (·.1)).Nodup) (hfs:∀f∈fs,X.N[f.2]?=some f.1/\(X.env.kindOf f.1=some .cell\/X.env.kindOf f.1=some .free)/\scope.names.lookup f.1=some .free)
  (hb:∀(cl:WR (Str×Addr)) (C:Addr) (s₀:Shared) (H₀:Hp) (ex:WR Addr),JU (b9 X scope cl C (x::fs.map (·.1)) s₀ H₀ ex) ifs tt/\PE (b9 X scope cl C (x::fs.map (·.1)) s₀ H₀ ex) elt te)
  (qq:∀y∈cl,X.env.cells.lookup y.1=some y.2) (qt:∀y∈scope.names,y.2=.free->∃c,(y.1,c)∈cl)
  (I2:Inv X Z0 Z H2 s2) (T:Turn X.prog X.w X.K (.Name x px) J fp it tn) (st2:tn 0 s2.heap) (f2:∀b∈fp,uL X Z0 H2 b)
  (W:Nat->Nat->WR V->Hp->Prop) (Qe:Hp->WR V->Prop) (w0:∃m,W 0 m [] H2)
  (turn:∀i m ys H,W i m ys H->ys.length<=sizeLine/\
   ((J.stop i H/\Qe H ys)\/
    (J.go i H/\ys.length<sizeLine/\∀x H',J.yld i H x H'->tt (some x::bg (fs.map (·.2)) Z) H' λb H2=>if b=true then te (some x::bg (fs.map (·.2)) Z) H2 λy H3=>∃m',m'<m/\W (i+1) m' (ys++[y]) H3 else ∃m',m'<m/\W (i+1) m' ys H2)))
  (hP:∀(D C:Addr) (H':Hp) (s':Shared) (ys:WR V) (its:WR Value) (m:Str->Option Value),s2.heap.objs.size<=C->s2.heap.get? D=none->s2.heap.get? C=none->D≠C->H' D=none->H' C=none->s'.heap.Ns C m->s'.heap.PlainList D its.toArray->Vals ys its->ys.length<=sizeLine->Qe H' ys->
   Un (frs X.stack) fp H2 H' s2.heap s'.heap->jV X.prog X.w H' s'.heap->AllBare s'.gens->s'.os=s2.os->P (.ref D) C (.ok .next) s'):
  wpAny (model X.prog X.w) X.A (newList []) (λacc a7=>wpAny (model X.prog X.w) X.A (newFunctionEnv scope X.env.globals cl [] X.env.qual none .none (some X.env)) (λcenv i5=>
   codeAny (model X.prog X.w) X.A (.compStart (.ListComp elt [⟨.Name x px,iter,ifs,0⟩] scope pos) 0 (.ref it) acc {cenv with scope:=relabel scope X.env}) (P acc cenv.locals) i5) E a7) E s2:=by
 refine wpAny_newObj_type (wpAny_newFunctionEnv hcell (by intro y hy;simp at hy) (λh₁ CZ yX=>?_) hkind);dsimp only at CZ yX ⊢;generalize hH2:s2.heap.push {cls:=.type "list",dict:=none,data:=.seq ([]:WR Value).toArray}=HH at CZ yX ⊢;have hC:HH.objs.size=s2.heap.objs.size+1:=by rw[<-hH2,Heap.size_push]
 generalize eD:s2.heap.objs.size=D at *;generalize eC:HH.objs.size=C at *;have hDC:D≠C:=by rw[hC];exact ne_of_lt (lt_succ_self _)
 have fresh:∀a,D<=a->s2.heap.get? a=none:=λa ha=>Heap.get?_none_of_le (by rw[eD];exact ha);have hD0:s2.heap.get? D=none:=fresh D (le_refl _);have hC0:s2.heap.get? C=none:=fresh C (by rw[hC];exact le_succ _);have old:∀b o,s2.heap.get? b=some o->h₁.get? b=some o:=λb o e=>yX.extBut b o (λz=>by rw[z,hC0] at e;cases e) (Heap.get?_push_of_some _ (hH2▸Heap.get?_push_of_some _ e));have hacc:h₁.PlainList D #[]:=⟨0,yX.extBut _ _ hDC (Heap.get?_push_of_some _ (hH2▸(eD▸Heap.get?_push_size _ rfl)))⟩;have HD:H2 D=none:=I2.hok.fresh (by rw[eD];exact le_refl _);have HC:H2 C=none:=I2.hok.fresh (by rw[eD,hC];exact le_succ _)
 -- the block's context
 let Y:Cx:=b9 X scope cl C (x::fs.map (·.1)) s2 H2 fp
 have lk:∀y c,cl.lookup y=some c->X.env.cells.lookup y=some c:=λy c e=>qq (y,c) (lookup_mem e);have yok:Y.Ok:=by
  refine⟨I2.ok.mod,hkind,I2.ok.glob,I2.ok.blt,?_,λy z c h1 h2=>I2.ok.inj y z c (lk y c h1) (lk z c h2),λy hy=>?_,λ_ _ h _=>absurd h Bool.false_ne_true,I2.ok.hd,I2.ok.frames,.inl rfl,λb hb=>?_,I2.bs,?_,λb o e hb=>?_,λb hb hz=>?_,I2.stack,I2.tT⟩
  .show s2.heap.objs.size<=C;rw[eD,hC];exact le_succ _
  .have hy':(relabel scope X.env).names.lookup y=some .cell\/(relabel scope X.env).names.lookup y=some .free:=hy;have hm:(y,NameKind.free)∈scope.names:=by
    rcases hy' with e|e
    .rcases iD (lookup_mem e) with q|⟨_,q⟩
     .exact absurd rfl (hcell _ q)
     .exact q
    .rcases iD (lookup_mem e) with q|⟨q,_⟩
     .exact q
     .cases q
   obtain⟨c,q⟩:=qt _ hm rfl;exact mem_lookup q
  .obtain⟨f0,f1,f3,f4,f5,f6⟩:=f2 b hb;refine⟨λz=>?_,λy c e=>f5 y c (lk y c e)⟩;obtain⟨o,ho,_⟩:=T.obj _ _ st2 b hb;have z':b=C:=z;rw[z',hC0] at ho;cases ho
  .exact Nat.le_trans I2.ok.bsz I2.sz
  .obtain⟨f0,f1,f3,f4,f5,f6⟩:=f2 b hb
   rcases f4 with z|z
   .exact I2.ok.noex b o e z
   .exact absurd (lt_of_lt_of_le (Heap.lt_size e) (Nat.le_trans I2.ok.bsz z)) (Nat.lt_irrefl _)
  .obtain⟨f0,f1,f3,f4,f5,f6⟩:=f2 b hb
   rcases mem_cons.mp (I2.j9 b hz) with z|z
   .exact f1 z
   .exact f3 z
 let τ:St:=none::bg (fs.map (·.2)) Z
 have hτ:τ.length=(x::fs.map (·.1)).length:=by simp[τ,bg]
 obtain⟨mL,hnL,hlL⟩:=id I2.loc;have yI:Inv Y [] τ H2 {s2 with heap:=h₁,toks:=s2.toks+([]:WR (Str×Value)).length}:=by
  refine⟨yok,rfl,I2.bare,Un.kept old,⟨_,CZ,λi y v e1 e2 e3=>?_⟩,λy c e=>?_,HC,λy c e=>I2.freeC y c (lk y c e),(λp hp=>nomatch hp),I2.hok.kept old,hτ⟩
  .cases i with
   |zero=>simp[τ] at e2
   |succ i=>
    have e1':(fs.map (·.1))[i]?=some y:=e1;have e2':(bg (fs.map (·.2)) Z)[i]?=some (some v):=by simpa [τ] using e2
    rw[getElem?_map] at e1';cases q:fs[i]? with
    |none=>rw[q] at e1';cases e1'
    |some f=>
     rw[q] at e1';have ey:f.1=y:=Option.some.inj e1';obtain⟨g1,g2,g3⟩:=hfs f (mem_of_getElem? q);have qu:(Z[f.2]?).join=some v:=by
      unfold bg at e2';rw[getElem?_map,getElem?_map,q] at e2';exact Option.some.inj e2'
     have e2c:Z[f.2]?=some (some v):=by
      cases r:Z[f.2]? with
      |none=>rw[r] at qu;cases qu
      |some o=>rw[r] at qu;have qu:o=some v:=qu;rw[qu]
     have vis:Vv X.env.scope f.1:=by
      rcases g2 with g|g
      .exact .inr (.inl g)
      .exact .inr (.inr g)
     obtain⟨u,ru,lu⟩:=hlL f.2 f.1 v g1 e2c vis;refine⟨u,ru,?_⟩;have lu':∃c,X.env.cells.lookup f.1=some c/\s2.heap.IsCell c (some u):=by
      rcases lu with⟨k,_⟩|⟨_,c,e,z⟩
      .rcases g2 with g|g
       .rw[k] at g;cases g
       .rw[k] at g;cases g
      .exact⟨c,e,z⟩
     obtain⟨c,hc1,hc2⟩:=lu';obtain⟨c',hm⟩:=qt _ (lookup_mem g3) rfl;have hm':=qq _ hm;obtain⟨c2,hl2⟩:=mem_lookup hm;have:=lk _ _ hl2;rw[hc1] at this;cases this;obtain⟨oc,ho,hdt⟩:=hc2;refine .inr ⟨?_,c,by rw[<-ey];exact hl2,oc,old c oc ho,hdt⟩;rw[<-ey];exact dW g3
  .obtain⟨v,oc,ho,hdt⟩:=I2.cell y c (lk y c e);exact⟨v,oc,old c oc ho,hdt⟩
 have hx':Y.env.scope.names.lookup x=some .local:=lookup_relabel_local hx;have fpD:∀b∈fp,b≠D:=λb hb z=>by
  obtain⟨o,ho,_⟩:=T.obj _ _ st2 b hb;rw[z,hD0] at ho;cases ho
 have Qz:D∉frs X.stack:=λhz=>by
  rcases mem_cons.mp (I2.j9 D hz) with z|z
  .have:=I2.lt;rw[eD,<-z] at this;exact absurd this (Nat.lt_irrefl _)
  .exact I2.P0 (by rw[eD];exact le_refl _) z
 have JV:∀y c,cl.lookup y=some c->c≠D:=λy c e z=>by
  obtain⟨v,oc,ho,_⟩:=I2.cell y c (lk y c e);rw[z,hD0] at ho;cases ho
 have uO:∀{H':Hp} {oD:Obj},(∀b∈fp,H' b=none)->∀b∈fp,uL Y [(D,oD)] H' b:=λhn b hb=>by
  refine⟨hn b hb,(yok.exf b hb).1,yok.exfs b hb,.inl hb,(yok.exf b hb).2,λp hp z=>?_⟩;have hp':p∈[(D,_)]:=hp;rw[mem_singleton.mp hp'] at z;exact fpD b hb z.symm
 obtain⟨m0,w0⟩:=w0;have loop:∀a7:Shared,a7={s2 with heap:=h₁,toks:=s2.toks+([]:WR (Str×Value)).length}->
   codeAny (model X.prog X.w) X.A (.compLoop (.ListComp elt [⟨.Name x px,iter,ifs,0⟩] scope pos) 0 (.ref it) (.ref D) (compEnvC scope cl C X.env)) (P (.ref D) C) a7:=by
  rintro a7 rfl;refine oj (λn s'=>∃i ys its H',Inv Y [] τ H' s'/\tn i s'.heap/\(∀b∈fp,H' b=none)/\H' D=none/\s'.heap.PlainList D (List.toArray its)/\Vals ys its/\W i n ys H') ?_ m0
   ⟨0,[],[],H2,yI,T.keep _ _ _ st2 (λb _ o e=>old b o e),λb hb=>(f2 b hb).1,HD,hacc,.nil,w0⟩
  rintro n s3 ⟨i,ys,its,H3,I3,st3,fr3,hD3,⟨n0,hoD⟩,rv3,w3⟩;obtain⟨hz,ht⟩:=turn i n ys H3 w3;have I3':Inv Y [(D,{cls:=.type "list",data:=.seq its.toArray n0})] τ H3 s3:=I3.lF λp hp=>by
   rw[mem_singleton.mp hp];exact⟨hoD,hD3,hDC,Qz,λv z=>by cases z⟩
  rcases ht with⟨stop,q⟩|⟨go,hz',step⟩
  .refine cA (T.done Y rfl rfl rfl hc i _ s3 τ H3 _ I3' (uO fr3) st3 stop) λr s4 ⟨hr,I4⟩=>?_;subst hr;obtain⟨m,hn,_⟩:=I4.loc;exact hP D C H3 s4 ys its m (by rw[hC];exact le_succ _) hD0 hC0 hDC hD3 I4.free hn ⟨n0,(I4.pin (D,_) (mem_append_right _ mem_cons_self)).1⟩ rv3 hz q I4.base I4.hok I4.bare I4.os
  .refine cA (T.item Y rfl rfl rfl hc i _ s3 τ H3 _ I3' (uO fr3) st3 go) λr s4 ⟨u,hr,h4⟩=>?_;subst hr;refine cA h4 λ_ s5 ⟨x',H5,I5,r5,y5,st5,fr5⟩=>?_;have I5':=I5.pinned (fp:=fp) (uO fr5) (T.obj _ _ st5);refine cA (tU (X:=Y) (i:=0) (pos:=px) hnd rfl (.inl hx') (.inr hx') _ s5 τ H5 x' u (λσ' H'=>σ'=some x'::bg (fs.map (·.2)) Z/\H'=H5) I5' r5 ⟨rfl,rfl⟩) λ_ s6 ⟨σ6,H6,I6,e6,e6'⟩=>?_;subst e6 e6';have back:∀{σ':St} {H':Hp} {s':Shared},Inv Y ([(D,{cls:=.type "list",data:=.seq its.toArray n0})]++ql fp s5.heap) (some x'::bg (fs.map (·.2)) Z) H' s'->
     Inv Y [] τ H' s'/\tn (i+1) s'.heap/\(∀b∈fp,H' b=none)/\H' D=none/\s'.heap.PlainList D its.toArray:=λ{σ' H' s'} J'=>by
    refine⟨(J'.lF (pins':=[]) (λp hp=>absurd hp (by simp))).weak rfl λj v e=>?_,T.keep _ _ _ st5 λb hb o e=>(J'.pin (b,o) (mem_append_right _ (mem_append_right _ (fP hb e)))).1,λb hb=>?_,?_,n0,?_⟩
    .cases j with
     |zero=>cases e
     |succ j=>exact e
    .obtain⟨o,e,d⟩:=T.obj _ _ st5 b hb;exact(J'.pin (b,o) (mem_append_right _ (mem_append_right _ (fP hb e)))).2.1
    .exact(J'.pin (D,_) (mem_append_right _ (mem_append_left _ mem_cons_self))).2.1
    .exact(J'.pin (D,_) (mem_append_right _ (mem_append_left _ mem_cons_self))).1
   refine cA ((hb cl C s2 H2 fp).1 _ s6 _ _ _ I6 (step x' H6 y5)) λok s7 ⟨H7,I7,q7⟩=>?_;cases ok with
   |false=>
    obtain⟨m',hm,w7⟩:=q7;obtain⟨a1,a2,a3,a4,a5⟩:=back (σ':=τ) I7;exact⟨m',hm,i+1,ys,its,H7,a1,a2,a3,a4,a5,rv3,w7⟩
   |true=>
    refine cA ((hb cl C s2 H2 fp).2 _ s7 _ _ _ I7 q7) λy s8 ⟨yv,H8,I8,ry,m',hm,w8⟩=>?_;obtain⟨a1,a2,a3,a4,a5⟩:=back (σ':=τ) I8;have hlen:=rv3.length;refine wpAny_list_append_plain (hsz:=by rw[size_toArray,<-hlen];exact hz) a5 λh' hl' hs'=>?_;refine⟨m',hm,i+1,ys++[yv],its++[y],H8,a1.turned (t':=s8.toks) (it:=D) (λb o hb e=>hs'.extBut b o hb e) a4 hDC (.inr (by show s2.heap.objs.size<=D;rw[eD];exact le_refl _)) (λy c e=>JV y c e) (λp hp=>absurd (show p∈([]:WR (Addr×Obj)) from hp) (by simp)),T.keep _ _ _ a2 λb hb o e=>hs'.extBut b o (fpD b hb) e,a3,a4,by simpa using hl',rv3.append (.cons ry .nil),w8⟩
 exact codeAny_compStart_list (loop _ rfl) (T.self X.A 0 _ _ _ (T.keep _ _ _ st2 (λb _ o e=>old b o e)) (loop _ rfl))
theorem jj{Z0:WR (Addr×Obj)}{Z:St}{H2 H':Hp}{s2 s':Shared}{fp:WR Addr}{D C:Addr}{ys:WR V}{its:WR Value}{h':Heap}{tk:Nat}(I2:Inv X Z0 Z H2 s2)(f2:∀b∈fp,uL X Z0 H2 b)
  (hD:s2.heap.get? D=none) (hC:s2.heap.get? C=none) (hDC:D≠C) (HD:H' D=none) (HC:H' C=none) (pl:s'.heap.PlainList D its.toArray) (rv:Vals ys its) (hz:ys.length<=sizeLine)
  (u:Un (frs X.stack) fp H2 H' s2.heap s'.heap) (hok:jV X.prog X.w H' s'.heap) (hg:AllBare s'.gens) (ho:s'.os=s2.os) (hs:Heap.SameBut C s'.heap h'):
  Inv X Z0 Z (upd H' D (.lst ys)) {s' with heap:=h',toks:=tk}:=by
 have kC:∀b o,b≠C->s'.heap.get? b=some o->h'.get? b=some o:=λb o hb e=>hs.extBut b o hb e;have neC:∀b o,s2.heap.get? b=some o->b≠C:=λb o e z=>by rw[z,hC] at e;cases e
 have neD:∀b o,s2.heap.get? b=some o->b≠D:=λb o e z=>by rw[z,hD] at e;cases e
 have trD:∀b o,H' b=some o->b≠D:=λb o e z=>by rw[z,HD] at e;cases e
 refine I2.Pj (ch:=fp) ho ⟨λb o e n hb hx=>kC b o (neC b o e) (u.keep b o e n hb hx),λb o e n hb hx=>?_,λb o e n hx=>?_,λb o e hx=>?_,λb xs e=>?_,λb o w e=>?_,λb ps e=>?_⟩ (λb o e=>?_) hg λb hb=>?_
 .obtain⟨sl,q⟩:=u.slot b o e n hb hx;exact⟨sl,kC b _ (neC b o e) q⟩
 .rw[aH (neD b o e)];exact u.free b o e n hx
 .obtain⟨o',q⟩:=u.there b o e hx;exact⟨o',kC b _ (neC b o e) q⟩
 .have q:=u.tups b xs e;rw[aH (trD b _ q)];exact q
 .have q:=u.frzs b o w e;rw[aH (trD b _ q)];exact q
 .obtain⟨more,q⟩:=u.tbls b ps e;exact⟨more,by rw[aH (trD b _ q)];exact q⟩
 .by_cases hb:b=D
  .subst hb;rw[aq] at e;cases e;obtain⟨n,q⟩:=pl;exact⟨hz,its,n,rv,kC b _ hDC q⟩
  .rw[aH hb] at e;refine(hok b o e).stay (λc v hc q=>kC c v (λz=>?_) q) (λc q=>by rw[aH (trD c _ q)];exact q) λc xs q=>by rw[aH (trD c _ q)];exact q
   rcases hc with hc|hc
   .rw[hc] at z;rw[z,HC] at e;cases e
   .rw[z,HC] at hc;cases hc
 .obtain⟨f0,f1,f3,f4,f5,f6⟩:=f2 b hb;exact⟨f4,f1,f5,f6⟩
theorem NW{elt iter:Expr}{x:Str}{px pos:Pos}{ifs:WR Expr}{scope:Scope}(fs:WR (Str×Nat)){wi:TI}{tt:TT}{te:TE}
  (hc:X.calm=true) (hkind:scope.kind=.function) (hcell:∀y∈scope.names,y.2≠.cell) (hnames:∀y∈scope.names,y.2=.local->scope.names.lookup y.1=some .local)
  (hfree:∀y∈scope.names,y.2=.free->X.env.kindOf y.1=some .cell\/X.env.kindOf y.1=some .free) (hx:scope.names.lookup x=some .local)
  (hnd:(x::fs.map (·.1)).Nodup) (hfs:∀f∈fs,X.N[f.2]?=some f.1/\(X.env.kindOf f.1=some .cell\/X.env.kindOf f.1=some .free)/\scope.names.lookup f.1=some .free)
  (hi:PI X (.Name x px) iter wi)
  (hb:∀(cl:WR (Str×Addr)) (C:Addr) (s₀:Shared) (H₀:Hp) (ex:WR Addr),JU (b9 X scope cl C (x::fs.map (·.1)) s₀ H₀ ex) ifs tt/\PE (b9 X scope cl C (x::fs.map (·.1)) s₀ H₀ ex) elt te)
  (hs:∀x,foldedSetIterable iter X.env x=pure x:=by intro _;rfl):
  PE X (.ListComp elt [⟨.Name x px,iter,ifs,0⟩] scope pos) (dw wi (fs.map (·.2)) tt te):=by
 intro Z0 s Z H Q I h;obtain⟨cl,hclos,qq,qt⟩:=fW (env:=X.env) (scope:=scope) λy hy hk=>I.ok.has y.1 (hfree y hy hk);rw[eval_ListComp];refine wpAny_comprehension_free (use:=none) rfl hs hclos hkind hnames (cA (hi Z0 s Z H _ I h) λv s1 h1=>cA h1 λitv s2 h2=>?_);obtain⟨it,fp,tn,J,H2,e,I2,T,st2,f2,W,w0,turn⟩:=h2;subst e;refine uV (Z0:=Z0) hc hkind hcell hx hnd hfs hb qq qt I2 T st2 f2 W (λH ys=>∀p,H p=none->Q (.ref p) (upd H p (.lst ys))) w0 turn ?_;intro D C H' s' ys its m hCs hD hC hDC HD HC hn pl rv hz q u hok hg ho;exact⟨m,hn,λh' hs'=>⟨.ref D,_,jj (tk:=s'.toks) I2 f2 hD hC hDC HD HC pl rv hz u hok hg ho hs',rfl,q D HD⟩⟩
def cX(i:Nat)(wi:TI)(fs:WM)(tt:TT)(te:TE):TS:=λD Z H=>dw wi fs tt te Z H λv H1=>D.nx (Z.set i (some v)) H1
theorem NX{i:Nat}{y:Str}{py spos:Pos}{elt iter:Expr}{x:Str}{px pos:Pos}{ifs:WR Expr}{scope:Scope}(fs:WR (Str×Nat)){wi:TI}{tt:TT}{te:TE}
  (hN:X.N.Nodup) (hy:X.N[i]?=some y) (hyl:X.env.scope.names.lookup y=some .local)
  (hc:X.calm=true) (hkind:scope.kind=.function) (hcell:∀y∈scope.names,y.2≠.cell) (hnames:∀y∈scope.names,y.2=.local->scope.names.lookup y.1=some .local)
  (hfree:∀y∈scope.names,y.2=.free->X.env.kindOf y.1=some .cell\/X.env.kindOf y.1=some .free) (hx:scope.names.lookup x=some .local)
  (hnd:(x::fs.map (·.1)).Nodup) (hfs:∀f∈fs,X.N[f.2]?=some f.1/\(X.env.kindOf f.1=some .cell\/X.env.kindOf f.1=some .free)/\scope.names.lookup f.1=some .free)
  (hi:PI X (.Name x px) iter wi)
  (hb:∀(cl:WR (Str×Addr)) (C:Addr) (s₀:Shared) (H₀:Hp) (ex:WR Addr),JU (b9 X scope cl C (x::fs.map (·.1)) s₀ H₀ ex) ifs tt/\PE (b9 X scope cl C (x::fs.map (·.1)) s₀ H₀ ex) elt te)
  (hsw:swapsWith (.ListComp elt [⟨.Name x px,iter,ifs,0⟩] scope pos) (some (.Name y py)) spos.line X.env=pure true)
  (hs:∀x,foldedSetIterable iter X.env x=pure x:=by intro _;rfl):
  PS X (.Assign [.Name y py] (.ListComp elt [⟨.Name x px,iter,ifs,0⟩] scope pos) spos) (cX i wi (fs.map (·.2)) tt te):=by
 intro Z0 s Z H D' I h;obtain⟨cl,hclos,qq,qt⟩:=fW (env:=X.env) (scope:=scope) λy hy hk=>I.ok.has y.1 (hfree y hy hk);rw[exec_Assign_Name_used _ _ _ _ hsw];refine wpAny_bind (wpAny_standAt (wpAny_bind ?_));show wpAny _ X.A (do let _ <-comprehension (.ListComp elt [⟨.Name x px,iter,ifs,0⟩] scope pos) scope X.env _ (newList []) false (eval iter X.env) (some (assign (.Name y py) X.env))) _ _ s
 refine wpAny_bind (wpAny_mono (wpAny_comprehension_free (use:=some (assign (.Name y py) X.env)) (Q:=λ_ s'=>SP X Z0 D' .next s') rfl hs hclos hkind hnames
  (cA (hi Z0 s Z H _ I h) λv s1 h1=>cA h1 λitv s2 h2=>?_)) (λ_ s' hq=>wpAny_pure (wpAny_pure hq)) λ_ _ e=>e)
 obtain⟨it,fp,tn,J,H2,e,I2,T,st2,f2,W,w0,turn⟩:=h2;subst e;refine uV (Z0:=Z0) hc hkind hcell hx hnd hfs hb qq qt I2 T st2 f2 W (λH ys=>∀p,H p=none->D'.nx (Z.set i (some (.ref p))) (upd H p (.lst ys))) w0 turn ?_;intro D C H' s' ys its m hCs hD hC hDC HD HC hn pl rv hz q u hok hg ho;show wpAny _ X.A (assign (.Name y py) X.env (.ref D)) _ _ _
 -- store,with the block's frame still there
 have J:=jj (tk:=s'.toks) I2 f2 hD hC hDC HD HC pl rv hz u hok hg ho (Heap.SameBut.refl C s'.heap);refine wpAny_assign_Name (qf J hN hy (.inl hyl) (v:=.ref D) (u:=.ref D) rfl (λs3 J3 ⟨a,sb,ha⟩=>?_) (.inr hyl));have exL:∃o,s2.heap.get? X.env.locals=some o:=let ⟨_,⟨o,_,_,e,_⟩,_⟩:=I2.loc;⟨o,e⟩;have Bg:∀z c,X.env.cells.lookup z=some c->c≠C:=λz c e q=>by
  obtain⟨v,oc,ho,_⟩:=I2.cell z c e;rw[q,hC] at ho;cases ho
 have aC:a≠C:=by
  rcases ha with z|z
  .obtain⟨o,e⟩:=exL;intro q;rw[<-z,q,hC] at e;cases e
  .exact Bg y a z
 have LC:C≠X.env.locals:=λq=>by
  obtain⟨o,e⟩:=exL;rw[<-q,hC] at e;cases e
 refine⟨m,hn.sameBut sb (Ne.symm aC),λh' hs'=>?_⟩;exact⟨_,_,J3.turned (t':=s3.toks) (it:=C) (λb o hb e=>hs'.extBut b o hb e) (by rw[aH (Ne.symm hDC)];exact HC) LC (.inr (Nat.le_trans I2.sz hCs)) Bg (λp hp z=>by
  have:=(I2.pin p hp).1;rw[z,hC] at this;cases this),q D HD⟩
end
end L2
namespace L2
open PySem PySem.Spec PyProof.Rows PySem.Builtin.Str
def txt(l:WM):Str:=⟨l.toArray⟩
theorem txt_codes(x:Str):txt x.cps.toList=x:=by cases x;simp[txt]
theorem bN(l:WM):(txt l).cps.toList=l:=by simp[txt]
theorem cg(l:WM):(txt l).length=l.length:=by simp[txt,Str.length]
theorem cJ{a b:WM}:txt a=txt b↔a=b:=⟨λh=>by simpa [txt] using h,λh=>by rw[h]⟩
theorem lI(a b:WM):txt a++txt b=txt (a++b):=by
 show Str.mk (a.toArray++b.toArray)=_;simp[txt]
def Bh(xs:WM)(lo hi:Option Int):WM:=(xs.drop (HT.mW xs.length 0 lo)).take (HT.mW xs.length xs.length hi-HT.mW xs.length 0 lo)
theorem Bj(v:Option Int)(n d:Nat):(match v with|none=>((d:Nat):Int)|some i=>(if (1:Int)>0 then max 0 (min (if i<0 then i+(n:Int) else i) (n:Int)) else max (-1) (min (if i<0 then i+(n:Int) else i) ((n:Int)-1))))=((HT.mW n d v:Nat):Int):=by
 cases v with
 |none=>rfl
 |some i=>
  show (if (1:Int)>0 then max 0 (min (if i<0 then i+(n:Int) else i) (n:Int)) else _)=(((if i<0 then(i+(n:Int)).toNat else min i.toNat n):Nat):Int)
  rw[if_pos (by decide)]
  by_cases h:i<0
  .rw[if_pos h,if_pos h];omega
  .rw[if_neg h,if_neg h];omega
theorem QB(n d:Nat)(v:Option Int)(h:d<=n):HT.mW n d v<=n:=by
 cases v with
 |none=>exact h
 |some i=>
  show (if i<0 then(i+(n:Int)).toNat else min i.toNat n)<=n
  split<;>omega
theorem HN(l:WM)(lo hi:Option Int):Txt.slice (txt l) lo hi=txt (Bh l lo hi):=by
 have e:strSliceIndices lo hi 1 (txt l).length=(List.range (HT.mW l.length l.length hi-HT.mW l.length 0 lo)).map (HT.mW l.length 0 lo+·):=by
  rw[cg];unfold strSliceIndices;simp only[if_pos (show (1:Int)>0 by decide)];have e1:=Bj lo l.length 0;have e2:=Bj hi l.length l.length;simp only[if_pos (show (1:Int)>0 by decide)] at e1 e2;have e1':((0:Nat):Int)=0:=rfl;rw[e1'] at e1;have key:∀a b a' b':Int,a=a'->b=b'->sliceRange a b 1=sliceRange a' b' 1:=λa b a' b' h1 h2=>by rw[h1,h2]
  exact Eq.trans (key _ _ _ _ e1 e2) (sliceRange_one _ _)
 unfold Txt.slice;rw[e];have e3:(((List.range (HT.mW l.length l.length hi-HT.mW l.length 0 lo)).map (HT.mW l.length 0 lo+·)).filterMap ((txt l).cps[·]?))=Bh l lo hi:=by
  rw[pick_run,bN];rfl
 rw[e3];split
 .rename_i hc
  have hc':HT.mW l.length l.length hi-HT.mW l.length 0 lo=l.length:=by
   rw[cg] at hc;simpa using hc
  have h1:=QB l.length l.length hi (le_refl _);have h0:HT.mW l.length 0 lo=0\/l.length=0:=by omega
  unfold Bh;rw[hc']
  rcases h0 with h0|h0
  .rw[h0];simp
  .have:l=[]:=length_eq_zero_iff.mp h0;subst this;simp
 .rfl
section
variable{X:Cx}
def QC:V->Option Int->Option Int->Hp->VK->Prop:=λx lo hi H Q=>∃l,x=.str (txt l)/\l.length<=sizeLine/\Q (.str (txt (Bh l lo hi))) H
theorem C0{h:Heap}{sl:Addr}{vl vu:Value}{lo hi:Option Int}(hs:h.IsSliceOf sl vl vu .none)(pl:IsPart vl lo)(pu:IsPart vu hi):
  ∃(l u:Option (Int×Tok)),h.IsSlice sl l u none/\l.map (·.1)=lo/\u.map (·.1)=hi:=by
 obtain⟨o,ho,hc,hd⟩:=hs;cases pl with
 |none=>
  cases pu with
  |none=>exact⟨none,none,⟨o,ho,hc,hd⟩,rfl,rfl⟩
  |int j u=>exact⟨none,some (j,u),⟨o,ho,hc,hd⟩,rfl,rfl⟩
 |int i t=>
  cases pu with
  |none=>exact⟨some (i,t),none,⟨o,ho,hc,hd⟩,rfl,rfl⟩
  |int j u=>exact⟨some (i,t),some (j,u),⟨o,ho,hc,hd⟩,rfl,rfl⟩
theorem QD:Vx X QC:=by
 intro Z0 s Z H x v vl vu lo hi sl Q I rx hs pl pu h;obtain⟨l,rfl,hz,q⟩:=h;obtain⟨t,rfl⟩:=rx;obtain⟨l',u',hS,rfl,rfl⟩:=C0 hs pl pu;refine⟨"str",_,F.slot_str_getitem.lookup,typeIs_str _ _ _,wpAny_getItem_str_slice hS rfl ?_⟩;have key:∀t' k,EP X Z0 Z Q (.str (Txt.slice (txt l) (l'.map (·.1)) (u'.map (·.1))) t') {s with toks:=k}:=λt' k=>⟨.str (txt (Bh l _ _)),H,I.tok _,⟨t',by rw[HN]⟩,q⟩
 have e:sliceMade (txt l) t l' u' none=(if ((1:Int)==1&&(strSliceIndices (l'.map (·.1)) (u'.map (·.1)) 1 (txt l).length).length==(txt l).length)=true then Made.val (.str (txt l) t) else Made.str ⟨((strSliceIndices (l'.map (·.1)) (u'.map (·.1)) 1 (txt l).length).filterMap ((txt l).cps[·]?)).toArray⟩):=rfl
 rw[e];exact post_val_or_str ⟨Nat.le_trans (Txt.slice_le _ _ _) (by rw[cg];exact hz),key⟩
def Pr:V->WR V->Hp->VK->Prop:=λx vs H Q=>∃l m,x=.str (txt l)/\vs=[.str (txt m)]/\Q (.bl (decide (m.length<=l.length)&&(l.drop (l.length-m.length)==m))) H
theorem NY(l m:WM):Txt.endswith (txt l) (txt m)=(decide (m.length<=l.length)&&(l.drop (l.length-m.length)==m)):=by
 unfold Txt.endswith;rw[cg,cg]
 by_cases h:m.length<=l.length
 .rw[decide_eq_true h,decide_eq_true (show 0+m.length<=l.length by omega)];simp only[Bool.true_and];unfold subAt;rw[cg];have e:(txt l).cps.extract (l.length-m.length) (l.length-m.length+m.length)=(l.drop (l.length-m.length)).toArray:=by
   simp only[txt,List.extract_toArray,List.extract_eq_take_drop];congr 1
   rw[List.take_of_length_le];rw[length_drop];omega
  rw[e];show ((l.drop (l.length-m.length)).toArray==m.toArray)=_;rw[Bool.eq_iff_iff];simp
 .rw[decide_eq_false h,decide_eq_false (show ¬0+m.length<=l.length by omega)];simp
theorem Bk:Jq X "str.endswith" Pr:=by
 intro Z0 s Z H x vs v us Q I rx rv h;obtain⟨l,m,rfl,rfl,q⟩:=h;obtain⟨t,rfl⟩:=rx;obtain⟨u,rfl,t',rfl⟩:=rv.one;refine call_gives F.slot_str_endswith (typeIs_str _ _ _) F.entry_str_endswith (F.args_str_endswith_2 _ _) (gives_str_endswith _ _ t t') ?_;refine⟨.bl _,H,I,?_,q⟩;rw[<-NY];rfl
def fX(p:Nat->Bool)(l:WM):WM:=(l.reverse.dropWhile p).reverse
theorem HP(p:Nat->Bool)(l:WM):Txt.stripBy p false true (txt l)=txt (fX p l):=by
 have hlen:(l.reverse.takeWhile p).length+(l.reverse.dropWhile p).length=l.length:=by
  have:=congrArg List.length (List.takeWhile_append_dropWhile (p:=p) (l:=l.reverse));rw[length_append,List.length_reverse] at this;exact this
 have hpre:l.take (l.length-(l.reverse.takeWhile p).length)=fX p l:=by
  have e:l=fX p l++(l.reverse.takeWhile p).reverse:=by
   have:=congrArg List.reverse (List.takeWhile_append_dropWhile (p:=p) (l:=l.reverse));rw[List.reverse_append,List.reverse_reverse] at this;exact this.symm
  have hl:(fX p l).length=l.length-(l.reverse.takeWhile p).length:=by unfold fX;rw[List.length_reverse];omega
  have h:=List.take_left (l₁:=fX p l) (l₂:=(l.reverse.takeWhile p).reverse);rw[<-e,hl] at h;exact h
 unfold Txt.stripBy stripSame stripped stripLo stripHi;simp only[false_eq_true,if_false,if_true,bN,drop_zero,cg];have e2:strSub (txt l) 0 (l.length-(l.reverse.takeWhile p).length)=txt (fX p l):=by
  rw[<-hpre];simp[strSub,txt,List.extract_eq_take_drop]
 split
 .rename_i hc
  have hc':l.length-(l.reverse.takeWhile p).length=l.length:=by simpa using hc
  rw[<-hpre,hc',take_length]
 .exact e2
def yY:V->WR V->Hp->VK->Prop:=λx vs H Q=>∃l m,x=.str (txt l)/\vs=[.str (txt m)]/\l.length<=sizeLine/\Q (.str (txt (fX (λc=>m.contains c) l))) H
theorem HQ:Jq X "str.rstrip" yY:=by
 intro Z0 s Z H x vs v us Q I rx rv h;obtain⟨l,m,rfl,rfl,hz,q⟩:=h;obtain⟨t,rfl⟩:=rx;obtain⟨u,rfl,t',rfl⟩:=rv.one;refine call_gives F.slot_str_rstrip (typeIs_str _ _ _) F.entry_str_rstrip (F.args_str_rstrip_2 _ _) (gives_str_rstrip_chars _ _ t t') ?_;refine post_val_or_made (λ_=>fits_stripped _ _ _ (by rw[cg];exact hz)) λt' k=>⟨.str (txt (fX (λc=>m.contains c) l)),H,I.tok _,⟨t',?_⟩,q⟩;have e:(txt m).cps.contains=λc=>m.contains c:=by funext c;simp[txt]
 show Value.str (Txt.stripBy (txt m).cps.contains false true (txt l)) t'=_;rw[e,HP]
theorem NZ{l:WM}{c:Nat}(h:c∈l):∃rest,occurrences (txt l) (txt [c]) 0 (txt l).length 1=l.idxOf c::rest:=by
 have hf:=PyProof.Rows.find_whole (txt l) (txt [c]);have hlt:=List.idxOf_lt_length_iff.mpr h;have at_:∀i,StrLaws.At (txt l) (txt [c]) (txt l).length i↔l[i]?=some c:=λi=>by
  unfold StrLaws.At subAt;rw[cg,cg];simp only[txt,List.extract_toArray,List.extract_eq_take_drop,length_cons,length_nil];rw[List.getElem?_eq_some_iff];constructor
  .rintro⟨h1,h2⟩;have h3:i<l.length:=by omega
   refine⟨h3,?_⟩;have h4:(l.drop i).take 1=[c]:=by simpa using h2
   rw[drop_eq_getElem_cons h3] at h4;have h5:[l[i]]=[c]:=h4;injection h5
  .rintro⟨h1,h2⟩;refine⟨by omega,?_⟩;have h4:(l.drop i).take (i+(0+1)-i)=[c]:=by
    rw[drop_eq_getElem_cons h1,h2];have:i+(0+1)-i=1:=by omega
    rw[this];rfl
   rw[h4];simp
 have hi:l[l.idxOf c]?=some c:=by rw[getElem?_eq_getElem hlt];congr 1;exact List.getElem_idxOf hlt
 rcases hf with⟨_,hn⟩|⟨i,e,ha,hb⟩
 .exact absurd ((at_ _).mpr hi) (hn _)
 .have hi2:=(at_ i).mp ha;have ei:i=l.idxOf c:=by
   have h1:¬l.idxOf c<i:=λz=>hb _ z ((at_ _).mpr hi);have h2:l.idxOf c<=i:=by
    obtain⟨h3,h4⟩:=List.getElem?_eq_some_iff.mp hi2;have:=List.idxOf_lt_length_iff.mpr h
    rcases lt_or_ge i (l.idxOf c) with z|z
    .exfalso
     have:=List.not_of_lt_findIdx (p:=(·==c)) (xs:=l) (i:=i) (by simpa [List.idxOf] using z);simp[h4] at this
    .exact z
   omega
  unfold Txt.find at e;cases ho:occurrences (txt l) (txt [c]) 0 (txt l).length 1 with
  |nil=>rw[ho] at e;simp only at e;omega
  |cons a r=>
   rw[ho] at e;have ea:(a:Int)=(i:Int):=e;have ea':a=i:=by omega
   exact⟨r,by rw[ea',ei]⟩
def yZ:V->WR V->Hp->VK->Prop:=λx vs H Q=>∃l c,x=.str (txt l)/\vs=[.str (txt [c])]/\c∈l/\Q (.int (l.idxOf c:Nat)) H
theorem Bl:Jq X "str.index" yZ:=by
 intro Z0 s Z H x vs v us Q I rx rv h;obtain⟨l,c,rfl,rfl,hm,q⟩:=h;obtain⟨t,rfl⟩:=rx;obtain⟨u,rfl,t',rfl⟩:=rv.one;obtain⟨rest,ho⟩:=NZ hm;exact call_gives F.slot_str_index (typeIs_str _ _ _) F.entry_str_index (F.args_str_index_2 _ _) (gives_str_index _ _ t t' _ rest ho) ⟨.int _,H,I.tok _,⟨_,rfl⟩,q⟩
theorem C2:mG X (compareOp .In) (λx y H Q=>∃c l,x=.str (txt [c])/\y=.str (txt l)/\Q (.bl (decide (c∈l))) H):=by
 intro Z0 s Z H x y v u Q I rx ry h;obtain⟨c,l,rfl,rfl,q⟩:=h;obtain⟨t,rfl⟩:=rx;obtain⟨t',rfl⟩:=ry;refine in_str (bF I q ?_);have:=StrLaws.found_one (txt l) c;rw[bN] at this;exact this.symm
theorem y9:mG X (compareOp .Lt) (λx y H Q=>∃i j,x=.str (txt i)/\y=.str (txt j)/\Q (.bl (decide (i<j))) H):=by
 intro Z0 s Z H x y v u Q I rx ry h;obtain⟨i,j,rfl,rfl,q⟩:=h;obtain⟨t,rfl⟩:=rx;obtain⟨t',rfl⟩:=ry;exact lt_str (bF I q (by rw[bN,bN]))
theorem QH:mG X (compareOp .GtE) (λx y H Q=>∃i j,x=.str (txt i)/\y=.str (txt j)/\Q (.bl (!decide (i<j))) H):=by
 intro Z0 s Z H x y v u Q I rx ry h;obtain⟨i,j,rfl,rfl,q⟩:=h;obtain⟨t,rfl⟩:=rx;obtain⟨t',rfl⟩:=ry;exact PySem.P.ge_str (bF I q (by rw[bN,bN]))
theorem za:mG X (binaryOp .Add) (λx y H Q=>∃i j,x=.str (txt i)/\y=.str (txt j)/\i.length+j.length<=sizeLine/\Q (.str (txt (i++j))) H):=by
 intro Z0 s Z H x y v u Q I rx ry h;obtain⟨i,j,rfl,rfl,hz,q⟩:=h;exact CM Z0 s Z H _ _ v u Q I rx ry ⟨_,_,rfl,rfl,by rw[cg,cg];exact hz,by rw[lI];exact q⟩
theorem oq:SG X (λx y H Q=>∃(l:WM) (i:Nat) (c:Nat),x=.str (txt l)/\y=.int i/\l.length<=sizeLine/\l[i]?=some c/\Q (.str (txt [c])) H):=by
 intro Z0 s Z H value slice x y v u Q I rx ry h hs;obtain⟨l,i,c,rfl,rfl,hz,e,q⟩:=h;exact Qs Z0 s Z H value slice _ _ v u Q I rx ry ⟨_,_,c,rfl,rfl,by rw[cg];exact hz,by rw[bN];exact yR e,q⟩ hs
theorem eW:fh X (.builtin "len") (λxs H Q=>∃z,xs=[.str (txt z)]/\z.length<=sizeLine/\Q (.int z.length) H):=by
 intro Z0 s Z H xs us Q I r h;obtain⟨z,rfl,hz,q⟩:=h;exact yT Z0 s Z H _ us Q I r ⟨_,rfl,by rw[cg];exact hz,by rw[cg];exact q⟩
end
end L2
namespace L2
open PySem PySem.Spec PyProof.Rows PySem.Builtin.Str
def gP(sep:WM):WN->WM
 |[]=>[]
 |y::r=>r.foldl (λacc p=>acc++sep++p) y
theorem yg(sep:WM):∀(r:WN) (y:WM),((r.map txt).foldl (λacc p=>acc++(txt sep).cps++p.cps) y.toArray)=(r.foldl (λacc p=>acc++sep++p) y).toArray
 |[],y=>rfl
 |a::r,y=>by
  rw[map_cons,foldl_cons,foldl_cons,<-yg sep r (y++sep++a)];congr 1
  simp[txt]
theorem Bm(sep:WM)(ys:WN):Txt.join (txt sep) (ys.map txt)=txt (gP sep ys):=by
 cases ys with
 |nil=>rfl
 |cons y r=>
  show (⟨_⟩:Str)=_;have:=yg sep r y;show (⟨(((y::r).map txt).drop 1).foldl (λacc p=>acc++(txt sep).cps++p.cps) (((y::r).map txt).headD Str.empty).cps⟩:Str)=_;simp only[map_cons,List.drop_one,List.tail_cons,List.headD_cons];have e:(txt y).cps=y.toArray:=rfl;rw[e,this];rfl
theorem ou:∀(r:WN) (y:WM),r.foldl (λacc p=>acc++[]++p) y=y++r.flatten
 |[],y=>by simp
 |a::r,y=>by rw[foldl_cons,ou r];simp
theorem HS(ys:WN):gP [] ys=ys.flatten:=by
 cases ys with
 |nil=>rfl
 |cons y r=>show r.foldl (λacc p=>acc++[]++p) y=_;rw[ou];rfl
theorem gQ:∀{ys:WR Str} {us:WR Value},Vals (ys.map V.str) us->StrsAre us ys
 |[],_,.nil=>.nil
 |y::ys,_,.cons ⟨t,e⟩ r=>by subst e;exact .cons y t (gQ r)
theorem qv:∀{us:WR Value} {ys:WR Str},StrsAre us ys->Vals (ys.map V.str) us
 |_,_,.nil=>.nil
 |_,_,.cons y t r=>.cons ⟨t,rfl⟩ (qv r)
def ay(l:WM):V:=.str (txt l)
theorem kr(ys:WN):ys.map ay=(ys.map txt).map V.str:=by rw[map_map];rfl
section
variable{X:Cx}
def rJoin(K:W.Frag):V->WR V->Hp->VK->Prop:=λx vs H Q=>∃sep p ys,x=.str (txt sep)/\vs=[.ref p]/\aZ K H p (ys.map ay)/\(ys.map (·.length)).sum+ys.length*sep.length<=16777216/\Q (.str (txt (gP sep ys))) H
theorem N2:Jq X "str.join" (rJoin X.K):=by
 intro Z0 s Z H x vs v us Q I rx rv h;obtain⟨sep,p,ys,rfl,rfl,hx,hz,q⟩:=h;obtain⟨t,rfl⟩:=rx;obtain⟨u,rfl,ru⟩:=rv.one;cases ru;obtain⟨its,r,pl,hl⟩:=I.list hx;rw[kr] at r;refine join_list pl.isList (ys:=ys.map txt) (by simpa using gQ r) ?_ λt' k=>⟨.str (txt (gP sep ys)),H,I.tok _,⟨t',by rw[Bm]⟩,q⟩;rw[map_map,length_map,cg];have:((λx=>x.length)∘txt:WM->Nat)=λl=>l.length:=by funext l;exact cg l
 rw[this];exact hz
def Ti(l:WM):It:=⟨λi _=>i<l.length,λi H x H'=>H'=H/\∃c,l[i]?=some c/\x=.str (txt [c]),λi _=>l.length<=i⟩
theorem EZ(x:Str):strIterType x = "str_ascii_iterator" \/strIterType x = "str_iterator":=by
 unfold strIterType;split
 .exact .inl rfl
 .exact .inr rfl
theorem HU{prog:Program}{w:World}{A:Around}(hh:A.handled=none)(I:Addr)(x:Str)(t:Tok):Walks prog w A I [I] [I] x.cps.size (SignAt x) (λi h=>h.IsStrIter I (strIterType x) x t i):=by
 rcases EZ x with e|e
 .rw[e];exact Walks.strAscii hh I x t
 .rw[e];exact Walks.strWide hh I x t
theorem JW{P:Program}{w:World}{K:PySem.W.Frag}{tg:Expr}(it:Addr)(l:WM)(t:Tok):Turn P w K tg (Ti l) [it] it (λi h=>h.IsStrIter it (strIterType (txt l)) (txt l) t i) where
 mem:=by simp
 obj:=λi h st b hb=>by
  have e:b=it:=by simpa using hb
  subst e;obtain⟨o,e,c,d⟩:=st;exact⟨o,e,λv z=>by rw[d] at z;cases z⟩
 keep:=λi h h' st k=>let ⟨o,ho,r⟩:=st;⟨o,k it (by simp) o ho,r⟩
 item:=by
  intro X hP hw hK hc i Z0 s Z H E I hf st hg;subst hP hw hK;obtain⟨f0,f1,f2,f3,f4,f5⟩:=hf it (by simp);have W:=HU (prog:=X.prog) (w:=X.w) (I.ok.hd hc) it (txt l) t;have hg':i<(txt l).cps.size:=by have:i<l.length:=hg;simpa [txt] using this
  refine W.item i s _ _ hg' st λv h' tk hv st' kk=>?_;obtain⟨c,u,hc',rfl⟩:=hv;have I1:Inv X Z0 Z H {s with heap:=h',toks:=tk}:=I.turned (λb o hb e=>kk b o (by simpa using hb) e) f0 f1 f3 f4 f5
  obtain⟨o,e,cc,d⟩:=id st';have hn:["enumerate", "zip", "dict_itemiterator", "dict_reverseitemiterator", "odict_iterator", "itertools.zip_longest", "itertools.pairwise"].contains (strIterType (txt l))=false:=by
   rcases EZ (txt l) with e|e<;>(rw[e];decide)
  exact⟨_,rfl,EK (s:={s with heap:=h',toks:=tk}) e cc d hn ⟨.str (txt [c]),H,I1,⟨u,rfl⟩,⟨rfl,c,by simpa [txt] using hc',rfl⟩,st',λb hb=>(hf b hb).1⟩⟩
 done:=by
  intro X hP hw hK hc i Z0 s Z H E I hf st hg;subst hP hw hK;obtain⟨f0,f1,f2,f3,f4,f5⟩:=hf it (by simp);have hg':l.length<=i:=hg;obtain⟨o,e,cc,d⟩:=id st;have fin:∀h',Heap.ExtBut it s.heap h'->(none:Option Value)=none/\Inv X Z0 Z H {s with heap:=h' }:=λh' eb=>⟨rfl,I.turned (t':=s.toks) (λb o hb e=>eb b o hb e) f0 f1 f3 f4 f5⟩
  have hx:(txt l).cps[i]?=none:=by simpa [txt] using hg'
  rcases EZ (txt l) with e|e
  .rw[e] at st;exact wpAny_pyNext_ascii_end (I.ok.hd hc) st hx fin
  .rw[e] at st;exact wpAny_pyNext_wide_end (I.ok.hd hc) st hx fin
 self:=λ_ _ _ _ _ st h=>by
  rcases EZ (txt l) with e|e
  .rw[e] at st;exact wpAny_pyIter_striter_ascii st h
  .rw[e] at st;exact wpAny_pyIter_striter_wide st h
def C3(tl:TE):TI:=λZ H R=>tl Z H λx H1=>∃l,x=.str (txt l)/\R (Ti l) H1
theorem QJ{tg l:Expr}{tl:TE}(hl:PE X l tl):PI X tg l (C3 tl):=by
 intro Z0 s Z H R I h;refine cA (hl Z0 s Z H _ I h) λv s1 ⟨x,H1,I1,r1,q1⟩=>?_;obtain⟨l',e,q⟩:=q1;subst e;obtain⟨t,rfl⟩:=r1;refine wpAny_pyIter_strU ?_;refine⟨s1.heap.objs.size,[s1.heap.objs.size],_,_,H1,rfl,I1.kept (t':=s1.toks) λb o e=>Heap.get?_push_of_some _ e,JW _ l' t,⟨_,Heap.get?_push_size _ rfl,rfl,rfl⟩,λb hb=>?_,q⟩;have e:b=s1.heap.objs.size:=by simpa using hb
 subst e;exact I1.NB (le_refl _) (I1.hok.fresh (le_refl _))
theorem HV(a b:WM):ltCps a b=decide (a<b):=by
 first|exact ltCps_eq a b|(rw[ltCps_eq])
theorem yh:∀(r:WN) (p:WM),risingS (txt p) (r.map txt)=true->(p::r).Pairwise (·<=·)
 |[],p,_=>List.pairwise_singleton _ _
 |x::r,p,h=>by
  rw[map_cons] at h;unfold risingS at h;rw[and_eq_true,bN,bN,HV] at h;have h1:p<=x:=by
   have:=h.1;simp only[not_eq_true',decide_eq_false_iff_not] at this;exact List.not_lt.mp this
  have ih:=yh r x h.2;refine pairwise_cons.mpr ⟨λy hy=>?_,ih⟩
  rcases mem_cons.mp hy with e|hy
  .rw[e];exact h1
  .exact List.le_trans h1 ((pairwise_cons.mp ih).1 y hy)
theorem uW(l:WN)(h:sortedS (l.map txt)=true):l.Pairwise (·<=·):=by
 cases l with
 |nil=>exact .nil
 |cons x r=>exact yh r x h
theorem mY{h:Heap}:∀{us:WR Value} {ys:WR Str},StrsAre us ys->ReadsAll h us (ys.map PyData.str) []
 |_,_,.nil=>.nil
 |_,_,.cons y t r=>.cons (as:=[]) (bs:=[]) (.str y t) (mY r)
theorem ku:∀ys:WR Str,(∀y∈ys,PyData.strOk y=true)->PyData.canLayAll0 (ys.map PyData.str)=true
 |[],_=>rfl
 |y::r,h=>by simp[PyData.canLayAll0,PyData.canLay0,h y mem_cons_self,ku r λz hz=>h z (mem_cons_of_mem _ hz)]
theorem mZ:∀ys:WR Str,PyData.depthAll (ys.map PyData.str)=0
 |[]=>rfl
 |_::r=>by simp[PyData.depthAll,PyData.depth,mZ r]
theorem rY(ys:WR Str)(h:∀y∈ys,PyData.strOk y=true):SeqAt.shaped (.list (ys.map PyData.str))=true:=by
 simp[SeqAt.shaped,PyData.canLay0,PyData.depth,ku ys h,mZ]
theorem Bo:∀xs ys:WR Str,PyData.eqvAll (xs.map PyData.str) (ys.map PyData.str)=decide (xs=ys)
 |[],[]=>by simp[PyData.eqvAll]
 |[],_::_=>by simp[PyData.eqvAll]
 |_::_,[]=>by simp[PyData.eqvAll]
 |a::r,b::t=>by
  simp only[map_cons,PyData.eqvAll,PyData.eqv,Bo r t]
  by_cases h:a=b<;>by_cases h':r=t<;>simp[h,h']
theorem JX{a b:WN}:a.map txt=b.map txt↔a=b:=⟨λh=>by
  have:=congrArg (List.map λx:Str=>x.cps.toList) h;rw[map_map,map_map] at this;have e2:((λx:Str=>x.cps.toList)∘txt)=id:=by funext l;exact bN l
  rwa[e2,map_id,map_id] at this,λh=>by rw[h]⟩
theorem E2(hu:X.A.units+64<cLine):mG X (compareOp .Eq) (λx y H Q=>∃a b,∃xs ys:WN,x=.ref a/\y=.ref b/\aZ X.K H a (xs.map ay)/\aZ X.K H b (ys.map ay)/\(∀y∈xs,PyData.strOk (txt y)=true)/\(∀y∈ys,PyData.strOk (txt y)=true)/\Q (.bl (decide (xs=ys))) H):=by
 intro Z0 s Z H x y v u Q I rx ry h;obtain⟨a,b,xs,ys,rfl,rfl,ha,hb,ox,oy,q⟩:=h;cases rx;cases ry;obtain⟨ia,ra,pa,_⟩:=I.list ha;obtain⟨ib,rb,pb,_⟩:=I.list hb;obtain⟨oa,na,ea,ca,_,da⟩:=pa;obtain⟨ob,nb,eb,cb,_,db⟩:=pb;rw[kr] at ra rb;refine eq_dataH (Reads.list ea ca da (mY (by simpa using gQ ra))) (Reads.list eb cb db (mY (by simpa using gQ rb))) (rY (xs.map txt) (by simpa using ox)) (rY (ys.map txt) (by simpa using oy)) hu (bF I q ?_);simp only[PyData.eqv,Bo];exact decide_eq_decide.mpr JX.symm
end
end L2
namespace L2
open PySem PySem.Spec PyProof.Rows PySem.Builtin.Str
section
variable{X:Cx}
structure QK(X:Cx)(scope:Scope)(x:Str)(fs:WR (Str×Nat)):Prop where
 kind:scope.kind=.function
 cell:∀y∈scope.names,y.2≠.cell
 names:∀y∈scope.names,y.2=.local->scope.names.lookup y.1=some .local
 free:∀y∈scope.names,y.2=.free->X.env.kindOf y.1=some .cell\/X.env.kindOf y.1=some .free
 hx:scope.names.lookup x=some .local
 nd:(x::fs.map (·.1)).Nodup
 fs:∀f∈fs,X.N[f.2]?=some f.1/\(X.env.kindOf f.1=some .cell\/X.env.kindOf f.1=some .free)/\scope.names.lookup f.1=some .free
def gR(names:WR (Str×NameKind))(outer:WR (Str×NameKind))(N:WR Str)(x:Str)(fs:WR (Str×Nat)):Bool:=
 (names.all λy=>y.2 !=.cell)&&(names.all λy=>y.2 !=.local||names.lookup y.1==some .local) &&
 (names.all λy=>y.2 !=.free||outer.lookup y.1==some .cell||outer.lookup y.1==some .free)&&(names.lookup x==some .local) &&
 decide ((x::fs.map (·.1)).Nodup)&&(fs.all λf=>decide (N[f.2]?=some f.1)&&(outer.lookup f.1==some .cell||outer.lookup f.1==some .free)&&names.lookup f.1==some .free)
theorem lJ{scope:Scope}{x:Str}{fs:WR (Str×Nat)}(hk:scope.kind=.function)(h:gR scope.names X.env.scope.names X.N x fs=true):QK X scope x fs:=by
 unfold gR at h;simp only[and_eq_true,all_eq_true,decide_eq_true_eq,Bool.or_eq_true,bne_iff_ne,beq_iff_eq] at h;obtain⟨⟨⟨⟨⟨h1,h2⟩,h3⟩,h4⟩,h5⟩,h6⟩:=h;refine⟨hk,λy hy=>h1 y hy,λy hy e=>?_,λy hy e=>?_,h4,h5,λf hf=>?_⟩
 .rcases h2 y hy with z|z
  .exact absurd e z
  .exact z
 .rcases h3 y hy with(z|z)|z
  .exact absurd e z
  .exact .inl z
  .exact .inr z
 .obtain⟨⟨a,b⟩,c⟩:=h6 f hf;exact⟨a,b,c⟩
theorem JY{elt iter:Expr}{x:Str}{px pos:Pos}{ifs:WR Expr}{scope:Scope}(fs:WR (Str×Nat)){wi:TI}{tt:TT}{te:TE}(hc:X.calm=true)
  (hi:PI X (.Name x px) iter wi)
  (hb:∀(cl:WR (Str×Addr)) (C:Addr) (s₀:Shared) (H₀:Hp) (ex:WR Addr),JU (b9 X scope cl C (x::fs.map (·.1)) s₀ H₀ ex) ifs tt/\PE (b9 X scope cl C (x::fs.map (·.1)) s₀ H₀ ex) elt te)
  (hk:scope.kind=.function:=by rfl) (hl:gR scope.names X.env.scope.names X.N x fs=true:=by rfl')
  (hs:∀x,foldedSetIterable iter X.env x=pure x:=by intro _;rfl):
  PE X (.ListComp elt [⟨.Name x px,iter,ifs,0⟩] scope pos) (dw wi (fs.map (·.2)) tt te):=
 let O:=lJ (X:=X) hk hl
 NW fs hc O.kind O.cell O.names O.free O.hx O.nd O.fs hi hb hs
theorem JZ{i:Nat}{y:Str}{py spos:Pos}{elt iter:Expr}{x:Str}{px pos:Pos}{ifs:WR Expr}{scope:Scope}(fs:WR (Str×Nat)){wi:TI}{tt:TT}{te:TE}
  (hN:X.N.Nodup) (hy:X.N[i]?=some y) (hyl:X.env.scope.names.lookup y=some .local) (hc:X.calm=true)
  (hi:PI X (.Name x px) iter wi)
  (hb:∀(cl:WR (Str×Addr)) (C:Addr) (s₀:Shared) (H₀:Hp) (ex:WR Addr),JU (b9 X scope cl C (x::fs.map (·.1)) s₀ H₀ ex) ifs tt/\PE (b9 X scope cl C (x::fs.map (·.1)) s₀ H₀ ex) elt te)
  (hk:scope.kind=.function:=by rfl) (hl:gR scope.names X.env.scope.names X.N x fs=true:=by rfl')
  (hsw:swapsWith (.ListComp elt [⟨.Name x px,iter,ifs,0⟩] scope pos) (some (.Name y py)) spos.line X.env=pure true:=by rfl)
  (hs:∀x,foldedSetIterable iter X.env x=pure x:=by intro _;rfl):
  PS X (.Assign [.Name y py] (.ListComp elt [⟨.Name x px,iter,ifs,0⟩] scope pos) spos) (cX i wi (fs.map (·.2)) tt te):=
 let O:=lJ (X:=X) hk hl
 NX fs hN hy hyl hc O.kind O.cell O.names O.free O.hx O.nd O.fs hi hb hsw hs
theorem uX{lo:Int}{n:Nat}{Z:St}{fs:WM}{tt:TT}{te:TE}{H:Hp}{Q:VK}(Pv:Nat->WR V->Hp->Prop)(h0:Pv 0 [] H)(hl:∀i ys H,i<=n->Pv i ys H->ys.length<=i)(hn:n<=sizeLine)
  (hs:∀i ys H,i<n->Pv i ys H->∀R:WR V->Hp->Prop,(∀ys' H',Pv (i+1) ys' H'->R ys' H')->tt (some (.int (lo+i))::bg fs Z) H λb H2=>if b=true then te (some (.int (lo+i))::bg fs Z) H2 λy H3=>R (ys++[y]) H3 else R ys H2)
  (hd:∀ys H,Pv n ys H->∀p,H p=none->Q (.ref p) (upd H p (.lst ys))):
  ∃W:Nat->Nat->WR V->Hp->Prop,(∃m,W 0 m [] H)/\∀i m ys H,W i m ys H->ys.length<=sizeLine/\
   (((Nl lo n).stop i H/\∀p,H p=none->Q (.ref p) (upd H p (.lst ys)))\/
    ((Nl lo n).go i H/\ys.length<sizeLine/\∀x H',(Nl lo n).yld i H x H'->tt (some x::bg fs Z) H' λb H2=>if b=true then te (some x::bg fs Z) H2 λy H3=>∃m',m'<m/\W (i+1) m' (ys++[y]) H3 else ∃m',m'<m/\W (i+1) m' ys H2)):=by
 refine⟨λi m ys H=>m=n-i/\i<=n/\Pv i ys H,⟨n,by simp,zero_le _,h0⟩,?_⟩;rintro i m ys H ⟨rfl,hi,p⟩;have hle:=hl i ys H hi p;refine⟨by omega,?_⟩
 by_cases hlt:i<n
 .refine .inr ⟨hlt,by omega,λx H' y=>?_⟩;obtain⟨e,y⟩:=y;subst e y;exact hs i ys _ hlt p (λys' H'=>∃m',m'<n-i/\m'=n-(i+1)/\i+1<=n/\Pv (i+1) ys' H') λys' H' q=>⟨n-(i+1),by omega,rfl,hlt,q⟩
 .have e:i=n:=by omega
  subst e;exact .inl ⟨le_refl _,hd ys H p⟩
theorem J0{l:WM}{Z:St}{fs:WM}{tt:TT}{te:TE}{H:Hp}{Q:VK}(Pv:Nat->WR V->Hp->Prop)(h0:Pv 0 [] H)(hl:∀i ys H,i<=l.length->Pv i ys H->ys.length<=i)(hn:l.length<=sizeLine)
  (hs:∀i c ys H,l[i]?=some c->Pv i ys H->∀R:WR V->Hp->Prop,(∀ys' H',Pv (i+1) ys' H'->R ys' H')->tt (some (.str (txt [c]))::bg fs Z) H λb H2=>if b=true then te (some (.str (txt [c]))::bg fs Z) H2 λy H3=>R (ys++[y]) H3 else R ys H2)
  (hd:∀ys H,Pv l.length ys H->∀p,H p=none->Q (.ref p) (upd H p (.lst ys))):
  ∃W:Nat->Nat->WR V->Hp->Prop,(∃m,W 0 m [] H)/\∀i m ys H,W i m ys H->ys.length<=sizeLine/\
   (((Ti l).stop i H/\∀p,H p=none->Q (.ref p) (upd H p (.lst ys)))\/
    ((Ti l).go i H/\ys.length<sizeLine/\∀x H',(Ti l).yld i H x H'->tt (some x::bg fs Z) H' λb H2=>if b=true then te (some x::bg fs Z) H2 λy H3=>∃m',m'<m/\W (i+1) m' (ys++[y]) H3 else ∃m',m'<m/\W (i+1) m' ys H2)):=by
 refine⟨λi m ys H=>m=l.length-i/\i<=l.length/\Pv i ys H,⟨l.length,by simp,zero_le _,h0⟩,?_⟩;rintro i m ys H ⟨rfl,hi,p⟩;have hle:=hl i ys H hi p;refine⟨by omega,?_⟩
 by_cases hlt:i<l.length
 .refine .inr ⟨hlt,by omega,λx H' y=>?_⟩;obtain⟨e,c,hc,y⟩:=y;subst e y;exact hs i c ys _ hc p (λys' H'=>∃m',m'<l.length-i/\m'=l.length-(i+1)/\i+1<=l.length/\Pv (i+1) ys' H') λys' H' q=>⟨l.length-(i+1),by omega,rfl,hlt,q⟩
 .have e:i=l.length:=by omega
  subst e;exact .inl ⟨le_refl _,hd ys H p⟩
theorem QL{x:Str}{l:WM}{j pos}(h:x=txt l):PE X (.Constant (.str x) j pos) (tC (.str (txt l))):=by subst h;exact P6
end
def xE:WM:=(List.range 26).map (97+·)
theorem gS:("abcdefghijklmnopqrstuvwxyz":Str)=txt xE:=by decide+kernel
theorem oz:xE.length=26:=by decide
theorem QM{i:Nat}(h:i<26):xE[i]?=some (97+i):=by
 unfold xE;rw[getElem?_map,List.getElem?_range h];rfl
abbrev bS:R2:=CF λi j=>.int (i+j)
abbrev rZ:R2:=CF λi j=>.int (i-j)
abbrev se:R2:=rI NG λi j=>.int (i/j)
abbrev iE:R2:=rI (λ_ j=>0<j) λi j=>.int (i%j)
abbrev Tj:R2:=rI (λ_ j=>0<=j) λi j=>.int (i/2^j.toNat)
abbrev xF:R2:=CF λi j=>.bl (decide (i<j))
abbrev Tn:R2:=CF λi j=>.bl (decide (i<=j))
abbrev Bp:R2:=CF λi j=>.bl (decide (j<i))
abbrev QN:R2:=CF λi j=>.bl (decide (j<=i))
def jX(i j:Int):Prop:=Qj i j\/(Builtin.Int.intBits i<=2^20/\Builtin.Int.intBits j<=2^20)
theorem jX.l{i j:Int}(h1:-(2^64)<i)(h2:i<2^64):jX i j:=.inl (.inl ⟨h1,h2⟩)
theorem jX.r{i j:Int}(h1:-(2^64)<j)(h2:j<2^64):jX i j:=.inl (.inr ⟨h1,h2⟩)
abbrev iF:R2:=rI jX λi j=>.int (i*j)
abbrev Bq:R2:=λx y H Q=>∃i j,x=.str (txt i)/\y=.str (txt j)/\i.length+j.length<=sizeLine/\Q (.str (txt (i++j))) H
abbrev m5:R2:=λx y H Q=>∃(l:WM) (i:Nat) (c:Nat),x=.str (txt l)/\y=.int i/\l.length<=sizeLine/\l[i]?=some c/\Q (.str (txt [c])) H
abbrev QU:R2:=λx y H Q=>∃c l,x=.str (txt [c])/\y=.str (txt l)/\Q (.bl (decide (c∈l))) H
abbrev N3:R2:=λx y H Q=>∃i j,x=.str (txt i)/\y=.str (txt j)/\Q (.bl (decide (i<j))) H
abbrev VN:R2:=λx y H Q=>∃i j,x=.str (txt i)/\y=.str (txt j)/\Q (.bl (!decide (i<j))) H
abbrev oB:WR V->Hp->VK->Prop:=λxs H Q=>∃z,xs=[.str (txt z)]/\z.length<=sizeLine/\Q (.int z.length) H
abbrev b5(K:W.Frag):WR V->Hp->VK->Prop:=λxs H Q=>∃p ys,xs=[.ref p]/\(aZ K H p ys\/ff K H p ys)/\Q (.int ys.length) H
abbrev J1:WR V->Hp->VK->Prop:=λxs H Q=>∃i,xs=[.int i]/\i.natAbs.log2<1920/\Q (.str (toString i)) H
abbrev oE(K:W.Frag):WR V->Hp->VK->Prop:=λxs H Q=>∃p ys,xs=[.ref p]/\(aZ K H p ys\/ff K H p ys)/\∀l,H l=none->Q (.ref l) (upd H l (.lst ys))
abbrev J2(K:W.Frag):R2:=λx y H Q=>∃a b,∃xs ys:WN,x=.ref a/\y=.ref b/\aZ K H a (xs.map ay)/\aZ K H b (ys.map ay)/\(∀y∈xs,PyData.strOk (txt y)=true)/\(∀y∈ys,PyData.strOk (txt y)=true)/\Q (.bl (decide (xs=ys))) H
section
variable{X:Cx}
theorem dN:mG X (binaryOp .Mult) iF:=Vw λ_ _ _ _ _ _ _ hc q=>mul_int q (by
 rcases hc with h|h
 .exact h.ok
 .exact IntMulOk.of_bits h.1 h.2)
theorem N4{x y:Str}{l:WM}{pos:Pos}(hg:Gl X x)(hm:∃t,X.mg x=some (.str y t))(e:y=txt l)(hd:(x==("__debug__":Str))=false:=by decide):PE X (.Name x pos) (tC (.str (txt l))):=by
 obtain⟨t,hm⟩:=hm;subst e;exact EI hg hm ⟨t,rfl⟩ hd
end
theorem aZ.here{K:W.Frag}{H:Hp}{p:Addr}{xs:WR V}:aZ K (upd H p (.lst xs)) p xs:=.inl (.inl aq)
theorem aI.new{H H':Hp}{p:Addr}{o:HO}(s:aI H H')(hp:H' p=none):aI H (upd H' p o):=λb q e=>by
 have:=s b q e;rw[aH (eO this hp)];exact this
theorem aI.up(H:Hp){p:Addr}{o:HO}(hp:H p=none):aI H (upd H p o):=(aI.refl H).new hp
theorem E3{α:Type}{xs:WR α}{i:Int}{v:α}(h0:0<=i)(h:xs[i.toNat]?=some v):Pq xs i=some v:=by
 obtain⟨n,rfl⟩:=eq_ofNat_of_zero_le h0;exact yR (by simpa using h)
theorem qw{ta:TA}{g:TG}{tb:TS}{D:Ends}{Z:St}{H:Hp}{j:Int}(ha:∀Q:WR V->Hp->Prop,Q [.int j] H->ta Z H Q)(hlo:-(2^62)<=j)(hhi:j<2^62)
  (Pv:Nat->St->Hp->Prop) (h0:Pv 0 Z H) (hs:∀(i:Nat) Z H,(i:Int)<j->Pv i Z H->g (.int i) Z H λσ2 H2=>tb {D with nx:=Pv (i+1),ct:=Pv (i+1),bk:=D.nx} σ2 H2)
  (hd:∀Z H,Pv j.toNat Z H->D.nx Z H):iy (jW ta) g tb D Z H:=by
 refine ha _ ⟨j,rfl,hlo,hhi,?_⟩;refine x9 (lo:=0) (n:=j.toNat) Pv h0 (λi Z H hi p=>?_) hd;rw[Int.zero_add];exact hs i Z H (by omega) p
theorem J4{ta:TA}{g:TG}{tb:TS}{D:Ends}{Z:St}{H:Hp}{l j:Int}(ha:∀Q:WR V->Hp->Prop,Q [.int l,.int j] H->ta Z H Q)(hl0:-(2^62)<=l)(hl1:l<2^62)(hlo:-(2^62)<=j)(hhi:j<2^62)
  (Pv:Nat->St->Hp->Prop) (h0:Pv 0 Z H) (hs:∀(i:Nat) Z H,l+(i:Int)<j->Pv i Z H->g (.int (l+i)) Z H λσ2 H2=>tb {D with nx:=Pv (i+1),ct:=Pv (i+1),bk:=D.nx} σ2 H2)
  (hd:∀Z H,Pv (j-l).toNat Z H->D.nx Z H):iy (uM ta) g tb D Z H:=by
 refine ha _ ⟨l,j,rfl,⟨hl0,hl1,hlo,hhi⟩,?_⟩;exact x9 (lo:=l) (n:=(j-l).toNat) Pv h0 (λi Z H hi p=>hs i Z H (by omega) p) hd
theorem uY{K:W.Frag}{tl:TE}{g:TG}{tb:TS}{D:Ends}{Z:St}{H:Hp}{a:Addr}{xs:WR V}(ha:∀Q:VK,Q (.ref a) H->tl Z H Q)(hx:aZ K H a xs)
  (Pv:Nat->St->Hp->Prop) (h0:Pv 0 Z H) (hl:∀i Z H,i<=xs.length->Pv i Z H->aZ K H a xs)
  (hs:∀i x Z H,xs[i]?=some x->Pv i Z H->g x Z H λσ2 H2=>tb {D with nx:=Pv (i+1),ct:=Pv (i+1),bk:=D.nx} σ2 H2) (hd:∀Z H,Pv xs.length Z H->D.nx Z H):
  iy (bV K tl) g tb D Z H:=ha _ ⟨a,rfl,⟨xs,hx⟩,JH (K:=K) Pv h0 hl hs hd⟩
theorem N5{ta:TA}{fs:WM}{tt:TT}{te:TE}{Z:St}{H:Hp}{Q:VK}{l j:Int}(ha:∀Q:WR V->Hp->Prop,Q [.int l,.int j] H->ta Z H Q)(hl0:-(2^62)<=l)(hl1:l<2^62)(hlo:-(2^62)<=j)(hhi:j<2^62)(hn:(j-l).toNat<=sizeLine)
  (Pv:Nat->WR V->Hp->Prop) (h0:Pv 0 [] H) (hl:∀i ys H,i<=(j-l).toNat->Pv i ys H->ys.length<=i)
  (hs:∀(i:Nat) ys H,l+(i:Int)<j->Pv i ys H->∀R:WR V->Hp->Prop,(∀ys' H',Pv (i+1) ys' H'->R ys' H')->tt (some (.int (l+i))::bg fs Z) H λb H2=>if b=true then te (some (.int (l+i))::bg fs Z) H2 λy H3=>R (ys++[y]) H3 else R ys H2)
  (hd:∀ys H,Pv (j-l).toNat ys H->∀p,H p=none->Q (.ref p) (upd H p (.lst ys))):dw (uM ta) fs tt te Z H Q:=by
 refine ha _ ⟨l,j,rfl,⟨hl0,hl1,hlo,hhi⟩,?_⟩;exact uX (lo:=l) (n:=(j-l).toNat) Pv h0 hl hn (λi ys H hi p=>hs i ys H (by omega) p) hd
theorem E4{ta:TA}{fs:WM}{tt:TT}{te:TE}{Z:St}{H:Hp}{Q:VK}{j:Int}(ha:∀Q:WR V->Hp->Prop,Q [.int j] H->ta Z H Q)(hlo:-(2^62)<=j)(hhi:j<2^62)(hn:j.toNat<=sizeLine)
  (Pv:Nat->WR V->Hp->Prop) (h0:Pv 0 [] H) (hl:∀i ys H,i<=j.toNat->Pv i ys H->ys.length<=i)
  (hs:∀(i:Nat) ys H,(i:Int)<j->Pv i ys H->∀R:WR V->Hp->Prop,(∀ys' H',Pv (i+1) ys' H'->R ys' H')->tt (some (.int i)::bg fs Z) H λb H2=>if b=true then te (some (.int i)::bg fs Z) H2 λy H3=>R (ys++[y]) H3 else R ys H2)
  (hd:∀ys H,Pv j.toNat ys H->∀p,H p=none->Q (.ref p) (upd H p (.lst ys))):dw (jW ta) fs tt te Z H Q:=by
 refine ha _ ⟨j,rfl,hlo,hhi,?_⟩;refine uX (lo:=0) (n:=j.toNat) Pv h0 hl hn (λi ys H hi p=>?_) hd;rw[Int.zero_add];exact hs i ys H (by omega) p
theorem zb{tl:TE}{fs:WM}{tt:TT}{te:TE}{Z:St}{H:Hp}{Q:VK}{l:WM}(ha:∀Q:VK,Q (.str (txt l)) H->tl Z H Q)(hn:l.length<=sizeLine)
  (Pv:Nat->WR V->Hp->Prop) (h0:Pv 0 [] H) (hl:∀i ys H,i<=l.length->Pv i ys H->ys.length<=i)
  (hs:∀i c ys H,l[i]?=some c->Pv i ys H->∀R:WR V->Hp->Prop,(∀ys' H',Pv (i+1) ys' H'->R ys' H')->tt (some (.str (txt [c]))::bg fs Z) H λb H2=>if b=true then te (some (.str (txt [c]))::bg fs Z) H2 λy H3=>R (ys++[y]) H3 else R ys H2)
  (hd:∀ys H,Pv l.length ys H->∀p,H p=none->Q (.ref p) (upd H p (.lst ys))):dw (C3 tl) fs tt te Z H Q:=ha _ ⟨l,rfl,J0 Pv h0 hl hn hs hd⟩
theorem bG{K:W.Frag}{H:Hp}{a:Addr}{xs:WR V}{Q:VK}(hS:aZ K H a xs)(q:Q (.int xs.length) H):b5 K [.ref a] H Q:=⟨a,xs,rfl,.inl hS,q⟩
theorem oF{K:W.Frag}{H:Hp}{a:Addr}{ns:WR Int}{Q:VK}(hS:aZ K H a (ns.map V.int))(q:Q (.int ns.length) H):b5 K [.ref a] H Q:=⟨a,_,rfl,.inl hS,by rw[length_map];exact q⟩
theorem iG{H:Hp}{l:WM}{Q:VK}(hz:l.length<=100000)(q:Q (.int l.length) H):oB [.str (txt l)] H Q:=⟨l,rfl,Nat.le_trans hz (by decide),q⟩
theorem C4{K:W.Frag}{H:Hp}{a:Addr}{ns:WR Int}{i:Int}{Q:VK}(hS:aZ K H a (ns.map V.int))(h0:0<=i)(h1:i<ns.length)(q:∀z,z∈ns->ns[i.toNat]?=some z->Q (.int z) H):bY K (.ref a) (.int i) H Q:=by
 obtain⟨n,rfl⟩:=eq_ofNat_of_zero_le h0;have hn:n<ns.length:=by omega
 have e:ns[n]?=some ns[n]:=getElem?_eq_getElem hn;exact⟨a,_,(n:Int),.int ns[n],rfl,rfl,hS,yR (by rw[getElem?_map,e];rfl),q _ (getElem_mem hn) (by simpa using e)⟩
theorem bq{K:W.Frag}{H:Hp}{a:Addr}{xs:WR V}{i:Int}{v:V}{Q:VK}(hS:aZ K H a xs)(h0:0<=i)(h:xs[i.toNat]?=some v)(q:Q v H):bY K (.ref a) (.int i) H Q:=
 ⟨a,xs,i,v,rfl,rfl,hS,E3 h0 h,q⟩
theorem bH{K:W.Frag}{H:Hp}{a:Addr}{xs:WR V}{i:Int}{v:V}{Q:VK}(hS:ff K H a xs)(h0:0<=i)(h:xs[i.toNat]?=some v)(q:Q v H):dF K (.ref a) (.int i) H Q:=
 ⟨a,xs,i,v,rfl,rfl,hS,E3 h0 h,q⟩
theorem C5{H:Hp}{l:WM}{i:Int}{c:Nat}{Q:VK}(hz:l.length<=100000)(h0:0<=i)(h:l[i.toNat]?=some c)(q:Q (.str (txt [c])) H):m5 (.str (txt l)) (.int i) H Q:=by
 obtain⟨n,rfl⟩:=eq_ofNat_of_zero_le h0;exact⟨l,n,c,rfl,rfl,Nat.le_trans hz (by decide),by simpa using h,q⟩
theorem uZ{H:Hp}{i:Int}{Q:VK}(h0:0<=i)(h1:i<26)(q:Q (.str (txt [97+i.toNat])) H):m5 (.str (txt xE)) (.int i) H Q:=
 C5 (by rw[oz];decide) h0 (QM (by omega)) q
theorem zc{H:Hp}{l m:WM}{Q:VK}(hz:l.length+m.length<=100000)(q:Q (.str (txt (l++m))) H):Bq (.str (txt l)) (.str (txt m)) H Q:=⟨l,m,rfl,rfl,Nat.le_trans hz (by decide),q⟩
theorem E5{c:Nat}(h0:97<=c)(h1:c<123):c∈xE/\xE.idxOf c=c-97:=by
 have h:∀d:Fin 26,(97+d.val)∈xE/\xE.idxOf (97+d.val)=d.val:=by decide
 have e:=h ⟨c-97,by omega⟩;have e2:97+(c-97)=c:=by omega
 simp only[e2] at e;exact e
theorem yi{H:Hp}{c:Nat}{Q:VK}(h0:97<=c)(h1:c<123)(q:Q (.int (c-97:Nat)) H):yZ (.str (txt xE)) [.str (txt [c])] H Q:=
 ⟨xE,c,rfl,rfl,(E5 h0 h1).1,by rw[(E5 h0 h1).2];exact q⟩
theorem C6{i j:Int}(h1:-18446744073709551616<i)(h2:i<18446744073709551616):jX i j:=.l (by omega) (by omega)
theorem iQ{i j:Int}(h1:-18446744073709551616<j)(h2:j<18446744073709551616):jX i j:=.r (by omega) (by omega)
theorem cdiv{i j:Int}(h1:0<j)(h2:j<1073741824):NG i j:=⟨h1,h2⟩
theorem zd{H:Hp}{a b:Addr}{xs ys:WR V}{Q:VK}(h1:H a=some (.lst xs))(h2:H b=some (.lst ys))(hz:xs.length+ys.length<=100000)(q:∀p,H p=none->Q (.ref p) (upd H p (.lst (xs++ys)))):yU (.ref a) (.ref b) H Q:=
 ⟨a,b,xs,ys,rfl,rfl,h1,h2,Nat.le_trans hz (by decide),q⟩
theorem fQ{H:Hp}{l:Addr}{xs:WR V}{y:V}{Q:VK}(h:H l=some (.lst xs))(hz:xs.length<100000)(q:Q .non (upd H l (.lst (xs++[y])))):fq (.ref l) [y] H Q:=
 ⟨l,xs,y,rfl,rfl,h,lt_of_lt_of_le hz (by decide),q⟩
theorem HW{H:Hp}{l m:WM}{Q:VK}(hz:l.length<=100000)(q:Q (.str (txt (fX (λc=>m.contains c) l))) H):yY (.str (txt l)) [.str (txt m)] H Q:=⟨l,m,rfl,rfl,Nat.le_trans hz (by decide),q⟩
theorem QV{H:Hp}{l:WM}{lo hi:Option Int}{Q:VK}(hz:l.length<=100000)(q:Q (.str (txt (Bh l lo hi))) H):QC (.str (txt l)) lo hi H Q:=⟨l,rfl,Nat.le_trans hz (by decide),q⟩
theorem N6{l:WM}{k:Int}(h0:0<=k)(h1:k<=l.length):Bh l none (some k)=l.take k.toNat:=by
 obtain⟨n,rfl⟩:=eq_ofNat_of_zero_le h0;unfold Bh;rw[HT.uS,HT.yO,drop_zero,Nat.sub_zero];congr 1;simp;omega
theorem u0{c:TT}{tb:TS}{D:Ends}{Z:St}{H:Hp}(Pv:Nat->St->Hp->Prop)(m0:Nat)(h0:Pv m0 Z H)
  (hs:∀m Z H,Pv m Z H->∀R:Bool->Hp->Prop,(∀H1,tb {D with nx:=λσ' H'=>∃m',m'<m/\Pv m' σ' H',ct:=λσ' H'=>∃m',m'<m/\Pv m' σ' H',bk:=D.nx} Z H1->R true H1)->(∀H1,D.nx Z H1->R false H1)->c Z H R):qk c tb D Z H:=by
 refine⟨Pv,⟨m0,h0⟩,λm Z H p=>?_⟩;refine hs m Z H p _ (λH1 h=>?_) (λH1 h=>?_)
 .exact⟨_,λσ' H' h=>h,h⟩
 .exact h
structure QE(X:Cx)(e:Expr)(t:TE):Prop where p:PE X e t
structure QT(X:Cx)(e:Expr)(t:TT):Prop where p:PT X e t
structure QW(X:Cx)(e:Expr)(t:TT):Prop where p:PW X e t
structure QA(X:Cx)(es:WR Expr)(t:TA):Prop where p:PA X es t
structure QS(X:Cx)(st:Stmt)(t:TS):Prop where p:PS X st t
structure Jr(X:Cx)(st:WR Stmt)(t:TS):Prop where p:CD X st t
structure QG(X:Cx)(tg:Expr)(t:TG):Prop where p:PG X tg t
structure Vz(X:Cx)(ts:WR Expr)(t:Nk):Prop where p:SW X ts t
structure QI(X:Cx)(tg iter:Expr)(t:TI):Prop where p:PI X tg iter t
structure QO(X:Cx)(e:Option Expr)(t:TO):Prop where p:PO X e t
structure SH(X:Cx)(ifs:WR Expr)(t:TT):Prop where p:JU X ifs t
section
variable{X:Cx}{e o a b iter tg:Expr}{es:WR Expr}{te to ta tb:TE}{t u:TA}{x:Str}{p pos pos':Pos}
theorem kv(i:Nat)(hN:X.N[i]?=some x:=by rfl')(hv:X.env.scope.names.lookup x=some .local:=by rfl')(hd:(x==("__debug__":Str))=false:=by rfl')
  (hcd:(x==("__classdict__":Str))=false:=by rfl'):QE X (.Name x pos) (ai i):=⟨Jx hN (.inl hv) hd hcd⟩
theorem jk(i:Nat)(hN:X.N[i]?=some x:=by rfl')(hv:X.env.scope.names.lookup x=some .cell:=by rfl')(hd:(x==("__debug__":Str))=false:=by rfl')
  (hcd:(x==("__classdict__":Str))=false:=by rfl'):QE X (.Name x pos) (ai i):=⟨Jx hN (.inr (.inl hv)) hd hcd⟩
theorem aA{i:Int}{j:Nat}:QE X (.Constant (.int i) j pos) (tC (.int i)):=⟨P4⟩
theorem gT{c:Bool}{j:Nat}:QE X (.Constant (.bool c) j pos) (tC (.bl c)):=⟨SQ⟩
theorem qy{j:Nat}:QE X (.Constant .none j pos) (tC .non):=⟨P5⟩
theorem bK{y:Str}{l:WM}{j:Nat}(h:y=txt l:=by rfl'):QE X (.Constant (.str y) j pos) (tC (.str (txt l))):=⟨QL h⟩
theorem ao:QA X [] az:=⟨yN⟩
theorem af(ha:QE X e te)(hr:QA X es t)(hs:starEach (e::es) X.env=(false,eval e X.env)::starEach es X.env:=by rfl'):QA X (e::es) (ah te t):=⟨nZ ha.p hr.p hs⟩
theorem gw{y:Str}{l:WM}(hm:∃t,X.mg x=some (.str y t))(e:y=txt l)(hg:X.env.kindOf x=some .globalImplicit:=by rfl')(hd:(x==("__debug__":Str))=false:=by rfl'):QE X (.Name x pos) (tC (.str (txt l))):=⟨N4 hg hm e hd⟩
theorem E6{CX:AZ}{k:Nat}{f:Addr}{fd:FuncData}{ps:WR Str}{sp:Sp}{E:XK}(F:gK X.prog X.w X.K X.mg X.base CX k f fd ps sp)(hr:b6 k X.A)(hm:X.mg x=some (.ref f))(hk:W.keepIn X.K (.ref f)=true)(hb:Binds X.K fd ps [])(hx:Passes CX X E)
  (ha:QA X (e::es) t) (hg:X.env.kindOf x=some .globalImplicit:=by rfl') (hdb:(x==("__debug__":Str))=false:=by rfl') (he:starEach (e::es) X.env=(false,eval e X.env)::starEach es X.env:=by rfl') (hpl:(backTo pos (starEach es X.env)).any (·.1)=false:=by rfl'):
  QE X (.Call (.Name x p) (e::es) [] pos) (aF sp [] E t):=⟨NL F hr hg hm hk hb .nil hx ha.p hdb he hpl⟩
theorem aM{id:String}{r:WR V->Hp->VK->Prop}(hc:fh X (.builtin id) r)(hm:X.mg x=none)(hv:bootBuiltins x=some (.builtin id))(ha:QA X (e::es) t)
  (hg:X.env.kindOf x=some .globalImplicit:=by rfl') (hn:decide (x = "__name__")=false:=by rfl') (hdb:(x==("__debug__" :Str))=false:=by rfl')
  (he:starEach (e::es) X.env=(false,eval e X.env)::starEach es X.env:=by rfl') (hpl:(backTo pos (starEach es X.env)).any (·.1)=false:=by rfl'):
  QE X (.Call (.Name x p) (e::es) [] pos) (dj r t):=⟨uR hc hg hm hv ha.p (of_decide_eq_false hn) hdb he hpl⟩
theorem cC{T:String}{r:WR V->Hp->VK->Prop}(hc:fh X (.type T) r)(hm:X.mg x=none)(hv:bootBuiltins x=some (.type T))(ha:QA X (e::es) t)
  (hg:X.env.kindOf x=some .globalImplicit:=by rfl') (hn:decide (x = "__name__")=false:=by rfl') (hdb:(x==("__debug__" :Str))=false:=by rfl')
  (he:starEach (e::es) X.env=(false,eval e X.env)::starEach es X.env:=by rfl') (hpl:(backTo pos (starEach es X.env)).any (·.1)=false:=by rfl'):
  QE X (.Call (.Name x p) (e::es) [] pos) (dj r t):=⟨ye hc hg hm hv ha.p (of_decide_eq_false hn) hdb he hpl⟩
theorem aR{op:Operator}{r:R2}(ho:mG X (binaryOp op) r)(ha:QE X a ta)(hb:QE X b tb):QE X (.BinOp a op b pos) (aS r ta tb):=⟨SX ho ha.p hb.p⟩
theorem jl{op}{t:TE}(h:QE X a t):QE X (.BoolOp op [a] pos) t:=⟨Qd h.p⟩
theorem iR{rest:WR Expr}(ha:QE X a ta)(hb:QE X (.BoolOp .And (b::rest) pos) tb):QE X (.BoolOp .And (a::b::rest) pos) (iA ta tb):=⟨Qf ha.p hb.p⟩
theorem To{rest:WR Expr}(ha:QE X a ta)(hb:QE X (.BoolOp .Or (b::rest) pos) tb):QE X (.BoolOp .Or (a::b::rest) pos) (Jz ta tb):=⟨SS ha.p hb.p⟩
theorem kB{c:Expr}{tc:TT}(hc:QT X c tc)(ha:QE X a ta)(hb:QE X b tb):QE X (.IfExp c a b pos) (Nu tc ta tb):=⟨JA hc.p ha.p hb.p⟩
theorem gU(h:QA X es t):QE X (.List es pos) (mU t):=⟨Qo h.p⟩
theorem dX{x1}(h:QA X es t):QE X (.Tuple es x1 pos) (iZ t):=⟨Qn h.p⟩
theorem jm:QO X none fV:=⟨NQ⟩
theorem jo(h:QE X e te):QO X (some e) (mH te):=⟨NR h.p⟩
theorem gW{p2:Pos}{lo hi:Option Expr}{tl th:TO}{r:V->Option Int->Option Int->Hp->VK->Prop}(hr:Vx X r)(he:QE X e te)(hl:QO X lo tl)(hu:QO X hi th):QE X (.Subscript e (.Slice lo hi none p2) pos) (Nm r te tl th):=⟨JO hr he.p hl.p hu.p⟩
theorem aQ{r:R2}(hr:SG X r)(ha:QE X a ta)(hb:QE X b tb)(hs:∀o i,subscripted b false o i=operate [o,i] (getItem o i):=by intro _ _;rfl'):QE X (.Subscript a b pos) (aS r ta tb):=⟨Td hr ha.p hb.p hs⟩
variable{name:Str}{apos cpos:Pos}{T id:String}{r:V->WR V->Hp->VK->Prop}
theorem J5(pa:PlainAttrs T)(slot:Slot T name id)(hty:typeOf (.builtin id)=pure (.type "method_descriptor"))(hm:Jq X id r)(ho:QE X o to)
  (hbase:attributeBase o name X.env (eval o X.env)=eval o X.env:=by rfl') (hline:(apos.endLine==cpos.line)=true:=by rfl'):QE X (.Call (.Attribute o name apos) [] [] cpos) (Hz X.K T r to):=⟨Qt pa slot hty hm ho.p hbase hline⟩
theorem gc(pa:PlainAttrs T)(slot:Slot T name id)(hty:typeOf (.builtin id)=pure (.type "method_descriptor"))(hm:Jq X id r)(ho:QE X o to)(ha:QA X (e::es) t)
  (hbase:attributeBase o name X.env (eval o X.env)=eval o X.env:=by rfl')
  (hfew:((backTo cpos (starEach (e::es) X.env)).all (λx=>!x.1)&&(backToKw cpos (keywordEach [] X.env)).all (λx=>x.1.isSome)
   && decide ((e::es).length+([]:WR Keyword).length+(if ([]:WR Keyword).isEmpty then 0 else 1)<30))=true:=by rfl')
  (hline:(apos.endLine==cpos.line)=true:=by rfl') (hs:starEach (e::es) X.env=(false,eval e X.env)::starEach es X.env:=by rfl') (hplain:(backTo cpos (starEach es X.env)).any (·.1)=false:=by rfl'):
  QE X (.Call (.Attribute o name apos) (e::es) [] cpos) (xD X.K T r to t):=⟨Te pa slot hty hm ho.p ha.p hbase hfew hline hs hplain⟩
theorem fy(h:QE X e te)(he:∀whole,isTrue e X.env whole=(do let v <-whole;standAt e.pos;holding [v] (truthy v)):=by intro _;rfl'):QT X e (tB te):=⟨P8 h.p he⟩
theorem bf{op:CmpOp}{r:R2}(ho:mG X (compareOp op) r)(ha:QE X a ta)(hb:QE X b tb)(hm:behindInMarks op b=false:=by rfl'):QT X (.Compare a [op] [b] pos) (bD (aS r ta tb)):=⟨NI ho ha.p hb.p hm⟩
theorem c8{op:CmpOp}{r:R2}(ho:mG X (compareOp op) r)(ha:QE X a ta)(hb:QE X b tb)(hm:behindInMarks op b=false:=by rfl'):QE X (.Compare a [op] [b] pos) (aS r ta tb):=⟨NH ho ha.p hb.p hm⟩
theorem m6{j:Nat}{pos'':Pos}(ha:QE X e te):QT X (.Compare e [.Is] [.Constant .none j pos''] pos) (tB (uI te)):=⟨Jy (P7 ha.p) (uH _ (by decide) (by decide))⟩
theorem fz{j:Nat}{pos'':Pos}(ha:QE X e te):QT X (.Compare e [.IsNot] [.Constant .none j pos''] pos) (tB (iY te)):=⟨Jy (Nr ha.p) (uH _ (by decide) (by decide))⟩
variable{tA tB':TT}{rest:WR Expr}
theorem jq(ha:QT X a tA):QT X (.UnaryOp .Not a pos) (qi tA):=⟨Qc ha.p⟩
theorem jr(ha:QT X a tA):QW X (.BoolOp .And [a] pos) tA:=⟨Nt ha.p⟩
theorem fC(ha:QT X a tA):QW X (.BoolOp .Or [a] pos) tA:=⟨P9 ha.p⟩
theorem jt(ha:QT X a tA)(hb:QW X (.BoolOp .And (b::rest) pos) tB'):QW X (.BoolOp .And (a::b::rest) pos) (qh tA tB'):=⟨Qa ha.p hb.p⟩
theorem gX(ha:QT X a tA)(hb:QW X (.BoolOp .Or (b::rest) pos) tB'):QW X (.BoolOp .Or (a::b::rest) pos) (AM tA tB'):=⟨SR ha.p hb.p⟩
theorem iS(h:QW X e tA):QT X e tA:=⟨h.p.pt⟩
theorem cL:SH X [] gO:=⟨NU⟩
theorem fD{c:Expr}{t:TT}(h:QT X c t):SH X [c] t:=⟨NV h.p⟩
theorem eY{ta:TA}(hm:X.mg "range" =none)(ha:QA X [a] ta)(hg:X.env.kindOf "range" =some .globalImplicit:=by rfl')(hs:starEach [a] X.env=[(false,eval a X.env)]:=by rfl'):QI X tg (.Call (.Name "range" p) [a] [] pos) (jW ta):=⟨Hs hg hm ha.p hs⟩
theorem qz{ta:TA}(hm:X.mg "range" =none)(ha:QA X [a,b] ta)(hg:X.env.kindOf "range" =some .globalImplicit:=by rfl')(hs:starEach [a,b] X.env=[(false,eval a X.env),(false,eval b X.env)]:=by rfl')(hs2:starEach [b] X.env=[(false,eval b X.env)]:=by rfl'):QI X tg (.Call (.Name "range" p) [a,b] [] pos) (uM ta):=⟨Ht hg hm ha.p hs hs2⟩
theorem bI{tl:TE}(hl:QE X a tl):QI X tg a (bV X.K tl):=⟨NC hl.p⟩
theorem ze{tl:TE}(hl:QE X a tl):QI X tg a (C3 tl):=⟨QJ hl.p⟩
theorem dO{elt:Expr}{px:Pos}{ifs:WR Expr}{scope:Scope}(fs:WR (Str×Nat)){wi:TI}{tt:TT}{te:TE}
  (hi:QI X (.Name x px) iter wi)
  (hb:∀(cl:WR (Str×Addr)) (C:Addr) (s₀:Shared) (H₀:Hp) (ex:WR Addr),SH (b9 X scope cl C (x::fs.map (·.1)) s₀ H₀ ex) ifs tt/\QE (b9 X scope cl C (x::fs.map (·.1)) s₀ H₀ ex) elt te)
  (hc:X.calm=true:=by rfl') (hk:scope.kind=.function:=by rfl') (hl:gR scope.names X.env.scope.names X.N x fs=true:=by rfl')
  (hs:∀x,foldedSetIterable iter X.env x=pure x:=by intro _;rfl'):
  QE X (.ListComp elt [⟨.Name x px,iter,ifs,0⟩] scope pos) (dw wi (fs.map (·.2)) tt te):=⟨JY fs hc hi.p (λcl C s₀ H₀ ex=>⟨(hb cl C s₀ H₀ ex).1.p,(hb cl C s₀ H₀ ex).2.p⟩) hk hl hs⟩
theorem iH{i:Nat}{y:Str}{py spos:Pos}{elt:Expr}{px:Pos}{ifs:WR Expr}{scope:Scope}(fs:WR (Str×Nat)){wi:TI}{tt:TT}{te:TE}
  (hN:X.N.Nodup) (hi:QI X (.Name x px) iter wi)
  (hb:∀(cl:WR (Str×Addr)) (C:Addr) (s₀:Shared) (H₀:Hp) (ex:WR Addr),SH (b9 X scope cl C (x::fs.map (·.1)) s₀ H₀ ex) ifs tt/\QE (b9 X scope cl C (x::fs.map (·.1)) s₀ H₀ ex) elt te)
  (hy:X.N[i]?=some y:=by rfl') (hyl:X.env.scope.names.lookup y=some .local:=by rfl') (hc:X.calm=true:=by rfl')
  (hk:scope.kind=.function:=by rfl') (hl:gR scope.names X.env.scope.names X.N x fs=true:=by rfl')
  (hsw:swapsWith (.ListComp elt [⟨.Name x px,iter,ifs,0⟩] scope pos) (some (.Name y py)) spos.line X.env=pure true:=by rfl')
  (hs:∀x,foldedSetIterable iter X.env x=pure x:=by intro _;rfl'):
  QS X (.Assign [.Name y py] (.ListComp elt [⟨.Name x px,iter,ifs,0⟩] scope pos) spos) (cX i wi (fs.map (·.2)) tt te):=⟨JZ fs hN hy hyl hc hi.p (λcl C s₀ H₀ ex=>⟨(hb cl C s₀ H₀ ex).1.p,(hb cl C s₀ H₀ ex).2.p⟩) hk hl hsw hs⟩
variable{st:Stmt}{sts:WR Stmt}{t1 t2:TS}
theorem bz:Jr X [] b8:=⟨Nx⟩
theorem aj(h1:QS X st t1)(h2:Jr X sts t2):Jr X (st::sts) (aJ t1 t2):=⟨JC h1.p h2.p⟩
theorem au(h1:QS X st t1):Jr X [st] t1:=⟨Ny h1.p⟩
theorem aE{i:Nat}(hN:X.N.Nodup)(he:QE X e te)(hi:X.N[i]?=some x:=by rfl')(hx:X.env.scope.names.lookup x=some .local:=by rfl')(hs:swapsWith e (some (.Name x pos')) pos.line X.env=pure false:=by rfl'):
  QS X (.Assign [.Name x pos'] e pos) (aY te (aG i)):=⟨JF hN hi (.inl hx) he.p hs (.inr hx)⟩
theorem oG{i:Nat}(hN:X.N.Nodup)(he:QE X e te)(hi:X.N[i]?=some x:=by rfl')(hx:X.env.scope.names.lookup x=some .cell:=by rfl')(hs:swapsWith e (some (.Name x pos')) pos.line X.env=pure false:=by rfl')(hf:X.fn x=true:=by rfl'):
  QS X (.Assign [.Name x pos'] e pos) (aY te (aG i)):=⟨JF hN hi (.inr hx) he.p hs (.inl hf)⟩
theorem br(he:QE X e te)(hs:swapsWith e none pos.line X.env=pure false:=by rfl'):QS X (.Expr e pos) (bR te):=⟨Nz he.p hs⟩
theorem aP(he:QE X e te):QS X (.Return (some e) pos) (bA te):=⟨Qg he.p⟩
theorem bT{c:Expr}{l1 l2:WR Stmt}{tc:TT}(hc:QT X c tc)(ha:Jr X l1 t1)(hb:Jr X l2 t2):QS X (.If c l1 l2 pos) (cW tc t1 t2):=⟨SV hc.p ha.p hb.p⟩
theorem vc{c:Expr}{body:WR Stmt}{tc:TT}(hc:QT X c tc)(hb:Jr X body t1)(hp:PassesOwn (model X.prog X.w) X.A X.env X.xe:=by exact PassesOwn.never):QS X (.While c body [] pos) (qk tc t1):=⟨JG hp hc.p hb.p⟩
theorem oH:QS X st qj:=⟨JD⟩
theorem cF{i:Nat}(hN:X.N.Nodup)(hi:X.N[i]?=some x:=by rfl')(hx:X.env.scope.names.lookup x=some .local:=by rfl'):QG X (.Name x pos) (aG i):=⟨tU hN hi (.inl hx) (.inr hx)⟩
theorem eS{body:WR Stmt}{wi:TI}{g:TG}{tb:TS}(hi:QI X tg iter wi)(hg:QG X tg g)(hb:Jr X body tb)(hp:PassesOwn (model X.prog X.w) X.A X.env X.xe:=by exact PassesOwn.never)(hc:X.calm=true:=by rfl')(hs:∀x,foldedSetIterable iter X.env x=pure x:=by intro _;rfl'):QS X (.For tg iter body [] pos) (iy wi g tb):=⟨Qh hp hc hi.p hg.p hb.p hs⟩
theorem zf:Vz X [] AW:=⟨EJ⟩
theorem i6{t:TG}{u:Nk}(h1:QG X e t)(h2:Vz X es u)(hs:(assignEach (e::es) X.env).map (·.2)=assign e X.env::(assignEach es X.env).map (·.2):=by rfl'):Vz X (e::es) (kh t u):=⟨uK h1.p h2.p hs⟩
theorem C7{k:Nat}{t:Nk}{n:Nat}(h:Vz X es t)(hc:X.calm=true:=by rfl')(hn:(assignEach es X.env).length=n:=by rfl')(hst:(assignEach es X.env).findIdx? (·.1)=none:=by rfl'):QG X (.Tuple es k pos) (AX X.K n t):=⟨JE hc h.p hn hst⟩
end
theorem EX.gf{P:Program}{w:World}{K:W.Frag}{mg:Str->Option Value}{base:Heap}{x qual:Str}{st:Stmt}{f:Addr}{fd:FuncData}{N ps:WR Str}{k:Nat}{sp:Sp}(F:EX K x qual st f fd)(S:aK N ps (aB st)){rd:TS}(len:∀vs H Q E,sp vs H Q E->vs.length=ps.length)
  (hb:∀(cdv:Value) (A:Around) (outer:WR Env) (s:Shared) (H:Hp) (E:XK),b6 k (A.deeper (envOfC qual (aB st) s.heap.objs.size f cdv))->Jr (mV fc P w K mg base N qual (aB st) f cdv A outer s H E).Nv (fu st) rd)
  (hq:∀(vs:WR V) (H:Hp) (Q:VK) (E:XK),sp vs H Q E->rd {nx:=λ_ H'=>Q .non H',rt:=Q} (start N vs) H):gK P w K mg base fc (k+1) f fd ps sp:=
 F.ok S len λcdv A outer s H vs Q E hr h=>⟨rd,(hb cdv A outer s H E hr).p,hq vs H Q E h⟩
section
variable{X:Cx}
abbrev Br(K:W.Frag):WR V->Hp->VK->Prop:=λxs H Q=>∃p,∃bs:WR Bool,xs=[.ref p]/\aZ K H p (bs.map V.bl)/\Q (.bl (bs.all id)) H
theorem all_range{bs:WR Bool}:(List.range bs.length).all (λi=>bs.getD i true)=bs.all id:=by
 rw[Bool.eq_iff_iff,all_eq_true,all_eq_true];constructor
 .intro h b hb;obtain⟨i,hi,rfl⟩:=List.getElem_of_mem hb;have:=h i (mem_range.mpr hi);simpa [getD_eq_getElem?_getD,hi] using this
 .intro h i hi;have hi':=mem_range.mp hi;have:=h bs[i] (getElem_mem hi');simpa [getD_eq_getElem?_getD,hi'] using this
theorem lK(hc:X.calm=true):fh X (.builtin "all") (Br X.K):=by
 intro Z0 s Z H xs us Q I r h;obtain⟨p,bs,rfl,hS,q⟩:=h;obtain⟨u,rfl,ru⟩:=vals1 r;obtain rfl:u=Value.ref p:=ru;obtain⟨its,rv,pl,hz⟩:=I.list hS;have hlen:its.length=bs.length:=by rw[<-rv.length,length_map]
 refine call_all_walk (wpAny_pyIter_list pl.isList ?_);have hne:p≠s.heap.objs.size:=ne_of_lt (by obtain⟨o,e,_⟩:=pl.isList;exact Heap.lt_size e);refine⟨s.heap.objs.size,_,_,_,_,_,λi=>bs.getD i true,rfl,Walks.list (A:=X.A.in1) (show X.A.in1.handled=none from I.ok.hd hc) s.heap.objs.size p hne its.toArray,⟨⟨_,Heap.get?_push_size _ rfl,rfl,rfl⟩,pl.isList.at λo e=>Heap.get?_push_of_some _ e⟩,?_,λh' tk hk=>?_⟩
 .intro i v s' Q' E' hv hq;have hv':its[i]?=some v:=by simpa using hv
  have hi:i<bs.length:=by rw[<-hlen];exact(List.getElem?_eq_some_iff.mp hv').1
  obtain⟨u',hu',ru'⟩:=rv.get (i:=i) (x:=.bl bs[i]) (by rw[getElem?_map,getElem?_eq_getElem hi];rfl);rw[hv'] at hu';cases hu';obtain rfl:v=Value.bool bs[i]:=ru';refine wpAny_truthy_bool ?_;have e:bs.getD i true=bs[i]:=by simp[getD_eq_getElem?_getD,hi]
  rw[<-e];exact hq
 .have e:(List.range its.toArray.size).all (λi=>bs.getD i true)=bs.all id:=by
   rw[size_toArray,hlen];exact all_range
  refine⟨.bl _,H,I.kept (t':=tk) λb o eb=>hk b o ?_ (Heap.get?_push_of_some _ eb),rfl,by rw[e];exact q⟩;intro hb;have:b=s.heap.objs.size:=by simpa using hb
  subst this;exact absurd (Heap.lt_size eb) (Nat.lt_irrefl _)
def N7(t T:String):Option Bool:=if (Value.type t==Value.type T)=true then some true else if W.kitMeta T=true then(fastBuiltinMro t).map (·.contains (.type T)) else none
theorem J6{K:W.Frag}{t T:String}{b:Bool}(h:N7 t T=some b):W.kitOne K (.type t) (.type T)=some b:=h
theorem vd:N7 "list" "list" =some true:=by rfl'
theorem qA:N7 "tuple" "tuple" =some true:=by rfl'
def Bt(K:W.Frag)(T:String):V->Hp->VK->Prop:=λx H Q=>∃t b,qo K H x (.type t)/\N7 t T=some b/\Q (.bl b) H
def J7(K:W.Frag)(T:String)(ta:TE):TE:=λZ H Q=>ta Z H λx H1=>Bt K T x H1 Q
theorem J8{e:Expr}{te:TE}{y z:Str}{T:String}{p p2 pos:Pos}(hm:X.mg y=none)(hv:bootBuiltins y=some (.builtin "isinstance"))(hm2:X.mg z=none)(hv2:bootBuiltins z=some (.type T))(he:QE X e te)
  (hg:X.env.kindOf y=some .globalImplicit:=by rfl') (hn:decide (y = "__name__")=false:=by rfl') (hdb:(y==("__debug__" :Str))=false:=by rfl')
  (hg2:X.env.kindOf z=some .globalImplicit:=by rfl') (hn2:decide (z = "__name__")=false:=by rfl') (hdb2:(z==("__debug__" :Str))=false:=by rfl')
  (hs1:starEach [e,.Name z p2] X.env=(false,eval e X.env)::starEach [.Name z p2] X.env:=by rfl') (hs2:starEach [.Name z p2] X.env=(false,eval (.Name z p2) X.env)::starEach [] X.env:=by rfl')
  (hpl:(backTo pos (starEach [.Name z p2] X.env)).any (·.1)=false:=by rfl'):
  QE X (.Call (.Name y p) [e,.Name z p2] [] pos) (J7 X.K T te):=by
 have hR:fh X (.builtin "isinstance") (λxs H Q=>∃x,xs=[x,.ty T]/\Bt X.K T x H Q):=by
  intro Z0 s Z H xs us Q I r h;obtain⟨x,rfl,t,b,ty,hk,q⟩:=h;obtain⟨u,w',rfl,ru,rw'⟩:=vals2 r;obtain rfl:w'=Value.type T:=rw';exact Hx I ru ty (J6 hk) λtk=>⟨.bl b,H,I.tok tk,rfl,q⟩
 have hP:=uR (x:=y) (p:=p) (pos:=pos) hR hg hm hv (nZ he.p (nZ (Nq (v:=.ty T) hg2 hm2 hv2 rfl (of_decide_eq_false hn2) hdb2) yN hs2) hs1) (of_decide_eq_false hn) hdb hs1 hpl;refine⟨λZ0 s Z H Q I h=>hP Z0 s Z H Q I ?_⟩;show te Z H λx H1=>_;exact(show (te Z H λx H1=>Bt X.K T x H1 Q)->te Z H (λx H1=>∃x',[x,V.ty T]=[x',.ty T]/\Bt X.K T x' H1 Q) from λq=>by
  have e:(λx H1=>∃x',[x,V.ty T]=[x',.ty T]/\Bt X.K T x' H1 Q)=λx H1=>Bt X.K T x H1 Q:=by
   funext x H1
   refine propext ⟨λ⟨x',e,q⟩=>?_,λq=>⟨x,rfl,q⟩⟩;cases e;exact q
  rw[e];exact q) h
theorem N8{K:W.Frag}{H:Hp}{a:Addr}{xs:WR V}{Q:VK}(h:H a=some (.lst xs))(q:Q (.bl true) H):Bt K "list" (.ref a) H Q:=⟨_,_,.lst h,vd,q⟩
end
structure VO(fs:WR Addr)(H H':Hp)(h B h':Heap):Prop where
 keep:∀b o,h.get? b=some o->H b=none->b∉fs->B.get? b=some o
 slot:∀b o,h.get? b=some o->H b=none->b∈fs->∃sl,h'.get? b=some {o with slots:=sl}
 free:∀b o,h.get? b=some o->H b=none->H' b=none
 there:∀b o,h.get? b=some o->b∉fs->∃o',B.get? b=some o'
 tups:∀b xs,H b=some (.tup xs)->H' b=some (.tup xs)
 frzs:∀b o u,H b=some (.frz o u)->H' b=some (.frz o u)
 tbls:∀b ps,H b=some (.tbl ps)->∃more,H' b=some (.tbl (ps++more))
def ve(h:Heap)(e:Addr)(dd:Option Addr):Prop:=∃o,h.get? e=some o/\o.dict=dd
theorem ve.kept{h h':Heap}{e:Addr}{dd:Option Addr}(x:ve h e dd)(k:DictK.Kept h h'):ve h' e dd:=let ⟨o,a,b⟩:=x;let ⟨o',c,d⟩:=k e o a;⟨o',c,d.trans b⟩
def oJ(P:Program)(w:World):AZ:=λouter H s E e s'=>∃(ea:Addr) (cls:Value) (t:Addr) (H':Hp) (B:Heap) (dd:Option Addr),e=.ref ea/\s'.os=s.os/\AllBare s'.gens/\
 Heap.FlyingW B outer ea cls (.ref t) s'.heap/\jV P w H' B/\VO (frs outer) H H' s.heap B s'.heap/\ve s'.heap ea dd/\E cls dd H'
theorem oK{base h:Heap}{l:WR Env}(f:h.FunFrames base l){b:Addr}(hb:b∈frs l):base.get? b=none/\∃o,h.get? b=some o/\∀vs,o.data≠.fields vs:=f.mem hb
section
variable{P:Program}{w:World}{K:W.Frag}{mg:Str->Option Value}{base:Heap}{N:WR Str}{qual:Str}{scope:Scope}{f:Addr}{cd:Value}{A:Around}{outer:WR Env}{s:Shared}{H:Hp}{E:XK}
theorem gY{Z0:WR (Addr×Obj)}{Z:St}{H2:Hp}{s2:Shared}{h':Heap}{e:Addr}{cls:Value}{vs:WR Value}(I:Inv (mV (oJ P w) P w K mg base N qual scope f cd A outer s H E) Z0 Z H2 s2)
  (hx:Heap.MadeExcOf s2.heap h' e cls vs) (q:E cls none H2):(mV (oJ P w) P w K mg base N qual scope f cd A outer s H E).xe (.ref e) {s2 with heap:=h' }:=by
 generalize eF:frs (mV (oJ P w) P w K mg base N qual scope f cd A outer s H E).stack=F;have hin:∀env∈(mV (oJ P w) P w K mg base N qual scope f cd A outer s H E).stack,∀b,env.frame=some b->b∈F:=λenv he b hb=>by rw[<-eF];exact mem_filterMap.mpr ⟨env,he,hb⟩
 have neL:∀b o,s.heap.get? b=some o->b≠s.heap.objs.size:=λb o e=>ne_of_lt (Heap.lt_size e);have nF:∀b o,s.heap.get? b=some o->b∉frs outer->b∉F:=λb o e hb z=>by
  rw[<-eF] at z
  rcases mem_cons.mp (I.j9 b z) with y|y
  .exact neL b o e y
  .exact hb y
 have gB:∀b o,s2.heap.get? b=some o->b∉F->(W.hideAll s2.heap F).get? b=some o:=λb o e hb=>W.hideAll_get _ e hb;show wpAny _ _ (leaving _ (.ref e)) _ _ _;refine wpAny_mono (DictK.yV (DictK.uU _ _) (wpAny_leaves_madeW (Q:=λ_ s3=>∃h2 t,s3={s2 with heap:=h2}/\Heap.FlyingW (W.hideAll s2.heap F) outer e cls (.ref t) h2/\h'.UpToSlots h2) (base:=W.hideAll s2.heap F) (h:=s2.heap) I.ok.frames rfl (λb o q=>W.of_hideAll _ q) (W.funFrames_hide I.stack hin) hx λh2 t hfl htup hn hsm=>⟨h2,t,rfl,hfl,hsm⟩)) (λ_ s3 q3=>?_) λ_ _ z=>z;obtain⟨⟨h2,t,e3,hfl,hsm⟩,kp⟩:=q3;subst e3;obtain⟨t9,at9,_,_⟩:=hx.there;refine⟨e,cls,t,H2,W.hideAll s2.heap F,none,rfl,I.os,I.bare,hfl,λa o ea=>(I.hok a o ea).stay (λb u hb eu=>gB b u eu λz=>?_) (λc q=>q) (λc xs q=>q),⟨λb o eb n hb=>?_,λb o eb n hb=>?_,λb o eb n=>?_,λb o eb hb=>?_,I.base.tups,I.base.frzs,I.base.tbls⟩,ve.kept ⟨_,at9,rfl⟩ kp,q⟩
 .have hf:=I.tT b (by rw[eF];exact z)
  rcases hb with rfl|hb
  .rw[hf] at ea;cases ea
  .rw[hf] at hb;cases hb
 .exact gB b o (I.base.keep b o eb n hb (not_mem_nil)) (nF b o eb hb)
 .obtain⟨sl,e1⟩:=I.base.slot b o eb n hb (not_mem_nil);obtain⟨_,o2,e2,d2⟩:=oK I.stack (mem_cons_of_mem _ hb:b∈s.heap.objs.size::frs outer);rw[e1] at e2;cases e2;obtain⟨sl',e3⟩:=hsm b _ (hx.keeps _ _ e1) d2;exact⟨sl',e3⟩
 .exact I.base.free b o eb n (not_mem_nil)
 .obtain⟨o',e1⟩:=I.base.there b o eb (not_mem_nil);exact⟨o',gB b o' e1 (nF b o eb hb)⟩
theorem cM:Passes (oJ P w) (mV (oJ P w) P w K mg base N qual scope f cd A outer s H E) E:=by
 rintro Z0 Z H1 s1 e s2 I ⟨ea,cls,t,H2,B,dd,rfl,hos,hg,hfl,hok,ub,dI,q⟩;have neL:∀b o,s.heap.get? b=some o->b≠s.heap.objs.size:=λb o e=>ne_of_lt (Heap.lt_size e);have nF:∀b o,s.heap.get? b=some o->b∉frs outer->b∉frs (mV (oJ P w) P w K mg base N qual scope f cd A outer s H E).stack:=λb o e hb z=>by
  rcases mem_cons.mp (I.j9 b z) with y|y
  .exact neL b o e y
  .exact hb y
 have yF:∀b,b∈frs outer->b∈frs (mV (oJ P w) P w K mg base N qual scope f cd A outer s H E).stack:=λb hb=>(mem_cons_of_mem _ hb:b∈s.heap.objs.size::frs outer);show wpAny _ _ (leaving _ (.ref ea)) _ _ _;refine wpAny_mono (DictK.yV (DictK.uU _ _) (wpAny_leaves_onW (Q:=λ_ s3=>∃h3,s3={s2 with heap:=h3}/\Heap.FlyingW B outer ea cls (.ref t) h3/\s2.heap.UpToSlots h3) I.ok.frames rfl hfl λh3 QX hsm=>⟨h3,rfl,QX,hsm⟩)) (λ_ s3 q3=>?_) λ_ _ z=>z;obtain⟨⟨h3,e3,QX,hsm⟩,kp⟩:=q3;subst e3;refine⟨ea,cls,t,H2,B,dd,rfl,hos.trans I.os,hg,QX,hok,⟨λb o eb n hb=>?_,λb o eb n hb=>?_,λb o eb n=>?_,λb o eb hb=>?_,λb xs e=>ub.tups b xs (I.base.tups b xs e),λb o u e=>ub.frzs b o u (I.base.frzs b o u e),λb ps e=>?_⟩,dI.kept kp,q⟩
 .exact ub.keep b o (I.base.keep b o eb n hb (not_mem_nil)) (I.base.free b o eb n (not_mem_nil)) (nF b o eb hb)
 .obtain⟨sl,e1⟩:=I.base.slot b o eb n hb (not_mem_nil);obtain⟨sl',e2⟩:=ub.slot b _ e1 (I.base.free b o eb n (not_mem_nil)) (yF b hb);obtain⟨_,o2,e3,d3⟩:=oK hfl.2.2.1 (yF b hb);rw[e2] at e3;cases e3;obtain⟨sl2,e4⟩:=hsm b _ e2 d3;exact⟨sl2,e4⟩
 .obtain⟨o',e1⟩:=I.base.there b o eb (not_mem_nil);exact ub.free b o' e1 (I.base.free b o eb n (not_mem_nil))
 .obtain⟨o',e1⟩:=I.base.there b o eb (not_mem_nil);exact ub.there b o' e1 (nF b o eb hb)
 .obtain⟨m1,e1⟩:=I.base.tbls b ps e;obtain⟨m2,e2⟩:=ub.tbls b _ e1;exact⟨m1++m2,by rw[e2,Array.append_assoc]⟩
end
theorem E7{K:W.Frag}{h:Heap}{C:Addr}{bmB:WR Value}{newId:String}(X:K.In h)(q:W.excIn K C bmB newId=true):
  ∃bm N nm qn bs hdct sn sub ab col dd k0 k1 k2 k3 k5 mN,h.get? C=some (excClassObj nm qn C N bs bm hdct sn sub ab col dd k0 k1 k2 k3 k5 newId)/\h.Ns N mN/\mN "__init__" =none/\OwnTail h bmB bm:=by
 unfold W.excIn at q;split at q
 next dd cd sl look=>
  split at q
  next C1 tl a0 a1 a2 a3 nid a5 e1 e2=>
   simp only[and_eq_true,beq_iff_eq,not_eq_true'] at q;obtain⟨⟨⟨⟨⟨q1,q2⟩,q3⟩,q4⟩,q5⟩,q6⟩:=q;subst q1 q2;cases cd;dsimp only at e1 q3 q5 q6;subst e1 q3;have e3:sl = #[a0,a1,a2,a3,some (.builtin nid),a5]:=by
    cases sl;dsimp only at e2;rw[e2]
   subst e3;exact⟨tl,_,_,_,_,_,_,_,_,_,_,_,_,_,_,_,_,X _ _ look,.of_isNs (W.isNs_of_in X q5),W.nsMap_none_of_in X q5 q6,W.tail_of_in X q4⟩
  next=>cases q
 next=>cases q
def iT(cls:Value)(E:XK)(ta:TA):TS:=λ_ Z H=>ta Z H λvs H1=>vs.length<=8/\E cls none H1
section
variable{X:Cx}
theorem J9{x:Str}{e:Expr}{es:WR Expr}{ta:TA}{C:Addr}{B newId initId:String}{bmB:WR Value}{E:XK}{np cpos pos:Pos}(FB:ExcBaseFacts B newId initId bmB)(hC:W.excIn X.K C bmB newId=true)
  (hg:Gl X x) (hm:X.mg x=some (.ref C)) (hc:X.calm=true) (ha:PA X (e::es) ta)
  (hx:∀(Z0:WR (Addr×Obj)) (Z:St) (H2:Hp) (s2:Shared) (h':Heap) (ea:Addr) (vs:WR Value),Inv X Z0 Z H2 s2->Heap.MadeExcOf s2.heap h' ea (.ref C) vs->E (.ref C) none H2->X.xe (.ref ea) {s2 with heap:=h' })
  (hdb:(x==("__debug__":Str))=false) (he:starEach (e::es) X.env=(false,eval e X.env)::starEach es X.env) (hpl:(backTo cpos (starEach es X.env)).any (·.1)=false):
  PS X (.Raise (some (.Call (.Name x np) (e::es) [] cpos)) none pos) (iT (.ref C) E ta):=by
 intro Z0 s Z H D I h;obtain⟨bm,N,nm,qn,bs,hdct,sn,sub,ab,col,dd,k0,k1,k2,k3,k5,mN,hO,hN,hni,TL⟩:=E7 I.mod.kin hC;refine wpAny_Raise_call_subT (C:=C) (nm:=nm) (q:=qn) (N:=N) (bs:=bs) (bm:=bm) (hdct:=hdct) (sn:=sn) (sub:=sub) (ab:=ab) (col:=col) (dd:=dd) (k0:=k0) (k1:=k1) (k2:=k2) (k3:=k3) (k5:=k5)
  FB (mN:=mN) (TL.hasType FB.hasBase) (I.ok.hd hc) (by rw[he];show (false||(backTo cpos (starEach es X.env)).any (·.1))=false;rw[hpl];rfl) hni (lG I hg hm ⟨rfl,?_⟩ hdb)
 have hA:=ha cpos Z0 s Z H _ I h;rw[he] at hA ⊢;refine Calls.evalArgs_plain (cA hA λus s2 ⟨vs,H2,I2,r2,hz,q2⟩=>⟨rfl,?_,I2.bk _ _ hO,hN.keeps I2.bk,TL.keeps I2.bk,λh' ea hmade=>hx Z0 Z H2 s2 h' ea us I2 hmade q2⟩);show us.length<=sizeLine;rw[<-r2.length];exact Nat.le_trans hz (by decide)
end
theorem E8{K:W.Frag}{h:Heap}{C:Addr}{bmB:WR Value}{newId:String}(X:K.In h)(q:W.excIn K C bmB newId=true):
  ∃bm N nm qn bs hdct sn sub ab col dd k0 k1 k2 k3 k5,h.get? C=some (excClassObj nm qn C N bs bm hdct sn sub ab col dd k0 k1 k2 k3 k5 newId)/\OwnTail h bmB bm/\∀v r,W.mroIn K C v=some r->(Value.ref C::bm).contains v=r:=by
 obtain⟨bm,N,nm,qn,bs,hdct,sn,sub,ab,col,dd,k0,k1,k2,k3,k5,mN,hO,hN,hni,TL⟩:=E7 X q;refine⟨bm,N,nm,qn,bs,hdct,sn,sub,ab,col,dd,k0,k1,k2,k3,k5,hO,TL,λv r e=>?_⟩;unfold W.mroIn W.clsIn at e;split at e
 next c d cd sl look=>
  have e2:=X _ _ look;rw[hO] at e2;cases e2;simpa using e
 next=>cases e
theorem Bu{M:Model}{A:Around}{E:Value->Shared->Prop}{h:Heap}{g:Array GenState}{d:Drawn}{t:Nat}{os:OsState}{e C D:Addr}{oe:Obj}{Q:Bool->Shared->Prop}
  {nm q nm' q':Str} {N N':Addr} {bs bm bs' bm':WR Value} {hdct Pu:Bool} {sn sn':WR Str} {sub sub':WR Value} {ab ab':Bool} {col col':Option Bool} {dd dd':Option Addr} {k0 k1 k2 k3 k5 l0 l1 l2 l3 l5:Option Value} {newId newId':String}
  (hC:h.get? C=some (excClassObj nm q C N bs bm hdct sn sub ab col dd k0 k1 k2 k3 k5 newId)) (hD:h.get? D=some (excClassObj nm' q' D N' bs' bm' Pu sn' sub' ab' col' dd' l0 l1 l2 l3 l5 newId')) (he:h.get? e=some oe) (hcls:oe.cls=.ref C)
  (hbase:bm'.contains (.type "BaseException")=true) (hs:(Value.ref C::bm).contains (.ref D)=true) (hq:Q true ⟨h,g,d,t,os⟩):wpAny M A (excMatches (.ref e) (.ref D)) Q E ⟨h,g,d,t,os⟩:=by
 have hcB:(Value.ref D::bm').contains (.type "BaseException")=true:=by rw[List.contains_cons,hbase,Bool.or_true]
 have nt:=tc_notTuple;unfold excMatches
 repeat (first|(with_reducible refine wpAny_loadPart_at he ?_;rw[hcls])|with_reducible refine wpAny_loadPart_at hD ?_|(with_reducible refine wpAny_isSubtype_exc hD ?_;rw[hcB])|(with_reducible refine wpAny_isSubtype_exc hC ?_;rw[hs])|wp_step)
 exact hq
structure Ka(K:W.Frag)(C D:Addr):Prop where
 c:∃bmB newId,W.excIn K C bmB newId=true
 d:∃bmB newId,W.excIn K D bmB newId=true/\bmB.contains (.type "BaseException")=true
 s:W.mroIn K C (.ref D)=some true
def oM(X:Cx)(Φ:St->XK->Prop):Prop:=∀(Z0:WR (Addr×Obj)) (Z:St) (H:Hp) (s:Shared) (E:XK) (e:Value) (s':Shared),Inv X Z0 Z H s->Φ Z E->oJ X.prog X.w X.stack H s E e s'->X.xe e s'
def zg(sp:Sp)(Φ:St->XK->Prop)(t:TA):TE:=λZ H Q=>t Z H λvs H1=>∃E,Φ Z E/\sp vs H1 Q E
section
variable{X:Cx}{e:Expr}{es:WR Expr}{t:TA}{x:Str}{p pos:Pos}
theorem Kc{Φ:St->XK->Prop}{k:Nat}{f:Addr}{fd:FuncData}{ps:WR Str}{sp:Sp}(F:gK X.prog X.w X.K X.mg X.base (oJ X.prog X.w) k f fd ps sp)(hr:b6 k X.A)(hg:Gl X x)(hm:X.mg x=some (.ref f))(hk:W.keepIn X.K (.ref f)=true)(hb:Binds X.K fd ps [])(hx:oM X Φ)
  (ha:PA X (e::es) t) (hdb:(x==("__debug__":Str))=false) (he:starEach (e::es) X.env=(false,eval e X.env)::starEach es X.env) (hpl:(backTo pos (starEach es X.env)).any (·.1)=false):
  PE X (.Call (.Name x p) (e::es) [] pos) (zg sp Φ t):=by
 intro Z0 s Z H Q I h;refine wpAny_Call_Name_kw (lG I hg hm ?_ hdb);refine W.callWith_K (h₀:=X.base) I.ok.mod.kin hk (cA (ha pos Z0 s Z H _ I h) λus s1 ⟨vs,H1,I1,r,q⟩=>⟨I1.nX,?_⟩) he hpl;obtain⟨E,hΦ,q⟩:=q;have hl:us.length=ps.length:=by rw[<-r.length];exact F.len _ _ _ _ q
 have hb2:=hb s1 us I1.nX (by rw[append_nil];exact hl);rw[append_nil] at hb2;refine wpAny_call (codeAny_mono (F.run X.A X.stack s1 H1 ⟨us,[]⟩ us vs Q E hr I1.Qp hb2 r q) λr s' hq=>?_);cases r with
 |error e=>exact hx Z0 Z H1 s1 E e s' I1 hΦ hq
 |ok fl=>
  cases fl with
  |ret u=>exact I1.after hq
  |next=>exact False.elim hq
  |brk=>exact False.elim hq
  |cont=>exact False.elim hq
end
theorem jV.HX{P:Program}{w:World}{H:Hp}{B:Heap}{a:Addr}(hok:jV P w H B)(hno:B.get? a=none):H a=none:=by
 cases e2:H a with
 |none=>rfl
 |some o=>
  have hlt:=hok a o e2;exfalso
  cases o with
  |lst xs=>obtain⟨_,_,_,_,z⟩:=hlt;rw[hno] at z;cases z
  |tup xs=>obtain⟨_,_,_,z⟩:=hlt;obtain⟨_,z,_⟩:=z;rw[hno] at z;cases z
  |dK kvs=>obtain⟨_,_,_,_,_,_,_,z,_⟩:=hlt;rw[hno] at z;cases z
  |dT kvs=>obtain⟨_,_,_,_,_,_,_,z,_⟩:=hlt;rw[hno] at z;cases z
  |set S n=>obtain⟨_,_,_,_,z,_⟩:=hlt;rw[hno] at z;cases z
  |ins C dx fs=>obtain⟨_,_,_,z,_⟩:=hlt;rw[hno] at z;cases z
  |own y=>obtain⟨_,z⟩:=hlt;rw[hno] at z;cases z
  |xd fs=>obtain⟨_,⟨_,_,_,z,_⟩,_⟩:=hlt;rw[hno] at z;cases z
  |rng lo hi=>obtain⟨_,_,_,z⟩:=hlt;rw[hno] at z;cases z
  |frz ob u=>obtain⟨z,_⟩:=hlt;rw[hno] at z;cases z
  |tbl ps=>have z:B.get? a=some _:=hlt;rw[hno] at z;cases z
  |met f y=>have z:B.get? a=some _:=hlt;rw[hno] at z;cases z
  |ext φ=>obtain⟨_,⟨_,z⟩,_⟩:=hlt;rw[hno] at z;cases z
abbrev Cx.hand(X:Cx)(ea:Addr):Cx:={X with A:=X.A.mark (some (.ref ea)),calm:=false,xe:=λ_ _=>False}
abbrev Cx.tried(X:Cx)(xe:Value->Shared->Prop)(pn:WR (Addr×Obj)):Cx:={X with xe:=xe,pn:=pn}
section
variable{X:Cx}{Z0:WR (Addr×Obj)}{Z:St}{H:Hp}{s:Shared}
theorem Inv.hand(I:Inv X Z0 Z H s)(ea:Addr):Inv (X.hand ea) Z0 Z H s:=
 ⟨⟨I.ok.mod,I.ok.kind,I.ok.glob,I.ok.blt,I.ok.above,I.ok.inj,I.ok.has,I.ok.cab,λh=>(nomatch (show false=true from h)),I.ok.frames,I.ok.stk,I.ok.exf,I.ok.bs,I.ok.bsz,I.ok.noex,I.ok.exfs,I.ok.nW,I.ok.frf⟩,I.os,I.bare,I.base,I.loc,I.cell,I.free,I.freeC,I.pin,I.hok,I.len⟩
theorem Inv.zh{ea:Addr}(ok:X.Ok)(I:Inv (X.hand ea) Z0 Z H s):Inv X Z0 Z H s:=⟨ok,I.os,I.bare,I.base,I.loc,I.cell,I.free,I.freeC,I.pin,I.hok,I.len⟩
theorem Inv.tried(I:Inv X Z0 Z H s)(xe:Value->Shared->Prop):Inv (X.tried xe (X.pn++Z0)) [] Z H s:=
 ⟨⟨I.ok.mod,I.ok.kind,I.ok.glob,I.ok.blt,I.ok.above,I.ok.inj,I.ok.has,I.ok.cab,I.ok.hd,I.ok.frames,I.ok.stk,I.ok.exf,I.ok.bs,I.ok.bsz,I.ok.noex,I.ok.exfs,I.ok.nW,I.ok.frf⟩,I.os,I.bare,I.base,I.loc,I.cell,I.free,I.freeC,λp hp=>I.pin p (by simpa using hp),I.hok,I.len⟩
theorem Inv.oN{xe:Value->Shared->Prop}{pins':WR (Addr×Obj)}(ok:X.Ok)(I:Inv (X.tried xe (X.pn++Z0)) pins' Z H s):Inv X Z0 Z H s:=
 ⟨ok,I.os,I.bare,I.base,I.loc,I.cell,I.free,I.freeC,λp hp=>I.pin p (mem_append_left _ hp),I.hok,I.len⟩
theorem vf{e:Addr}{cls a0:Value}{H':Hp}{B h6:Heap}{s':Shared}(I:Inv X Z0 Z H s)(hos:s'.os=s.os)(hg:AllBare s'.gens)(hok:jV X.prog X.w H' B)(ub:VO (frs X.stack) H H' s.heap B s'.heap)
  (hfl0:Heap.FlyingW B X.stack e cls a0 s'.heap) (hfl:Heap.FlyingW B X.stack e cls a0 h6) (hsm:s'.heap.UpToSlots h6):Inv X Z0 Z H' {s' with heap:=h6}:=by
 refine I.Pj (s':={s' with heap:=h6}) (ch:=[]) hos ⟨λb o eb n hb _=>hfl.1 _ _ (ub.keep b o eb n hb),λb o eb n hb _=>?_,λb o eb n _=>ub.free b o eb n,λb o eb _=>?_,ub.tups,ub.frzs,ub.tbls⟩ (hok.kept λb u e=>hfl.1 b u e) hg (λb hb=>absurd hb not_mem_nil)
 .obtain⟨sl,e1⟩:=ub.slot b o eb n hb;obtain⟨_,o2,e3,d3⟩:=oK hfl0.2.2.1 hb;rw[e1] at e3;cases e3;obtain⟨sl2,e4⟩:=hsm b _ e1 d3;exact⟨sl2,e4⟩
 .by_cases hb:b∈frs X.stack
  .obtain⟨_,o2,e3,_⟩:=oK hfl.2.2.1 hb;exact⟨o2,e3⟩
  .obtain⟨o',e1⟩:=ub.there b o eb hb;exact⟨o',hfl.1 _ _ e1⟩
def Taken(K:W.Frag)(D:Addr)(th:Addr->Addr->Hp->Prop):XK:=λcls _ H'=>∃C,cls=.ref C/\Ka K C D/\∀ea,H' ea=none->th ea C H'
def N9(K:W.Frag)(D:Addr)(tb:(St->XK->Prop)->TS)(th:TS):TS:=λDn Z H=>tb (λσ' E=>σ'=Z/\E=Taken K D λ_ _ H'=>th Dn Z H') Dn Z H
theorem HY{x:Str}{D e:Addr}{a0:Value}{d0:Stmt}{suite:WR Stmt}{name:Option Str}{np hpos:Pos}{H':Hp}{B:Heap}{s':Shared}{C:Addr}{Q:Flow->Shared->Prop}{E:Value->Shared->Prop}
  (hg:Gl X x) (hm:X.mg x=some (.ref D)) (hdb:(x==("__debug__":Str))=false) (hst:X.stack=X.env::X.outer) (hfr:X.env.frame=some X.env.locals)
  (I:Inv X Z0 Z H s) (hos:s'.os=s.os) (hgen:AllBare s'.gens) (hok:jV X.prog X.w H' B) (ub:VO (frs X.stack) H H' s.heap B s'.heap) (hfl:Heap.FlyingW B X.stack e (.ref C) a0 s'.heap) (hs:Ka X.K C D)
  (k:∀h6,Heap.FlyingW B X.stack e (.ref C) a0 h6->s'.heap.UpToSlots h6->DictK.Kept s'.heap h6->
   codeAny (model X.prog X.w) (X.A.mark (some (.ref e))) (.handlers (.ref e) [.ExceptHandler none name (d0::suite) hpos] X.env) (λr a8=>match r with
     |.ok f=>(match name with
      |none=>Q f a8
      |some n=>wpAny (model X.prog X.w) X.A (do bindName X.env n .none;unbindBehindTheSuite X.env n hpos) (λ_ a7=>Q f a7) E a8)
     |.error x=>cameBackBy (model X.prog X.w) X.A X.env E x a8) {s' with heap:=h6}):
  wpAny (model X.prog X.w) X.A (noteFrame (.ref e) X.env) (λ_ a8=>wpAny (model X.prog X.w) X.A (setFlight (.ref e) none) (λ_ a7=>
   wpAny (model X.prog X.w) X.A (handleBy (.ref e) X.env [.ExceptHandler (some (.Name x np)) name (d0::suite) hpos]) Q E a7) E a8) E s':=by
 have Tp:=hfl;rw[hst] at Tp;refine wpAny_mono (DictK.yV (DictK.EY _ _) (wpAny_looks_onW (Q:=λ_ s4=>∃h4,s4={s' with heap:=h4}/\Heap.HeldW B (X.env::X.outer) e (.ref C) a0 X.env.locals h4/\s'.heap.UpToSlots h4) (L:=X.env.locals) (by rw[I.ok.frames,hst]) hfr Tp λh4 hh4 sm4=>⟨h4,rfl,hh4,sm4⟩)) (λ_ s4 q4=>?_) λ_ _ z=>z;obtain⟨⟨h4,e4,hh4,sm4⟩,kp4⟩:=q4;subst e4;refine wpAny_mono (DictK.yV (DictK.oh _ _) (wpAny_landsW (Q:=λ_ s5=>∃h5,s5={s' with heap:=h5}/\Heap.FlyingW B (X.env::X.outer) e (.ref C) a0 h5/\h4.UpToSlots h5) hh4 λh5 hf5 sm5=>⟨h5,rfl,hf5,sm5⟩)) (λ_ s5 q5=>?_) λ_ _ z=>z;obtain⟨⟨h5,e5,hf5,sm5⟩,kp5⟩:=q5;subst e5;have QY:=hf5;rw[<-hst] at QY;have I5:=vf I hos hgen hok ub hfl QY (sm4.trans sm5);refine wpAny_handleBy_cons (codeAny_handlers_test ?_) (by intro z;cases z);have I5h:=I5.hand e;refine lG I5h hg hm ?_ hdb;obtain⟨⟨bmB,nid,c1⟩,⟨bmD,WB,c2,c3⟩,c4⟩:=hs;obtain⟨bm,N,nm,qn,bs,hdct,sn,sub,ab,col,dd,k0,k1,k2,k3,k5,oC,TC,mC⟩:=E8 I5.nX c1;obtain⟨bm',N',nm',qn',bs',Pu,sn',sub',ab',col',dd',l0,l1,l2,l3,l5,oD,TD,mD⟩:=E8 I5.nX c2;obtain⟨ob,hob,VP⟩:=hf5.there;obtain⟨hp,gn,dr,tk,os⟩:=s';refine Bu oC oD hob VP (TD.hasType c3) (mC _ _ c4) ?_;exact k h5 QY (sm4.trans sm5) (kp4.trans kp5)
end
section
variable{X:Cx}
theorem Oa{body:WR Stmt}{tb:(St->XK->Prop)->TS}{x:Str}{D:Addr}{d0:Stmt}{suite:WR Stmt}{th:TS}{np hpos pos:Pos}
  (hg:Gl X x) (hm:X.mg x=some (.ref D)) (hdb:(x==("__debug__":Str))=false) (hst:X.stack=X.env::X.outer) (hfr:X.env.frame=some X.env.locals)
  (hb:∀(xe:Value->Shared->Prop) (pn:WR (Addr×Obj)) (Φ:St->XK->Prop),oM (X.tried xe pn) Φ->CD (X.tried xe pn) body (tb Φ))
  (hh:∀ea,CD (X.hand ea) (d0::suite) th):
  PS X (.Try body [.ExceptHandler (some (.Name x np)) none (d0::suite) hpos] [] [] pos) (N9 X.K D tb th):=by
 intro Z0 s Z H Dn I h;refine wpAny_Try_except ?_
 let E0:XK:=Taken X.K D λ_ _ H'=>th Dn Z H'
 let xe:Value->Shared->Prop:=λe s'=>∃H1 s1,Inv X Z0 Z H1 s1/\oJ X.prog X.w X.stack H1 s1 E0 e s'
 have hP:oM (X.tried xe (X.pn++Z0)) (λσ' E=>σ'=Z/\E=E0):=by
  rintro pins' σ' H1 s1 E e s' I1 ⟨rfl,rfl⟩ hc;exact⟨H1,s1,I1.oN I.ok,hc⟩
 have hbody:=hb xe (X.pn++Z0) _ hP [] s Z H Dn (I.tried xe) h;refine wpAny_mono hbody (λfl s' q=>?_) λe s' q=>?_
 .cases fl with
  |next=>obtain⟨σ',H',J,q⟩:=q;exact wpAny_execs_nil ⟨σ',H',J.oN I.ok,q⟩
  |brk=>obtain⟨σ',H',J,q⟩:=q;exact⟨σ',H',J.oN I.ok,q⟩
  |cont=>obtain⟨σ',H',J,q⟩:=q;exact⟨σ',H',J.oN I.ok,q⟩
  |ret u=>obtain⟨v,σ',H',J,r,q⟩:=q;exact⟨v,σ',H',J.oN I.ok,r,q⟩
 .obtain⟨H1,s1,I1,ea,cls,t,H2,B,dd,rfl,hos,hgen,hfl,hok,ub,dI,C,rfl,hsub,q⟩:=q;have hn:=hok.HX hfl.2.1;refine HY hg hm hdb hst hfr I1 hos hgen hok ub hfl hsub λh6 hf6 sm6 _=>?_;refine codeAny_handlers_suite (lands_againW (s:={s' with heap:=h6}) hf6 λh7 hf7 sm7=>?_);have I7:Inv X Z0 Z H2 {s' with heap:=h7}:=vf I1 hos hgen hok ub hfl hf7 (sm6.trans sm7)
  refine wpAny_mono (hh ea Z0 _ Z H2 Dn (I7.hand ea) (q ea hn)) (λfl s8 q8=>?_) (λ_ _ z=>z.elim);cases fl with
  |next=>obtain⟨σ',H',J,q⟩:=q8;exact⟨σ',H',J.zh I.ok,q⟩
  |brk=>obtain⟨σ',H',J,q⟩:=q8;exact⟨σ',H',J.zh I.ok,q⟩
  |cont=>obtain⟨σ',H',J,q⟩:=q8;exact⟨σ',H',J.zh I.ok,q⟩
  |ret u=>obtain⟨v,σ',H',J,r,q⟩:=q8;exact⟨v,σ',H',J.zh I.ok,r,q⟩
end
mutual
inductive Dat (K:W.Frag) (H:Hp):V->PyData->Prop where
 |non:Dat K H .non .none
 |bl (b:Bool):Dat K H (.bl b) (.bool b)
 |int (i:Int):Dat K H (.int i) (.int i)
 |str (x:Str):Dat K H (.str x) (.str x)
 |lst {a:Addr} {xs:WR V} {ds:WR PyData} (h:aZ K H a xs) (t:DatAll K H xs ds):Dat K H (.ref a) (.list ds)
 |tup {a:Addr} {xs:WR V} {ds:WR PyData} (h:ff K H a xs) (t:DatAll K H xs ds):Dat K H (.ref a) (.tuple ds)
inductive DatAll (K:W.Frag) (H:Hp):WR V->WR PyData->Prop where
 |nil:DatAll K H [] []
 |cons {x:V} {xs:WR V} {d:PyData} {ds:WR PyData} (h:Dat K H x d) (t:DatAll K H xs ds):DatAll K H (x::xs) (d::ds)
end
section
variable{X:Cx}{Z0:WR (Addr×Obj)}{Z:St}{H:Hp}{s:Shared}
mutual
theorem Inv.dat(I:Inv X Z0 Z H s):∀{x:V} {d:PyData} {u:Value},Dat X.K H x d->RelV x u->∃as,Reads s.heap u d as
 |_,_,_,.non,r=>by cases (show _=Value.none from r);exact⟨_,.none⟩
 |_,_,_,.bl b,r=>by cases (show _=Value.bool b from r);exact⟨_,.bool b⟩
 |_,_,_,.int i,r=>by obtain⟨t,rfl⟩:=(show ∃t,_=Value.int i t from r);exact⟨_,.int i t⟩
 |_,_,_,.str x,r=>by obtain⟨t,rfl⟩:=(show ∃t,_=Value.str x t from r);exact⟨_,.str x t⟩
 |_,_,_,.lst (a:=a) h t,r=>by
  cases (show _=Value.ref a from r);obtain⟨its,rv,⟨o,n,e,c,_,d⟩,_⟩:=I.list h;obtain⟨as,z⟩:=Inv.C8 I t rv;exact⟨_,.list e c d (by simpa using z)⟩
 |_,_,_,.tup (a:=a) h t,r=>by
  cases (show _=Value.ref a from r);obtain⟨its,rv,⟨o,e,c,n,d⟩,_⟩:=I.tuple h;obtain⟨as,z⟩:=Inv.C8 I t rv;exact⟨_,.tuple e c d (by simpa using z)⟩
theorem Inv.C8(I:Inv X Z0 Z H s):∀{xs:WR V} {ds:WR PyData} {us:WR Value},DatAll X.K H xs ds->Vals xs us->∃as,ReadsAll s.heap us ds as
 |_,_,_,.nil,.nil=>⟨_,.nil⟩
 |_,_,_,.cons h t,.cons r rr=>by
  obtain⟨as,z⟩:=Inv.dat I h r;obtain⟨bs,z'⟩:=Inv.C8 I t rr;exact⟨_,.cons z z'⟩
end
end
abbrev Ob(K:W.Frag):R2:=λx y H Q=>∃da db,Dat K H x da/\Dat K H y db/\SeqAt.shaped da=true/\SeqAt.shaped db=true/\Q (.bl (PyData.eqv da db)) H
abbrev Oc(K:W.Frag):R2:=λx y H Q=>∃da db,Dat K H x da/\Dat K H y db/\SeqAt.shaped da=true/\SeqAt.shaped db=true/\Q (.bl (!PyData.eqv da db)) H
section
variable{X:Cx}
theorem Ke(hu:X.A.units+64<cLine):mG X (compareOp .Eq) (Ob X.K):=by
 intro Z0 s Z H x y v u Q I rx ry h;obtain⟨da,db,h1,h2,s1,s2,q⟩:=h;obtain⟨as,z1⟩:=I.dat h1 rx;obtain⟨bs,z2⟩:=I.dat h2 ry;exact eq_dataH z1 z2 s1 s2 hu ⟨.bl _,H,I,rfl,q⟩
theorem Kf(hu:X.A.units+64<cLine):mG X (compareOp .NotEq) (Oc X.K):=by
 intro Z0 s Z H x y v u Q I rx ry h;obtain⟨da,db,h1,h2,s1,s2,q⟩:=h;obtain⟨as,z1⟩:=I.dat h1 rx;obtain⟨bs,z2⟩:=I.dat h2 ry;exact ne_dataH z1 z2 s1 s2 hu ⟨.bl _,H,I,rfl,q⟩
end
theorem PS.Nv{X:Cx}{st:Stmt}{t:TS}(h:PS X.Nv st t):PS X st t:=λZ0 s Z H D I hw=>
 wpAny_mono (h Z0 s Z H D (I.uJ _) hw) (λ_ _ q=>q.jh) λ_ _ z=>z.elim
section
variable{X:Cx}{e:Expr}{es:WR Expr}{t:TA}{x:Str}{p pos np cpos hpos:Pos}
theorem bQ{st:Stmt}{t:TS}(h:QS X.Nv st t):QS X st t:=⟨PS.Nv h.p⟩
theorem Bv{P:Program}{w:World}:Passes (oJ P w) X E0:=λ_ _ _ _ _ _ _ ⟨_,_,_,_,_,_,_,_,_,_,_,_,_,q⟩=>q.elim
theorem Kg{Φ:St->XK->Prop}{k:Nat}{f:Addr}{fd:FuncData}{ps:WR Str}{sp:Sp}(F:gK X.prog X.w X.K X.mg X.base (oJ X.prog X.w) k f fd ps sp)(hr:b6 k X.A)(hm:X.mg x=some (.ref f))(hk:W.keepIn X.K (.ref f)=true)(hb:Binds X.K fd ps [])(hx:oM X Φ)
  (ha:QA X (e::es) t) (hg:X.env.kindOf x=some .globalImplicit:=by rfl') (hdb:(x==("__debug__":Str))=false:=by rfl') (he:starEach (e::es) X.env=(false,eval e X.env)::starEach es X.env:=by rfl') (hpl:(backTo pos (starEach es X.env)).any (·.1)=false:=by rfl'):
  QE X (.Call (.Name x p) (e::es) [] pos) (zg sp Φ t):=⟨Kc F hr hg hm hk hb hx ha.p hdb he hpl⟩
theorem gZ{C:Addr}{B newId initId:String}{bmB:WR Value}{E:XK}(FB:ExcBaseFacts B newId initId bmB)(hC:W.excIn X.K C bmB newId=true)(hm:X.mg x=some (.ref C))(ha:QA X (e::es) t)
  (hx:∀(Z0:WR (Addr×Obj)) (Z:St) (H2:Hp) (s2:Shared) (h':Heap) (ea:Addr) (vs:WR Value),Inv X Z0 Z H2 s2->Heap.MadeExcOf s2.heap h' ea (.ref C) vs->E (.ref C) none H2->X.xe (.ref ea) {s2 with heap:=h' })
  (hg:X.env.kindOf x=some .globalImplicit:=by rfl') (hc:X.calm=true:=by rfl')
  (hdb:(x==("__debug__":Str))=false:=by rfl') (he:starEach (e::es) X.env=(false,eval e X.env)::starEach es X.env:=by rfl') (hpl:(backTo cpos (starEach es X.env)).any (·.1)=false:=by rfl'):
  QS X (.Raise (some (.Call (.Name x np) (e::es) [] cpos)) none pos) (iT (.ref C) E t):=⟨J9 FB hC hg hm hc ha.p hx hdb he hpl⟩
theorem Od{body:WR Stmt}{tb:(St->XK->Prop)->TS}{D:Addr}{d0:Stmt}{suite:WR Stmt}{th:TS}(hm:X.mg x=some (.ref D))
  (hb:∀(xe:Value->Shared->Prop) (pn:WR (Addr×Obj)) (Φ:St->XK->Prop),oM (X.tried xe pn) Φ->Jr (X.tried xe pn) body (tb Φ)) (hh:∀ea,Jr (X.hand ea) (d0::suite) th)
  (hg:X.env.kindOf x=some .globalImplicit:=by rfl') (hdb:(x==("__debug__":Str))=false:=by rfl') (hst:X.stack=X.env::X.outer:=by rfl') (hfr:X.env.frame=some X.env.locals:=by rfl'):
  QS X (.Try body [.ExceptHandler (some (.Name x np)) none (d0::suite) hpos] [] [] pos) (N9 X.K D tb th):=⟨Oa hg hm hdb hst hfr (λxe pn Φ hx=>(hb xe pn Φ hx).p) λea=>(hh ea).p⟩
end
theorem EX.E9{P:Program}{w:World}{K:W.Frag}{mg:Str->Option Value}{base:Heap}{x qual:Str}{st:Stmt}{f:Addr}{fd:FuncData}{N ps:WR Str}{k:Nat}{sp:Sp}(F:EX K x qual st f fd)(S:aK N ps (aB st)){rd:XK->TS}(len:∀vs H Q E,sp vs H Q E->vs.length=ps.length)
  (hb:∀(cdv:Value) (A:Around) (outer:WR Env) (s:Shared) (H:Hp) (E:XK),b6 k (A.deeper (envOfC qual (aB st) s.heap.objs.size f cdv))->Jr (mV (oJ P w) P w K mg base N qual (aB st) f cdv A outer s H E) (fu st) (rd E))
  (hq:∀(vs:WR V) (H:Hp) (Q:VK) (E:XK),sp vs H Q E->rd E {nx:=λ_ H'=>Q .non H',rt:=Q} (start N vs) H):gK P w K mg base (oJ P w) (k+1) f fd ps sp:=by
 obtain⟨oc,od,kV,doc,pm,an,cdv,ct,osl,rfl,lk,hcd⟩:=F.ex;exact Pp lk hcd S len λA outer s H vs Q E hr hsp=>⟨rd E,(hb cdv A outer s H E hr).p,hq vs H Q E hsp⟩
end L2
namespace L2
open PySem PySem.Spec PyProof.Rows PySem.Builtin.Str
abbrev Kh:WR V->Hp->VK->Prop:=λxs H Q=>∃i j,xs=[.str (txt i),.str (txt j)]/\Q (.str (txt (if j<i then j else i))) H
def i7(a b:WM)(i:Nat):WM:=if i=0 then a else b
theorem Kl{a b:WM}{t u:Tok}{i:Nat}{v:Value}(h:(#[Value.str (txt a) t,Value.str (txt b) u])[i]?=some v):∃t',v=.str (txt (i7 a b i)) t':=by
 match i,h with
 | 0,h=>simp at h;exact⟨t,h.symm⟩
 | 1,h=>simp at h;exact⟨u,h.symm⟩
 |_+2,h=>simp at h
section
variable{prog:Program}{w:World}{A:Around}{E:Value->Shared->Prop}{s:Shared}
theorem zj{a b:WM}{t u:Tok}{Q:Value->Shared->Prop}(hh:A.handled=none)
  (h:∀h' tk,(∀c o,s.heap.get? c=some o->h'.get? c=some o)->Q (if b<a then .str (txt b) u else .str (txt a) t) {s with heap:=h',toks:=tk}):
  wpAny (model prog w) A (call (.builtin "min") [.str (txt a) t,.str (txt b) u]) Q E s:=by
 have hT:(s.heap.push {cls:=.type "tuple",data:=.seq #[.str (txt a) t,.str (txt b) u] }).IsTuple s.heap.objs.size #[.str (txt a) t,.str (txt b) u]:=⟨_,Heap.get?_push_size _ rfl,rfl,0,rfl⟩;refine call_min_two (wpAny_pyIter_tuple hT ?_);have hsz:(s.heap.push {cls:=.type "tuple",data:=.seq #[Value.str (txt a) t,.str (txt b) u] }).objs.size=s.heap.objs.size+1:=Heap.size_push ..;have cmp:CmpOf prog w A.in1 .Lt (λi v=>(#[Value.str (txt a) t,.str (txt b) u])[i]?=some v) (λi j=>decide (i7 a b i<i7 a b j)):=λi j vi vj s' Q' E' hi hj hq=>by
  obtain⟨t1,rfl⟩:=Kl hi;obtain⟨t2,rfl⟩:=Kl hj;exact(lt_str (by rw[bN,bN];exact hq):wpAny (model prog w) A.in1 (compareOp .Lt (.str (txt (i7 a b i)) t1) (.str (txt (i7 a b j)) t2)) Q' E' s')
 refine⟨_,[_,s.heap.objs.size],[_],_,_,_,_,rfl,Walks.tuple (A:=A.in1) hh _ s.heap.objs.size (by rw[hsz];exact ne_of_lt (lt_succ_self _)) #[.str (txt a) t,.str (txt b) u],
  ⟨⟨_,Heap.get?_push_size _ rfl,rfl,rfl⟩,hT.push _⟩,λc hc=>?_,Nat.zero_lt_two,cmp,λv h' tk hP hk=>?_⟩
 .show c<((s.heap.push _).push _).objs.size;rw[Heap.size_push,hsz]
  rcases mem_cons.mp hc with z|z
  .rw[z,hsz];exact lt_succ_self _
  .rw[mem_singleton.mp z];exact lt_succ_of_lt (lt_succ_self _)
 .have old:∀c o,s.heap.get? c=some o->h'.get? c=some o:=λc o e=>by
   refine hk c o (λhm=>?_) (Heap.get?_push_of_some _ (Heap.get?_push_of_some _ e));have lt:=Heap.lt_size e;rw[mem_singleton.mp hm,hsz] at lt;exact absurd (Nat.lt_of_succ_lt lt) (Nat.lt_irrefl _)
  have fin:=h h' tk old;have hv:v=if b<a then Value.str (txt b) u else Value.str (txt a) t:=by
   have hP':(#[Value.str (txt a) t,.str (txt b) u])[argBest (λi j=>decide (i7 a b i<i7 a b j)) 1]?=some v:=hP
   by_cases hba:b<a
   .have e:argBest (λi j=>decide (i7 a b i<i7 a b j)) 1=1:=by simp[argBest,i7,hba]
    rw[e] at hP';rw[if_pos hba];simpa using hP'.symm
   .have e:argBest (λi j=>decide (i7 a b i<i7 a b j)) 1=0:=by simp[argBest,i7,hba]
    rw[e] at hP';rw[if_neg hba];simpa using hP'.symm
  rw[hv];exact fin
end
section
variable{X:Cx}
theorem C9(hc:X.calm=true):fh X (.builtin "min") Kh:=by
 intro Z0 s Z H xs us Q I r h;obtain⟨i,j,rfl,q⟩:=h;obtain⟨u,w',rfl,⟨t,rfl⟩,⟨t',rfl⟩⟩:=vals2 r;refine zj (I.ok.hd hc) λh' tk k=>⟨_,H,I.kept k,?_,q⟩
 by_cases hj:j<i
 .rw[if_pos hj,if_pos hj];exact⟨_,rfl⟩
 .rw[if_neg hj,if_neg hj];exact⟨_,rfl⟩
end
variable{X:Cx}
theorem aT{A C:TS}{D:Ends}{Z:St}{H:Hp}(h:∀c:St->Hp->Prop,(∀σ' H',C D σ' H'->c σ' H')->A {D with nx:=c} Z H):aJ A C D Z H:=h _ λ_ _ z=>z
theorem aO{te:TE}{i:Nat}{C:TS}{D:Ends}{Z:St}{H:Hp}(h:∀c:V->Hp->Prop,(∀x H1,C D (Z.set i (some x)) H1->c x H1)->te Z H c):aJ (aY te (aG i)) C D Z H:=h _ λ_ _ z=>z
theorem kD{K:PySem.W.Frag}{a:Addr}{xs:WR V}{Z:St}{fs:WM}{tt:TT}{te:TE}{H:Hp}{Q:VK}(Pv:Nat->WR V->Hp->Prop)(h0:Pv 0 [] H)(hl:∀i ys H,i<=xs.length->Pv i ys H->aZ K H a xs/\ys.length<=i)(hn:xs.length<=sizeLine)
  (hs:∀i x ys H,xs[i]?=some x->Pv i ys H->∀R:WR V->Hp->Prop,(∀ys' H',Pv (i+1) ys' H'->R ys' H')->tt (some x::bg fs Z) H λb H2=>if b=true then te (some x::bg fs Z) H2 λy H3=>R (ys++[y]) H3 else R ys H2)
  (hd:∀ys H,Pv xs.length ys H->∀p,H p=none->Q (.ref p) (upd H p (.lst ys))):
  ∃W:Nat->Nat->WR V->Hp->Prop,(∃m,W 0 m [] H)/\∀i m ys H,W i m ys H->ys.length<=sizeLine/\
   (((Pk K a).stop i H/\∀p,H p=none->Q (.ref p) (upd H p (.lst ys)))\/
    ((Pk K a).go i H/\ys.length<sizeLine/\∀x H',(Pk K a).yld i H x H'->tt (some x::bg fs Z) H' λb H2=>if b=true then te (some x::bg fs Z) H2 λy H3=>∃m',m'<m/\W (i+1) m' (ys++[y]) H3 else ∃m',m'<m/\W (i+1) m' ys H2)):=by
 refine⟨λi m ys H=>m=xs.length-i/\i<=xs.length/\Pv i ys H,⟨xs.length,by simp,zero_le _,h0⟩,?_⟩;rintro i m ys H ⟨rfl,hi,p⟩;obtain⟨hq,hle⟩:=hl i ys H hi p;refine⟨by omega,?_⟩
 by_cases hlt:i<xs.length
 .refine .inr ⟨⟨xs,xs[i],hq,by simp[hlt]⟩,by omega,λx H' y=>?_⟩
  obtain⟨e,y⟩:=y;subst e;exact hs i x ys _ (y xs hq) p (λys' H'=>∃m',m'<xs.length-i/\m'=xs.length-(i+1)/\i+1<=xs.length/\Pv (i+1) ys' H') λys' H' q=>⟨xs.length-(i+1),by omega,rfl,hlt,q⟩
 .have e:i=xs.length:=by omega
  subst e;exact .inl ⟨⟨xs,hq,le_refl _⟩,hd ys H p⟩
theorem tX{wi:TI}{fs:WM}{tt:TT}{te:TE}{Z:St}{H:Hp}{Q:VK} (h:∀R:It->Hp->Prop,(∀J H1,R J H1=∃W:Nat->Nat->WR V->Hp->Prop,(∃m,W 0 m [] H1)/\∀i m ys H,W i m ys H->ys.length<=sizeLine/\
 ((J.stop i H/\∀p,H p=none->Q (.ref p) (upd H p (.lst ys)))\/
  (J.go i H/\ys.length<sizeLine/\∀x H',J.yld i H x H'->tt (some x::bg fs Z) H' λb H2=>if b=true then te (some x::bg fs Z) H2 λy H3=>∃m',m'<m/\W (i+1) m' (ys++[y]) H3 else ∃m',m'<m/\W (i+1) m' ys H2)))->wi Z H R):dw wi fs tt te Z H Q:=h _ λ_ _=>rfl
theorem kE{K:W.Frag}{tl:TE}{a:Addr}{xs:WR V}{Z:St}{fs:WM}{tt:TT}{te:TE}{H:Hp}{Q:VK}(ha:∀Q:VK,Q (.ref a) H->tl Z H Q)(hq:aZ K H a xs)(Pv:Nat->WR V->Hp->Prop)(h0:Pv 0 [] H)(hl:∀i ys H,i<=xs.length->Pv i ys H->aZ K H a xs/\ys.length<=i)(hn:xs.length<=sizeLine)
  (hs:∀i x ys H,xs[i]?=some x->Pv i ys H->∀R:WR V->Hp->Prop,(∀ys' H',Pv (i+1) ys' H'->R ys' H')->tt (some x::bg fs Z) H λb H2=>if b=true then te (some x::bg fs Z) H2 λy H3=>R (ys++[y]) H3 else R ys H2)
  (hd:∀ys H,Pv xs.length ys H->∀p,H p=none->Q (.ref p) (upd H p (.lst ys))):dw (bV K tl) fs tt te Z H Q:=ha _ ⟨a,rfl,⟨xs,hq⟩,kD Pv h0 hl hn hs hd⟩
end L2
namespace Asc
open PySem PyProof.Rows
end Asc
namespace L2
open PySem PySem.Spec PyProof.Rows
def g5(K:PySem.W.Frag)(wi:TI)(fs:WM)(tt:TT)(te:TE):TE:=λZ H Q=>wi Z H λJ H1=>∃W:Nat->Nat->WR V->Hp->Prop,(∃m,W 0 m [] H1)/\∀i m ys H,W i m ys H->ys.length<=sizeLine/\
 ((J.stop i H/\∀p,H p=none->Q (.ref p) (upd H p (.lst ys)))\/
  (J.go i H/\ys.length<sizeLine/\∀x H',J.yld i H x H'->∃p v0 v1,x=.ref p/\ff K H' p [v0,v1]/\tt (some v0::some v1::bg fs Z) H' λb H2=>if b=true then te (some v0::some v1::bg fs Z) H2 λy H3=>∃m',m'<m/\W (i+1) m' (ys++[y]) H3 else ∃m',m'<m/\W (i+1) m' ys H2))
def lM(K:W.Frag)(i:Nat)(wi:TI)(fs:WM)(tt:TT)(te:TE):TS:=λD Z H=>g5 K wi fs tt te Z H λv H1=>D.nx (Z.set i (some v)) H1
section
variable{X:Cx}
theorem sf{elt iter:Expr}{x x2:Str}{px px2 ptg pos:Pos}{kt:Nat}{ifs:WR Expr}{scope:Scope}{fs:WR (Str×Nat)}{tt:TT}{te:TE}
  {Z0:WR (Addr×Obj)} {Z:St} {H2:Hp} {s2:Shared} {it:Addr} {fp:WR Addr} {tn:Nat->Heap->Prop} {J:It} {cl:WR (Str×Addr)} {E:Value->Shared->Prop}
  {P:Value->Addr->Result->Shared->Prop}
  (hc:X.calm=true) (hkind:scope.kind=.function) (hcell:∀y∈scope.names,y.2≠.cell) (hx:scope.names.lookup x=some .local) (hx2:scope.names.lookup x2=some .local)
  (hnd:(x::x2::fs.map (·.1)).Nodup) (hfs:∀f∈fs,X.N[f.2]?=some f.1/\(X.env.kindOf f.1=some .cell\/X.env.kindOf f.1=some .free)/\scope.names.lookup f.1=some .free)
  (hb:∀(cl:WR (Str×Addr)) (C:Addr) (s₀:Shared) (H₀:Hp) (ex:WR Addr),JU (b9 X scope cl C (x::x2::fs.map (·.1)) s₀ H₀ ex) ifs tt/\PE (b9 X scope cl C (x::x2::fs.map (·.1)) s₀ H₀ ex) elt te)
  (qq:∀y∈cl,X.env.cells.lookup y.1=some y.2) (qt:∀y∈scope.names,y.2=.free->∃c,(y.1,c)∈cl)
  (I2:Inv X Z0 Z H2 s2) (T:Turn X.prog X.w X.K (.Tuple [.Name x px,.Name x2 px2] kt ptg) J fp it tn) (st2:tn 0 s2.heap) (f2:∀b∈fp,uL X Z0 H2 b)
  (W:Nat->Nat->WR V->Hp->Prop) (Qe:Hp->WR V->Prop) (w0:∃m,W 0 m [] H2)
  (turn:∀i m ys H,W i m ys H->ys.length<=sizeLine/\
   ((J.stop i H/\Qe H ys)\/
    (J.go i H/\ys.length<sizeLine/\∀x H',J.yld i H x H'->∃p v0 v1,x=.ref p/\ff X.K H' p [v0,v1]/\tt (some v0::some v1::bg (fs.map (·.2)) Z) H' λb H2=>if b=true then te (some v0::some v1::bg (fs.map (·.2)) Z) H2 λy H3=>∃m',m'<m/\W (i+1) m' (ys++[y]) H3 else ∃m',m'<m/\W (i+1) m' ys H2)))
  (hP:∀(D C:Addr) (H':Hp) (s':Shared) (ys:WR V) (its:WR Value) (m:Str->Option Value),s2.heap.objs.size<=C->s2.heap.get? D=none->s2.heap.get? C=none->D≠C->H' D=none->H' C=none->s'.heap.Ns C m->s'.heap.PlainList D its.toArray->Vals ys its->ys.length<=sizeLine->Qe H' ys->
   Un (frs X.stack) fp H2 H' s2.heap s'.heap->jV X.prog X.w H' s'.heap->AllBare s'.gens->s'.os=s2.os->P (.ref D) C (.ok .next) s'):
  wpAny (model X.prog X.w) X.A (newList []) (λacc a7=>wpAny (model X.prog X.w) X.A (newFunctionEnv scope X.env.globals cl [] X.env.qual none .none (some X.env)) (λcenv i5=>
   codeAny (model X.prog X.w) X.A (.compStart (.ListComp elt [⟨.Tuple [.Name x px,.Name x2 px2] kt ptg,iter,ifs,0⟩] scope pos) 0 (.ref it) acc {cenv with scope:=relabel scope X.env}) (P acc cenv.locals) i5) E a7) E s2:=by
 refine wpAny_newObj_type (wpAny_newFunctionEnv hcell (by intro y hy;simp at hy) (λh₁ CZ yX=>?_) hkind);dsimp only at CZ yX ⊢;generalize hH2:s2.heap.push {cls:=.type "list",dict:=none,data:=.seq ([]:WR Value).toArray}=HH at CZ yX ⊢;have hC:HH.objs.size=s2.heap.objs.size+1:=by rw[<-hH2,Heap.size_push]
 generalize eD:s2.heap.objs.size=D at *;generalize eC:HH.objs.size=C at *;have hDC:D≠C:=by rw[hC];exact ne_of_lt (lt_succ_self _)
 have fresh:∀a,D<=a->s2.heap.get? a=none:=λa ha=>Heap.get?_none_of_le (by rw[eD];exact ha);have hD0:s2.heap.get? D=none:=fresh D (le_refl _);have hC0:s2.heap.get? C=none:=fresh C (by rw[hC];exact le_succ _);have old:∀b o,s2.heap.get? b=some o->h₁.get? b=some o:=λb o e=>yX.extBut b o (λz=>by rw[z,hC0] at e;cases e) (Heap.get?_push_of_some _ (hH2▸Heap.get?_push_of_some _ e));have hacc:h₁.PlainList D #[]:=⟨0,yX.extBut _ _ hDC (Heap.get?_push_of_some _ (hH2▸(eD▸Heap.get?_push_size _ rfl)))⟩;have HD:H2 D=none:=I2.hok.fresh (by rw[eD];exact le_refl _);have HC:H2 C=none:=I2.hok.fresh (by rw[eD,hC];exact le_succ _)
 -- the block's context
 let Y:Cx:=b9 X scope cl C (x::x2::fs.map (·.1)) s2 H2 fp
 have lk:∀y c,cl.lookup y=some c->X.env.cells.lookup y=some c:=λy c e=>qq (y,c) (lookup_mem e);have yok:Y.Ok:=by
  refine⟨I2.ok.mod,hkind,I2.ok.glob,I2.ok.blt,?_,λy z c h1 h2=>I2.ok.inj y z c (lk y c h1) (lk z c h2),λy hy=>?_,λ_ _ h _=>absurd h Bool.false_ne_true,I2.ok.hd,I2.ok.frames,.inl rfl,λb hb=>?_,I2.bs,?_,λb o e hb=>?_,λb hb hz=>?_,I2.stack,I2.tT⟩
  .show s2.heap.objs.size<=C;rw[eD,hC];exact le_succ _
  .have hy':(relabel scope X.env).names.lookup y=some .cell\/(relabel scope X.env).names.lookup y=some .free:=hy;have hm:(y,NameKind.free)∈scope.names:=by
    rcases hy' with e|e
    .rcases iD (lookup_mem e) with q|⟨_,q⟩
     .exact absurd rfl (hcell _ q)
     .exact q
    .rcases iD (lookup_mem e) with q|⟨q,_⟩
     .exact q
     .cases q
   obtain⟨c,q⟩:=qt _ hm rfl;exact mem_lookup q
  .obtain⟨f0,f1,f3,f4,f5,f6⟩:=f2 b hb;refine⟨λz=>?_,λy c e=>f5 y c (lk y c e)⟩;obtain⟨o,ho,_⟩:=T.obj _ _ st2 b hb;have z':b=C:=z;rw[z',hC0] at ho;cases ho
  .exact Nat.le_trans I2.ok.bsz I2.sz
  .obtain⟨f0,f1,f3,f4,f5,f6⟩:=f2 b hb
   rcases f4 with z|z
   .exact I2.ok.noex b o e z
   .exact absurd (lt_of_lt_of_le (Heap.lt_size e) (Nat.le_trans I2.ok.bsz z)) (Nat.lt_irrefl _)
  .obtain⟨f0,f1,f3,f4,f5,f6⟩:=f2 b hb
   rcases mem_cons.mp (I2.j9 b hz) with z|z
   .exact f1 z
   .exact f3 z
 let τ:St:=none::none::bg (fs.map (·.2)) Z
 have hτ:τ.length=(x::x2::fs.map (·.1)).length:=by simp[τ,bg]
 obtain⟨mL,hnL,hlL⟩:=id I2.loc;have yI:Inv Y [] τ H2 {s2 with heap:=h₁,toks:=s2.toks+([]:WR (Str×Value)).length}:=by
  refine⟨yok,rfl,I2.bare,Un.kept old,⟨_,CZ,λi y v e1 e2 e3=>?_⟩,λy c e=>?_,HC,λy c e=>I2.freeC y c (lk y c e),(λp hp=>nomatch hp),I2.hok.kept old,hτ⟩
  .cases i with
   |zero=>simp[τ] at e2
   |succ i0=>
    cases i0 with
    |zero=>simp[τ] at e2
    |succ i=>
    have e1':(fs.map (·.1))[i]?=some y:=e1;have e2':(bg (fs.map (·.2)) Z)[i]?=some (some v):=by simpa [τ] using e2
    rw[getElem?_map] at e1';cases q:fs[i]? with
    |none=>rw[q] at e1';cases e1'
    |some f=>
     rw[q] at e1';have ey:f.1=y:=Option.some.inj e1';obtain⟨g1,g2,g3⟩:=hfs f (mem_of_getElem? q);have qu:(Z[f.2]?).join=some v:=by
      unfold bg at e2';rw[getElem?_map,getElem?_map,q] at e2';exact Option.some.inj e2'
     have e2c:Z[f.2]?=some (some v):=by
      cases r:Z[f.2]? with
      |none=>rw[r] at qu;cases qu
      |some o=>rw[r] at qu;have qu:o=some v:=qu;rw[qu]
     have vis:Vv X.env.scope f.1:=by
      rcases g2 with g|g
      .exact .inr (.inl g)
      .exact .inr (.inr g)
     obtain⟨u,ru,lu⟩:=hlL f.2 f.1 v g1 e2c vis;refine⟨u,ru,?_⟩;have lu':∃c,X.env.cells.lookup f.1=some c/\s2.heap.IsCell c (some u):=by
      rcases lu with⟨k,_⟩|⟨_,c,e,z⟩
      .rcases g2 with g|g
       .rw[k] at g;cases g
       .rw[k] at g;cases g
      .exact⟨c,e,z⟩
     obtain⟨c,hc1,hc2⟩:=lu';obtain⟨c',hm⟩:=qt _ (lookup_mem g3) rfl;have hm':=qq _ hm;obtain⟨c2,hl2⟩:=mem_lookup hm;have:=lk _ _ hl2;rw[hc1] at this;cases this;obtain⟨oc,ho,hdt⟩:=hc2;refine .inr ⟨?_,c,by rw[<-ey];exact hl2,oc,old c oc ho,hdt⟩;rw[<-ey];exact dW g3
  .obtain⟨v,oc,ho,hdt⟩:=I2.cell y c (lk y c e);exact⟨v,oc,old c oc ho,hdt⟩
 have hx':Y.env.scope.names.lookup x=some .local:=lookup_relabel_local hx;have Tq:Y.env.scope.names.lookup x2=some .local:=lookup_relabel_local hx2;have fpD:∀b∈fp,b≠D:=λb hb z=>by
  obtain⟨o,ho,_⟩:=T.obj _ _ st2 b hb;rw[z,hD0] at ho;cases ho
 have Qz:D∉frs X.stack:=λhz=>by
  rcases mem_cons.mp (I2.j9 D hz) with z|z
  .have:=I2.lt;rw[eD,<-z] at this;exact absurd this (Nat.lt_irrefl _)
  .exact I2.P0 (by rw[eD];exact le_refl _) z
 have JV:∀y c,cl.lookup y=some c->c≠D:=λy c e z=>by
  obtain⟨v,oc,ho,_⟩:=I2.cell y c (lk y c e);rw[z,hD0] at ho;cases ho
 have uO:∀{H':Hp} {oD:Obj},(∀b∈fp,H' b=none)->∀b∈fp,uL Y [(D,oD)] H' b:=λhn b hb=>by
  refine⟨hn b hb,(yok.exf b hb).1,yok.exfs b hb,.inl hb,(yok.exf b hb).2,λp hp z=>?_⟩;have hp':p∈[(D,_)]:=hp;rw[mem_singleton.mp hp'] at z;exact fpD b hb z.symm
 obtain⟨m0,w0⟩:=w0;have loop:∀a7:Shared,a7={s2 with heap:=h₁,toks:=s2.toks+([]:WR (Str×Value)).length}->
   codeAny (model X.prog X.w) X.A (.compLoop (.ListComp elt [⟨.Tuple [.Name x px,.Name x2 px2] kt ptg,iter,ifs,0⟩] scope pos) 0 (.ref it) (.ref D) (compEnvC scope cl C X.env)) (P (.ref D) C) a7:=by
  rintro a7 rfl;refine oj (λn s'=>∃i ys its H',Inv Y [] τ H' s'/\tn i s'.heap/\(∀b∈fp,H' b=none)/\H' D=none/\s'.heap.PlainList D (List.toArray its)/\Vals ys its/\W i n ys H') ?_ m0
   ⟨0,[],[],H2,yI,T.keep _ _ _ st2 (λb _ o e=>old b o e),λb hb=>(f2 b hb).1,HD,hacc,.nil,w0⟩
  rintro n s3 ⟨i,ys,its,H3,I3,st3,fr3,hD3,⟨n0,hoD⟩,rv3,w3⟩;obtain⟨hz,ht⟩:=turn i n ys H3 w3;have I3':Inv Y [(D,{cls:=.type "list",data:=.seq its.toArray n0})] τ H3 s3:=I3.lF λp hp=>by
   rw[mem_singleton.mp hp];exact⟨hoD,hD3,hDC,Qz,λv z=>by cases z⟩
  rcases ht with⟨stop,q⟩|⟨go,hz',step⟩
  .refine cA (T.done Y rfl rfl rfl hc i _ s3 τ H3 _ I3' (uO fr3) st3 stop) λr s4 ⟨hr,I4⟩=>?_;subst hr;obtain⟨m,hn,_⟩:=I4.loc;exact hP D C H3 s4 ys its m (by rw[hC];exact le_succ _) hD0 hC0 hDC hD3 I4.free hn ⟨n0,(I4.pin (D,_) (mem_append_right _ mem_cons_self)).1⟩ rv3 hz q I4.base I4.hok I4.bare I4.os
  .refine cA (T.item Y rfl rfl rfl hc i _ s3 τ H3 _ I3' (uO fr3) st3 go) λr s4 ⟨u,hr,h4⟩=>?_;subst hr;refine cA h4 λ_ s5 ⟨x',H5,I5,r5,y5,st5,fr5⟩=>?_;have I5':=I5.pinned (fp:=fp) (uO fr5) (T.obj _ _ st5);obtain⟨pt,v0,v1,ex',hqt,step'⟩:=step x' H5 y5;refine cA (JE (X:=Y) (pos:=ptg) (k:=kt) (n:=2) hc (uK (tU (X:=Y) (i:=0) (pos:=px) hnd rfl (.inl hx') (.inr hx')) (uK (tU (X:=Y) (i:=1) (pos:=px2) hnd rfl (.inl Tq) (.inr Tq)) EJ)) rfl rfl _ s5 τ H5 x' u (λσ' H'=>σ'=some v0::some v1::bg (fs.map (·.2)) Z/\H'=H5) I5' r5 ⟨pt,[v0,v1],ex',hqt,rfl,v0,[v1],rfl,v1,[],rfl,rfl,rfl,rfl⟩) λ_ s6 ⟨σ6,H6,I6,e6,e6'⟩=>?_;subst e6 e6';have back:∀{σ':St} {H':Hp} {s':Shared},Inv Y ([(D,{cls:=.type "list",data:=.seq its.toArray n0})]++ql fp s5.heap) (some v0::some v1::bg (fs.map (·.2)) Z) H' s'->
     Inv Y [] τ H' s'/\tn (i+1) s'.heap/\(∀b∈fp,H' b=none)/\H' D=none/\s'.heap.PlainList D its.toArray:=λ{σ' H' s'} J'=>by
    refine⟨(J'.lF (pins':=[]) (λp hp=>absurd hp (by simp))).weak rfl λj v e=>?_,T.keep _ _ _ st5 λb hb o e=>(J'.pin (b,o) (mem_append_right _ (mem_append_right _ (fP hb e)))).1,λb hb=>?_,?_,n0,?_⟩
    .cases j with
     |zero=>cases e
     |succ j0=>
      cases j0 with
      |zero=>cases e
      |succ j=>exact e
    .obtain⟨o,e,d⟩:=T.obj _ _ st5 b hb;exact(J'.pin (b,o) (mem_append_right _ (mem_append_right _ (fP hb e)))).2.1
    .exact(J'.pin (D,_) (mem_append_right _ (mem_append_left _ mem_cons_self))).2.1
    .exact(J'.pin (D,_) (mem_append_right _ (mem_append_left _ mem_cons_self))).1
   refine cA ((hb cl C s2 H2 fp).1 _ s6 _ _ _ I6 step') λok s7 ⟨H7,I7,q7⟩=>?_;cases ok with
   |false=>
    obtain⟨m',hm,w7⟩:=q7;obtain⟨a1,a2,a3,a4,a5⟩:=back (σ':=τ) I7;exact⟨m',hm,i+1,ys,its,H7,a1,a2,a3,a4,a5,rv3,w7⟩
   |true=>
    refine cA ((hb cl C s2 H2 fp).2 _ s7 _ _ _ I7 q7) λy s8 ⟨yv,H8,I8,ry,m',hm,w8⟩=>?_;obtain⟨a1,a2,a3,a4,a5⟩:=back (σ':=τ) I8;have hlen:=rv3.length;refine wpAny_list_append_plain (hsz:=by rw[size_toArray,<-hlen];exact hz) a5 λh' hl' hs'=>?_;refine⟨m',hm,i+1,ys++[yv],its++[y],H8,a1.turned (t':=s8.toks) (it:=D) (λb o hb e=>hs'.extBut b o hb e) a4 hDC (.inr (by show s2.heap.objs.size<=D;rw[eD];exact le_refl _)) (λy c e=>JV y c e) (λp hp=>absurd (show p∈([]:WR (Addr×Obj)) from hp) (by simp)),T.keep _ _ _ a2 λb hb o e=>hs'.extBut b o (fpD b hb) e,a3,a4,by simpa using hl',rv3.append (.cons ry .nil),w8⟩
 exact codeAny_compStart_list (loop _ rfl) (T.self X.A 0 _ _ _ (T.keep _ _ _ st2 (λb _ o e=>old b o e)) (loop _ rfl))
theorem Km{elt iter:Expr}{x x2:Str}{px px2 ptg pos:Pos}{kt:Nat}{ifs:WR Expr}{scope:Scope}(fs:WR (Str×Nat)){wi:TI}{tt:TT}{te:TE}
  (hc:X.calm=true) (hkind:scope.kind=.function) (hcell:∀y∈scope.names,y.2≠.cell) (hnames:∀y∈scope.names,y.2=.local->scope.names.lookup y.1=some .local)
  (hfree:∀y∈scope.names,y.2=.free->X.env.kindOf y.1=some .cell\/X.env.kindOf y.1=some .free) (hx:scope.names.lookup x=some .local) (hx2:scope.names.lookup x2=some .local)
  (hnd:(x::x2::fs.map (·.1)).Nodup) (hfs:∀f∈fs,X.N[f.2]?=some f.1/\(X.env.kindOf f.1=some .cell\/X.env.kindOf f.1=some .free)/\scope.names.lookup f.1=some .free)
  (hi:PI X (.Tuple [.Name x px,.Name x2 px2] kt ptg) iter wi)
  (hb:∀(cl:WR (Str×Addr)) (C:Addr) (s₀:Shared) (H₀:Hp) (ex:WR Addr),JU (b9 X scope cl C (x::x2::fs.map (·.1)) s₀ H₀ ex) ifs tt/\PE (b9 X scope cl C (x::x2::fs.map (·.1)) s₀ H₀ ex) elt te)
  (hs:∀x,foldedSetIterable iter X.env x=pure x:=by intro _;rfl):
  PE X (.ListComp elt [⟨.Tuple [.Name x px,.Name x2 px2] kt ptg,iter,ifs,0⟩] scope pos) (g5 X.K wi (fs.map (·.2)) tt te):=by
 intro Z0 s Z H Q I h;obtain⟨cl,hclos,qq,qt⟩:=fW (env:=X.env) (scope:=scope) λy hy hk=>I.ok.has y.1 (hfree y hy hk);rw[eval_ListComp];refine wpAny_comprehension_free (use:=none) rfl hs hclos hkind hnames (cA (hi Z0 s Z H _ I h) λv s1 h1=>cA h1 λitv s2 h2=>?_);obtain⟨it,fp,tn,J,H2,e,I2,T,st2,f2,W,w0,turn⟩:=h2;subst e;refine sf (Z0:=Z0) hc hkind hcell hx hx2 hnd hfs hb qq qt I2 T st2 f2 W (λH ys=>∀p,H p=none->Q (.ref p) (upd H p (.lst ys))) w0 turn ?_;intro D C H' s' ys its m hCs hD hC hDC HD HC hn pl rv hz q u hok hg ho;exact⟨m,hn,λh' hs'=>⟨.ref D,_,jj (tk:=s'.toks) I2 f2 hD hC hDC HD HC pl rv hz u hok hg ho hs',rfl,q D HD⟩⟩
theorem Kn{i:Nat}{y:Str}{py spos:Pos}{elt iter:Expr}{x x2:Str}{px px2 ptg pos:Pos}{kt:Nat}{ifs:WR Expr}{scope:Scope}(fs:WR (Str×Nat)){wi:TI}{tt:TT}{te:TE}
  (hN:X.N.Nodup) (hy:X.N[i]?=some y) (hyl:X.env.scope.names.lookup y=some .local)
  (hc:X.calm=true) (hkind:scope.kind=.function) (hcell:∀y∈scope.names,y.2≠.cell) (hnames:∀y∈scope.names,y.2=.local->scope.names.lookup y.1=some .local)
  (hfree:∀y∈scope.names,y.2=.free->X.env.kindOf y.1=some .cell\/X.env.kindOf y.1=some .free) (hx:scope.names.lookup x=some .local) (hx2:scope.names.lookup x2=some .local)
  (hnd:(x::x2::fs.map (·.1)).Nodup) (hfs:∀f∈fs,X.N[f.2]?=some f.1/\(X.env.kindOf f.1=some .cell\/X.env.kindOf f.1=some .free)/\scope.names.lookup f.1=some .free)
  (hi:PI X (.Tuple [.Name x px,.Name x2 px2] kt ptg) iter wi)
  (hb:∀(cl:WR (Str×Addr)) (C:Addr) (s₀:Shared) (H₀:Hp) (ex:WR Addr),JU (b9 X scope cl C (x::x2::fs.map (·.1)) s₀ H₀ ex) ifs tt/\PE (b9 X scope cl C (x::x2::fs.map (·.1)) s₀ H₀ ex) elt te)
  (hsw:swapsWith (.ListComp elt [⟨.Tuple [.Name x px,.Name x2 px2] kt ptg,iter,ifs,0⟩] scope pos) (some (.Name y py)) spos.line X.env=pure true)
  (hs:∀x,foldedSetIterable iter X.env x=pure x:=by intro _;rfl):
  PS X (.Assign [.Name y py] (.ListComp elt [⟨.Tuple [.Name x px,.Name x2 px2] kt ptg,iter,ifs,0⟩] scope pos) spos) (lM X.K i wi (fs.map (·.2)) tt te):=by
 intro Z0 s Z H D' I h;obtain⟨cl,hclos,qq,qt⟩:=fW (env:=X.env) (scope:=scope) λy hy hk=>I.ok.has y.1 (hfree y hy hk);rw[exec_Assign_Name_used _ _ _ _ hsw];refine wpAny_bind (wpAny_standAt (wpAny_bind ?_));show wpAny _ X.A (do let _ <-comprehension (.ListComp elt [⟨.Tuple [.Name x px,.Name x2 px2] kt ptg,iter,ifs,0⟩] scope pos) scope X.env _ (newList []) false (eval iter X.env) (some (assign (.Name y py) X.env))) _ _ s
 refine wpAny_bind (wpAny_mono (wpAny_comprehension_free (use:=some (assign (.Name y py) X.env)) (Q:=λ_ s'=>SP X Z0 D' .next s') rfl hs hclos hkind hnames
  (cA (hi Z0 s Z H _ I h) λv s1 h1=>cA h1 λitv s2 h2=>?_)) (λ_ s' hq=>wpAny_pure (wpAny_pure hq)) λ_ _ e=>e)
 obtain⟨it,fp,tn,J,H2,e,I2,T,st2,f2,W,w0,turn⟩:=h2;subst e;refine sf (Z0:=Z0) hc hkind hcell hx hx2 hnd hfs hb qq qt I2 T st2 f2 W (λH ys=>∀p,H p=none->D'.nx (Z.set i (some (.ref p))) (upd H p (.lst ys))) w0 turn ?_;intro D C H' s' ys its m hCs hD hC hDC HD HC hn pl rv hz q u hok hg ho;show wpAny _ X.A (assign (.Name y py) X.env (.ref D)) _ _ _
 -- store,with the block's frame still there
 have J:=jj (tk:=s'.toks) I2 f2 hD hC hDC HD HC pl rv hz u hok hg ho (Heap.SameBut.refl C s'.heap);refine wpAny_assign_Name (qf J hN hy (.inl hyl) (v:=.ref D) (u:=.ref D) rfl (λs3 J3 ⟨a,sb,ha⟩=>?_) (.inr hyl));have exL:∃o,s2.heap.get? X.env.locals=some o:=let ⟨_,⟨o,_,_,e,_⟩,_⟩:=I2.loc;⟨o,e⟩;have Bg:∀z c,X.env.cells.lookup z=some c->c≠C:=λz c e q=>by
  obtain⟨v,oc,ho,_⟩:=I2.cell z c e;rw[q,hC] at ho;cases ho
 have aC:a≠C:=by
  rcases ha with z|z
  .obtain⟨o,e⟩:=exL;intro q;rw[<-z,q,hC] at e;cases e
  .exact Bg y a z
 have LC:C≠X.env.locals:=λq=>by
  obtain⟨o,e⟩:=exL;rw[<-q,hC] at e;cases e
 refine⟨m,hn.sameBut sb (Ne.symm aC),λh' hs'=>?_⟩;exact⟨_,_,J3.turned (t':=s3.toks) (it:=C) (λb o hb e=>hs'.extBut b o hb e) (by rw[aH (Ne.symm hDC)];exact HC) LC (.inr (Nat.le_trans I2.sz hCs)) Bg (λp hp z=>by
  have:=(I2.pin p hp).1;rw[z,hC] at this;cases this),q D HD⟩
end
section
variable{X:Cx}{iter:Expr}{x x2:Str}{px px2 ptg pos:Pos}{kt:Nat}
def lN(names:WR (Str×NameKind))(outer:WR (Str×NameKind))(N:WR Str)(x x2:Str)(fs:WR (Str×Nat)):Bool:=
 gR names outer N x fs&&(names.lookup x2==some .local)&&decide ((x::x2::fs.map (·.1)).Nodup)
theorem kF{elt:Expr}{ifs:WR Expr}{scope:Scope}(fs:WR (Str×Nat)){wi:TI}{tt:TT}{te:TE}
  (hi:QI X (.Tuple [.Name x px,.Name x2 px2] kt ptg) iter wi)
  (hb:∀(cl:WR (Str×Addr)) (C:Addr) (s₀:Shared) (H₀:Hp) (ex:WR Addr),SH (b9 X scope cl C (x::x2::fs.map (·.1)) s₀ H₀ ex) ifs tt/\QE (b9 X scope cl C (x::x2::fs.map (·.1)) s₀ H₀ ex) elt te)
  (hc:X.calm=true:=by rfl') (hk:scope.kind=.function:=by rfl') (hl:lN scope.names X.env.scope.names X.N x x2 fs=true:=by rfl')
  (hs:∀x,foldedSetIterable iter X.env x=pure x:=by intro _;rfl'):
  QE X (.ListComp elt [⟨.Tuple [.Name x px,.Name x2 px2] kt ptg,iter,ifs,0⟩] scope pos) (g5 X.K wi (fs.map (·.2)) tt te):=by
 unfold lN at hl;simp only[and_eq_true,beq_iff_eq,decide_eq_true_eq] at hl;have O:=lJ (X:=X) hk hl.1.1;exact⟨Km fs hc O.kind O.cell O.names O.free O.hx hl.1.2 hl.2 O.fs hi.p (λcl C s₀ H₀ ex=>⟨(hb cl C s₀ H₀ ex).1.p,(hb cl C s₀ H₀ ex).2.p⟩) hs⟩
theorem Bw{i:Nat}{y:Str}{py spos:Pos}{elt:Expr}{ifs:WR Expr}{scope:Scope}(fs:WR (Str×Nat)){wi:TI}{tt:TT}{te:TE}
  (hN:X.N.Nodup) (hi:QI X (.Tuple [.Name x px,.Name x2 px2] kt ptg) iter wi)
  (hb:∀(cl:WR (Str×Addr)) (C:Addr) (s₀:Shared) (H₀:Hp) (ex:WR Addr),SH (b9 X scope cl C (x::x2::fs.map (·.1)) s₀ H₀ ex) ifs tt/\QE (b9 X scope cl C (x::x2::fs.map (·.1)) s₀ H₀ ex) elt te)
  (hy:X.N[i]?=some y:=by rfl') (hyl:X.env.scope.names.lookup y=some .local:=by rfl') (hc:X.calm=true:=by rfl')
  (hk:scope.kind=.function:=by rfl') (hl:lN scope.names X.env.scope.names X.N x x2 fs=true:=by rfl')
  (hsw:swapsWith (.ListComp elt [⟨.Tuple [.Name x px,.Name x2 px2] kt ptg,iter,ifs,0⟩] scope pos) (some (.Name y py)) spos.line X.env=pure true:=by rfl')
  (hs:∀x,foldedSetIterable iter X.env x=pure x:=by intro _;rfl'):
  QS X (.Assign [.Name y py] (.ListComp elt [⟨.Tuple [.Name x px,.Name x2 px2] kt ptg,iter,ifs,0⟩] scope pos) spos) (lM X.K i wi (fs.map (·.2)) tt te):=by
 unfold lN at hl;simp only[and_eq_true,beq_iff_eq,decide_eq_true_eq] at hl;have O:=lJ (X:=X) hk hl.1.1;exact⟨Kn fs hN hy hyl hc O.kind O.cell O.names O.free O.hx hl.1.2 hl.2 O.fs hi.p (λcl C s₀ H₀ ex=>⟨(hb cl C s₀ H₀ ex).1.p,(hb cl C s₀ H₀ ex).2.p⟩) hsw hs⟩
end
theorem lO{K:W.Frag}{tl:TE}{a:Addr}{xs:WR V}{Z:St}{fs:WM}{tt:TT}{te:TE}{H:Hp}{Q:VK}(ha:∀Q:VK,Q (.ref a) H->tl Z H Q)(hq:aZ K H a xs)(Pv:Nat->WR V->Hp->Prop)(h0:Pv 0 [] H)(hl:∀i ys H,i<=xs.length->Pv i ys H->aZ K H a xs/\ys.length<=i)(hn:xs.length<=sizeLine)
  (hs:∀i x ys H,xs[i]?=some x->Pv i ys H->∃p v0 v1,x=.ref p/\ff K H p [v0,v1]/\∀R:WR V->Hp->Prop,(∀ys' H',Pv (i+1) ys' H'->R ys' H')->tt (some v0::some v1::bg fs Z) H λb H2=>if b=true then te (some v0::some v1::bg fs Z) H2 λy H3=>R (ys++[y]) H3 else R ys H2)
  (hd:∀ys H,Pv xs.length ys H->∀p,H p=none->Q (.ref p) (upd H p (.lst ys))):g5 K (bV K tl) fs tt te Z H Q:=by
 refine ha _ ⟨a,rfl,⟨xs,hq⟩,?_⟩;refine⟨λi m ys H=>m=xs.length-i/\i<=xs.length/\Pv i ys H,⟨xs.length,by simp,zero_le _,h0⟩,?_⟩;rintro i m ys H ⟨rfl,hi,p⟩;obtain⟨hq,hle⟩:=hl i ys H hi p;refine⟨by omega,?_⟩
 by_cases hlt:i<xs.length
 .refine .inr ⟨⟨xs,xs[i],hq,by simp[hlt]⟩,by omega,λx H' y=>?_⟩
  obtain⟨e,y⟩:=y;subst e;obtain⟨pt,v0,v1,e,hqt,h⟩:=hs i x ys _ (y xs hq) p;exact⟨pt,v0,v1,e,hqt,h (λys' H'=>∃m',m'<xs.length-i/\m'=xs.length-(i+1)/\i+1<=xs.length/\Pv (i+1) ys' H') λys' H' q=>⟨xs.length-(i+1),by omega,rfl,hlt,q⟩⟩
 .have e:i=xs.length:=by omega
  subst e;exact .inl ⟨⟨xs,hq,le_refl _⟩,hd ys H p⟩
end L2
namespace MaxD
open PySem PyProof.Rows
end MaxD
namespace L2
open PySem PySem.Spec PyProof.Rows
section
variable{X:Cx}{e o value d:Expr}{es:WR Expr}{f x m:Str}{pos pos' p apos kp:Pos}{ta tv td:TE}{t:TA}
theorem aX{n:Int}(hm:∃t,X.mg x=some (.int n t))(hg:X.env.kindOf x=some .globalImplicit:=by rfl')(hd:(x==("__debug__":Str))=false:=by rfl'):QE X (.Name x pos) (tC (.int n)):=by
 obtain⟨t,hm⟩:=hm;exact⟨EI (v:=.int n) hg hm ⟨t,rfl⟩ hd⟩
theorem cQ(he:QE X e ta)(hb:attributeBase e f X.env (eval e X.env)=eval e X.env:=by rfl'):QE X (.Attribute e f pos) (dU X.K ta f):=⟨Ql he.p hb⟩
theorem g6(ha:QE X o ta)(hv:QE X value tv)(hs:swapsWith value (some (.Attribute o f pos')) pos.line X.env=pure false:=by rfl'):QS X (.Assign [.Attribute o f pos'] value pos) (iP X.K ta tv f):=⟨Qm ha.p hv.p hs⟩
variable{CX:AZ}{k:Nat}{g C:Addr}{fd:FuncData}{ps:WR Str}{sp:Sp}{E:XK}
theorem oO{pl:Sem Bool}(he:QE X o ta)(c:ES X.K C)(hm:Meth X.K C m g)(F:gK X.prog X.w X.K X.mg X.base CX k g fd ps sp)(hr:b6 k X.A)(hb:Binds X.K fd ps [])(hx:Passes CX X E)(ha:QA X (e::es) t)
  (hst:starEach (e::es) X.env=(false,eval e X.env)::starEach es X.env:=by rfl') (hpl:(backTo pos (starEach es X.env)).any (·.1)=false:=by rfl')
  (ht:eval (.Call (.Attribute o m apos) (e::es) [] pos) X.env=(do
   let ov <-eval o X.env
   standAt apos.atName
   let (f,first) <-holding [ov] (getMethod ov m pl)
   callWith pos f first (backTo pos (starEach (e::es) X.env)) (backToKw pos (keywordEach [] X.env))):=by rfl):
  QE X (.Call (.Attribute o m apos) (e::es) [] pos) (cI C m sp [] E ta t):=⟨NN he.p c hm F hr hb .nil hx ha.p hst hpl ht⟩
theorem dh{pl:Sem Bool}(he:QE X o ta)(c:ES X.K C)(hm:Meth X.K C m g)(F:gK X.prog X.w X.K X.mg X.base CX k g fd ps sp)(hr:b6 k X.A)(hb:Binds X.K fd ps [])(hx:Passes CX X E)
  (ht:eval (.Call (.Attribute o m apos) [] [] pos) X.env=(do
   let ov <-eval o X.env
   standAt apos.atName
   let (f,first) <-holding [ov] (getMethod ov m pl)
   callWith pos f first (backTo pos (starEach [] X.env)) (backToKw pos (keywordEach [] X.env))):=by rfl):
  QE X (.Call (.Attribute o m apos) [] [] pos) (cI C m sp [] E ta az):=⟨JM he.p c hm F hr hb .nil hx ht⟩
theorem Oe(M:Mk X.K C g)(F:gK X.prog X.w X.K X.mg X.base CX k g fd ps sp)(hr:b6 (k+1) X.A)(hm:X.mg x=some (.ref C))(hb:Binds X.K fd ps [])(hx:Passes CX X E)(ha:QA X (e::es) t)
  (hg:X.env.kindOf x=some .globalImplicit:=by rfl') (hdb:(x==("__debug__":Str))=false:=by rfl') (he:starEach (e::es) X.env=(false,eval e X.env)::starEach es X.env:=by rfl') (hpl:(backTo pos (starEach es X.env)).any (·.1)=false:=by rfl'):
  QE X (.Call (.Name x p) (e::es) [] pos) (ET C sp [] E t):=⟨NO M F hr hg hm hb .nil hx ha.p hdb he hpl⟩
end
end L2
namespace MM
def val(K:Nat):WM->Nat->Nat
 |_,0=>0
 |[],_+1=>0
 |c::m,n+1=>(c-97)*K^n+val K m n
def Ls(K:Nat)(m:WM):Prop:=∀c∈m,97<=c/\c<97+K
def Na(m:WM):Prop:=∀c,m.getLast?=some c->c≠97
structure Mark(K:Nat)(m:WM):Prop where
 ls:Ls K m
 na:Na m
 ne:m≠[]
theorem Ls.tail{K c:Nat}{m:WM}(h:Ls K (c::m)):Ls K m:=λx hx=>h x (mem_cons_of_mem _ hx)
theorem Ls.head{K c:Nat}{m:WM}(h:Ls K (c::m)):97<=c/\c<97+K:=h c mem_cons_self
theorem Ls.nil(K:Nat):Ls K []:=λ_ h=>nomatch h
theorem Ls.app{K:Nat}{a b:WM}(h:Ls K a)(h':Ls K b):Ls K (a++b):=λc hc=>(mem_append.mp hc).elim (h c) (h' c)
theorem Ls.mono{K L:Nat}{m:WM}(h:Ls K m)(hl:K<=L):Ls L m:=λc hc=>⟨(h c hc).1,by have:=(h c hc).2;omega⟩
theorem Ls.sub{K:Nat}{a b:WM}(h:Ls K b)(s:∀c∈a,c∈b):Ls K a:=λc hc=>h c (s c hc)
theorem Na.nil:Na []:=λc h=>by simp at h
theorem Na.tail{c:Nat}{m:WM}(h:Na (c::m)):Na m:=λx hx=>by
 cases m with
 |nil=>simp at hx
 |cons d r=>exact h x (by rw[List.getLast?_cons_cons];exact hx)
theorem Na.app{a b:WM}(h:Na b)(hb:b≠[]):Na (a++b):=λc hc=>by
 rw[List.getLast?_append] at hc;cases e:b.getLast? with
 |none=>exact absurd (List.getLast?_eq_none_iff.mp e) hb
 |some d=>rw[e] at hc;exact h c (by rw[e];exact hc)
theorem val_zero(K:Nat)(m:WM):val K m 0=0:=by cases m<;>rfl
theorem dP(K n:Nat):val K [] n=0:=by cases n<;>rfl
theorem bW(K c n:Nat)(m:WM):val K (c::m) (n+1)=(c-97)*K^n+val K m n:=rfl
theorem gm{K:Nat}(hK:0<K):∀{m:WM} (n:Nat),Ls K m->val K m n<K^n
 |m,0,_=>by rw[val_zero];exact Nat.one_pos
 |[],n+1,_=>by rw[dP];exact Nat.pow_pos hK
 |c::m,n+1,h=>by
  have ih:=gm hK n h.tail;have hc:=h.head;rw[bW,pow_succ];have h1:(c-97)*K^n+K^n<=K^n*K:=by
   have:(c-97+1)*K^n<=K*K^n:=mul_le_mul_right _ (by omega);rw[add_mul,one_mul,mul_comm K] at this;exact this
  omega
theorem tY{K:Nat}(hK:0<K):∀{m:WM} (n:Nat),Ls K m->Na m->m≠[]->m.length<=n->0<val K m n
 |[],_,_,_,h,_=>absurd rfl h
 |c::m,0,_,_,_,h=>by simp at h
 |[c],n+1,h,hn,_,_=>by
  have h1:=h.head;have h2:=hn c (by simp);rw[bW,dP];have:0<(c-97)*K^n:=Nat.mul_pos (by omega) (Nat.pow_pos hK);omega
 |c::d::m,n+1,h,hn,_,hl=>by
  have:=tY hK n h.tail hn.tail (cons_ne_nil _ _) (by simpa using hl);rw[bW];omega
theorem oQ{a b x y P:Nat}(hx:x<P)(hy:y<P):a*P+x<b*P+y↔a<b\/a=b/\x<y:=by
 constructor
 .intro h
  rcases lt_trichotomy a b with g|g|g
  .exact .inl g
  .subst g;exact .inr ⟨rfl,by omega⟩
  .have:(b+1)*P<=a*P:=mul_le_mul_right _ g;rw[add_mul] at this;omega
 .rintro(g|⟨rfl,g⟩)
  .have:(a+1)*P<=b*P:=mul_le_mul_right _ g;rw[add_mul] at this;omega
  .omega
theorem Ko{a b x y P:Nat}(hx:x<P)(hy:y<P):a*P+x=b*P+y↔a=b/\x=y:=by
 constructor
 .intro h
  rcases lt_trichotomy a b with g|g|g
  .have:(a+1)*P<=b*P:=mul_le_mul_right _ g;rw[add_mul] at this;omega
  .subst g;exact⟨rfl,by omega⟩
  .have:(b+1)*P<=a*P:=mul_le_mul_right _ g;rw[add_mul] at this;omega
 .rintro⟨rfl,rfl⟩;rfl
theorem sj{c d:Nat}(hc:97<=c)(hd:97<=d):(c-97<d-97↔c<d)/\(c-97=d-97↔c=d):=⟨by omega,by omega⟩
theorem Dc{K:Nat}(hK:0<K):∀{a b:WM} (n:Nat),Ls K a->Ls K b->Na a->Na b->a.length<=n->b.length<=n->(a<b↔val K a n<val K b n)
 |[],[],n,_,_,_,_,_,_=>by rw[dP];simp
 |[],c::b,n,_,hb,_,nb,_,lb=>by
  rw[dP];have:=tY hK n hb nb (cons_ne_nil _ _) lb;simp[this]
 |c::a,[],n,_,_,_,_,_,_=>by rw[dP];simp
 |c::a,d::b,0,_,_,_,_,la,_=>by simp at la
 |c::a,d::b,n+1,ha,hb,na,nb,la,lb=>by
  have ih:=Dc hK n ha.tail hb.tail na.tail nb.tail (by simpa using la) (by simpa using lb);rw[cons_lt_cons_iff,bW,bW,oQ (gm hK n ha.tail) (gm hK n hb.tail),(sj ha.head.1 hb.head.1).1,(sj ha.head.1 hb.head.1).2,ih]
theorem Fb{K:Nat}(hK:0<K):∀{l x:WM} (n:Nat),Ls K l->Ls K x->Na x->x.length=n->(l<x↔val K l n<val K x n)
 |l,[],n,_,_,_,e=>by
  obtain rfl:n=0:=by simpa using e.symm
  rw[val_zero,val_zero];simp
 |[],c::x,n,_,hx,nx,e=>by
  rw[dP];have:=tY hK n hx nx (cons_ne_nil _ _) (Nat.le_of_eq e);simp[this]
 |d::l,c::x,0,_,_,_,e=>by simp at e
 |d::l,c::x,n+1,hl,hx,nx,e=>by
  have ih:=Fb hK n hl.tail hx.tail nx.tail (by simpa using e);rw[cons_lt_cons_iff,bW,bW,oQ (gm hK n hl.tail) (gm hK n hx.tail),(sj hl.head.1 hx.head.1).1,(sj hl.head.1 hx.head.1).2,ih]
theorem By{K:Nat}(hK:0<K):∀{x h:WM} (n:Nat),Ls K h->Ls K x->Na h->x.length=n->(x<h↔val K x n<val K h n\/(val K x n=val K h n/\n<h.length))
 |[],h,n,_,_,_,e=>by
  obtain rfl:n=0:=by simpa using e.symm
  rw[val_zero,val_zero];cases h<;>simp
 |c::x,[],n,_,_,_,_=>by rw[dP];simp
 |c::x,d::h,0,_,_,_,e=>by simp at e
 |c::x,d::h,n+1,hh,hx,nh,e=>by
  have ih:=By hK n hh.tail hx.tail nh.tail (by simpa using e);have v1:=gm hK n hx.tail;have v2:=gm hK n hh.tail;rw[cons_lt_cons_iff,bW,bW,oQ v1 v2,Ko v1 v2,(sj hx.head.1 hh.head.1).1,(sj hx.head.1 hh.head.1).2,ih,length_cons,Nat.add_lt_add_iff_right];constructor
  .rintro(g|⟨g,g'|g'⟩)
   .exact .inl (.inl g)
   .exact .inl (.inr ⟨g,g'⟩)
   .exact .inr ⟨⟨g,g'.1⟩,g'.2⟩
  .rintro((g|g)|⟨⟨g,g'⟩,g2⟩)
   .exact .inl g
   .exact .inr ⟨g.1,.inl g.2⟩
   .exact .inr ⟨g,.inr ⟨g',g2⟩⟩
def Of(m:WM)(i:Nat):Nat:=match m[i]? with|some c=>c-97|none=>0
theorem val_succ(K:Nat):∀(m:WM) (n:Nat),val K m (n+1)=val K m n*K+Of m n
 |[],n=>by rw[dP,dP];simp[Of]
 |c::m,0=>by rw[bW,val_zero,val_zero];simp[Of]
 |c::m,n+1=>by
  have ih:=val_succ K m n;rw[bW,ih,bW,pow_succ,add_mul,Nat.mul_assoc,<-Nat.add_assoc];simp[Of]
def low(K r:Nat):Nat->WM
 | 0=>[]
 |n+1=>(97+r/K^n%K)::low K r n
theorem low_length(K r:Nat):∀n,(low K r n).length=n
 | 0=>rfl
 |n+1=>by rw[low,length_cons,low_length K r n]
theorem qB{K:Nat}(hK:0<K)(r:Nat):∀n,Ls K (low K r n)
 | 0=>Ls.nil K
 |n+1=>λc hc=>by
  rcases mem_cons.mp hc with rfl|hc
  .have:=mod_lt (r/K^n) hK;omega
  .exact qB hK r n c hc
theorem g7{K:Nat}(hK:0<K)(r:Nat):∀n,val K (low K r n) n=r%K^n
 | 0=>by rw[val_zero,Nat.pow_zero,Nat.mod_one]
 |n+1=>by
  rw[low,bW,g7 hK r n,pow_succ,Nat.mod_mul,Nat.add_comm,mul_comm,Nat.add_sub_cancel_left]
def oR(m:WM):WM:=(m.reverse.dropWhile (λc=>[97].contains c)).reverse
theorem BA(m:WM):oR (m++[97])=oR m:=by
 unfold oR;rw[List.reverse_append];show (List.dropWhile _ (97::m.reverse)).reverse=_;rw[List.dropWhile_cons_of_pos (by decide)]
theorem zo{m:WM}(h:Na m):oR m=m:=by
 unfold oR;cases e:m.reverse with
 |nil=>rw[List.dropWhile_nil,<-e,List.reverse_reverse]
 |cons c r=>
  have hc:c≠97:=h c (by rw[List.getLast?_eq_head?_reverse,e];rfl);rw[List.dropWhile_cons_of_neg (by simp[hc]),<-e,List.reverse_reverse]
theorem lP(m:WM):∃k,m=oR m++List.replicate k 97/\Na (oR m):=by
 obtain⟨n,hn⟩:∃n,m.length=n:=⟨_,rfl⟩
 induction n generalizing m with
 |zero=>
  obtain rfl:m=[]:=length_eq_zero_iff.mp hn;exact⟨0,rfl,Na.nil⟩
 |succ n ih=>
  by_cases h:Na m
  .exact⟨0,by rw[zo h];simp,by rw[zo h];exact h⟩
  .obtain⟨c,hc,e⟩:∃c,m.getLast?=some c/\c=97:=by
    apply Classical.byContradiction
    intro q;exact h λc hc e=>q ⟨c,hc,e⟩
   subst e;obtain⟨r,rfl⟩:=List.getLast?_eq_some_iff.mp hc;obtain⟨k,e1,e2⟩:=ih r (by simpa using hn);rw[BA];refine⟨k+1,?_,e2⟩;rw[List.replicate_succ',<-append_assoc,<-e1]
theorem qC(K:Nat):∀(m:WM) (k n:Nat),val K (m++List.replicate k 97) n=val K m n
 |m,k,0=>by rw[val_zero,val_zero]
 |[],0,n+1=>rfl
 |[],k+1,n+1=>by
  rw[nil_append,replicate_succ,bW];have:=qC K [] k n;rw[nil_append] at this;rw[this,dP,dP];simp
 |c::m,k,n+1=>by rw[cons_append,bW,bW,qC K m k n]
theorem Kp(K:Nat)(m:WM)(n:Nat):val K (oR m) n=val K m n:=by
 obtain⟨k,e,_⟩:=lP m;have h:val K m n=val K (oR m++List.replicate k 97) n:=by rw[<-e]
 rw[h,qC]
theorem Kq(m:WM):Na (oR m):=by
 obtain⟨k,_,h⟩:=lP m;exact h
theorem Kr(m:WM):(oR m).length<=m.length:=by
 obtain⟨k,e,_⟩:=lP m;have h:m.length=(oR m++List.replicate k 97).length:=by rw[<-e]
 rw[h,length_append];omega
theorem Ks(m:WM):∀c∈oR m,c∈m:=λc hc=>by
 obtain⟨k,e,_⟩:=lP m;rw[e];exact mem_append_left _ hc
def mk(K r n:Nat):WM:=oR (low K r n)
theorem mk_val{K:Nat}(hK:0<K){r n:Nat}(h:r<K^n):val K (mk K r n) n=r:=by
 rw[mk,Kp,g7 hK,mod_eq_of_lt h]
theorem Dd(K r n:Nat):(mk K r n).length<=n:=by
 have:=Kr (low K r n);rw[low_length] at this;exact this
theorem Ku{K:Nat}(hK:0<K)(r n:Nat):Ls K (mk K r n):=(qB hK r n).sub (Ks _)
theorem Kv(K r n:Nat):Na (mk K r n):=Kq _
theorem Tr{K:Nat}(hK:0<K){r n:Nat}(h0:0<r)(h:r<K^n):mk K r n≠[]:=λe=>by
 have:=mk_val hK h;rw[e,dP] at this;omega
theorem Og{K:Nat}(hK:0<K){r n:Nat}(h0:0<r)(h:r<K^n):Mark K (mk K r n):=⟨Ku hK r n,Kv K r n,Tr hK h0 h⟩
end MM
namespace MM
def bC(K h j:Nat):WM:=((List.range (K-1)).filter (λi=>decide (i%h=j))).map (98+·)
def cD(K h j n:Nat):WM:=((List.range' (n-1) (K-n)).filter (λi=>decide (i%h=j))).map (98+·)
theorem zp(K h j:Nat):cD K h j 1=bC K h j:=by
 unfold cD bC;rw[List.range_eq_range']
theorem mJ{K h j n:Nat}(hn:K<=n):cD K h j n=[]:=by
 unfold cD;have:K-n=0:=by omega
 rw[this];rfl
theorem xG{K h j n:Nat}(h1:1<=n)(hK:n<K)(hne:(n-1)%h≠j):cD K h j n=cD K h j (n+1):=by
 unfold cD;obtain⟨d,hd⟩:∃d,K-n=d+1:=⟨K-n-1,by omega⟩;have e2:K-(n+1)=d:=by omega
 have e3:n+1-1=n-1+1:=by omega
 rw[hd,e2,e3,List.range'_succ,filter_cons];simp[hne]
theorem xH{K h j n:Nat}(h1:1<=n)(hK:n<K)(he:(n-1)%h=j):cD K h j n=(97+n)::cD K h j (n+1):=by
 unfold cD;obtain⟨d,hd⟩:∃d,K-n=d+1:=⟨K-n-1,by omega⟩;have e2:K-(n+1)=d:=by omega
 have e3:n+1-1=n-1+1:=by omega
 rw[hd,e2,e3,List.range'_succ,filter_cons];simp[he];omega
theorem g8{K h j:Nat}:∀(m n:Nat),1<=n->(∀i,i<m->(n-1+i)%h≠j)->cD K h j n=cD K h j (n+m)
 | 0,n,_,_=>rfl
 |m+1,n,h1,hne=>by
  by_cases hK:n<K
  .rw[xG h1 hK (by have:=hne 0 (by omega);simpa using this),g8 m (n+1) (by omega) (λi hi=>by have:=hne (i+1) (by omega);rwa[show n-1+(i+1)=n+1-1+i by omega] at this)];congr 1;omega
  .rw[mJ (by omega),mJ (by omega)]
theorem De{a h i:Nat}(hi:0<i)(hh:i<h):(a+i)%h≠a%h:=by
 intro e;have h0:0<h:=by omega
 have e1:=div_add_mod a h;have e2:=div_add_mod (a+i) h;rw[e] at e2;have e3:h*((a+i)/h)=h*(a/h)+i:=by omega
 rcases lt_or_ge (a/h) ((a+i)/h) with hl|hl
 .have:h*(a/h+1)<=h*((a+i)/h):=Nat.mul_le_mul_left h hl;rw[Nat.mul_add] at this;omega
 .have:h*((a+i)/h)<=h*(a/h):=Nat.mul_le_mul_left h hl;omega
theorem xJ{K h j n:Nat}(h0:0<h)(h1:1<=n)(hK:n<K)(he:(n-1)%h=j):cD K h j n=(97+n)::cD K h j (n+h):=by
 rw[xH h1 hK he,g8 (h-1) (n+1) (by omega) (λi hi=>by
  have:=De (a:=n-1) (h:=h) (i:=i+1) (by omega) (by omega);rw[he] at this;rwa[show n+1-1+i=n-1+(i+1) by omega])]
 congr 2;omega
theorem vg{K h j:Nat}(hj:j<h):cD K h j (1+j)=bC K h j:=by
 rw[<-zp,Nat.add_comm 1 j,Nat.add_comm j 1];exact(g8 j 1 (by omega) (λi hi=>by
  show (0+i)%h≠j;rw[Nat.zero_add,mod_eq_of_lt (by omega)];omega)).symm
theorem Kw{K h j:Nat}(hj:j<h)(hh:h+1<=K):bC K h j≠[]:=by
 rw[<-vg hj,xJ (by omega) (by omega) (by omega) (by rw[Nat.add_comm,Nat.add_sub_cancel];exact mod_eq_of_lt hj)];exact cons_ne_nil _ _
theorem qD{K h j c:Nat}:c∈bC K h j↔∃i,i<K-1/\i%h=j/\c=98+i:=by
 unfold bC;simp only[mem_map,mem_filter,mem_range,decide_eq_true_eq];constructor
 .rintro⟨a,⟨h1,h2⟩,h3⟩;exact⟨a,h1,h2,h3.symm⟩
 .rintro⟨a,h1,h2,h3⟩;exact⟨a,⟨h1,h2⟩,h3.symm⟩
end MM
namespace MM
structure Ends(L:Nat)(es:WM):Prop where
 up:es.Pairwise (·<·)
 lo:∀e∈es,98<=e
 hi:∀e∈es,e<97+L
 ne:es≠[]
def cnt(es:WM)(x:Nat):Nat:=(es.filter (λe=>decide (e<x))).length
def ob(L:Nat)(es:WM)(N:Nat):Nat:=N/L*es.length+cnt es (97+N%L)
def ow(L:Nat)(es:WM)(w:Nat):Bool:=decide (97+w%L∈es)
def xK(L:Nat)(es:WM)(p:Nat):Nat:=p/es.length*L+(es.getD (p%es.length) 0-97)
theorem BB {es:List Nat} (h:es.Pairwise (· < ·)) (x:Nat):cnt es (x + 1) = cnt es x + (if x ∈ es then 1 else 0):=by
  induction es with
  | nil=>rfl
  | cons e r ih=>
    obtain ⟨h1,h2⟩:=pairwise_cons.mp h
    have ih:=ih h2
    unfold cnt at ih ⊢
    rw [filter_cons,filter_cons]
    by_cases a:e < x
    . have m : x ∈ e :: r ↔ x ∈ r := by rw [mem_cons]; constructor
                                        . rintro (rfl | z)
                                          . omega
                                          . exact z
                                        . exact .inr
      rw [if_pos (by simp; omega),if_pos (by simpa using a),length_cons,length_cons,ih]
      simp only [m]; omega
    . by_cases b:e = x
      . subst b
        rw [if_pos (by simp),if_neg (by simp)]
        have no:e ∉ r:=fun z=>by have:=h1 e z; omega
        rw [if_neg no] at ih
        rw [length_cons,ih,if_pos mem_cons_self]
      . have no:x ∉ r:=fun z=>by have:=h1 x z; omega
        rw [if_neg (by simp; omega),if_neg (by simpa using a),ih,if_neg no,if_neg (by rw [mem_cons]; rintro (z | z); omega; exact no z)]
theorem Fc{es:WM}(h:∀e∈es,98<=e):cnt es 97=0:=by
 unfold cnt;rw[length_eq_zero_iff,filter_eq_nil_iff];intro e he;have:=h e he;simp only[decide_eq_true_eq];omega
theorem Oh{es:WM}{x:Nat}(h:∀e∈es,e<x):cnt es x=es.length:=by
 unfold cnt;rw[List.filter_eq_self.mpr (λe he=>by simpa using h e he)]
theorem tZ{L:Nat}{es:WM}(hL:0<L)(E:Ends L es)(w:Nat):ob L es (w+1)=ob L es w+(if ow L es w=true then 1 else 0):=by
 unfold ob ow;have hm:=mod_lt w hL;simp only[decide_eq_true_eq]
 by_cases h:w%L+1<L
 .have e1:(w+1)/L=w/L:=by rw[Nat.add_div hL];have:1%L=1:=mod_eq_of_lt (by omega);rw[this,Nat.div_eq_of_lt (show 1<L by omega),if_neg (by omega)];rfl
  have e2:(w+1)%L=w%L+1:=by rw[Nat.add_mod,mod_eq_of_lt (show 1<L by omega)];exact mod_eq_of_lt h
  rw[e1,e2,show 97+(w%L+1)=97+w%L+1 by omega,BB E.up,Nat.add_assoc]
 .have hl:w%L+1=L:=by omega
  have hd:=div_add_mod w L;have e0:w+1=L*(w/L+1):=by rw[Nat.mul_add];omega
  have e1:(w+1)/L=w/L+1:=by rw[e0,Nat.mul_div_cancel_left _ hL]
  have e2:(w+1)%L=0:=by rw[e0,Nat.mul_mod_right]
  have e3:=BB E.up (97+w%L);rw[show 97+w%L+1=97+L by omega,Oh E.hi] at e3
  rw[e1,e2,add_zero,Fc E.lo,add_mul,one_mul,e3];omega
theorem QZ{es:WM}(h:es.Pairwise (·<·)):∀{r:Nat} {x:Nat},es[r]?=some x->cnt es x=r:=by
 induction es with
 |nil=>intro r x e;simp at e
 |cons e t ih=>
  intro r x hx;obtain⟨h1,h2⟩:=pairwise_cons.mp h;cases r with
  |zero=>
   obtain rfl:e=x:=by simpa using hx
   unfold cnt;rw[length_eq_zero_iff,filter_eq_nil_iff];intro y hy
   rcases mem_cons.mp hy with rfl|hy
   .simp
   .have:=h1 y hy;simp;omega
  |succ r=>
   have hx':t[r]?=some x:=by simpa using hx
   have:=h1 x (mem_of_getElem? hx');have i2:=ih h2 hx';unfold cnt at i2 ⊢;rw[List.filter_cons_of_pos (by simpa using this),length_cons,i2]
theorem ju {L:Nat} {es:List Nat} (hL:0 < L) (E:Ends L es) {a:Nat}:∀ {b:Nat},a ≤ b→ob L es a ≤ ob L es b
  | 0, h => by obtain rfl : a = 0 := by omega
               exact le_refl _
  | b + 1,h=>by
    by_cases e:a = b + 1
    . rw [e]; exact le_refl _
    . have:=ju hL E (a:=a) (b:=b) (by omega)
      rw [tZ hL E]; omega
theorem jv{K h j:Nat}(hj:j<h)(hh:h+1<=K):Ends K (bC K h j) where
 up:=by
  unfold bC;rw[pairwise_map];refine List.Pairwise.imp ?_ ((List.pairwise_lt_range (n:=K-1)).filter _);intro a b hab;omega
 lo:=λe he=>by obtain⟨i,_,_,rfl⟩:=qD.mp he;omega
 hi:=λe he=>by obtain⟨i,hi,_,rfl⟩:=qD.mp he;omega
 ne:=Kw hj hh
theorem BC{L:Nat}(hL:0<L){i:Nat}(hi:i<L)(q:Nat):∀n,low L (q*L+i) (n+1)=low L q n++[97+i]
 | 0=>by
  show [97+(q*L+i)/L^0%L]=[97+i];rw[Nat.pow_zero,Nat.div_one,mul_comm,Nat.mul_add_mod,mod_eq_of_lt hi]
 |n+1=>by
  rw[low,BC hL hi q n,low,cons_append];congr 2
  rw[pow_succ,mul_comm (L^n),<-Nat.div_div_eq_div_mul];congr 1
  have:(q*L+i)/L=q:=by rw[mul_comm,Nat.mul_add_div hL,Nat.div_eq_of_lt hi];rfl
  rw[this]
theorem oS{L w n:Nat}(hL:0<L):(low L w (n+1)).getLast?=some (97+w%L):=by
 have hd:=div_add_mod w L;have e:w=w/L*L+w%L:=by rw[mul_comm];omega
 rw[e,BC hL (mod_lt w hL)];simp[mod_eq_of_lt (mod_lt w hL)]
theorem Kx{L w n:Nat}(hL:0<L)(h:w%L≠0):mk L w (n+1)=low L w (n+1):=by
 unfold mk;refine zo λc hc=>?_;rw[oS hL] at hc;have:=Option.some.inj hc;omega
end MM
namespace MM
theorem Fd{L:Nat}{es:WM}(E:Ends L es)(p:Nat):xK L es p%L≠0:=by
 have hp:0<es.length:=length_pos_iff.mpr E.ne;have hm:=mod_lt p hp;have hx:es[p%es.length]?=some es[p%es.length]:=getElem?_eq_getElem hm;have h1:=E.lo _ (mem_of_getElem? hx);have h2:=E.hi _ (mem_of_getElem? hx);unfold xK;rw[getD_eq_getElem?_getD,hx,mul_comm,Nat.mul_add_mod,Option.getD_some,mod_eq_of_lt (by omega)];omega
end MM
namespace MM
theorem Dg{L:Nat}{es:WM}(hL:0<L)(E:Ends L es)(p:Nat):ob L es (xK L es p)=p/\ow L es (xK L es p)=true:=by
 have hp:0<es.length:=length_pos_iff.mpr E.ne;have hm:=mod_lt p hp;have hx:es[p%es.length]?=some es[p%es.length]:=getElem?_eq_getElem hm;have hmem:=mem_of_getElem? hx;have h1:=E.lo _ hmem;have h2:=E.hi _ hmem;have hc:=QZ E.up hx;generalize es[p%es.length]=e at *;have e0:xK L es p=p/es.length*L+(e-97):=by unfold xK;rw[getD_eq_getElem?_getD,hx];rfl
 have e1:xK L es p/L=p/es.length:=by rw[e0,mul_comm,Nat.mul_add_div hL,Nat.div_eq_of_lt (show e-97<L by omega)];rfl
 have e2:xK L es p%L=e-97:=by rw[e0,mul_comm,Nat.mul_add_mod,mod_eq_of_lt (by omega)]
 constructor
 .unfold ob;rw[e1,e2,show 97+(e-97)=e by omega,hc,mul_comm]
  exact div_add_mod p es.length
 .unfold ow;rw[e2,show 97+(e-97)=e by omega]
  exact decide_eq_true hmem
theorem Ky{L:Nat}{es:WM}(hL:0<L)(E:Ends L es){A B p:Nat}(h1:ob L es A<=p)(h2:p<ob L es B):A<=xK L es p/\xK L es p<B:=by
 obtain⟨o1,o2⟩:=Dg hL E p;constructor
 .by_cases z:A<=xK L es p
  .exact z
  .have:=ju hL E (show xK L es p+1<=A by omega);rw[tZ hL E,if_pos o2,o1] at this;omega
 .by_cases z:xK L es p<B
  .exact z
  .have:=ju hL E (show B<=xK L es p by omega);omega
end MM
set_option maxHeartbeats 1000000
namespace L2
open PySem PySem.Spec PyProof.Rows
end L2
set_option maxHeartbeats 1000000
namespace L2
section
open PySem PySem.Spec PyProof.Rows Builtin Builtin.ObjectAttr Builtin.Getset_descriptor
end
open PySem PySem.Spec PyProof.Rows
end L2
set_option maxHeartbeats 1000000
namespace L2
open PySem PySem.Spec PyProof.Rows
section
variable{κ:Type}[DecidableEq κ]
def cV(kvs:WR (κ×V))(k:κ):Option V:=(kvs.find? λkv=>decide (kv.1=k)).map (·.2)
def putK(kvs:WR (κ×V))(k:κ)(v:V):WR (κ×V):=
 if (kvs.any λkv=>decide (kv.1=k))=true then kvs.map (λkv=>if kv.1=k then(kv.1,v) else kv) else kvs++[(k,v)]
theorem vh{k:κ}:cV ([]:WR (κ×V)) k=none:=rfl
theorem cN{p:κ×V}{r:WR (κ×V)}{k:κ}(e:p.1=k):cV (p::r) k=some p.2:=by simp[cV,find?_cons,e]
theorem cy{p:κ×V}{r:WR (κ×V)}{k:κ}(e:¬p.1=k):cV (p::r) k=cV r k:=by simp[cV,find?_cons,e]
theorem i8(k:κ):∀kvs:WR (κ×V),(kvs.any λkv=>decide (kv.1=k))=(cV kvs k).isSome
 |[]=>rfl
 |p::r=>by
  rw[List.any_cons]
  by_cases e:p.1=k
  .simp only[cN e,decide_eq_true e,Bool.true_or,Option.isSome_some]
  .rw[cy e,decide_eq_false e,Bool.false_or];exact i8 k r
theorem BD(k j:κ)(y:V):∀kvs:WR (κ×V),cV (kvs.map λkv=>if kv.1=k then(kv.1,y) else kv) j=(cV kvs j).map λx=>if j=k then y else x
 |[]=>rfl
 |p::r=>by
  have ih:=BD k j y r;rw[map_cons]
  by_cases h:p.1=k
  .rw[if_pos h]
   by_cases e:p.1=j
   .rw[cN (p:=(p.1,y)) e,cN e,map_some,if_pos (e.symm.trans h)]
   .rw[cy (p:=(p.1,y)) e,cy e,ih]
  .rw[if_neg h]
   by_cases e:p.1=j
   .rw[cN (p:=p) e,cN e,map_some,if_neg (λz=>h (e.trans z))]
   .rw[cy (p:=p) e,cy e,ih]
theorem yj(k j:κ)(y:V):∀kvs:WR (κ×V),cV kvs k=none->cV (kvs++[(k,y)]) j=if j=k then some y else cV kvs j
 |[],_=>by
  by_cases e:k=j
  .rw[if_pos e.symm];exact cN (p:=(k,y)) e
  .rw[if_neg (λz=>e z.symm)];exact cy (p:=(k,y)) e
 |p::r,hn=>by
  rw[cons_append];have hk:¬p.1=k:=λz=>by rw[cN z] at hn;cases hn
  rw[cy hk] at hn;have ih:=yj k j y r hn
  by_cases e:p.1=j
  .rw[cN e,cN e,if_neg (λz=>hk (e.trans z))]
  .rw[cy e,cy e,ih]
theorem vm(kvs:WR (κ×V))(k j:κ)(y:V):cV (putK kvs k y) j=if j=k then some y else cV kvs j:=by
 unfold putK
 by_cases a:(kvs.any λkv=>decide (kv.1=k))=true
 .rw[if_pos a,BD];rw[i8] at a
  by_cases e:j=k
  .obtain⟨x,hx⟩:=Option.isSome_iff_exists.mp a;rw[if_pos e,e,hx,map_some,if_pos rfl]
  .rw[if_neg e];cases cV kvs j with
   |none=>rfl
   |some x=>rw[map_some,if_neg e]
 .rw[if_neg a];refine yj k j y kvs ?_;rw[i8] at a;cases q:cV kvs k with
  |none=>rfl
  |some x=>rw[q] at a;exact(a rfl).elim
theorem gg(kvs:WR (κ×V))(k:κ)(v:V):(putK kvs k v).length<=kvs.length+1:=by
 unfold putK;split
 .rw[length_map];omega
 .rw[length_append,length_cons,length_nil];omega
theorem oU{kvs:WR (κ×V)}{k:κ}(v:V)(h:cV kvs k=none):putK kvs k v=kvs++[(k,v)]:=by
 unfold putK;rw[i8,h];exact if_neg (by decide)
theorem j6.i9{o:Option V}{u:Option Value}(r:j6 o u):o.isSome=u.isSome:=by
 cases o with
 |none=>cases u with
  |none=>rfl
  |some _=>exact(show False from r).elim
 |some _=>cases u with
  |none=>exact(show False from r).elim
  |some _=>rfl
theorem j6.getD{o:Option V}{u:Option Value}{d:V}{d':Value}(r:j6 o u)(rd:RelV d d'):RelV (o.getD d) (u.getD d'):=by
 cases o with
 |none=>cases u with
  |none=>exact rd
  |some _=>exact(show False from r).elim
 |some _=>cases u with
  |none=>exact(show False from r).elim
  |some _=>exact r
theorem KV.val{kvs:WR (κ×V)}{vs:WR (κ×Value)}(r:KV kvs vs)(k:κ):j6 (cV kvs k) (valueAt vs k):=by
 unfold KV at r
 induction r with
 |nil=>exact True.intro
 |@cons p q ps qs h t ih=>
  obtain⟨h1,h2⟩:=h
  by_cases e:p.1=k
  .have e':q.1=k:=h1.symm.trans e;have b:valueAt (q::qs) k=some q.2:=by simp[valueAt,find?_cons,e']
   rw[cN e,b];exact h2
  .have e':¬q.1=k:=λz=>e (h1.trans z);have b:valueAt (q::qs) k=valueAt qs k:=by simp[valueAt,find?_cons,e']
   rw[cy e,b];exact ih
theorem KV.any{kvs:WR (κ×V)}{vs:WR (κ×Value)}(r:KV kvs vs)(k:κ):(kvs.any λkv=>decide (kv.1=k))=vs.any λkv=>decide (kv.1=k):=by
 unfold KV at r
 induction r with
 |nil=>rfl
 |cons h t ih=>rw[List.any_cons,List.any_cons,ih,h.1]
theorem KV.repl{kvs:WR (κ×V)}{vs:WR (κ×Value)}(r:KV kvs vs)(k:κ){y:V}{u:Value}(ry:RelV y u):
  KV (kvs.map λkv=>if kv.1=k then(kv.1,y) else kv) (vs.map λkv=>if kv.1=k then(kv.1,u) else kv):=by
 unfold KV at r ⊢
 induction r with
 |nil=>exact .nil
 |@cons p q ps qs h t ih=>
  rw[map_cons,map_cons];refine .cons ?_ ih;obtain⟨h1,h2⟩:=h
  by_cases e:p.1=k
  .rw[if_pos e,if_pos (h1.symm.trans e)];exact⟨h1,ry⟩
  .rw[if_neg e,if_neg (λz=>e (h1.trans z))];exact⟨h1,h2⟩
theorem KV.put{kvs:WR (κ×V)}{vs:WR (κ×Value)}(r:KV kvs vs)(k:κ){y:V}{u:Value}(ry:RelV y u):KV (putK kvs k y) (stored vs k u):=by
 unfold putK stored;rw[r.any k]
 by_cases e:(vs.any λkv=>decide (kv.1=k))=true
 .rw[if_pos e,if_pos e];exact r.repl k ry
 .rw[if_neg e,if_neg e];exact Paired.snoc r ⟨rfl,ry⟩
theorem KV.length{kvs:WR (κ×V)}{vs:WR (κ×Value)}(r:KV kvs vs):kvs.length=vs.length:=Paired.length r
end
theorem vn{P:Program}{w:World}{k:Key}{u:Value}(r:RelV (kV k) u):(bU P w).is k u=true:=by
 cases k with
 |inl i=>obtain⟨t,e⟩:=(show ∃t,u=Value.int i t from r);subst e;exact AO P w i t
 |inr x=>obtain⟨t,e⟩:=(show ∃t,u=Value.str x t from r);subst e;exact AQ P w x t
 |non=>obtain rfl:u=Value.none:=r;rfl
theorem ym{P:Program}{w:World}:∀{ks:WR Key} {us:WR Value},Vals (ks.map kV) us->ItemsAre (bU P w) ks us
 |[],_,r=>by rw[map_nil] at r;cases r;exact .nil
 |k::ks,_,r=>by
  rw[map_cons] at r;cases r with
  |cons h t=>exact .cons (vn h) (ym t)
abbrev KT(H:Hp):WR (WR Key×V)->WR (WR Key×Addr×Value)->Prop:=Paired λp q=>p.1=q.1/\H q.2.1=some (.tup (p.1.map kV))/\RelV p.2 q.2.2
theorem KT.val{H:Hp}{kvs:WR (WR Key×V)}{xs:WR (WR Key×Addr×Value)}(r:KT H kvs xs)(k:WR Key):j6 (cV kvs k) ((atKey xs k).map (·.2)):=by
 induction r with
 |nil=>exact True.intro
 |@cons p q ps qs h t ih=>
  obtain⟨h1,_,h2⟩:=h
  by_cases e:p.1=k
  .have e':q.1=k:=h1.symm.trans e;have b:atKey (q::qs) k=some q.2:=by simp[atKey,find?_cons,e']
   rw[cN e,b];exact h2
  .have e':¬q.1=k:=λz=>e (h1.trans z);have b:atKey (q::qs) k=atKey qs k:=by simp[atKey,find?_cons,e']
   rw[cy e,b];exact ih
theorem KT.repl{H:Hp}{kvs:WR (WR Key×V)}{xs:WR (WR Key×Addr×Value)}(r:KT H kvs xs)(k:WR Key){y:V}{u:Value}(ry:RelV y u):
  KT H (kvs.map λkv=>if kv.1=k then(kv.1,y) else kv) (xs.map (putAt k u)):=by
 induction r with
 |nil=>exact .nil
 |@cons p q ps qs h t ih=>
  rw[map_cons,map_cons];refine .cons ?_ ih;obtain⟨h1,h2,h3⟩:=h;unfold putAt
  by_cases e:p.1=k
  .rw[if_pos e,if_pos (h1.symm.trans e)];exact⟨h1,h2,ry⟩
  .rw[if_neg e,if_neg (λz=>e (h1.trans z))];exact⟨h1,h2,h3⟩
theorem KT.put{H:Hp}{kvs:WR (WR Key×V)}{xs:WR (WR Key×Addr×Value)}(r:KT H kvs xs)(k:WR Key){b:Addr}{y:V}{u:Value}(hb:H b=some (.tup (k.map kV)))(ry:RelV y u):
  KT H (putK kvs k y) (storedH xs k b u):=by
 have e:(kvs.any λkv=>decide (kv.1=k))=(atKey xs k).isSome:=by
  rw[i8,(r.val k).i9,isSome_map]
 unfold putK storedH;rw[e]
 by_cases q:(atKey xs k).isSome=true
 .rw[if_pos q,if_pos q];exact r.repl k ry
 .rw[if_neg q,if_neg q];exact Paired.snoc r ⟨rfl,hb,ry⟩
theorem KT.keeps{H H':Hp}{kvs:WR (WR Key×V)}{xs:WR (WR Key×Addr×Value)}(r:KT H kvs xs)(ht:∀b ys,H b=some (.tup ys)->H' b=some (.tup ys)):KT H' kvs xs:=
 Paired.PZ r λ_ _ z=>⟨z.1,ht _ _ z.2.1,z.2.2⟩
section
variable{P:Program}{w:World}{H:Hp}{h:Heap}{a:Addr}
theorem Pw{u:HO}(ok:jV P w H h)(e:Rd H a u):bZ P w H h a u:=e.ok ok
theorem vo{kvs:WR (Key×V)}(ok:jV P w H h)(e:Rd H a (.dK kvs)):kvs.length<=sizeLine/\(a==sysModules)=false/\∃vs,KV kvs vs/\h.DictOf (bU P w) a vs:=
 show bZ P w H h a (.dK kvs) from Pw ok e
theorem BE{kvs:WR (Key×V)}(ok:jV P w H h)(e:H a=some (.dK kvs)):kvs.length<=sizeLine/\(a==sysModules)=false/\∃vs,KV kvs vs/\h.DictOf (bU P w) a vs:=vo ok (.inl e)
theorem qE{ks:WR Key}(ok:jV P w H h)(e:H a=some (.tup (ks.map kV))):(tupleKind (bU P w)).is h ks a:=by
 obtain⟨_,its,r,o,h1,h2,n,h3⟩:=(show bZ P w H h a (.tup (ks.map kV)) from ok a _ e);exact⟨o,its.toArray,n,h1,h2,h3,by simpa using ym r⟩
theorem vp{kvs:WR (WR Key×V)}(ok:jV P w H h)(e:Rd H a (.dT kvs)):kvs.length<=sizeLine/\(a==sysModules)=false/\
  ∃xs,KT H kvs xs/\h.DictOfH (tupleKind (bU P w)) a xs:=by
 obtain⟨z,y,xs,r,o,es,ep,h1,h2,h3,h4,h5⟩:=(show bZ P w H h a (.dT kvs) from Pw ok e);refine⟨z,y,xs,r,o,es,ep,h1,h2,h3,h4,λx hx=>?_,h5⟩;have all:∀{l:WR (WR Key×V)} {m:WR (WR Key×Addr×Value)},KT H l m->∀x∈m,(tupleKind (bU P w)).is h x.1 x.2.1:=by
  intro l m q
  induction q with
  |nil=>intro x hx;exact nomatch hx
  |@cons p q ps qs hq t ih=>
   intro x hx
   rcases mem_cons.mp hx with e|hx
   .subst e;exact qE ok (by rw[<-hq.1];exact hq.2.1)
   .exact ih x hx
 exact all r x hx
theorem Tt{kvs:WR (WR Key×V)}(ok:jV P w H h)(e:H a=some (.dT kvs)):kvs.length<=sizeLine/\(a==sysModules)=false/\
  ∃xs,KT H kvs xs/\h.DictOfH (tupleKind (bU P w)) a xs:=vp ok (.inl e)
end
def gx(H:Hp)(a:Addr)(y:V)(r:Option V):Prop:=
 (∃kvs k,Rd H a (.dK kvs)/\y=kV k/\r=cV kvs k)\/∃kvs k b,Rd H a (.dT kvs)/\y=.ref b/\H b=some (.tup (k.map kV))/\r=cV kvs k
def vq(H:Hp)(a:Addr)(y v:V)(H':Hp):Prop:=
 (∃kvs k,H a=some (.dK kvs)/\y=kV k/\kvs.length<sizeLine/\H'=upd H a (.dK (putK kvs k v)))\/
 ∃kvs k b,H a=some (.dT kvs)/\y=.ref b/\H b=some (.tup (k.map kV))/\kvs.length<sizeLine/\H'=upd H a (.dT (putK kvs k v))
theorem gx.k{H:Hp}{a:Addr}{kvs:WR (Key×V)}{k:Key}(e:H a=some (.dK kvs)):gx H a (kV k) (cV kvs k):=.inl ⟨kvs,k,.inl e,rfl,rfl⟩
theorem gx.t{H:Hp}{a b:Addr}{kvs:WR (WR Key×V)}{k:WR Key}(e:H a=some (.dT kvs))(eb:H b=some (.tup (k.map kV))):gx H a (.ref b) (cV kvs k):=.inr ⟨kvs,k,b,.inl e,rfl,eb,rfl⟩
theorem vq.k{H:Hp}{a:Addr}{kvs:WR (Key×V)}{k:Key}{v:V}(e:H a=some (.dK kvs))(hl:kvs.length<sizeLine):vq H a (kV k) v (upd H a (.dK (putK kvs k v))):=.inl ⟨kvs,k,e,rfl,hl,rfl⟩
theorem vq.t{H:Hp}{a b:Addr}{kvs:WR (WR Key×V)}{k:WR Key}{v:V}(e:H a=some (.dT kvs))(eb:H b=some (.tup (k.map kV)))(hl:kvs.length<sizeLine):
  vq H a (.ref b) v (upd H a (.dT (putK kvs k v))):=.inr ⟨kvs,k,b,e,rfl,eb,hl,rfl⟩
section
variable{X:Cx}{Z0:WR (Addr×Obj)}{Z:St}{H:Hp}{s:Shared}{a:Addr}{y v:V}{u r:Value}{o:Option V}{A:Around}{E:Value->Shared->Prop}
theorem Inv.big(I:Inv X Z0 Z H s):sysModules<s.heap.objs.size:=by
 have h:mainGlobals<s.heap.objs.size:=(I.mod.glob.keeps I.bk).lt;exact Nat.lt_trans (by decide) h
theorem HZ{Q:Value->Shared->Prop}(hu:A.units+1<cLine)(I:Inv X Z0 Z H s)(g:gx H a y (some v))(ry:RelV y u)(h:∀w' s',Inv X Z0 Z H s'->RelV v w'->Q w' s'):
  wpAny (model X.prog X.w) A (getItem (.ref a) u) Q E s:=by
 rcases g with⟨kvs,k,e,ey,l⟩|⟨kvs,k,b,e,ey,eb,l⟩
 .subst ey;obtain⟨z,hd,vs,rel,dd⟩:=vo I.hok e;obtain⟨w',hw,rw'⟩:=j6.some_of (v:=v) (o:=valueAt vs k) (by rw[l];exact rel.val k);exact wpAny_getItem_of (vn ry) dd.mapOf hw (h w' _ (I.tok _) rw')
 .subst ey;cases (show u=Value.ref b from ry);obtain⟨z,hd,xs,rel,dd⟩:=vp I.hok e;obtain⟨w',hw,rw'⟩:=j6.some_of (v:=v) (o:=(atKey xs k).map (·.2)) (by rw[l];exact rel.val k);obtain⟨p,hp,hp2⟩:=map_eq_some_iff.mp hw;refine wpAny_getItem_heap (tupleKind_room_in1 hu) (qE I.hok eb) dd hp ?_;rw[hp2];exact h w' _ (I.tok _) rw'
theorem VQ{Q:Value->Shared->Prop}(hu:A.units+1<cLine)(I:Inv X Z0 Z H s)(g:gx H a y o)(ry:RelV y u)(h:∀s',Inv X Z0 Z H s'->Q (.bool o.isSome) s'):
  wpAny (model X.prog X.w) A (compareOp .In u (.ref a)) Q E s:=by
 rcases g with⟨kvs,k,e,ey,l⟩|⟨kvs,k,b,e,ey,eb,l⟩
 .subst ey;obtain⟨z,hd,vs,rel,dd⟩:=vo I.hok e;refine wpAny_in_of (vn ry) hd dd.mapOf ?_;rw[<-(rel.val k).i9,<-l];exact h _ (I.tok _)
 .subst ey;cases (show u=Value.ref b from ry);obtain⟨z,hd,xs,rel,dd⟩:=vp I.hok e;refine wpAny_in_heap (tupleKind_room_in1 hu) (qE I.hok eb) hd dd ?_;have q:=(rel.val k).i9;rw[isSome_map] at q;rw[<-q,<-l];exact h _ (I.tok _)
theorem Oj{Q:Value->Shared->Prop}(hu:A.units+1<cLine)(I:Inv X Z0 Z H s)(g:gx H a y o)(ry:RelV y u)(h:∀s',Inv X Z0 Z H s'->Q (.bool (!o.isSome)) s'):
  wpAny (model X.prog X.w) A (compareOp .NotIn u (.ref a)) Q E s:=by
 rcases g with⟨kvs,k,e,ey,l⟩|⟨kvs,k,b,e,ey,eb,l⟩
 .subst ey;obtain⟨z,hd,vs,rel,dd⟩:=vo I.hok e;refine wpAny_notIn_of (vn ry) hd dd.mapOf ?_;rw[<-(rel.val k).i9,<-l];exact h _ (I.tok _)
 .subst ey;cases (show u=Value.ref b from ry);obtain⟨z,hd,xs,rel,dd⟩:=vp I.hok e;refine wpAny_notIn_heap (tupleKind_room_in1 hu) (qE I.hok eb) hd dd ?_;have q:=(rel.val k).i9;rw[isSome_map] at q;rw[<-q,<-l];exact h _ (I.tok _)
theorem Fe{h':Heap}{t':Nat}{ob:HO}(I:Inv X Z0 Z H s)(mu:SN (H a))(hs:Heap.SameBut a s.heap h')(he:∃q,h'.get? a=some q)(new:bZ X.prog X.w (upd H a ob) h' a ob):
  Inv X Z0 Z (upd H a ob) {s with heap:=h',toks:=t' }:=
 I.write (x:=a) (e:=a) mu (.inl rfl) (λb q hb z=>(hs.2 b hb).trans z) he new
theorem Q0{P:Program}{w:World}{H':Hp}{h':Heap}{kvs:WR (Key×V)}{vs:WR (Key×Value)}(z:kvs.length<=sizeLine)(hd:(a==sysModules)=false)(rel:KV kvs vs)(dd:h'.DictOf (bU P w) a vs):
  bZ P w H' h' a (.dK kvs):=⟨z,hd,vs,rel,dd⟩
theorem Ia{H':Hp}{Q:Unit->Shared->Prop}(hu:A.units+1<cLine)(I:Inv X Z0 Z H s)(g:vq H a y v H')(ry:RelV y u)(rv:RelV v r)(h:∀s',Inv X Z0 Z H' s'->Q () s'):
  wpAny (model X.prog X.w) A (setItem (.ref a) u r) Q E s:=by
 rcases g with⟨kvs,k,e,ey,l,eH⟩|⟨kvs,k,b,e,ey,eb,l,eH⟩
 .subst ey eH;obtain⟨z,hd,vs,rel,dd⟩:=BE I.hok e;have hz:vs.length<=sizeLine:=by rw[<-rel.length];exact z
  have hl:(putK kvs k v).length<=sizeLine:=by have:=gg kvs k v;omega
  refine wpAny_setItem_pairs (hsz:=hz) (vn ry) dd λh' dd' hs=>h _ ?_;have he:∃q,h'.get? a=some q:=let ⟨q,_,_,hq,_⟩:=dd';⟨q,hq⟩;exact Fe I (by rw[e];exact True.intro) hs he (Q0 hl hd (rel.put k rv) dd')
 .subst ey eH;cases (show u=Value.ref b from ry);obtain⟨z,hd,xs,rel,dd⟩:=Tt I.hok e;have hz:xs.length<=sizeLine:=by rw[<-Paired.length rel];exact z
  have hl:(putK kvs k v).length<=sizeLine:=by have:=gg kvs k v;omega
  refine wpAny_setItem_heap (hsz:=hz) (tupleKind_room_in1 hu) (qE I.hok eb) dd λh' dd' hs=>h _ ?_;obtain⟨q,es,ep,hq,h2,h3,h4,_,h5⟩:=dd';refine Fe I (by rw[e];exact True.intro) hs ⟨q,hq⟩ ⟨hl,hd,_,(rel.put k eb rv).keeps λc ys ec=>?_,q,es,ep,hq,h2,h3,h4,h5⟩;rw[aH (SM ec e (λz=>nomatch z))];exact ec
end
def Q2(i:Expr):Prop:=∀ov iv,subscripted i false ov iv=operate [ov,iv] (getItem ov iv)
theorem Ol{prog:Program}{w:World}{A:Around}{E:Value->Shared->Prop}{s:Shared}{env:Env}{value slice:Expr}{pos:Pos}{T id:String}{Q:Value->Shared->Prop}
  (hl:typeLookup (.type T) "__getitem__" =pure (some (.builtin id))) (hs:Q2 slice)
  (h:wpAny (model prog w) A (eval value env) (λo s₁=>wpAny (model prog w) A (eval slice env) (λi a8=>a8.TypeIs o T/\wpAny (model prog w) A (getItem o i) Q E a8) E s₁) E s):
  wpAny (model prog w) A (eval (.Subscript value slice pos) env) Q E s:=by
 refine Subscript_ (wpAny_mono h (λo s₁ h₁=>wpAny_mono h₁ (λi a8 b0=>?_) λ_ _ x=>x) λ_ _ x=>x);obtain⟨hT,b0⟩:=b0;unfold subscriptTail;refine wpAny_bind ?_;rw[getitemInPython_of_ne hT.not_modules];refine wpAny_bind (wpAny_specialOf hT hl ?_);have fin:wpAny (model prog w) A (subscripted slice false o i) (λr a7=>wpAny (model prog w) A (letTemporaryGo value o r>>=λ_=>pure r) Q E a7) E a8:=by
  rw[hs o i];exact wpAny_operating (wpAny_mono b0 (λr a7 h9=>wpAny_bind (wpAny_letTemporaryGo (wpAny_pure h9))) λ_ _ x=>x)
 first
  |exact wpAny_pure (wpAny_bind fin)
  |exact wpAny_bind (wpAny_pure (wpAny_bind fin))
  |exact wpAny_bind fin
theorem BF{X:Cx}{Z0:WR (Addr×Obj)}{Z:St}{H:Hp}{s:Shared}{a:Addr}{y:V}{o:Option V}(I:Inv X Z0 Z H s)(g:gx H a y o):s.TypeIs (.ref a) "dict":=by
 rcases g with⟨kvs,k,e,_,_⟩|⟨kvs,k,b,e,_,_,_⟩
 .obtain⟨_,_,vs,_,dd⟩:=vo I.hok e;exact dd.typeIs
 .obtain⟨_,_,xs,_,dd⟩:=vp I.hok e;exact dd.typeIs
def g9(td ty:TE):TE:=λZ H Q=>td Z H λx H1=>ty Z H1 λy H2=>∃a v,x=.ref a/\gx H2 a y (some v)/\Q v H2
def jY(td ty tv:TE):TS:=λD Z H=>tv Z H λv H1=>td Z H1 λx H2=>ty Z H2 λy H3=>∃a H4,x=.ref a/\vq H3 a y v H4/\D.nx Z H4
section
variable{X:Cx}{o i e value:Expr}{pos pos' tpos:Pos}{td ty tv:TE}
theorem Om(hu:X.A.units+1<cLine)(ho:PE X o td)(hi:PE X i ty)(hs:Q2 i):PE X (.Subscript o i pos) (g9 td ty):=by
 intro Z0 s Z H Q I h;refine Ol PySem.F.slot_dict_getitem.lookup hs (cA (ho Z0 s Z H _ I h) λu s1 ⟨x,H1,I1,rx,q1⟩=>cA (hi Z0 s1 Z H1 _ I1 q1) λiv s2 ⟨y,H2,I2,ry,a,v,ex,g,q2⟩=>?_);subst ex;obtain rfl:u=Value.ref a:=rx;exact⟨BF I2 g,HZ hu I2 g ry λw' s3 I3 rw'=>⟨v,H2,I3,rw',q2⟩⟩
theorem Oo(hu:X.A.units+1<cLine)(ho:PE X o td)(hi:PE X i ty)(hv:PE X value tv)(hs:swapsWith value (some (.Subscript o i pos')) pos.line X.env=pure false):
  PS X (.Assign [.Subscript o i pos'] value pos) (jY td ty tv):=by
 intro Z0 s Z H D I h;refine wpAny_Assign_Subscript (cA (hv Z0 s Z H _ I h) λr s1 ⟨v,H1,I1,rv,q1⟩=>cA (ho Z0 s1 Z H1 _ I1 q1) λu s2 ⟨x,H2,I2,rx,q2⟩=>cA (hi Z0 s2 Z H2 _ I2 q2) λiv s3 ⟨y,H3,I3,ry,a,H4,ex,g,q3⟩=>?_) hs;subst ex;obtain rfl:u=Value.ref a:=rx;exact Ia hu I3 g ry rv λs4 I4=>⟨Z,H4,I4,q3⟩
end
theorem Kz{P:Program}{w:World}{H:Hp}(h:Heap)(hb:sysModules<h.objs.size):bZ P w H (h.push {cls:=.type "dict",data:=.dict #[] }) h.objs.size (.dK []):=
 ⟨zero_le _,beq_eq_false_iff_ne.mpr (Ne.symm (ne_of_lt hb)),[],.nil,Heap.DictOf.new h⟩
theorem KA{P:Program}{w:World}{H:Hp}(h:Heap)(hb:sysModules<h.objs.size):bZ P w H (h.push {cls:=.type "dict",data:=.dict #[] }) h.objs.size (.dT []):=
 ⟨zero_le _,beq_eq_false_iff_ne.mpr (Ne.symm (ne_of_lt hb)),[],.nil,_,#[],0,Heap.get?_push_size _ rfl,⟨rfl,rfl,rfl⟩,rfl,rfl,nodup_nil⟩
def gp:TE:=λ_ H Q=>∀p,H p=none->Q (.ref p) (upd H p (.dK []))
def zq:TE:=λ_ H Q=>∀p,H p=none->Q (.ref p) (upd H p (.dT []))
section
variable{X:Cx}{pos:Pos}
theorem KC:PE X (.Dict [] [] pos) gp:=λZ0 s Z H Q I h=>
 wpAny_Dict_empty ⟨.ref s.heap.objs.size,_,I.laid (a:=s.heap.objs.size) (o:=.dK []) (t':=s.toks) (λ_ _ q=>Heap.get?_push_of_some _ q) (le_refl _) (Kz s.heap I.big),rfl,h _ (I.hok.fresh (le_refl _))⟩
theorem KD:PE X (.Dict [] [] pos) zq:=λZ0 s Z H Q I h=>
 wpAny_Dict_empty ⟨.ref s.heap.objs.size,_,I.laid (a:=s.heap.objs.size) (o:=.dT []) (t':=s.toks) (λ_ _ q=>Heap.get?_push_of_some _ q) (le_refl _) (KA s.heap I.big),rfl,h _ (I.hok.fresh (le_refl _))⟩
end
def ic(kvs more:WR (Key×V)):WR (Key×V):=more.foldl (λacc kv=>putK acc kv.1 kv.2) kvs
theorem KV.merge:∀{more:WR (Key×V)} {rs:WR (Key×Value)} {kvs:WR (Key×V)} {vs:WR (Key×Value)},KV more rs->KV kvs vs->KV (ic kvs more) (merged vs rs):=by
 intro more rs kvs vs r;unfold KV at r
 induction r generalizing kvs vs with
 |nil=>intro q;exact q
 |@cons p q ps qs h t ih=>
  intro r0;have e:KV (putK kvs p.1 p.2) (stored vs q.1 q.2):=by
   have:=r0.put p.1 h.2;rw[<-h.1];exact this
  exact ih e
theorem mK:∀(more kvs:WR (Key×V)),(ic kvs more).length<=kvs.length+more.length
 |[],kvs=>by show kvs.length<=kvs.length+0;omega
 |p::r,kvs=>by
  have h1:=mK r (putK kvs p.1 p.2);have h2:=gg kvs p.1 p.2;show (ic (putK kvs p.1 p.2) r).length<=_;rw[length_cons];omega
structure M2(X:Cx)(o:Expr)(m:Str)(apos:Pos)(e f:Expr)(cpos:Pos):Prop where
 base:attributeBase o m X.env (eval o X.env)=eval o X.env
 few:((backTo cpos (starEach [e,f] X.env)).all (λx=>!x.1)&&(backToKw cpos (keywordEach [] X.env)).all (λx=>x.1.isSome)
  && decide (([e,f]:WR Expr).length+([]:WR Keyword).length+(if ([]:WR Keyword).isEmpty then 0 else 1)<30))=true
 line:(apos.endLine==cpos.line)=true
 trees:backTo cpos (starEach [e,f] X.env)=[(false,eval e X.env),(false,eval f X.env)]
def Wu(H:Hp)(a:Addr):Prop:=(∃kvs,Rd H a (.dK kvs))\/∃kvs,Rd H a (.dT kvs)
theorem Q3{X:Cx}{Z0:WR (Addr×Obj)}{Z:St}{H:Hp}{s:Shared}{a:Addr}(I:Inv X Z0 Z H s)(d:Wu H a):
  s.TypeIs (.ref a) "dict"/\(∀b,Value.ref a=.ref b->∃ob,s.heap.get? b=some ob/\ob.dict=none)/\(a==sysModules)=false:=by
 rcases d with⟨kvs,e⟩|⟨kvs,e⟩
 .obtain⟨_,hd,vs,_,dd⟩:=vo I.hok e;refine⟨dd.typeIs,λb q=>?_,hd⟩;cases q;obtain⟨ob,_,_,h1,h2,_⟩:=dd;exact⟨ob,h1,h2.2.1⟩
 .obtain⟨_,hd,xs,_,dd⟩:=vp I.hok e;refine⟨dd.typeIs,λb q=>?_,hd⟩;cases q;obtain⟨ob,_,_,h1,h2,_⟩:=dd;exact⟨ob,h1,h2.2.1⟩
section
variable{X:Cx}{Z0:WR (Addr×Obj)}{Z:St}{H:Hp}{s:Shared}{a:Addr}{y d:V}{u r:Value}{o:Option V}{A:Around}{E:Value->Shared->Prop}
theorem Q4{Q:Value->Shared->Prop}(hu:A.units+1<cLine)(I:Inv X Z0 Z H s)(g:gx H a y o)(ry:RelV y u)(rd:RelV d r)(h:∀w' s',Inv X Z0 Z H s'->RelV (o.getD d) w'->Q w' s'):
  wpAny (model X.prog X.w) A (call (.builtin "dict.get") [.ref a,u,r]) Q E s:=by
 rcases g with⟨kvs,k,e,ey,l⟩|⟨kvs,k,b,e,ey,eb,l⟩
 .subst ey;obtain⟨z,hd,vs,rel,dd⟩:=vo I.hok e;refine call_meetsIn PySem.F.slot_dict_get dd.typeIs PySem.F.entry_dict_get (PySem.F.args_dict_get_3 _ _ _) (meets_dict_get_default (bU X.prog X.w) a (vn ry) hd r) ⟨_,dd.mapOf,h _ _ (I.tok _) ?_⟩;rw[l];exact(rel.val k).getD rd
 .subst ey;cases (show u=Value.ref b from ry);obtain⟨z,hd,xs,rel,dd⟩:=vp I.hok e;refine call_meetsIn PySem.F.slot_dict_get dd.typeIs PySem.F.entry_dict_get (PySem.F.args_dict_get_3 _ _ _) (meetsH_dict_get_default (tupleKind (bU X.prog X.w)) a b hd r) ⟨tupleKind_room_in1 hu,k,xs,qE I.hok eb,dd,h _ _ (I.tok _) ?_⟩;rw[l];exact(rel.val k).getD rd
end
def zv(td ty tx:TE):TE:=λZ H Q=>td Z H λx H1=>∃a,x=.ref a/\Wu H1 a/\ty Z H1 λy H2=>tx Z H2 λz H3=>∃o,gx H3 a y o/\Q (o.getD z) H3
section
variable{X:Cx}{o e f:Expr}{apos cpos:Pos}{td ty tx:TE}
theorem KG(hu:X.A.units+1<cLine)(ho:PE X o td)(he:PE X e ty)(hf:PE X f tx)(m:M2 X o "get" apos e f cpos):PE X (.Call (.Attribute o "get" apos) [e,f] [] cpos) (zv td ty tx):=by
 intro Z0 s Z H Q I h;refine wpAny_Call_method m.base m.few m.line PySem.F.plainAttrs_dict PySem.F.slot_dict_get PySem.F.type_dict_get (cA (ho Z0 s Z H _ I h) λu s1 ⟨x,H1,I1,rx,a,ex,d,q1⟩=>?_);subst ex;obtain rfl:u=Value.ref a:=rx;obtain⟨t1,t2,_⟩:=Q3 I1 d;refine⟨t1,t2,?_⟩;rw[m.trees];refine Calls.callWith_builtin rfl (Calls.evalArgs_plain (Calls.spliced_cons (cA (he Z0 s1 Z H1 _ I1 q1) λiv s2 ⟨y,H2,I2,ry,q2⟩=>
  Calls.spliced_cons (cA (hf Z0 s2 Z H2 _ I2 q2) λfv s3 ⟨z,H3,I3,rz,ov,g,q3⟩=>Calls.spliced_nil ?_))))
 exact Q4 hu I3 g ry rz λw' s4 I4 rw'=>⟨_,H3,I4,rw',q3⟩
end
end L2
namespace Rev
open PySem PyProof.Rows PySem.Calls
theorem KH:typeLookup (.type "list_reverseiterator") "__len__" =pure none:=by rw[typeLookup_type,builtinLookup_eq_fast];rfl'
theorem Ib:typeLookup (.type "list_reverseiterator") "__length_hint__" =pure (some (.builtin "list_reverseiterator.__length_hint__")):=by rw[typeLookup_type,builtinLookup_eq_fast];rfl'
section
variable{prog:Program}{w:World}{A:Around}{E:Value->Shared->Prop}{s:Shared}{r l:Addr}{items:Array Value}
theorem hint{Q:Bool->Shared->Prop}(hT:s.TypeIs (.ref r) "list_reverseiterator")(h:Q false s):wpAny (model prog w) A (Builtin.List.listLengthHint (.ref r)) Q E s:=by
 unfold Builtin.List.listLengthHint;refine wpAny_bind (wpAny_specialOf hT KH ?_);refine wpAny_ite_split (λhab=>absurd hab (by decide)) (λ_=>?_);refine wpAny_ite_split (λhab=>absurd hab (by decide)) (λ_=>?_);refine wpAny_bind (wpAny_specialOf hT Ib ?_);generalize hid:("list_reverseiterator.__length_hint__":String)=id0
 wp_delta
 rw[show splitId id0=some ("list_reverseiterator", "__length_hint__") from by subst hid;decide+kernel]
 subst hid;refine wpAny_bind (wpAny_isInstance (T:="list_reverseiterator") (b:=true) hT (by rw[isSubtype_type];rfl') ?_);refine wpAny_ite_split (λhab=>absurd hab (by decide)) (λ_=>?_);refine wpAny_ite_split (λ_=>?_) (λhab=>absurd (by decide+kernel) hab);refine wpAny_ite_split (λhab=>absurd hab (by decide+kernel)) (λ_=>?_);exact wpAny_pure h
theorem extend{R:Result->Shared->Prop}(hh:A.handled=none)(hit:s.heap.IsRevIter r l ((items.size:Int)-1))(hl:s.heap.IsList l items)(hne:l≠r)(S:Addr)(hSr:S≠r)(hSl:S≠l)(res:Value)(m4:Nat)
  (hS:s.heap.get? S=some {cls:=.type "list",data:=.seq #[] m4 })
  (hR:∀h' tk acc' c',(∀b o,b≠S->b≠r->s.heap.get? b=some o->h'.get? b=some o)->h'.get? S=some {cls:=.type "list",dict:=none,data:=.seq acc' c',slots:=#[] }->ItemsOf (λi v=>items[items.size-1-i]?=some v) acc' items.size->R (.ok (.ret res)) {s with heap:=h',toks:=tk})
  (hn:items.size<=sizeLine):
  wpAny (model prog w) A.in1 (Builtin.List.listExtendWith (.ref S) (.ref r) res)
   (λfin s'=>match fin with |.done f=>R (.ok f) s' |.again c'=>c'.quiet=true/\codeAny (model prog w) A c' R s') (λe s'=>R (.error e) s') s:=by
 have hSf:S∉[r,l]:=by simp only[mem_cons,not_mem_nil,or_false,not_or];exact⟨hSr,hSl⟩
 have W:=Walks.listRev (prog:=prog) (w:=w) (A:=A.in1) hh r l hne items;have st:(0<=items.size/\s.heap.IsRevIter r l ((items.size:Int)-1-((0:Nat):Int))/\s.heap.IsList l items):=⟨zero_le _,by simpa using hit,hl⟩;have key:∀(h:Heap) (h8 tk:Nat),(0<=items.size/\h.IsRevIter r l ((items.size:Int)-1-((0:Nat):Int))/\h.IsList l items)->(∀b o,b≠S->b≠r->s.heap.get? b=some o->h.get? b=some o)->
   h.get? S=some {cls:=.type "list",data:=.seq #[] h8 }->codeAny (model prog w) A (.builtin "list.extend.loop" ⟨[.ref S,.ref r,res],[]⟩) R {s with heap:=h,toks:=tk}:=by
  intro h h8 tk hst hk a9;refine codeAny_extend_loopS W.toS hn S hSf res items.size 0 _ #[] h8 rfl (zero_le _) hst a9 (ItemsOf.nil _) λs' acc' c' hm hS' hacc=>?_;rw[Moved.eq_with hm];refine hR s'.heap s'.toks acc' c' (λb o hb hb2 e=>hm.heap b o (λhmem=>?_) (hk b o hb hb2 e)) hS' hacc
  rcases mem_cons.mp hmem with e'|hmem
  .exact hb e'
  .exact hb2 (mem_singleton.mp hmem)
 unfold Builtin.List.listExtendWith;refine wpAny_bind (wpAny_typeOf (T:="list_reverseiterator") hit.typeIs ?_);have h1:Builtin.List.listSameRef (.ref S) (.ref r)=false:=by simp[Builtin.List.listSameRef,hSr]
 have h2:(Value.type "list_reverseiterator" ==Value.type "list")=false:=by decide
 have h3:(Value.type "list_reverseiterator" ==Value.type "tuple")=false:=by decide
 simp only[h1,h2,h3,Bool.or_false,false_eq_true,if_false];refine wpAny_bind (wpAny_pyIter_revIter hit ?_);refine wpAny_bind (wpAny_holding (hint hit.typeIs ?_));refine wpAny_ite_split (λ_=>?_) (λ_=>wpAny_pure ⟨plainId_quiet PySem.F.plain_extend_loop _,key _ m4 _ st (λb o _ _ e=>e) hS⟩);refine wpAny_bind (wpAny_rule ?_);refine wpAny_bind ?_;show wpAny _ _ (updateSeq S (·.push .none)>>=λ_=>updateSeq S (·.pop)) _ _ _;refine wpAny_bind (wpAny_updateSeq hS rfl ?_);have i4:=Heap.get?_update_self (Obj.mapSeq (·.push Value.none)) hS rfl;refine wpAny_updateSeq (hz:=by seq_fits) i4 rfl ?_;have u3:=Heap.get?_update_self (Obj.mapSeq (·.pop)) i4 rfl;refine wpAny_pure ⟨plainId_quiet PySem.F.plain_extend_loop _,key _ _ _ ?_ (λb o hb _ e=>?_) u3⟩
 .refine W.frame 0 _ _ st λb hb o e=>?_;have hbS:b≠S:=λh=>hSf (h▸hb);exact(Heap.get?_update_other _ _ (Ne.symm hbS)).trans ((Heap.get?_update_other _ _ (Ne.symm hbS)).trans e)
 .exact(Heap.get?_update_other _ _ (Ne.symm hb)).trans ((Heap.get?_update_other _ _ (Ne.symm hb)).trans e)
theorem init{R:Result->Shared->Prop}(hh:A.handled=none)(hit:s.heap.IsRevIter r l ((items.size:Int)-1))(hl:s.heap.IsList l items)(hne:l≠r)(S:Addr)(hSr:S≠r)(hSl:S≠l)(hS:s.heap.get? S=some {cls:=.type "list",data:=.seq #[] })
  (hR:∀h' tk acc' c',(∀b o,b≠S->b≠r->s.heap.get? b=some o->h'.get? b=some o)->h'.get? S=some {cls:=.type "list",dict:=none,data:=.seq acc' c',slots:=#[] }->ItemsOf (λi v=>items[items.size-1-i]?=some v) acc' items.size->R (.ok (.ret .none)) {s with heap:=h',toks:=tk})
  (hn:items.size<=sizeLine):
  wpAny (model prog w) A.in1 (Builtin.«list.__init__» ⟨[.ref S,.ref r],[]⟩)
   (λfin s'=>match fin with |.done f=>R (.ok f) s' |.again c'=>c'.quiet=true/\codeAny (model prog w) A c' R s') (λe s'=>R (.error e) s') s:=by
 show wpAny _ _ (do let old <-Builtin.List.listItems (.ref S);Builtin.List.listUpdate (.ref S) (λ_=>#[]);letGo old.toList.reverse;Builtin.List.listExtendWith (.ref S) (.ref r) .none) _ _ s;refine wpAny_bind ?_;unfold Builtin.List.listItems;refine wpAny_bind (wpAny_seqItems hS rfl (wpAny_pure ?_));show wpAny _ _ (updateSeq S (λ_=>#[])>>=λ_=>letGo (#[]:Array Value).toList.reverse>>=λ_=>Builtin.List.listExtendWith (.ref S) (.ref r) .none) _ _ s;refine wpAny_bind (wpAny_updateSeq hS rfl ?_);have i4:=Heap.get?_update_self (Obj.mapSeq (λ_=>(#[]:Array Value))) hS rfl;have oth:∀b o,b≠S->s.heap.get? b=some o->(s.heap.update S (Obj.mapSeq (λ_=>(#[]:Array Value)))).get? b=some o:=
  λb o hb e=>(Heap.get?_update_other _ _ (Ne.symm hb)).trans e
 refine wpAny_bind (wpAny_letGo ?_);refine extend hh (hit.at λo e=>oth r o hSr.symm e) (hl.at λo e=>oth l o hSl.symm e) hne S hSr hSl .none _ i4 (λh' tk acc' c' hk hS' hacc=>?_) hn;exact hR h' tk acc' c' (λb o hb hb2 e=>hk b o hb hb2 (oth b o hb e)) hS' hacc
theorem Ic{Q:Value->Shared->Prop}(hh:A.handled=none)(hit:s.heap.IsRevIter r l ((items.size:Int)-1))(hl:s.heap.IsList l items)(hne:l≠r)(hn:items.size<=sizeLine)
  (hQ:∀h' tk acc' c',(∀b o,b≠r->s.heap.get? b=some o->h'.get? b=some o)->h'.get? s.heap.objs.size=some {cls:=.type "list",dict:=none,data:=.seq acc' c',slots:=#[] }->ItemsOf (λi v=>items[items.size-1-i]?=some v) acc' items.size->Q (.ref s.heap.objs.size) {s with heap:=h',toks:=tk}):
  wpAny (model prog w) A (call (.type "list") [.ref r]) Q E s:=by
 refine callType_codes (Q₁:=λobj s₁=>obj=.ref s.heap.objs.size/\s₁={s with heap:=s.heap.push {cls:=.type "list",data:=.seq #[] } }) PySem.F.called_list (PySem.F.typeCall_list_1 _) PySem.F.entry_list_init
  (code_list_new _ ⟨rfl,rfl⟩) λobj s₁ h₁=>?_
 obtain⟨rfl,rfl⟩:=h₁;have hS:(s.heap.push {cls:=.type "list",data:=.seq #[] }).get? s.heap.objs.size=some {cls:=.type "list",data:=.seq #[] }:=Heap.get?_push_size _ rfl;have h1:r<s.heap.objs.size:=let ⟨_,e,_⟩:=hit;Heap.lt_size e;have h2:l<s.heap.objs.size:=let ⟨_,e,_⟩:=hl;Heap.lt_size e;refine⟨⟨_,hS,rfl⟩,PySem.F.args_list_init_2 _ _,init (A:=A.in1) hh (hit.at λo e=>Heap.get?_push_of_some _ e) (hl.at λo e=>Heap.get?_push_of_some _ e) hne _ (ne_of_gt h1) (ne_of_gt h2) hS (λh' tk acc' c' hk hS' hacc=>?_) hn⟩;exact⟨rfl,hQ h' tk acc' c' (λb o hb e=>hk b o (ne_of_lt (Heap.lt_size e)) hb (Heap.get?_push_of_some _ e)) hS' hacc⟩
theorem Oq{K:Type}[DecidableEq K]{knd:PySem.KeyKind prog w K}{d:Addr}{kvs:WR (K×Value)}{ep:Nat}{Q:Value->Shared->Prop}(hh:A.handled=none)(lo:(d==sysModules)=false)(hd:s.heap.DictAt knd d kvs ep)(h64:kvs.length<64)
  {ss:WR Str} (hs:∀us:WR Value,us.length=kvs.length->(∀(j:Nat) (v:Value),us[j]?=some v->∃(k:K) (x:Value),kvs[j]?=some (k,x)/\knd.is k v=true)->StrsAre us ss)
  (hQ:∀(h1 h':Heap) (tk:Nat) (e:Nat) (out:Array Value) (ss':WR Str),(∀b o,s.heap.get? b=some o->h1.get? b=some o)->(∀b o,h1.get? b=some o->h'.get? b=some o)->
   h'.get? h1.objs.size=some (seqObj "list" out e)->StrsAre out.toList ss'->ss'.Perm ss->sortedS ss'=true->Q (.ref h1.objs.size) {s with heap:=h',toks:=tk}):
  wpAny (model prog w) A (call (.builtin "sorted") [.ref d]) Q E s:=by
 have hn:kvs.length<=sizeLine:=by rw[sizeLine_eq];omega
 refine call_function_entry kind_sorted plain_sorted entry_sorted (args_sorted1 _) ?_;unfold Builtin.«sorted»;refine wpAny_bind (m:=checkCount "sorted" 1 1 _) (wpAny_pure ?_);refine wpAny_bind (W.kdu_collect (A:=A.in1) (W.kdl_dict (knd:=knd) (kvs:=kvs) (ep:=ep) lo) hh hd hn λh1 tk acc hk hacc=>?_);have hl:acc.toList.length=kvs.length:=by rw[Array.length_toList];exact hacc.1
 have hS:=hs acc.toList hl λj v e=>hacc.2 j v (by rw[<-Array.getElem?_toList];exact e);refine wpAny_bind (wpAny_newList ?_ (by rw[hl];exact hn));have ho:(h1.push {cls:=.type "list",data:=.seq acc.toList.toArray}).get? h1.objs.size=some (seqObj "list" acc.toList.toArray 0):=Heap.get?_push_size _ rfl;refine wpAny_bind (wpAny_holding (wpAny_call_entry slot_list_sort ⟨_,ho,rfl⟩ entry_list_sort (list_sort_treeK strKind_oneLt ho hS.keysOf (λv₁ v₂ rest e=>keyKind_strs (by rw[<-e];exact hS)) (by rw[hl];exact h64) λst' a1 a2=>⟨_,rfl,?_⟩) (args_list_sort _)));obtain⟨ss',q1,q2,q3⟩:=sorted_out_str hS a1 a2;obtain⟨e,he⟩:=sortedHeap_at (out:=(arrOf st').map (·.2)) ho;refine wpAny_pure ⟨_,rfl,hQ h1 _ tk e _ ss' hk (λb o hb=>?_) he q1 q2 q3⟩;have hlt:=Heap.lt_size hb;rw[sortedHeap_old (ne_of_lt hlt) (by rw[size_push'];exact lt_succ_of_lt hlt)];exact Heap.get?_push_of_some _ hb
end
end Rev
namespace SetTx
open PySem
theorem Dh(t:SetTable)(es:Array (Int×Value))(h:Int)(x:Value):(layNew t es h x).2.1.led=t.led/\(t.plain=false->(layNew t es h x).2.1.plain=false):=by
 unfold layNew;split
 .dsimp only;unfold SetTable.orStandIn;split
  .exact⟨rfl,id⟩
  .exact⟨rfl,λ_=>rfl⟩
 .exact⟨rfl,λ_=>rfl⟩
theorem Di{t t':SetTable}{hs:Array Int}{w:Nat}{o:Array Nat}(h:t.relaid hs w=some (t',o)):t'.led=t.led/\t'.plain=t.plain:=by
 unfold SetTable.relaid SetTable.laid at h;simp only[bind,Option.bind,pure] at h;split at h
 .cases h
 .cases h;exact⟨rfl,rfl⟩
theorem zw(t:SetTable)(es:Array (Int×Value))(w:Nat):(relayAll t es w).2.1.led=t.led/\(t.plain=false->(relayAll t es w).2.1.plain=false):=by
 unfold relayAll;split
 .next t' o h=>
  have:=Di h;dsimp only;split
  .exact⟨this.1,λz=>this.2.trans z⟩
  .exact⟨rfl,λ_=>rfl⟩
 .exact⟨rfl,λ_=>rfl⟩
section
variable{prog:Program}{w:World}{A:Around}{E:Value->Shared->Prop}{s:Shared}
theorem KI{a:Addr}{o:Obj}{es:Array (Int×Value)}{ep:Nat}{t:SetTable}{k:Str}{tok:Tok}{Q:Bool->Shared->Prop}(ho:s.heap.get? a=some o)(hd:o.data=.set es ep t)(hel:ElemsOf (strKind prog w) es.toList)(hb:es.size+1<scanBound)(hf:t.fits es.size=true)
  (h1:(∃e∈es.toList,(strKind prog w).is k e.2=true)->Q false s)
  (h2:(∀e∈es.toList,(strKind prog w).is k e.2=false)->∀(h':Heap) (es':Array (Int×Value)) (ep':Nat) (t':SetTable),Heap.SameBut a s.heap h'->h'.get? a=some {o with data:=.set es' ep' t' }->es'.toList.Perm (es.toList++[((strKind prog w).hash k,.str k tok)])->t'.fits es'.size=true->t'.led=t.led->t'.plain=false->Q true {s with heap:=h' }):
  wpAny (model prog w) A (setAddHashed a (.str k tok) ((strKind prog w).hash k)) Q E s:=by
 have hkey:(strKind prog w).is k (.str k tok)=true:=strKind_is _ _ _ _;have hsc:(Value.str k tok).scannable=true:=rfl;have hb0:es.size<scanBound:=by omega
 have hgw:∀(b:Bool) (s₁:Shared) (Q':Unit->Shared->Prop),Q' () s₁->wpAny (model prog w) A (match b with|true=>rule "set.scan.the-table-gave-way" |false=>pure ()) Q' E s₁:=
  λb s₁ Q' hq=>by cases b<;>first|exact wpAny_pure hq|exact wpAny_rule hq
 unfold setAddHashed setAddHashedIn;refine wpAny_holding (wpAny_bind (wpAny_setState_of ho hd hf ?_));dsimp only;rw[byScan_of hsc hb0 hel];simp only[↓reduceIte];unfold setAddByScan;refine wpAny_bind (wpAny_bind (wpAny_rule (wpAny_bind (wpAny_setScan_of hkey ho hd hf hel ?_))));cases hr:List.findIdx? (λe=>(strKind prog w).is k e.2) es.toList with
 |some j=>
  obtain⟨hj,hpj,_⟩:=List.findIdx?_eq_some_iff_getElem.mp hr;exact wpAny_pure (wpAny_pure (h1 ⟨_,getElem_mem hj,hpj⟩))
 |none=>
  have Tu:∀e∈es.toList,(strKind prog w).is k e.2=false:=λe he=>by simpa using List.findIdx?_eq_none_iff.mp hr e he
  have h2:=h2 Tu;have p1:=layNew_perm t es ((strKind prog w).hash k) (.str k tok);have f1:=layNew_fits t es ((strKind prog w).hash k) (.str k tok);obtain⟨l1,n1⟩:=Dh t es ((strKind prog w).hash k) (.str k tok);generalize layNew t es ((strKind prog w).hash k) (.str k tok)=N at p1 f1 l1 n1 ⊢;obtain⟨es1,t1,was,WC⟩:=N;dsimp only at p1 f1 l1 n1 ⊢;rw[Array.toList_push] at p1;have sz1:es1.size=es.size+1:=by rw[<-Array.length_toList,p1.length_eq,length_append,Array.length_toList];rfl
  have hz1:es1.size<scanBound:=by omega
  have Tv:∀(h:Heap) (o:Obj) (es ep t es' t'),h.get? a=some o->o.data=.set es ep t->(h.update a (Obj.putSet es' t')).get? a=some {o with data:=.set es' (ep+1) t' }:=λh o es ep t es' t' ho hd=>by
   have:=Heap.get?_update_self (Obj.putSet es' t') ho (by rw[putSet_of es' t' hd];rfl);rw[putSet_of es' t' hd] at this;exact this
  have tail:∀(t2:SetTable) (g:Bool->Sem Unit),(∀(b:Bool) (s₁:Shared) (Q':Unit->Shared->Prop),Q' () s₁->wpAny (model prog w) A (g b) Q' E s₁)->t2.fits es1.size=true->t2.led=t.led->t2.plain=false->∀R:Option Bool->Shared->Prop,(∀h',Q true {s with heap:=h' }->R (some true) {s with heap:=h' })->
    wpAny (model prog w) A (do
     storeSet a es1 t2
     if (!was&&t2.tooFull)=true then do
       g (relayAll t2 es1 (SetTable.grown es1.size)).2.2
       storeSet a (relayAll t2 es1 (SetTable.grown es1.size)).1 (relayAll t2 es1 (SetTable.grown es1.size)).2.1
       pure (some true)
      else pure (some true)) R E s:=λt2 g hg f2 l2 n2 R hR=>by
   refine wpAny_bind (wpAny_storeSet_of ho hd ?_ (fits_of_scanBound hz1));have ho1:=Tv s.heap o es ep t es1 t2 ho hd;have sb1:=Heap.SameBut.update s.heap a (Obj.putSet es1 t2);split
   .have p2:=relayAll_perm t2 es1 (SetTable.grown es1.size);have f3:=relayAll_fits t2 es1 (SetTable.grown es1.size);obtain⟨l3,n3⟩:=zw t2 es1 (SetTable.grown es1.size);generalize relayAll t2 es1 (SetTable.grown es1.size)=Rl at p2 f3 l3 n3 ⊢;obtain⟨es2,t3,Wv⟩:=Rl;dsimp only at p2 f3 l3 n3 ⊢;have sz2:es2.size=es1.size:=by rw[<-Array.length_toList,p2.length_eq,Array.length_toList]
    refine wpAny_bind (hg _ _ _ (wpAny_bind (wpAny_storeSet_of ho1 rfl ?_ (fits_of_scanBound (by omega)))));have g2:=Tv (s.heap.update a (Obj.putSet es1 t2)) {o with data:=.set es1 (ep+1) t2} es1 (ep+1) t2 es2 t3 ho1 rfl
    exact wpAny_pure (hR _ (h2 _ es2 _ t3 (sb1.trans (Heap.SameBut.update _ a _)) g2 (p2.trans p1) f3 (l3.trans l2) (n3 n2)))
   .exact wpAny_pure (hR _ (h2 _ es1 _ t2 sb1 ho1 p1 f2 l2 n2))
  refine wpAny_bind (hgw _ _ _ ?_);split
  .refine wpAny_bind ?_;rw[hashByValue_scannable 8 hsc];refine wpAny_pure ?_;rw[if_neg (show ¬plainKind (.str k tok)=true from Bool.false_ne_true)];refine tail {t1 with plain:=false} _ ?_ (SetTable.fits_plain_off f1) l1 rfl _ ?_
   .intro b s₁ Q' hq;cases b<;>first|exact wpAny_pure hq|exact wpAny_rule hq
   .intro h' hq;dsimp only;exact wpAny_pure hq
  .next hp=>
   refine wpAny_bind (wpAny_pure ?_);simp only[↓reduceIte];refine tail t1 _ ?_ f1 l1 (by simpa using hp) _ ?_
   .intro b s₁ Q' hq;cases b<;>first|exact wpAny_pure hq|exact wpAny_rule hq
   .intro h' hq;dsimp only;exact wpAny_pure hq
end
end SetTx
namespace SetTx
open PySem PyProof.Rows
def keyOf:Value->Str
 |.str s _=>s
 |_=>""
def gy(val:Nat->Str):Nat->WR Str
 | 0=>[]
 |i+1=>if val i∈gy val i then gy val i else gy val i++[val i]
theorem vt(val:Nat->Str):∀i,(gy val i).length<=i
 | 0=>le_refl _
 |i+1=>by
  have:=vt val i;unfold gy;split
  .omega
  .rw[length_append];simp;omega
theorem BG(val:Nat->Str):∀(i:Nat) (x:Str),x∈gy val i↔∃j,j<i/\val j=x
 | 0,x=>by simp[gy]
 |i+1,x=>by
  have ih:=BG val i;unfold gy;split
  .next h=>
   rw[ih];constructor
   .rintro⟨j,hj,e⟩;exact⟨j,by omega,e⟩
   .rintro⟨j,hj,e⟩
    by_cases z:j=i
    .subst z;rw[<-e];exact(ih _).mp h
    .exact⟨j,by omega,e⟩
  .rw[mem_append,ih,mem_singleton];constructor
   .rintro(⟨j,hj,e⟩|rfl)
    .exact⟨j,by omega,e⟩
    .exact⟨i,by omega,rfl⟩
   .rintro⟨j,hj,e⟩
    by_cases z:j=i
    .subst z;exact .inr e.symm
    .exact .inl ⟨j,by omega,e⟩
theorem vv(val:Nat->Str):∀i,(gy val i).Nodup
 | 0=>nodup_nil
 |i+1=>by
  have ih:=vv val i;unfold gy;split
  .exact ih
  .next h=>
   rw[nodup_append];refine⟨ih,by simp,λa ha b hb e=>?_⟩;rw[mem_singleton.mp hb] at e;exact h (e▸ha)
def qF(prog:Program)(w:World)(h:Heap)(a:Addr)(ss:WR Str)(ld:Bool):Prop:=∃o es ep t,h.get? a=some o/\o.ExactSet/\o.data=.set es ep t/\ElemsOf (strKind prog w) es.toList/\(es.toList.map λe=>keyOf e.2).Perm ss/\t.fits es.size=true/\t.led=ld/\(es.size≠0->t.plain=false)
theorem key_is{prog:Program}{w:World}{k:Str}{v:Value}(h:(strKind prog w).is k v=true):keyOf v=k:=by
 obtain⟨t,rfl⟩:=Value.isStrOf_shape h;rfl
section
variable{prog:Program}{w:World}{A:Around}{R:Result->Shared->Prop}{I:Addr}{fp wr:WR Addr}{G:Array GenState->Array GenState->Prop}{n:Nat}{P:Nat->Value->Prop}{St:Nat->Shared->Prop}
theorem qF.keep{h h':Heap}{a:Addr}{ss:WR Str}{ld:Bool}(x:qF prog w h a ss ld)(k:∀o,h.get? a=some o->h'.get? a=some o):qF prog w h' a ss ld:=by
 obtain⟨o,es,ep,t,ho,rest⟩:=x;exact⟨o,es,ep,t,k o ho,rest⟩
theorem Tw(W:WalksS prog w A.in1 I fp wr G n P St)(S:Addr)(hSf:S∉fp)(val:Nat->Str)(hval:∀i v,P i v->∃t,v=.str (val i) t)(hb:n+1<scanBound)(ld:Bool):
  ∀(k i:Nat) (s:Shared),n-i=k->i<=n->St i s->qF prog w s.heap S (gy val i) ld->
   (∀s',Moved (S::wr) G s s'->qF prog w s'.heap S (gy val n) ld->R (.ok (.ret .none)) s')->
   codeAny (model prog w) A (.builtin "set.update.loop" ⟨[.ref S,.ref I],[]⟩) R s:=by
 have hSw:S∉wr:=λh=>hSf (W.sub _ h);have hsub:∀b∈wr,b∈S::wr:=λb hb=>mem_cons_of_mem _ hb;intro k
 induction k with
 |zero=>
  intro i s hk hi hst hS hR;have hin:i=n:=by omega
  subst hin;refine codeAny_builtin F.entry_set_update_loop ?_;rw[Around.under_plainId F.plain_set_update_loop _];show wpAny _ A.in1 (pyNext (.ref I)>>=_) _ _ s;refine wpAny_bind (W.done s _ _ hst λs' hm=>?_);show wpAny _ A.in1 (ret Value.none) _ _ s';exact wpAny_pure (hR s' (hm.mono hsub) (hS.keep λo e=>hm.heap S o hSw e))
 |succ k ih=>
  intro i s hk hi hst hS hR;have hlt:i<n:=by omega
  refine codeAny_builtin F.entry_set_update_loop ?_;rw[Around.under_plainId F.plain_set_update_loop _];show wpAny _ A.in1 (pyNext (.ref I)>>=_) _ _ s;refine wpAny_bind (W.item i s _ _ hlt hst λv s' hP VR hm=>?_);obtain⟨t,rfl⟩:=hval i v hP;obtain⟨o,es,ep,tb,ho,hex,hd,hel,hp,hf,hl,hpl⟩:=hS.keep (h':=s'.heap) λo e=>hm.heap S o hSw e;have esz:es.size=(gy val i).length:=by rw[<-hp.length_eq,length_map,Array.length_toList]
  have dl:=vt val i;show wpAny _ A.in1 (holding [Value.str (val i) t] (setAdd S (.str (val i) t))>>=_) _ _ s';refine wpAny_bind (wpAny_holding ?_);unfold setAdd;refine wpAny_holding ?_;refine wpAny_bind ((strKind prog w).pyHash (k:=val i) (strKind_is _ _ _ _) ?_);have iff:val i∈gy val i↔∃e∈es.toList,(strKind prog w).is (val i) e.2=true:=by
   rw[<-hp.mem_iff,mem_map];constructor
   .rintro⟨e,he,ek⟩;obtain⟨⟨k',hk',_⟩,_⟩:=hel e he;rw[<-key_is hk',ek] at hk';exact⟨e,he,hk'⟩
   .rintro⟨e,he,ek⟩;exact⟨e,he,key_is ek⟩
  have fin:∀(h':Heap) (b:Bool),Heap.SameBut S s'.heap h'->qF prog w h' S (gy val (i+1)) ld->wpAny (model prog w) A.in1 (again (Code.builtin "set.update.loop" ⟨[Value.ref S,Value.ref I],[]⟩))
    (λfin s'=>match fin with |.done f=>R (.ok f) s' |.again c'=>c'.quiet=true/\codeAny (model prog w) A c' R s') (λe s'=>R (.error e) s') {s' with heap:=h',toks:=s'.toks+1}:=λh' _ hsb hS2=>by
   refine wpAny_pure ⟨plainId_quiet F.plain_set_update_loop _,ih (i+1) _ (by omega) hlt (W.frame _ s' _ _ VR (le_succ _) λb hb o e=>?_) hS2 λs'' VS VT=>?_⟩
   .rw[hsb.2 b (λh:b=S=>hSf (by rw[<-h];exact hb))];exact e
   .refine hR s'' (Moved.trans W.gtrans ((hm.mono hsub).then_heap (le_succ _) λb o hb e=>?_) VS) VT;rw[hsb.2 b (λh:b=S=>hb (by rw[h];exact mem_cons_self))];exact e
  refine KI (s:={s' with toks:=s'.toks+1}) ho hd hel (by omega) hf (λhx=>?_) (λhx h' es' ep' t' hsb hg hpm hf' hl' VU=>?_)
  .refine fin s'.heap false (Heap.SameBut.refl S s'.heap) ?_;rw[show gy val (i+1)=gy val i by rw[gy,if_pos (iff.mpr hx)]]
   exact⟨o,es,ep,tb,ho,hex,hd,hel,hp,hf,hl,hpl⟩
  .refine fin h' true hsb ?_;have hn:val i∉gy val i:=λz=>by
    obtain⟨e,he,ek⟩:=iff.mp z;rw[hx e he] at ek;cases ek
   rw[show gy val (i+1)=gy val i++[val i] by rw[gy,if_neg hn]]
   refine⟨_,es',ep',t',hg,hex,rfl,(hel.push (strKind_is _ _ _ _) rfl).perm hpm,?_,hf',hl'.trans hl,λ_=>VU⟩;refine(hpm.map _).trans ?_;rw[map_append];exact hp.append (List.Perm.refl _)
end
end SetTx
namespace SetTx
open PySem PyProof.Rows
section
variable{prog:Program}{w:World}{A:Around}{E:Value->Shared->Prop}{s:Shared}
def cR(w:World):Bool:=w.params.followText "set-order"
def eE(w:World):Obj:={cls:=.type "set",dict:=none,data:=.set #[] 0 (.fresh 0 0 (!cR w))}
theorem Ot(a:Value){Q₁:Value->Shared->Prop}(h:Q₁ (.ref s.heap.objs.size) {s with heap:=s.heap.push (eE w)}):
  codeAny (model prog w) A (.call (.builtin "set.__new__") ⟨[.type "set",a],[]⟩) (wants Q₁ E) s:=by
 refine codeAny_of_tree ?_;show wpAny _ A.in1 (do checkBuiltinCall "set.__new__" ⟨[.type "set",a],[]⟩;again (.builtin "set.__new__" ⟨[.type "set",a],[]⟩)) _ _ s;refine wpAny_bind (wpAny_of_eq (PySem.F.newCall_set_1 a) (wpAny_pure ⟨plainId_quiet PySem.F.plain_set_new _,codeAny_builtin PySem.F.entry_set_new ?_⟩));rw[Around.under_plainId PySem.F.plain_set_new _];unfold Builtin.«set.__new__» Builtin.Frozenset.newClass;have hsub:=sub_set_self;obtain⟨hp,g,d,tk,os⟩:=s;dsimp only
 wp_walk
 refine wpAny_askSetting (wpAny_pure ?_);dsimp only;simp only[newObj];refine wpAny_bind (wpAny_alloc (wpAny_pure ?_));exact wpAny_pure h
theorem VV(h:Heap):qF prog w (h.push (eE w)) h.objs.size [] (!cR w):=
 ⟨eE w,#[],0,_,Heap.get?_push_size _ rfl,⟨rfl,rfl,rfl⟩,rfl,λe he=>by simp at he,List.Perm.nil,rfl,rfl,λz=>absurd rfl z⟩
theorem vz{l:Addr}{items:Array Value}{val:Nat->Str}{Q:Value->Shared->Prop}(hh:A.handled=none)(hl:s.heap.IsList l items)(hi:∀(i:Nat) (v:Value),items[i]?=some v->∃t,v=.str (val i) t)(hb:items.size+1<scanBound)
  (h:∀(h':Heap) (tk:Nat),qF prog w h' s.heap.objs.size (gy val items.size) (!cR w)->(∀b o,b<s.heap.objs.size->s.heap.get? b=some o->h'.get? b=some o)->Q (.ref s.heap.objs.size) {s with heap:=h',toks:=tk}):
  wpAny (model prog w) A (call (.type "set") [.ref l]) Q E s:=by
 obtain⟨c,tl,WD⟩:=PySem.F.called_set.mro;have hmade:=PySem.F.called_set.made;have hsub:=PySem.F.called_set.sub;refine wpAny_call (codeAny_of_tree ?_);show wpAny _ _ (callAny (.type "set") _) _ _ _;refine wpAny_pure ⟨Code.quiet_builtin _ (by decide+kernel),codeAny_builtin PySem.F.entry_type_call ?_⟩;rw[Around.under_plain (weight_type_call_type "set" [.ref l] []) rfl];have h1:=PySem.F.called_set.notType;have h2:=PySem.F.called_set.canCreate;have hct:=PySem.F.typeCall_set_1 (.ref l)
 repeat (any_goals (first|assumption|wp_step))
 refine codeAny_mono (Ot (.ref l) (E:=E) (Q₁:=λobj s₁=>obj=.ref s.heap.objs.size/\s₁={s with heap:=s.heap.push (eE w)}) ⟨rfl,rfl⟩) λr s₁ hr=>?_;cases r with
 |error e=>exact hr
 |ok fl=>
  cases fl with
  |ret obj=>
   obtain⟨rfl,rfl⟩:=hr;have hS:(s.heap.push (eE w)).get? s.heap.objs.size=some (eE w):=Heap.get?_push_size _ rfl;have hT:Shared.TypeIs {s with heap:=s.heap.push (eE w)} (.ref s.heap.objs.size) "set":=⟨_,hS,rfl⟩
   have hli:=PySem.F.called_set.init.lookup;have hbi:=PySem.F.called_set.init.bind (.ref s.heap.objs.size)
   repeat (any_goals (first|assumption|wp_step))
   refine codeAny_mono (codeAny_call_builtin (R:=wants (λr a8=>r=.none/\∃h' tk,a8={s with heap:=h',toks:=tk}/\qF prog w h' s.heap.objs.size (gy val items.size) (!cR w)/\∀b o,b<s.heap.objs.size->s.heap.get? b=some o->h'.get? b=some o) E) PySem.F.called_set.init.plain PySem.F.entry_set_init (check_set_init_1 hT ?_)) λr₂ a8 u4=>?_
   .obtain⟨ol,hol,hcl,nl,hdl⟩:=hl;have hlS:l<s.heap.objs.size:=Heap.lt_size hol;obtain⟨WE,Tz,Ww,Q5⟩:=ol;simp only at hcl hdl;subst hcl;subst hdl;have VW:(s.heap.push (eE w)).get? l=some {cls:=.type "list",dict:=Tz,data:=.seq items nl,slots:=Q5}:=Heap.get?_push_of_some _ hol;have WG:=PySem.F.sub_list_set;have WH:=PySem.F.sub_list_frozenset;have hne:(Value.type "list" ==Value.type "dict")=false:=by decide
    have hl1:(s.heap.push (eE w)).IsList l items:=⟨_,VW,rfl,nl,rfl⟩;unfold Builtin.«set.__init__» noKeywords Builtin.Frozenset.updateFrom;generalize hPI:pyIter=PI
    wp_walk
    subst hPI;refine wpAny_pyIter_list hl1 ?_;refine wpAny_bind (wpAny_runValue ?_);have hh3:A.in1.in1.in1.handled=none:=by simp[hh]
    have VX:l≠(s.heap.push (eE w)).objs.size:=by
     rw[Heap.size_push];exact ne_of_lt (lt_succ_of_lt hlS)
    have hSf:s.heap.objs.size∉[(s.heap.push (eE w)).objs.size,l]:=by
     rw[Heap.size_push];simp only[mem_cons,not_mem_nil,or_false,not_or];exact⟨ne_of_lt (lt_succ_self _),ne_of_gt hlS⟩
    refine Tw ((Walks.list hh3 _ l VX items).toS) s.heap.objs.size hSf val hi hb (!cR w) (items.size-0) 0 _ (by omega) (zero_le _) ⟨⟨_,Heap.get?_push_size _ rfl,rfl,rfl⟩,(hl1.push _)⟩ ((VV s.heap).keep λo e=>Heap.get?_push_of_some _ e) λs' hm hS'=>?_;obtain⟨h',g',d',tk',os'⟩:=s';have eg:g'=s.gens:=hm.gens;have ed:d'=s.drawn:=hm.drawn;have eo:os'=s.os:=hm.os;subst eg;subst ed;subst eo;show wpAny _ _ _ _ _ _;refine wpAny_pure ?_;show wpAny _ _ (ret Value.none) _ _ _;refine wpAny_pure ⟨rfl,h',tk',rfl,hS',λb o hb e=>?_⟩;have hb1:b≠s.heap.objs.size:=ne_of_lt hb;have hb2:b≠(s.heap.push (eE w)).objs.size:=by
     rw[Heap.size_push];exact ne_of_lt (lt_succ_of_lt hb)
    exact hm.heap b o (by simp only[mem_cons,not_mem_nil,or_false,not_or];exact⟨hb1,hb2⟩) (Heap.get?_push_of_some _ (Heap.get?_push_of_some _ e))
   .cases r₂ with
    |error e=>exact u4
    |ok fl₂=>
     cases fl₂ with
     |ret r=>
      obtain⟨rfl,h',tk,rfl,hS',hk'⟩:=u4
      repeat (any_goals (first|assumption|wp_step))
      exact h _ _ hS' hk'
     |_=>exact u4.elim
  |_=>exact hr.elim
end
end SetTx
namespace SetTx
open PySem PyProof.Rows
section
variable{prog:Program}{w:World}{A:Around}{E:Value->Shared->Prop}
theorem get_erase{α:Type}:∀(l:WR α) (i:Nat) (h:i<l.length),(l[i]::l.eraseIdx i).Perm l
 |x::l,0,_=>List.Perm.refl _
 |x::l,i+1,h=>(List.Perm.swap x (l[i]'(Nat.lt_of_succ_lt_succ h)) (l.eraseIdx i)).trans ((get_erase l i (Nat.lt_of_succ_lt_succ h)).cons x)
theorem Q6{M:Model}{src:Source}{n:Nat}{s:Shared}{Q:Nat->Shared->Prop}(hn:n≠0)(h:∀i d',i<n->Q i {s with drawn:=d' }):wpAny M A (choose src n) Q E s:=λ_ _ _=>⟨hn,h _ _ (mod_lt _ (Nat.pos_of_ne_zero hn))⟩
theorem Ie{α:Type}(n:Nat):∀(xs:WR α) (s:Shared) (Q:WR α->Shared->Prop),xs.length=n->(∀ys d',ys.Perm xs->Q ys {s with drawn:=d' })->wpAny (model prog w) A (drawOrder n xs) Q E s:=by
 induction n with
 |zero=>
  intro xs s Q hl h;obtain rfl:=length_eq_zero_iff.mp hl;exact wpAny_pure (h [] s.drawn (List.Perm.refl _))
 |succ n ih=>
  intro xs s Q hl h;cases xs with
  |nil=>cases hl
  |cons x xs=>
   unfold drawOrder;refine wpAny_bind ?_;refine Q6 (by simp) λi d' hi=>?_;rw[getElem?_eq_getElem hi];dsimp only;refine wpAny_bind (ih _ _ _ (by rw[List.length_eraseIdx,if_pos hi,hl];rfl) λys d'' hp=>wpAny_pure (h _ _ ?_));refine(hp.cons _).trans ?_;exact get_erase _ _ hi
theorem lQ{α:Type}(next:Nat->Nat):∀(fuel k:Nat) (left:WR α) (out:Array α),left.length=fuel->(pickOrder.go next fuel k left out).toList.Perm (out.toList++left)
 | 0,k,[],out,_=>by simp[pickOrder.go]
 |fuel+1,k,left,out,hl=>by
  unfold pickOrder.go;have hi:next k%left.length<left.length:=mod_lt _ (by omega)
  rw[getElem?_eq_getElem hi];dsimp only;refine(lQ next fuel (k+1) _ _ (by rw[List.length_eraseIdx,if_pos hi,hl];rfl)).trans ?_;rw[Array.toList_push,append_assoc];exact(List.Perm.refl _).append (get_erase left _ hi)
theorem yo{α:Type}(next:Nat->Nat)(xs:Array α):(pickOrder next xs).toList.Perm xs.toList:=by
 unfold pickOrder;refine(lQ next xs.size 0 xs.toList #[] (by simp)).trans ?_;simp
end
end SetTx
namespace SetTx
open PySem PyProof.Rows
theorem Dj:entryFor table "set.__iter__" =some Builtin.«frozenset.__iter__»:=
 entryFor_alias (id':="frozenset.__iter__") (by rfl') rfl (by decide+kernel) (by rfl')
theorem slot_next:Slot "set_iterator" "__next__" "set_iterator.__next__":=
 .of (owner := "set_iterator") (n := "__next__") (by rw[typeLookup_type,builtinLookup_eq_fast];rfl') (by decide+kernel) (by decide+kernel) (by decide+kernel)
  (by first|exact .inl (by decide+kernel)|exact .inr (by decide+kernel)) (by rw[isSubtype_type];rfl')
theorem entry_next:entryFor table "set_iterator.__next__" =some Builtin.«set_iterator.__next__»:=entryFor_of_tree (by rfl')
section
variable{prog:Program}{w:World}{A:Around}{E:Value->Shared->Prop}{s:Shared}
def Ff(first:Value)(i:Nat)(a:Addr)(n ep:Nat):Obj:={cls:=.type "set_iterator",data:=.fields #[first,.int i 0,.ref a,.int n 0,.int ep 0] }
theorem KJ{a:Addr}{o:Obj}{es:Array (Int×Value)}{ep:Nat}{t:SetTable}{Q:Value->Shared->Prop}(ho:s.heap.get? a=some o)(hex:o.ExactSet)(hd:o.data=.set es ep t)(hf:t.fits es.size=true)(hz:es.size<scanBound)
  (h1:(!cR w&&(!t.plain&&decide (es.size>1)))=true->∀(ys:WM) d',ys.Perm (List.range es.size)->Q (.ref (s.heap.objs.size+1)) {s with heap:=(s.heap.push {cls:=.type "tuple",data:=.seq (ys.map λi=>rawInt (i:Nat)).toArray}).push (Ff (.ref s.heap.objs.size) 0 a es.size ep),drawn:=d' })
  (h2:(!cR w&&(!t.plain&&decide (es.size>1)))=false->Q (.ref s.heap.objs.size) {s with heap:=s.heap.push (Ff (rawInt 0) 0 a es.size ep)}):
  wpAny (model prog w) A (pyIter (.ref a)) Q E s:=by
 have hT:s.TypeIs (.ref a) "set":=⟨o,ho,hex.1⟩;refine wpAny_pyIter_slot hT PySem.F.slot_set_iter (wpAny_call_entry PySem.F.slot_set_iter hT Dj ?_ (PySem.F.args_set_iter_1 _));unfold Builtin.«frozenset.__iter__»;refine wpAny_bind (m:=Builtin.Frozenset.slot0 "__iter__" ⟨[.ref a],[]⟩) (wpAny_pure ?_);unfold Builtin.Frozenset.sizeOf;refine wpAny_bind (wpAny_bind (wpAny_setEntries_of ho hd hf (wpAny_pure ?_)));unfold setDrawn setsByText;refine wpAny_bind (wpAny_bind (wpAny_setState_of ho hd hf (wpAny_bind (wpAny_bind (wpAny_askSetting (wpAny_pure (wpAny_pure ?_)))))));dsimp only;unfold setEpoch
 change wpAny _ _ (if (!cR w&&(!t.plain&&decide (es.size>1)))=true then _ else _) _ _ _
 by_cases hc:(!cR w&&(!t.plain&&decide (es.size>1)))=true
 .rw[if_pos hc];refine wpAny_bind (Ie es.size _ _ _ (by simp) λys d' hp=>?_);refine wpAny_bind (wpAny_newTuple ?_ (by rw[length_map,hp.length_eq,length_range];exact fits_of_scanBound hz));refine wpAny_bind (wpAny_bind (wpAny_setState_of (Heap.get?_push_of_some _ ho) hd hf (wpAny_pure ?_)));refine wpAny_bind (wpAny_newObj_type (wpAny_pure ⟨_,rfl,"set_iterator",_,⟨_,Heap.get?_push_size _ rfl,rfl⟩,slot_next.lookup,?_⟩));have:=h1 hc ys d' hp;rw[Heap.size_push];exact this
 .rw[if_neg hc];refine wpAny_bind (wpAny_pure ?_);refine wpAny_bind (wpAny_bind (wpAny_setState_of ho hd hf (wpAny_pure ?_)));refine wpAny_bind (wpAny_newObj_type (wpAny_pure ⟨_,rfl,"set_iterator",_,⟨_,Heap.get?_push_size _ rfl,rfl⟩,slot_next.lookup,?_⟩));exact h2 (by simpa using hc)
end
end SetTx
namespace SetTx
open PySem PyProof.Rows
theorem BH:Manifest.owners.lookup (String.ofList ['r','o','t','a','r','e','t','i','_','t','e','s'].reverse)=some Manifest.sig_set_iterator:=by rfl'
theorem args_next(a:Value):argsOk "set_iterator.__next__" ⟨[a],[]⟩:=by
 unfold argsOk;rw[signature?_of (id:="set_iterator.__next__") (n:=['_','_','t','x','e','n','_','_']) (o:=['r','o','t','a','r','e','t','i','_','t','e','s']) (by rfl') BH];rfl'
section
variable{prog:Program}{w:World}{A:Around}{E:Value->Shared->Prop}{s:Shared}
def oW(h:Heap)(it:Addr)(first:Value)(i:Nat)(a:Addr)(n ep:Nat):Prop:=∃o,h.get? it=some o/\o.cls=.type "set_iterator"/\o.data=.fields #[first,.int i 0,.ref a,.int n 0,.int ep 0]
theorem Dk{it a T:Addr}{i:Nat}{o:Obj}{es:Array (Int×Value)}{ep p:Nat}{t:SetTable}{ps:Array Value}{x:Int×Value}{Q:Option Value->Shared->Prop}(hit:oW s.heap it (.ref T) i a es.size ep)(ho:s.heap.get? a=some o)(hd:o.data=.set es ep t)(hf:t.fits es.size=true)
  (hT:s.heap.IsTuple T ps) (hp:ps[i]?=some (rawInt (p:Nat))) (hx:es[p]?=some x)
  (hQ:∀h',oW h' it (.ref T) (i+1) a es.size ep->Heap.SameBut it s.heap h'->Q (some x.2) {s with heap:=h' }):
  wpAny (model prog w) A (pyNext (.ref it)) Q E s:=by
 obtain⟨oi,hoi,hci,hdi⟩:=id hit;have hTy:s.TypeIs (.ref it) "set_iterator":=⟨oi,hoi,hci⟩;unfold pyNext;refine wpAny_bind (wpAny_attempt (wpAny_callSpecial?_slot (name:=Str.ofString "__next__") hTy slot_next (wpAny_call_entry slot_next hTy entry_next ?_ (args_next _))));unfold Builtin.«set_iterator.__next__»;refine wpAny_bind (wpAny_pure ?_);refine wpAny_bind (wpAny_fieldsOf hoi hdi ?_);dsimp only;refine wpAny_bind (wpAny_setEntries_of ho hd hf ?_);rw[if_neg (by simp)];obtain⟨oT,hoT,Js,nT,hdT⟩:=hT;refine wpAny_bind (m:=seqItems? (.ref T)) ?_;unfold seqItems?;refine wpAny_bind (wpAny_load hoT ?_);rw[hdT];refine wpAny_pure ?_;dsimp only;rw[toNat_natCast,hp];dsimp only[rawInt];unfold setNextDrawn;refine wpAny_bind (wpAny_bind (wpAny_setState_of ho hd hf ?_));dsimp only;rw[if_neg (by simp),toNat_natCast,hx];refine wpAny_pure ?_;refine wpAny_bind (wpAny_setField hoi hdi (by simp) ?_);have Dl:oW (s.heap.update it (Obj.mapFields (·.setIfInBounds 1 (rawInt ((i:Int)+1))))) it (.ref T) (i+1) a es.size ep:=
  ⟨_,Heap.get?_update_self _ hoi (Obj.isFreed_of_fields (Obj.data_mapFields hdi _)),(Obj.cls_mapFields ..).trans hci,by rw[Obj.data_mapFields hdi];simp[rawInt]⟩
 exact wpAny_pure ⟨_,rfl,wpAny_pure (hQ _ Dl (Heap.SameBut.update ..))⟩
theorem Dm{it a T:Addr}{i:Nat}{o:Obj}{es:Array (Int×Value)}{ep:Nat}{t:SetTable}{ps:Array Value}{Q:Option Value->Shared->Prop}(hh:A.handled=none)(hit:oW s.heap it (.ref T) i a es.size ep)(ho:s.heap.get? a=some o)(hd:o.data=.set es ep t)(hf:t.fits es.size=true)
  (hT:s.heap.IsTuple T ps) (hp:ps[i]?=none) (hQ:∀h',Heap.ExtBut it s.heap h'->Q none {s with heap:=h' }):wpAny (model prog w) A (pyNext (.ref it)) Q E s:=by
 obtain⟨oi,hoi,hci,hdi⟩:=id hit;have hTy:s.TypeIs (.ref it) "set_iterator":=⟨oi,hoi,hci⟩;unfold pyNext;refine wpAny_bind (wpAny_attempt (wpAny_callSpecial?_slot (name:=Str.ofString "__next__") hTy slot_next (wpAny_call_entry slot_next hTy entry_next ?_ (args_next _))));unfold Builtin.«set_iterator.__next__»;refine wpAny_bind (wpAny_pure ?_);refine wpAny_bind (wpAny_fieldsOf hoi hdi ?_);dsimp only;refine wpAny_bind (wpAny_setEntries_of ho hd hf ?_);rw[if_neg (by simp)];obtain⟨oT,hoT,Js,nT,hdT⟩:=hT;refine wpAny_bind (m:=seqItems? (.ref T)) ?_;unfold seqItems?;refine wpAny_bind (wpAny_load hoT ?_);rw[hdT];refine wpAny_pure ?_;dsimp only;rw[toNat_natCast,hp];dsimp only;refine wpAny_bind (wpAny_setField hoi hdi (by simp) ?_);have ho1:=Heap.get?_update_self (Obj.mapFields (·.setIfInBounds 0 (rawInt 0))) hoi (Obj.isFreed_of_fields (Obj.data_mapFields hdi _));refine wpAny_bind (wpAny_setField ho1 (Obj.data_mapFields hdi _) (by simp) ?_);refine wpAny_bind ?_;simp only[newExc,newTuple];refine wpAny_bind (wpAny_newObj_type ?_ (by size_fits));refine wpAny_bind (m:=firstArgMember _ _) (wpAny_of_eq (a:=Value.none) (by first|rfl|(simp only[firstArgMember];rfl)) ?_);refine wpAny_newObj_type ?_ (by size_fits);simp only[raiseNew];refine wpAny_bind (wpAny_handled ?_);rw[show A.in1.handled=none from hh];refine wpAny_bind (wpAny_pure (wpAny_throw ?_));refine wpAny_bind (wpAny_isInstance (T:="StopIteration") (b:=true) ⟨_,Heap.get?_push_size _ rfl,rfl⟩ isSubtype_stop ?_);exact wpAny_pure (hQ _ ((((Heap.SameBut.update ..).trans (Heap.SameBut.update ..)).extBut.push _).push _))
end
end SetTx
namespace SetTx
open PySem PyProof.Rows
section
variable{prog:Program}{w:World}{A:Around}{E:Value->Shared->Prop}{s:Shared}
theorem yp{it a:Addr}{i f f':Nat}{o:Obj}{es:Array (Int×Value)}{ep:Nat}{t:SetTable}{v:Value}{Q:Option Value->Shared->Prop}(hit:oW s.heap it (.int f 0) i a es.size ep)(ho:s.heap.get? a=some o)(hd:o.data=.set es ep t)(hf:t.fits es.size=true)
  (hN:∀(A:Around) (E:Value->Shared->Prop) (Q':Option (Value×Nat)->Shared->Prop),Q' (some (v,f')) s->wpAny (model prog w) A (setNext a f i ep) Q' E s)
  (hQ:∀h',oW h' it (.int f' 0) (i+1) a es.size ep->Heap.SameBut it s.heap h'->Q (some v) {s with heap:=h' }):
  wpAny (model prog w) A (pyNext (.ref it)) Q E s:=by
 obtain⟨oi,hoi,hci,hdi⟩:=id hit;have hTy:s.TypeIs (.ref it) "set_iterator":=⟨oi,hoi,hci⟩;unfold pyNext;refine wpAny_bind (wpAny_attempt (wpAny_callSpecial?_slot (name:=Str.ofString "__next__") hTy slot_next (wpAny_call_entry slot_next hTy entry_next ?_ (args_next _))));unfold Builtin.«set_iterator.__next__»;refine wpAny_bind (wpAny_pure ?_);refine wpAny_bind (wpAny_fieldsOf hoi hdi ?_);dsimp only;refine wpAny_bind (wpAny_setEntries_of ho hd hf ?_);rw[if_neg (by simp)];simp only[toNat_natCast];refine wpAny_bind (hN _ _ _ ?_);dsimp only;refine wpAny_bind (wpAny_setField hoi hdi (by simp) ?_);have ho1:=Heap.get?_update_self (Obj.mapFields (·.setIfInBounds 0 (rawInt (f':Nat)))) hoi (Obj.isFreed_of_fields (Obj.data_mapFields hdi _));have hd1:=Obj.data_mapFields hdi (·.setIfInBounds 0 (rawInt (f':Nat)));refine wpAny_bind (wpAny_setField ho1 hd1 (by simp) ?_);refine wpAny_pure ⟨_,rfl,wpAny_pure (hQ _ ⟨_,Heap.get?_update_self _ ho1 (Obj.isFreed_of_fields (Obj.data_mapFields hd1 _)),(Obj.cls_mapFields ..).trans ((Obj.cls_mapFields ..).trans hci),by rw[Obj.data_mapFields hd1];simp[rawInt]⟩ ((Heap.SameBut.update ..).trans (Heap.SameBut.update ..)))⟩
theorem yq{it a:Addr}{i f:Nat}{o:Obj}{es:Array (Int×Value)}{ep:Nat}{t:SetTable}{Q:Option Value->Shared->Prop}(hh:A.handled=none)(hit:oW s.heap it (.int f 0) i a es.size ep)(ho:s.heap.get? a=some o)(hd:o.data=.set es ep t)(hf:t.fits es.size=true)
  (hN:∀(A:Around) (E:Value->Shared->Prop) (Q':Option (Value×Nat)->Shared->Prop),Q' none s->wpAny (model prog w) A (setNext a f i ep) Q' E s)
  (hQ:∀h',Heap.ExtBut it s.heap h'->Q none {s with heap:=h' }):wpAny (model prog w) A (pyNext (.ref it)) Q E s:=by
 obtain⟨oi,hoi,hci,hdi⟩:=id hit;have hTy:s.TypeIs (.ref it) "set_iterator":=⟨oi,hoi,hci⟩;unfold pyNext;refine wpAny_bind (wpAny_attempt (wpAny_callSpecial?_slot (name:=Str.ofString "__next__") hTy slot_next (wpAny_call_entry slot_next hTy entry_next ?_ (args_next _))));unfold Builtin.«set_iterator.__next__»;refine wpAny_bind (wpAny_pure ?_);refine wpAny_bind (wpAny_fieldsOf hoi hdi ?_);dsimp only;refine wpAny_bind (wpAny_setEntries_of ho hd hf ?_);rw[if_neg (by simp)];simp only[toNat_natCast];refine wpAny_bind (hN _ _ _ ?_);dsimp only;refine wpAny_bind (wpAny_setField hoi hdi (by simp) ?_);refine wpAny_bind ?_;simp only[newExc,newTuple];refine wpAny_bind (wpAny_newObj_type ?_ (by size_fits));refine wpAny_bind (m:=firstArgMember _ _) (wpAny_of_eq (a:=Value.none) (by first|rfl|(simp only[firstArgMember];rfl)) ?_);refine wpAny_newObj_type ?_ (by size_fits);simp only[raiseNew];refine wpAny_bind (wpAny_handled ?_);rw[show A.in1.handled=none from hh];refine wpAny_bind (wpAny_pure (wpAny_throw ?_));refine wpAny_bind (wpAny_isInstance (T:="StopIteration") (b:=true) ⟨_,Heap.get?_push_size _ rfl,rfl⟩ isSubtype_stop ?_);exact wpAny_pure (hQ _ (((Heap.SameBut.update ..).extBut.push _).push _))
theorem sq{a:Addr}{o:Obj}{es:Array (Int×Value)}{ep f i:Nat}{t:SetTable}{Q:Option (Value×Nat)->Shared->Prop}(hb:cR w=true)(ho:s.heap.get? a=some o)(hd:o.data=.set es ep t)(hf:t.fits es.size=true)
  (h:Q (((pickOrder (w.params.setOrder a ep) es)[i]?).map λe=>(e.2,f)) s):wpAny (model prog w) A (setNext a f i ep) Q E s:=by
 have hb':(model prog w).w.params.followText "set-order" =true:=hb;unfold setNext setsByText;refine wpAny_bind (wpAny_setState_of ho hd hf ?_);refine wpAny_bind (wpAny_bind (wpAny_askSetting (wpAny_pure ?_)));rw[if_pos hb'];dsimp only;rw[if_neg (by simp)];unfold setWalk setsByText;refine wpAny_bind (wpAny_bind (wpAny_setState_of ho hd hf ?_));refine wpAny_bind (wpAny_bind (wpAny_askSetting (wpAny_pure ?_)));rw[if_pos hb'];refine wpAny_bind (wpAny_askSetting (wpAny_pure ?_));exact wpAny_pure h
theorem vA{a:Addr}{o:Obj}{es:Array (Int×Value)}{ep f i:Nat}{t:SetTable}{Q:Option (Value×Nat)->Shared->Prop}(hb:cR w=false)(hl:t.led=true)(hz:es.size<=1)(ho:s.heap.get? a=some o)(hd:o.data=.set es ep t)(hf:t.fits es.size=true)
  (h:Q (match es[SetTable.below t.place f]?,t.place[SetTable.below t.place f]? with|some (_,x),some j=>some (x,j+1)|_,_=>none) s):wpAny (model prog w) A (setNext a f i ep) Q E s:=by
 have hb':¬(model prog w).w.params.followText "set-order" =true:=by
  intro z;rw[show cR w=true from z] at hb;cases hb
 unfold setNext setsByText;refine wpAny_bind (wpAny_setState_of ho hd hf ?_);refine wpAny_bind (wpAny_bind (wpAny_askSetting (wpAny_pure ?_)));rw[if_neg hb'];dsimp only
 change wpAny _ _ (if (!t.plain&&decide (es.size>1))=true then _ else _) _ _ _
 rw[if_neg (by rw[decide_eq_false (show ¬es.size>1 by omega),Bool.and_false];exact Bool.false_ne_true)];refine wpAny_bind ?_
 change wpAny _ _ (if (!t.led && !es.isEmpty)=true then _ else _) _ _ _
 rw[if_neg (by rw[hl];exact Bool.false_ne_true)];exact wpAny_pure (wpAny_pure h)
end
end SetTx
namespace SetTx
open PySem PyProof.Rows
theorem slot_self:Slot "set_iterator" "__iter__" "set_iterator.__iter__":=
 .of (owner := "set_iterator") (n := "__iter__") (by rw[typeLookup_type,builtinLookup_eq_fast];rfl') (by decide+kernel) (by decide+kernel) (by decide+kernel)
  (by first|exact .inl (by decide+kernel)|exact .inr (by decide+kernel)) (by rw[isSubtype_type];rfl')
theorem entry_self:entryFor table "set_iterator.__iter__" =some Builtin.«dict_keyiterator.__iter__»:=
 entryFor_alias (id':="dict_keyiterator.__iter__") (by rfl') rfl (by decide+kernel) (by rfl')
theorem args_self(a:Value):argsOk "set_iterator.__iter__" ⟨[a],[]⟩:=by
 unfold argsOk;rw[signature?_of (id:="set_iterator.__iter__") (n:=['_','_','r','e','t','i','_','_']) (o:=['r','o','t','a','r','e','t','i','_','t','e','s']) (by rfl') BH];rfl'
section
variable{prog:Program}{w:World}{A:Around}{E:Value->Shared->Prop}{s:Shared}
theorem zx{it a:Addr}{first:Value}{i n ep:Nat}{Q:Value->Shared->Prop}(hit:oW s.heap it first i a n ep)(h:Q (.ref it) s):wpAny (model prog w) A (pyIter (.ref it)) Q E s:=by
 obtain⟨oi,hoi,hci,hdi⟩:=hit;have hTy:s.TypeIs (.ref it) "set_iterator":=⟨oi,hoi,hci⟩;refine wpAny_pyIter_slot hTy slot_self (wpAny_call_entry slot_self hTy entry_self ?_ (args_self _));show wpAny _ _ (ret (.ref it)) _ _ s;exact wpAny_pure ⟨_,rfl,"set_iterator",_,hTy,slot_next.lookup,h⟩
theorem oW.at{h h':Heap}{it a:Addr}{first:Value}{i n ep:Nat}(x:oW h it first i a n ep)(e:∀o,h.get? it=some o->h'.get? it=some o):oW h' it first i a n ep:=let ⟨o,ho,r⟩:=x;⟨o,e _ ho,r⟩
theorem Ig{a I:Addr}{o:Obj}{es:Array (Int×Value)}{ep:Nat}{t:SetTable}(hh:A.handled=none)(hb:cR w=true)(hne:a≠I)(hd:o.data=.set es ep t)(hf:t.fits es.size=true):
  Walks prog w A I [I,a] [I] es.size (λi v=>((pickOrder (w.params.setOrder a ep) es).toList.map (·.2))[i]?=some v) (λi h=>oW h I (.int (0:Nat) 0) i a es.size ep/\h.get? a=some o):=by
 have pl:(pickOrder (w.params.setOrder a ep) es).size=es.size:=by
  have:=(yo (w.params.setOrder a ep) es).length_eq;simpa using this
 exact {
 sub:=λb hb=>by simp at hb;simp[hb]
 frame:=λ_ _ _ st hk=>⟨st.1.at λo e=>hk I (by simp) o e,hk a (by simp) _ st.2⟩
 item:=λi s Q E hi st hQ=>by
  have hi':i<(pickOrder (w.params.setOrder a ep) es).size:=by omega
  refine yp (f':=0) (v:=(pickOrder (w.params.setOrder a ep) es)[i].2) st.1 st.2 hd hf (λA E Q' q=>sq hb st.2 hd hf (by rw[Array.getElem?_eq_getElem hi'];exact q)) λh' Dl hs'=>?_;exact hQ _ h' s.toks (by rw[getElem?_map,Array.getElem?_toList,Array.getElem?_eq_getElem hi'];rfl) ⟨Dl,hs'.extBut a _ hne st.2⟩ λb o hb e=>hs'.extBut b o (λh=>hb (by simp[h])) e
 done:=λs Q E st hQ=>yq hh st.1 st.2 hd hf (λA E Q' q=>sq hb st.2 hd hf (by rw[Array.getElem?_eq_none (by omega)];exact q)) λh' he'=>hQ h' s.toks λb o hb e=>he' b o (λh=>hb (by simp[h])) e
 self:=λ_ _ _ _ st hQ=>zx st.1 hQ}
theorem Q7(j:Nat):SetTable.below #[j] (j+1)=1:=by
 simp[SetTable.below,SetTable.below.go]
theorem Dp{a I:Addr}{o:Obj}{es:Array (Int×Value)}{ep:Nat}{t:SetTable}(hh:A.handled=none)(hb:cR w=false)(hl:t.led=true)(hz:es.size<=1)(hne:a≠I)(hd:o.data=.set es ep t)(hf:t.fits es.size=true):
  Walks prog w A I [I,a] [I] es.size (λi v=>(es.toList.map (·.2))[i]?=some v) (λi h=>oW h I (.int ((if i=0 then 0 else t.place.getD 0 0+1:Nat):Nat) 0) i a es.size ep/\h.get? a=some o):=by
 have ps:t.place.size=es.size:=by
  unfold SetTable.fits at hf;rw[and_eq_true] at hf;simpa using hf.1
 exact {
 sub:=λb hb=>by simp at hb;simp[hb]
 frame:=λ_ _ _ st hk=>⟨st.1.at λo e=>hk I (by simp) o e,hk a (by simp) _ st.2⟩
 item:=λi s Q E hi st hQ=>by
  have i0:i=0:=by omega
  subst i0;obtain⟨j,hj⟩:∃j,t.place = #[j]:=by
   have:t.place.size=1:=by omega
   exact⟨t.place[0],by apply Array.ext;simp[this];intro i h1 h2;simp at h2;subst h2;rfl⟩
  obtain⟨x,hx⟩:∃x,es[0]?=some x:=⟨es[0],Array.getElem?_eq_getElem (by omega)⟩;refine yp (f':=j+1) (v:=x.2) st.1 st.2 hd hf (λA E Q' q=>vA hb hl hz st.2 hd hf (by
   rw[hj,show SetTable.below #[j] (if 0=0 then 0 else(#[j]:Array Nat).getD 0 0+1)=0 from rfl,hx];exact q)) λh' Dl hs'=>?_
  refine hQ _ h' s.toks (by rw[getElem?_map,Array.getElem?_toList,hx];rfl) ⟨?_,hs'.extBut a _ hne st.2⟩ λb o hb e=>hs'.extBut b o (λh=>hb (by simp[h])) e;rw[hj];exact Dl
 done:=λs Q E st hQ=>by
  refine yq hh st.1 st.2 hd hf (λA E Q' q=>vA hb hl hz st.2 hd hf ?_) λh' he'=>hQ h' s.toks λb o hb e=>he' b o (λh=>hb (by simp[h])) e;have out:es[SetTable.below t.place (if es.size=0 then 0 else t.place.getD 0 0+1)]?=none:=by
   by_cases z:es.size=0
   .exact Array.getElem?_eq_none (by omega)
   .obtain⟨j,hj⟩:∃j,t.place = #[j]:=by
     have:t.place.size=1:=by omega
     exact⟨t.place[0],by apply Array.ext;simp[this];intro i h1 h2;simp at h2;subst h2;rfl⟩
    rw[if_neg z,hj,show (#[j]:Array Nat).getD 0 0=j from rfl,Q7];exact Array.getElem?_eq_none (by omega)
  rw[out];exact q
 self:=λ_ _ _ _ st hQ=>zx st.1 hQ}
end
end SetTx
namespace SetTx
open PySem PyProof.Rows
section
variable{prog:Program}{w:World}{A:Around}{E:Value->Shared->Prop}{s:Shared}
def byPlace(es:Array (Int×Value))(p:Nat):Value:=((es[p]?).getD (0,.none)).2
theorem Dq(es:Array (Int×Value)):(List.range es.size).map (byPlace es)=es.toList.map (·.2):=by
 apply List.ext_getElem?
 intro i;rw[getElem?_map,getElem?_map]
 by_cases h:i<es.size
 .rw[List.getElem?_range h,getElem?_eq_getElem (l:=es.toList) (by rw[Array.length_toList];exact h)];simp[byPlace,h]
 .rw[getElem?_eq_none (by simpa using h),getElem?_eq_none (l:=es.toList) (by rw[Array.length_toList];omega)];rfl
theorem Dr{a I T:Addr}{o:Obj}{es:Array (Int×Value)}{ep:Nat}{t:SetTable}{ys:WM}(hh:A.handled=none)(hne:a≠I)(hT:T≠I)(hp:ys.Perm (List.range es.size))(hd:o.data=.set es ep t)(hf:t.fits es.size=true):
  Walks prog w A I [I,T,a] [I] es.size (λi v=>(ys.map (byPlace es))[i]?=some v) (λi h=>oW h I (.ref T) i a es.size ep/\h.get? a=some o/\h.IsTuple T (ys.map λi=>rawInt (i:Nat)).toArray):=by
 have yl:ys.length=es.size:=by rw[hp.length_eq,length_range]
 exact {
 sub:=λb hb=>by simp at hb;simp[hb]
 frame:=λ_ _ _ st hk=>⟨st.1.at λo e=>hk I (by simp) o e,hk a (by simp) _ st.2.1,by
  obtain⟨o,ho,r⟩:=st.2.2;exact⟨o,hk T (by simp) _ ho,r⟩⟩
 item:=λi s Q E hi st hQ=>by
  have hi':i<ys.length:=by omega
  have hy:ys[i]?=some ys[i]:=getElem?_eq_getElem hi';have hlt:ys[i]<es.size:=mem_range.mp (hp.mem_iff.mp (getElem_mem hi'));have hx:es[ys[i]]?=some es[ys[i]]:=Array.getElem?_eq_getElem hlt;refine Dk (p:=ys[i]) (x:=es[ys[i]]) st.1 st.2.1 hd hf st.2.2 (by rw[List.getElem?_toArray,getElem?_map,hy];rfl) hx λh' Dl hs'=>?_;exact hQ _ h' s.toks (by rw[getElem?_map,hy];simp[byPlace,hlt]) ⟨Dl,hs'.extBut a _ hne st.2.1,st.2.2.extBut hs'.extBut hT⟩ λb o hb e=>hs'.extBut b o (λh=>hb (by simp[h])) e
 done:=λs Q E st hQ=>Dm hh st.1 st.2.1 hd hf st.2.2 (by rw[List.getElem?_toArray];exact getElem?_eq_none (by rw[length_map];omega)) λh' he'=>hQ h' s.toks λb o hb e=>he' b o (λh=>hb (by simp[h])) e
 self:=λ_ _ _ _ st hQ=>zx st.1 hQ}
end
end SetTx
namespace SetTx
open PySem PyProof.Rows
section
variable{prog:Program}{w:World}{A:Around}{E:Value->Shared->Prop}{s:Shared}
theorem Ih{a:Addr}{o:Obj}{es:Array (Int×Value)}{ep:Nat}{t:SetTable}{Q:Value->Shared->Prop}(B:Around)(hB:B.handled=none)(ho:s.heap.get? a=some o)(hex:o.ExactSet)(hd:o.data=.set es ep t)(hf:t.fits es.size=true)(hz:es.size<scanBound)(hl:t.led = !cR w)(hpl:es.size≠0->t.plain=false)
  (h:∀(I:Addr) (h1:Heap) (d':Drawn) (fp:WR Addr) (vs:WR Value) (St:Nat->Heap->Prop),Walks prog w B I fp [I] es.size (λi v=>vs[i]?=some v) St->vs.Perm (es.toList.map (·.2))->St 0 h1->(∀b o,s.heap.get? b=some o->h1.get? b=some o)->(∀b∈fp,b=a\/s.heap.objs.size<=b)->s.heap.objs.size<=I->Q (.ref I) {s with heap:=h1,drawn:=d' }):
  wpAny (model prog w) A (pyIter (.ref a)) Q E s:=by
 have ha:=Heap.lt_size ho;refine KJ ho hex hd hf hz (λhc ys d' hp=>?_) (λhc=>?_)
 .refine h (s.heap.objs.size+1) _ d' _ _ _ (Dr (T:=s.heap.objs.size) hB (ne_of_lt (lt_succ_of_lt ha)) (ne_of_lt (lt_succ_self _)) hp hd hf) ((hp.map _).trans (by rw[Dq])) ⟨⟨Ff (.ref s.heap.objs.size) 0 a es.size ep,?_,rfl,rfl⟩,?_,?_⟩ (λb o e=>Heap.get?_push_of_some _ (Heap.get?_push_of_some _ e)) (λb hb=>?_) (by omega)
  .have:=Heap.get?_push_size (s.heap.push {cls:=.type "tuple",data:=.seq (ys.map λi=>rawInt (i:Nat)).toArray}) (o:=Ff (.ref s.heap.objs.size) 0 a es.size ep) rfl;rw[Heap.size_push] at this;exact this
  .exact Heap.get?_push_of_some _ (Heap.get?_push_of_some _ ho)
  .exact⟨_,Heap.get?_push_of_some _ (Heap.get?_push_size _ rfl),rfl,_,rfl⟩
  .simp only[mem_cons,not_mem_nil,or_false] at hb
   rcases hb with rfl|rfl|rfl
   .right;omega
   .right;omega
   .left;rfl
 .have fpk:∀b∈[s.heap.objs.size,a],b=a\/s.heap.objs.size<=b:=λb hb=>by
   simp only[mem_cons,not_mem_nil,or_false] at hb
   rcases hb with rfl|rfl
   .right;omega
   .left;rfl
  cases hb:cR w with
  |true=>
   exact h s.heap.objs.size _ s.drawn _ _ _ (Ig hB hb (ne_of_lt ha) hd hf) ((yo _ es).map _) ⟨⟨_,Heap.get?_push_size _ rfl,rfl,rfl⟩,Heap.get?_push_of_some _ ho⟩ (λb o e=>Heap.get?_push_of_some _ e) fpk (le_refl _)
  |false=>
   have hz1:es.size<=1:=by
    by_cases z:es.size<=1
    .exact z
    .rw[hb,hpl (by omega),decide_eq_true (show es.size>1 by omega)] at hc;cases hc
   exact h s.heap.objs.size _ s.drawn _ _ _ (Dp hB hb (by rw[hl,hb];rfl) hz1 (ne_of_lt ha) hd hf) (List.Perm.refl _) ⟨⟨_,Heap.get?_push_size _ rfl,rfl,rfl⟩,Heap.get?_push_of_some _ ho⟩ (λb o e=>Heap.get?_push_of_some _ e) fpk (le_refl _)
end
end SetTx
namespace SetTx
open PySem PySem.W PySem.Calls PyProof.Rows
section
variable{prog:Program}{w:World}{A:Around}{E:Value->Shared->Prop}{s:Shared}
theorem KL{r:Addr}{Q:Bool->Shared->Prop}(hT:s.TypeIs (.ref r) "set")(h:Q false s):wpAny (model prog w) A (Builtin.List.listLengthHint (.ref r)) Q E s:=by
 unfold Builtin.List.listLengthHint;refine wpAny_bind (wpAny_specialOf hT PySem.F.slot_set_len.lookup ?_);generalize hid:("set.__len__":String)=id0
 wp_delta
 rw[show splitId id0=some ("set", "__len__") from by subst hid;decide+kernel]
 subst hid;refine wpAny_bind (wpAny_isInstance (T:="set") (b:=true) hT (by rw[isSubtype_type];rfl') ?_);refine wpAny_ite_split (λhab=>absurd hab (by decide)) (λ_=>?_);refine wpAny_ite_split (λ_=>?_) (λhab=>absurd (by decide+kernel) hab);refine wpAny_bind (wpAny_typeOf hT ?_);exact wpAny_pure h
theorem Ds{a:Addr}{o:Obj}{es:Array (Int×Value)}{ep:Nat}{t:SetTable}{R:Result->Shared->Prop}(hh:A.handled=none)(ho:s.heap.get? a=some o)(hex:o.ExactSet)(hd:o.data=.set es ep t)(hf:t.fits es.size=true)(hz:es.size<scanBound)(hl:t.led = !cR w)(hpl:es.size≠0->t.plain=false)
  (S:Addr) (hSa:S≠a) (res:Value) (m4:Nat) (hS:s.heap.get? S=some {cls:=.type "list",data:=.seq #[] m4 })
  (hR:∀h' tk d' acc' c',(∀b o,b≠S->s.heap.get? b=some o->h'.get? b=some o)->h'.get? S=some {cls:=.type "list",dict:=none,data:=.seq acc' c',slots:=#[] }->acc'.toList.Perm (es.toList.map (·.2))->R (.ok (.ret res)) {s with heap:=h',toks:=tk,drawn:=d' }):
  wpAny (model prog w) A.in1 (Builtin.List.listExtendWith (.ref S) (.ref a) res)
   (λfin s'=>match fin with |.done f=>R (.ok f) s' |.again c'=>c'.quiet=true/\codeAny (model prog w) A c' R s') (λe s'=>R (.error e) s') s:=by
 have hT:s.TypeIs (.ref a) "set":=⟨o,ho,hex.1⟩;have hn:es.size<=sizeLine:=fits_of_scanBound hz;have TF:=Heap.lt_size hS;unfold Builtin.List.listExtendWith;refine wpAny_bind (wpAny_typeOf hT ?_);have h1:Builtin.List.listSameRef (.ref S) (.ref a)=false:=by simp[Builtin.List.listSameRef,hSa]
 simp only[h1,show (Value.type "set" ==Value.type "list")=false by decide,show (Value.type "set" ==Value.type "tuple")=false by decide,Bool.or_false,false_eq_true,if_false]
 refine wpAny_bind (Ih A.in1 hh ho hex hd hf hz hl hpl λI h1 d' fp vs St W hp st hk hfp hI=>?_);have hSI:S≠I:=ne_of_lt (lt_of_lt_of_le TF hI);have hSf:S∉fp:=λz=>by
  rcases hfp S z with e|e
  .exact hSa e
  .exact absurd TF (Nat.not_lt.mpr e)
 have fin:∀acc:Array Value,ItemsOf (λi v=>vs[i]?=some v) acc es.size->acc.toList.Perm (es.toList.map (·.2)):=λacc hacc=>by
  have:acc.toList=vs:=by
   apply List.ext_getElem?
   intro i;have vl:vs.length=es.size:=by rw[hp.length_eq,length_map,Array.length_toList]
   by_cases hi:i<es.size
   .have hi2:i<acc.toList.length:=by rw[Array.length_toList,hacc.1];exact hi
    have:=hacc.2 i acc.toList[i] (by rw[<-Array.getElem?_toList];exact getElem?_eq_getElem hi2);rw[this];exact getElem?_eq_getElem hi2
   .rw[getElem?_eq_none (by rw[Array.length_toList,hacc.1];omega),getElem?_eq_none (by omega)]
  rw[this];exact hp
 have key:∀(h:Heap) (h8 tk:Nat),St 0 h->(∀b o,b≠S->s.heap.get? b=some o->h.get? b=some o)->
   h.get? S=some {cls:=.type "list",data:=.seq #[] h8 }->codeAny (model prog w) A (.builtin "list.extend.loop" ⟨[.ref S,.ref I,res],[]⟩) R {s with heap:=h,toks:=tk,drawn:=d' }:=by
  intro h h8 tk hst hk a9;refine codeAny_extend_loopS W.toS hn S hSf res es.size 0 _ #[] h8 rfl (zero_le _) hst a9 (ItemsOf.nil _) λs' acc' c' hm hS' hacc=>?_;rw[Moved.eq_with hm];refine hR s'.heap s'.toks d' acc' c' (λb o hb e=>hm.heap b o (λhmem=>?_) (hk b o hb e)) hS' (fin acc' hacc)
  rcases mem_cons.mp hmem with e'|hmem
  .exact hb e'
  .exact absurd (Heap.lt_size e) (by rw[mem_singleton.mp hmem];exact Nat.not_lt.mpr hI)
 have a9:=hk _ _ hS;refine wpAny_bind (wpAny_holding (KL ⟨o,hk _ _ ho,hex.1⟩ ?_));refine wpAny_ite_split (λ_=>?_) (λ_=>wpAny_pure ⟨plainId_quiet PySem.F.plain_extend_loop _,key _ m4 _ st (λb o _ e=>hk _ _ e) a9⟩);refine wpAny_bind (wpAny_rule ?_);refine wpAny_bind ?_;show wpAny _ _ (updateSeq S (·.push .none)>>=λ_=>updateSeq S (·.pop)) _ _ _;refine wpAny_bind (wpAny_updateSeq a9 rfl ?_);have i4:=Heap.get?_update_self (Obj.mapSeq (·.push Value.none)) a9 rfl;refine wpAny_updateSeq (hz:=by seq_fits) i4 rfl ?_;have u3:=Heap.get?_update_self (Obj.mapSeq (·.pop)) i4 rfl;refine wpAny_pure ⟨plainId_quiet PySem.F.plain_extend_loop _,key _ _ _ ?_ (λb o hb e=>?_) u3⟩
 .refine W.frame 0 _ _ st λb hb o e=>?_;have hbS:b≠S:=λh=>hSf (h▸hb);exact(Heap.get?_update_other _ _ (Ne.symm hbS)).trans ((Heap.get?_update_other _ _ (Ne.symm hbS)).trans e)
 .exact(Heap.get?_update_other _ _ (Ne.symm hb)).trans ((Heap.get?_update_other _ _ (Ne.symm hb)).trans (hk _ _ e))
theorem BI{a:Addr}{ss:WR Str}{R:WR Value->Shared->Prop}(hh:A.handled=none)(hS:qF prog w s.heap a ss (!cR w))(hz:ss.length<scanBound)
  (h:∀(h':Heap) (tk:Nat) (d':Drawn) (acc:WR Value),(∀b o,s.heap.get? b=some o->h'.get? b=some o)->(acc.map keyOf).Perm ss->(∀v∈acc,∃t,v=.str (keyOf v) t)->R acc {s with heap:=h',toks:=tk,drawn:=d' }):
  wpAny (model prog w) A (collect (.ref a)) R E s:=by
 obtain⟨o,es,ep,t,ho,hex,hd,hel,hp,hf,hl,hpl⟩:=hS;have esz:es.size=ss.length:=by rw[<-hp.length_eq,length_map,Array.length_toList]
 have ha:=Heap.lt_size ho;unfold collect;refine wpAny_bind (wpAny_runValue (codeAny_builtin entry_proto_collect' ?_));rw[Around.under_plainId PySem.F.plain_proto_collect _];show wpAny _ A.in1 (newList []>>=λl=>again (.builtin "list.__iadd__" ⟨[l,.ref a],[]⟩)) _ _ s;refine wpAny_bind (wpAny_newObj_type ?_);refine wpAny_pure ⟨plainId_quiet PySem.F.plain_list_iadd _,codeAny_builtin entry_list_iadd' ?_⟩;rw[Around.under_plainId PySem.F.plain_list_iadd _];have a9 :(s.heap.push {cls:=.type "list",data:=.seq ([]:WR Value).toArray}).get? s.heap.objs.size=some {cls:=.type "list",data:=.seq #[] }:=Heap.get?_push_size _ rfl;show wpAny _ A.in1 (Builtin.List.listExtendWith (.ref s.heap.objs.size) (.ref a) (.ref s.heap.objs.size)) _ _ _;have key:=Ds (prog:=prog) (w:=w) (A:=A) (s:={s with heap:=s.heap.push {cls:=.type "list",data:=.seq ([]:WR Value).toArray} })
  (R:=λ(q:Result) (s':Shared)=>∃(h':Heap) (tk:Nat) (d':Drawn) (acc':Array Value) (c':Nat),q=.ok (.ret (.ref s.heap.objs.size))/\s'={s with heap:=h',toks:=tk,drawn:=d' }/\
   (∀b o,s.heap.get? b=some o->h'.get? b=some o)/\h'.get? s.heap.objs.size=some {cls:=.type "list",dict:=none,data:=.seq acc' c',slots:=#[] }/\acc'.toList.Perm (es.toList.map (·.2)))
  hh (Heap.get?_push_of_some _ ho) hex hd hf (by omega) hl hpl s.heap.objs.size (ne_of_gt ha) (.ref s.heap.objs.size) 0 a9
  (λh' tk d' acc' c' hk hS' hacc=>⟨h',tk,d',acc',c',rfl,rfl,λb o e=>hk b o (ne_of_lt (Heap.lt_size e)) (Heap.get?_push_of_some _ e),hS',hacc⟩)
 have last:∀(h':Heap) (tk:Nat) (d':Drawn) (acc':Array Value),(∀b o,s.heap.get? b=some o->h'.get? b=some o)->acc'.toList.Perm (es.toList.map (·.2))->R acc'.toList {s with heap:=h',toks:=tk,drawn:=d' }:=λh' tk d' acc' hk hacc=>by
  refine h h' tk d' acc'.toList hk ((hacc.map keyOf).trans (by rw[map_map];exact hp)) λv hv=>?_;obtain⟨e,he,rfl⟩:=mem_map.mp (hacc.mem_iff.mp hv);obtain⟨⟨k,hk,_⟩,_⟩:=hel e he;obtain⟨t,et⟩:=Value.isStrOf_shape hk;rw[et];exact⟨t,rfl⟩
 refine wpAny_mono key (λfin s' x=>?_) λe s' x=>?_
 .cases fin with
  |done f=>
   obtain⟨h',tk,d',acc',c',e,rfl,hk,hS',hacc⟩:=x;cases e;show wpAny _ A (load s.heap.objs.size>>=_) _ _ _;refine wpAny_bind (wpAny_load hS' ?_);exact wpAny_pure (last h' tk d' acc' hk hacc)
  |again h8=>
   refine⟨x.1,codeAny_mono x.2 λq a8 y=>?_⟩;obtain⟨h',tk,d',acc',c',rfl,rfl,hk,hS',hacc⟩:=y;show wpAny _ A (load s.heap.objs.size>>=_) _ _ _;refine wpAny_bind (wpAny_load hS' ?_);exact wpAny_pure (last h' tk d' acc' hk hacc)
 .obtain⟨_,_,_,_,_,e,_⟩:=x;cases e
end
end SetTx
namespace SetTx
open PySem PyProof.Rows PySem.Calls
section
variable{prog:Program}{w:World}{A:Around}{E:Value->Shared->Prop}{s:Shared}
theorem Fg:∀{acc:WR Value},(∀v∈acc,∃t,v=.str (keyOf v) t)->StrsAre acc (acc.map keyOf)
 |[],_=>.nil
 |v::acc,h=>by
  obtain⟨t,e⟩:=h v mem_cons_self;have ih:=Fg (acc:=acc) λu hu=>h u (mem_cons_of_mem _ hu);rw[e];exact .cons _ _ ih
theorem Dt{a:Addr}{ss:WR Str}{Q:Value->Shared->Prop}(hh:A.handled=none)(hS:qF prog w s.heap a ss (!cR w))(h64:ss.length<64)
  (hQ:∀(h1 h':Heap) (tk:Nat) (d':Drawn) (e:Nat) (out:Array Value) (ss':WR Str),(∀b o,s.heap.get? b=some o->h1.get? b=some o)->(∀b o,h1.get? b=some o->h'.get? b=some o)->
   h'.get? h1.objs.size=some (seqObj "list" out e)->StrsAre out.toList ss'->ss'.Perm ss->sortedS ss'=true->Q (.ref h1.objs.size) {s with heap:=h',toks:=tk,drawn:=d' }):
  wpAny (model prog w) A (call (.builtin "sorted") [.ref a]) Q E s:=by
 refine call_function_entry kind_sorted plain_sorted entry_sorted (args_sorted1 _) ?_;unfold Builtin.«sorted»;refine wpAny_bind (m:=checkCount "sorted" 1 1 _) (wpAny_pure ?_);refine wpAny_bind (BI (A:=A.in1) hh hS (by unfold scanBound;omega) λh1 tk d' acc hk hp hv=>?_);have hl:acc.length=ss.length:=by rw[<-hp.length_eq,length_map]
 have hT:=Fg hv;refine wpAny_bind (wpAny_newList ?_ (by rw[hl,sizeLine_eq];omega));have ho:(h1.push {cls:=.type "list",data:=.seq acc.toArray}).get? h1.objs.size=some (seqObj "list" acc.toArray 0):=Heap.get?_push_size _ rfl;refine wpAny_bind (wpAny_holding (wpAny_call_entry slot_list_sort ⟨_,ho,rfl⟩ entry_list_sort (list_sort_treeK strKind_oneLt ho hT.keysOf (λv₁ v₂ rest e=>keyKind_strs (by rw[<-e];exact hT)) (by rw[hl];exact h64) λst' a1 a2=>⟨_,rfl,?_⟩) (args_list_sort _)));obtain⟨ss',q1,q2,q3⟩:=sorted_out_str hT a1 a2;obtain⟨e,he⟩:=sortedHeap_at (out:=(arrOf st').map (·.2)) ho;refine wpAny_pure ⟨_,rfl,hQ h1 _ tk d' e _ ss' hk (λb o hb=>?_) he q1 (q2.trans hp) q3⟩;have hlt:=Heap.lt_size hb;rw[sortedHeap_old (ne_of_lt hlt) (by rw[size_push'];exact lt_succ_of_lt hlt)];exact Heap.get?_push_of_some _ hb
end
end SetTx
namespace L2
open PySem PySem.Spec PyProof.Rows
section
variable{X:Cx}
def oX(K:W.Frag)(ta:TA):TE:=λZ H Q=>ta Z H λvs H1=>∃a xs,vs=[.ref a]/\aZ K H1 a xs/\∀p,H1 p=none->Q (.ref p) (upd H1 p (.lst xs.reverse))
theorem Ii{its:WR Value}{acc:Array Value}(h:ItemsOf (λi v=>its.toArray[its.toArray.size-1-i]?=some v) acc its.toArray.size):acc.toList=its.reverse:=by
 obtain⟨h1,h2⟩:=h;have hz:acc.toList.length=its.length:=by rw[Array.length_toList,h1];simp
 apply List.ext_getElem?
 intro i
 by_cases hi:i<its.length
 .obtain⟨v,hv⟩:∃v,acc.toList[i]?=some v:=⟨_,getElem?_eq_getElem (by omega)⟩;have:=h2 i v (by rw[<-Array.getElem?_toList];exact hv);rw[hv,List.getElem?_reverse hi,<-this];simp
 .rw[getElem?_eq_none (by omega),getElem?_eq_none (by rw[List.length_reverse];omega)]
theorem Du(hc:X.calm=true){a:Expr}{ta:TA}{p pos p2 pos2:Pos}(hgl:Gl X "list")(hml:X.mg "list" =none)(hg:Gl X "reversed")(hm:X.mg "reversed" =none)(ha:PA X [a] ta)
  (hs:starEach [a] X.env=(false,eval a X.env)::starEach [] X.env) (hs2:((backTo pos2 (starEach [] X.env)).any λx=>x.fst)=false)
  (he:starEach [.Call (.Name "reversed" p2) [a] [] pos2] X.env=(false,eval (.Call (.Name "reversed" p2) [a] [] pos2) X.env)::starEach [] X.env) (hpl:(backTo pos (starEach [] X.env)).any (·.1)=false):
  PE X (.Call (.Name "list" p) [.Call (.Name "reversed" p2) [a] [] pos2] [] pos) (oX X.K ta):=by
 intro Z0 s Z H Q I h;refine wpAny_Call_Name_kw (kg I hgl hml PyProof.Rows.Boot.«list» ?_ (by decide) (by decide));refine PyProof.Rows.callWith_type1 ?_ he hpl;rw[he];refine Calls.spliced_cons ?_;refine Call_ (kg I hg hm boot_reversed (PyProof.Rows.callWith_type1 (cA (ha pos2 Z0 s Z H _ I h) λus s1 ⟨vs,H1,I1,r1,q1⟩=>?_) hs hs2));obtain⟨l,xs,e,hq,q⟩:=q1;subst e;cases r1 with
 |cons r rr=>
  cases rr;cases r;obtain⟨its,rv,pl,hz⟩:=I1.list hq;have hl:=rv.length;refine call_reversed_list pl.isList ?_;refine Calls.spliced_nil ?_;have hlt:l<s1.heap.objs.size:=let ⟨_,e,_⟩:=pl.isList;Heap.lt_size e;refine Rev.Ic (I1.ok.hd hc) (l:=l) (items:=its.toArray) ⟨_,Heap.get?_push_size _ rfl,rfl,rfl⟩ (pl.isList.at λo e=>Heap.get?_push_of_some _ e) (ne_of_lt hlt) (by rw[size_toArray];omega) λh' tk acc c' hk ho hI=>?_;have e:=Ii hI;have hp:s1.heap.objs.size<=(s1.heap.push (revObj l ((its.toArray.size:Int)-1))).objs.size:=by rw[size_push'];exact le_succ _
  refine⟨.ref _,_,I1.laid (t':=tk) (o:=.lst xs.reverse) (λb o eb=>hk b o (ne_of_lt (Heap.lt_size eb)) (Heap.get?_push_of_some _ eb)) hp ⟨?_,acc.toList,c',by rw[e];exact rv.reverse,by simpa using ho⟩,rfl,q _ (I1.hok.fresh hp)⟩;rw[List.length_reverse];omega
theorem Dv(hc:X.calm=true){a:Expr}{p pos p2 pos2:Pos}{ta:TA}(hml:X.mg "list" =none)(hm:X.mg "reversed" =none)(ha:QA X [a] ta)(hgl:X.env.kindOf "list" =some .globalImplicit:=by rfl')(hg:X.env.kindOf "reversed" =some .globalImplicit:=by rfl')
  (hs:starEach [a] X.env=(false,eval a X.env)::starEach [] X.env:=by rfl') (hs2:((backTo pos2 (starEach [] X.env)).any λx=>x.fst)=false:=by rfl')
  (he:starEach [.Call (.Name "reversed" p2) [a] [] pos2] X.env=(false,eval (.Call (.Name "reversed" p2) [a] [] pos2) X.env)::starEach [] X.env:=by rfl') (hpl:(backTo pos (starEach [] X.env)).any (·.1)=false:=by rfl'):
  QE X (.Call (.Name "list" p) [.Call (.Name "reversed" p2) [a] [] pos2] [] pos) (oX X.K ta):=⟨Du hc hgl hml hg hm ha.p hs hs2 he hpl⟩
abbrev BJ(n:Bool):R2:=λy x H Q=>∃a o,x=.ref a/\gx H a y o/\Q (.bl (o.isSome !=n)) H
theorem Q8(hu:X.A.units+64<cLine):mG X (compareOp .In) (BJ false):=by
 intro Z0 s Z H y x u v Q I ry rx h;obtain⟨a,o,rfl,g,q⟩:=h;obtain rfl:v=Value.ref a:=rx;exact VQ (by omega) I g ry λs' I'=>⟨.bl o.isSome,H,I',rfl,by cases o<;>exact q⟩
theorem qG(hu:X.A.units+64<cLine):mG X (compareOp .NotIn) (BJ true):=by
 intro Z0 s Z H y x u v Q I ry rx h;obtain⟨a,o,rfl,g,q⟩:=h;obtain rfl:v=Value.ref a:=rx;exact Oj (by omega) I g ry λs' I'=>⟨.bl (!o.isSome),H,I',rfl,by cases o<;>exact q⟩
theorem fE{o i:Expr}{td ty:TE}{pos:Pos}(hu:X.A.units+64<cLine)(ho:QE X o td)(hi:QE X i ty)(hs:Q2 i:=by intro _ _;rfl'):QE X (.Subscript o i pos) (g9 td ty):=⟨Om (by omega) ho.p hi.p hs⟩
theorem oY{o i value:Expr}{td ty tv:TE}{pos pos':Pos}(hu:X.A.units+64<cLine)(ho:QE X o td)(hi:QE X i ty)(hv:QE X value tv)(hs:swapsWith value (some (.Subscript o i pos')) pos.line X.env=pure false:=by rfl'):
  QS X (.Assign [.Subscript o i pos'] value pos) (jY td ty tv):=⟨Oo (by omega) ho.p hi.p hv.p hs⟩
theorem kG{pos:Pos}:QE X (.Dict [] [] pos) gp:=⟨KC⟩
theorem KN{pos:Pos}:QE X (.Dict [] [] pos) zq:=⟨KD⟩
abbrev oZ:WR V->Hp->VK->Prop:=λxs H Q=>∃p,∃kvs:WR (WM×V),xs=[.ref p]/\H p=some (.dK (kvs.map λkv=>(Key.inr (txt kv.1),kv.2)))/\kvs.length<64/\
 ∀l,∀zs:WN,H l=none->zs.Perm (kvs.map (·.1))->zs.Pairwise (·<=·)->Q (.ref l) (upd H l (.lst (zs.map ay)))
theorem yr{P:Program}{w:World}:∀{kvs:WR (WM×V)} {vs:WR (Key×Value)},KV (kvs.map λkv=>(Key.inr (txt kv.1),kv.2)) vs->∀us:WR Value,us.length=vs.length->(∀(j:Nat) (v:Value),us[j]?=some v->∃(k:Key) (x:Value),vs[j]?=some (k,x)/\(bU P w).is k v=true)->StrsAre us ((kvs.map (·.1)).map txt)
 |[],_,r,us,h1,h2=>by
  cases r;have:us=[]:=length_eq_zero_iff.mp (by simpa using h1);subst this;exact .nil
 |kv::kvs,_,r,us,h1,h2=>by
  rw[map_cons] at r;cases r with
  |@cons p q ps qs hh tt=>
   cases us with
   |nil=>simp at h1
   |cons v us=>
    obtain⟨k,x,e1,e2⟩:=h2 0 v rfl;simp at e1
    subst e1;have e3:Key.inr (txt kv.1)=k:=hh.1;subst e3
    rcases cH (show rV (Key.inr (txt kv.1)) v=true from e2) with⟨i,t,e,_⟩|⟨y,t,e,rfl⟩|⟨e,_⟩
    .cases e
    .injection e with e
     subst e;exact .cons _ _ (yr tt us (by simpa using h1) λj v hj=>by simpa using h2 (j+1) v (by simpa using hj))
    .cases e
theorem jw(hc:X.calm=true):fh X (.builtin "sorted") oZ:=by
 intro Z0 s Z H xs us Q I r h;obtain⟨p,kvs,rfl,hH,hz,q⟩:=h;obtain⟨u,rfl,ru⟩:=vals1 r;cases ru;obtain⟨z,hd,vs,rel,dd⟩:=BE I.hok hH;obtain⟨ep,da⟩:=dd.dictAt;have hl:=rel.length;rw[length_map] at hl;refine Rev.Oq (I.ok.hd hc) hd da (by rw[<-hl];exact hz) (yr (P:=X.prog) (w:=X.w) rel) λh1 h' tk e out ss' k1 k2 he a1 a2 a3=>?_;have ez:ss'=(ss'.map λx=>x.cps.toList).map txt:=by
  rw[map_map];have:(txt∘λ(x:Str)=>x.cps.toList)=id:=by funext x;exact txt_codes x
  rw[this,map_id]
 have hp:(ss'.map λx=>x.cps.toList).Perm (kvs.map (·.1)):=by
  have:=a2.map (λx:Str=>x.cps.toList);rw[map_map] at this;have e2:((λx:Str=>x.cps.toList)∘txt)=id:=by funext l;exact bN l
  rw[e2,map_id] at this;exact this
 rw[ez] at a3;have hv:Vals ((ss'.map λx=>x.cps.toList).map ay) out.toList:=by rw[kr,<-ez];exact qv a1
 have I1:Inv X Z0 Z H {s with heap:=h1,toks:=s.toks}:=I.kept (t':=s.toks) k1
 refine⟨.ref h1.objs.size,_,I1.laid (t':=tk) (a:=h1.objs.size) (o:=.lst ((ss'.map λx=>x.cps.toList).map ay)) k2 (le_refl _) ⟨?_,out.toList,e,hv,by simpa [seqObj] using he⟩,rfl,q _ _ (I1.hok.fresh (le_refl _)) hp (uW _ a3)⟩;have:=hp.length_eq;rw[length_map,sizeLine_eq];simp at this
 simp
 omega
end
end L2
namespace MinD
open PySem PyProof.Rows
theorem Ou(a v:Value):argsOk "min" ⟨[a],[(Str.ofString "default",v)]⟩:=by unfold argsOk;rfl'
section
variable{P:Program}{wd:World}{Ar:Around}{Rs:Result->Shared->Prop}{it:Addr}{fp wr:WR Addr}{n:Nat}{F:Nat->Value->Prop}{St:Nat->Heap->Prop}
theorem rest(W:Walks P wd Ar.in1 it fp wr n F St)(bt:Nat->Nat->Bool)(cmp:CmpOf P wd Ar.in1 .Lt F bt)(S:Addr)(hS:S∉fp)(kw:WR (Str×Value)):
  ∀(k j:Nat) (s:Shared) (vb:Value) (c:Nat),n-(j+1)=k->j+1<=n->St (j+1) s.heap->F (argBest bt j) vb->s.heap.get? S=some {cls:=.type "list",dict:=none,data:=.seq #[vb,vb] c,slots:=#[] }->
  (∀v h' tk,F (argBest bt (n-1)) v->(∀b o,b∉wr->b≠S->s.heap.get? b=some o->h'.get? b=some o)->Rs (.ok (.ret v)) {s with heap:=h',toks:=tk})->codeAny (model P wd) Ar (.builtin "min.loop" ⟨[.ref it,.none,.ref S],kw⟩) Rs s:=by
 have wS:S∉wr:=λh=>hS (W.sub _ h);have nm:(toString "min" ++toString ".loop" :String) = "min.loop" :=by decide
 intro k
 induction k with
 |zero=>
  intro j s vb c hk hj st best hb q;have e:j+1=n:=by omega
  refine codeAny_builtin PySem.F.entry_min_loop ?_;rw[Around.under_plainId PySem.F.plain_min_loop _];show wpAny _ Ar.in1 (seqItems? (.ref S)>>=_) _ _ s;refine wpAny_bind (wpAny_seqItems hb rfl ?_);show wpAny _ Ar.in1 (tryCatch (pyNext (.ref it)) _>>=_) _ _ s;refine wpAny_bind (wpAny_tryCatch (W.done s _ _ (e▸st) λh' tk kp=>?_));show wpAny _ Ar.in1 (updateSeq S (λ_=>#[])>>=_) _ _ _;refine wpAny_bind (wpAny_updateSeq (kp S _ wS hb) rfl (wpAny_bind (wpAny_letGo (wpAny_pure ?_))));exact q vb _ tk (by rw[<-e];exact best) λb o hbw hbS eb=>(Heap.get?_update_other _ _ (Ne.symm hbS)).trans (kp b o hbw eb)
 |succ k ih=>
  intro j s vb c hk hj st best hb q;have lt:j+1<n:=by omega
  refine codeAny_builtin PySem.F.entry_min_loop ?_;rw[Around.under_plainId PySem.F.plain_min_loop _];show wpAny _ Ar.in1 (seqItems? (.ref S)>>=_) _ _ s;refine wpAny_bind (wpAny_seqItems hb rfl ?_);show wpAny _ Ar.in1 (tryCatch (pyNext (.ref it)) _>>=_) _ _ s;refine wpAny_bind (wpAny_tryCatch (W.item (j+1) s _ _ lt st λv h' tk fv st' kp=>?_));have hb':=kp S _ wS hb;show wpAny _ Ar.in1 (tryCatch (holding [v,v] (richCompare .Lt v vb>>=_)) _>>=_) _ _ _;refine wpAny_bind (wpAny_tryCatch (wpAny_holding (wpAny_bind (cmp (j+1) (argBest bt j) v vb _ _ _ fv best ?_))));refine wpAny_bind (wpAny_holding (wpAny_truthy_bool (wpAny_bind (wpAny_letGo (wpAny_pure ?_)))));cases eb:bt (j+1) (argBest bt j) with
  |true=>
   simp only[if_true];refine wpAny_bind (wpAny_updateSeq hb' rfl (wpAny_bind (wpAny_letGo ?_)));rw[nm];refine wpAny_pure ⟨plainId_quiet PySem.F.plain_min_loop _,ih (j+1) _ v _ (by omega) lt (W.frame _ _ _ st' λb hbf o e=>?_) (by simp only[argBest,eb,if_true];exact fv) (Heap.get?_update_self _ hb' rfl) λv' h2 tk2 fv2 kp2=>?_⟩
   .exact(Heap.get?_update_other _ _ (λz:S=b=>hS (by rw[z];exact hbf))).trans e
   .exact q v' h2 tk2 fv2 λb o hbw hbS e=>kp2 b o hbw hbS ((Heap.get?_update_other _ _ (Ne.symm hbS)).trans (kp b o hbw e))
  |false=>
   simp only[false_eq_true,if_false];refine wpAny_bind (wpAny_letGo ?_);rw[nm];refine wpAny_pure ⟨plainId_quiet PySem.F.plain_min_loop _,ih (j+1) _ vb c (by omega) lt st' (by simp only[argBest,eb,false_eq_true,if_false];exact best) hb' λv' h2 tk2 fv2 kp2=>?_⟩;exact q v' h2 tk2 fv2 λb o hbw hbS e=>kp2 b o hbw hbS (kp b o hbw e)
theorem whole(W:Walks P wd Ar.in1 it fp wr n F St)(bt:Nat->Nat->Bool)(cmp:CmpOf P wd Ar.in1 .Lt F bt)(S:Addr)(hS:S∉fp)(d:Value){s:Shared}{c:Nat}(st:St 0 s.heap)(hb:s.heap.get? S=some {cls:=.type "list",dict:=none,data:=.seq #[] c,slots:=#[] })
  (q:∀v h' tk,(0<n->F (argBest bt (n-1)) v)->(n=0->v=d)->(∀b o,b∉wr->b≠S->s.heap.get? b=some o->h'.get? b=some o)->Rs (.ok (.ret v)) {s with heap:=h',toks:=tk}):
  codeAny (model P wd) Ar (.builtin "min.loop" ⟨[.ref it,.none,.ref S],[("default",d)]⟩) Rs s:=by
 have wS:S∉wr:=λh=>hS (W.sub _ h);have nm:(toString "min" ++toString ".loop" :String) = "min.loop" :=by decide
 refine codeAny_builtin PySem.F.entry_min_loop ?_;rw[Around.under_plainId PySem.F.plain_min_loop _];show wpAny _ Ar.in1 (seqItems? (.ref S)>>=_) _ _ s;refine wpAny_bind (wpAny_seqItems hb rfl ?_);show wpAny _ Ar.in1 (tryCatch (pyNext (.ref it)) _>>=_) _ _ s
 by_cases hn:0<n
 .refine wpAny_bind (wpAny_tryCatch (W.item 0 s _ _ hn st λv h' tk fv st' kp=>?_));have hb':=kp S _ wS hb;show wpAny _ Ar.in1 (updateSeq S (λ_=>#[v,v])>>=_) _ _ _;refine wpAny_bind (wpAny_updateSeq hb' rfl ?_);rw[nm];refine wpAny_pure ⟨plainId_quiet PySem.F.plain_min_loop _,rest W bt cmp S hS _ _ 0 _ v _ rfl hn (W.frame _ _ _ st' λb hbf o e=>?_) fv (Heap.get?_update_self _ hb' rfl) λv' h2 tk2 fv2 kp2=>?_⟩
  .exact(Heap.get?_update_other _ _ (λz:S=b=>hS (by rw[z];exact hbf))).trans e
  .exact q v' h2 tk2 (λ_=>fv2) (λz=>by omega) λb o hbw hbS e=>kp2 b o hbw hbS ((Heap.get?_update_other _ _ (Ne.symm hbS)).trans (kp b o hbw e))
 .have e0:n=0:=by omega
  refine wpAny_bind (wpAny_tryCatch (W.done s _ _ (e0▸st) λh' tk kp=>?_))
  first
   |exact wpAny_bind (wpAny_rule (wpAny_pure (q d h' tk (λz=>absurd z hn) (λ_=>rfl) λb o hbw _ e=>kp b o hbw e)))
   |(refine wpAny_bind (wpAny_rule ?_);exact wpAny_pure (q d h' tk (λz=>absurd z hn) (λ_=>rfl) λb o hbw _ e=>kp b o hbw e))
end
section
variable{P:Program}{wd:World}{Ar:Around}{Er:Value->Shared->Prop}{s:Shared}
theorem KO{F:Nat->Value->Prop}(val:Nat->WM)(hval:∀i v,F i v->∃t,v=Value.str (L2.txt (val i)) t):CmpOf P wd Ar .Lt F (λi j=>decide (val i<val j)):=λi j vi vj s Q E hi hj h=>by
 obtain⟨t,rfl⟩:=hval i vi hi;obtain⟨u,rfl⟩:=hval j vj hj;exact(lt_str (by rw[L2.bN,L2.bN];exact h):wpAny (model P wd) Ar (compareOp .Lt (.str (L2.txt (val i)) t) (.str (L2.txt (val j)) u)) Q E s)
theorem Ij(hh:Ar.handled=none){l:Addr}{its:Array Value}{d:Value}{Q:Value->Shared->Prop}(hl:s.heap.IsList l its)(val:Nat->WM)(hval:∀(i:Nat) (v:Value),its[i]?=some v->∃t,v=Value.str (L2.txt (val i)) t)
  (h:∀v h' tk,(0<its.size->its[argBest (λi j=>decide (val i<val j)) (its.size-1)]?=some v)->(its.size=0->v=d)->(∀b o,s.heap.get? b=some o->h'.get? b=some o)->Q v {s with heap:=h',toks:=tk}):
  wpAny (model P wd) Ar (call (.builtin "min") [.ref l] [(Str.ofString "default",d)]) Q Er s:=by
 have nm:(toString "min" ++toString ".loop" :String) = "min.loop" :=by decide
 refine PyProof.Rows.kmk_tree PySem.F.kind_min PySem.F.plain_min PySem.F.entry_min (Ou _ _) ?_;show wpAny _ Ar.in1 (Builtin.Builtins.bindParams "min" ["key", "default"] 0 ⟨[],[(Str.ofString "default",d)]⟩>>=_) _ _ s;refine wpAny_bind (wpAny_of_eq (show Builtin.Builtins.bindParams "min" ["key", "default"] 0 ⟨[],[(Str.ofString "default",d)]⟩=pure [none,some d] from rfl) ?_);refine wpAny_bind (wpAny_pure ?_);have hlt:l<s.heap.objs.size:=by obtain⟨_,e,_⟩:=hl;exact Heap.lt_size e
 have hlI:l≠s.heap.objs.size:=ne_of_lt hlt;refine wpAny_bind (wpAny_pyIter_list hl ?_);refine wpAny_bind (wpAny_newObj_type ?_);rw[nm];have W:=Walks.list (prog:=P) (w:=wd) (A:=Ar.in1) hh s.heap.objs.size l hlI its;have st:((s.heap.push {cls:=.type "list_iterator",data:=.fields #[.ref l,.int 0 0] }).IsListIter s.heap.objs.size l 0/\(s.heap.push {cls:=.type "list_iterator",data:=.fields #[.ref l,.int 0 0] }).IsList l its):=⟨⟨_,Heap.get?_push_size _ rfl,rfl,rfl⟩,hl.push _⟩;refine wpAny_pure ⟨plainId_quiet PySem.F.plain_min_loop _,whole W _ (KO val hval) _ (λhm=>?_) d (W.frame _ _ _ st λb _ o e=>Heap.get?_push_of_some _ e) (Heap.get?_push_size _ rfl) λv h' tk f1 f2 kp=>?_⟩
 .have hz:(s.heap.push {cls:=.type "list_iterator",data:=.fields #[.ref l,.int 0 0] }).objs.size=s.heap.objs.size+1:=Heap.size_push ..;rw[hz] at hm
  rcases mem_cons.mp hm with e|hm
  .exact absurd e (Nat.succ_ne_self _)
  .have:=mem_singleton.mp hm;exact absurd hlt (by rw[<-this];exact Nat.not_lt_of_le (le_succ _))
 refine h v h' tk f1 f2 λb o e=>kp b o ?_ ?_ ?_
 .intro z;have:=mem_singleton.mp z;exact absurd (this▸Heap.lt_size e) (Nat.lt_irrefl _)
 .refine ne_of_lt (lt_of_lt_of_le (Heap.lt_size e) ?_);show s.heap.objs.size<=(s.heap.push _).objs.size;rw[Heap.size_push];exact le_succ _
 .exact Heap.get?_push_of_some _ (Heap.get?_push_of_some _ e)
theorem Fi(f:Nat->WM):∀k,argBest (λi j=>decide (f i<f j)) k<=k/\∀j,j<=k->¬f j<f (argBest (λi j=>decide (f i<f j)) k)
 | 0=>by
  refine⟨le_refl _,λj hj=>?_⟩;have e:j=0:=by omega
  rw[e];exact List.lt_irrefl _
 |k+1=>by
  obtain⟨a,b⟩:=Fi f k;unfold argBest
  by_cases h:f (k+1)<f (argBest (λi j=>decide (f i<f j)) k)
  .rw[if_pos (decide_eq_true h)];refine⟨le_refl _,λj hj=>?_⟩
   by_cases e:j=k+1
   .subst e;exact List.lt_irrefl _
   .exact λz=>b j (by omega) (List.lt_trans z h)
  .rw[if_neg (by simpa using h)];refine⟨by omega,λj hj=>?_⟩
   by_cases e:j=k+1
   .subst e;exact h
   .exact b j (by omega)
end
end MinD
namespace L2
open PySem PySem.Spec PyProof.Rows
def BK(K:W.Frag)(ta td:TE):TE:=λZ H Q=>ta Z H λx H1=>td Z H1 λd H2=>∃p,∃ns:WN,x=.ref p/\aZ K H2 p (ns.map ay)/\(ns=[]->Q d H2)/\(∀m,m∈ns->(∀y∈ns,¬y<m)->Q (.str (txt m)) H2)
section
variable{X:Cx}
theorem Ov{e d:Expr}{ta td:TE}{p pos kp:Pos}(hc:X.calm=true)(hg:Gl X "min")(hm:X.mg "min" =none)(he:PE X e ta)(hd:PE X d td)
  (h1:backTo pos (starEach [e] X.env)=(false,eval e X.env)::backTo pos (starEach [] X.env)) (h2:(backTo pos (starEach [e] X.env)).any (·.1)=false)
  (h3:(backToKw pos (keywordEach [⟨some "default",d,kp⟩] X.env)).all (·.1.isSome)=true) (h4:(backToKw pos (keywordEach [⟨some "default",d,kp⟩] X.env)).any (·.1.isNone)=false)
  (h5:(backToKw pos (keywordEach [⟨some "default",d,kp⟩] X.env)).filterMap (·.1)=[Str.ofString "default"]) (hs:starEach [e] X.env=(false,eval e X.env)::starEach [] X.env):
  PE X (.Call (.Name "min" p) [e] [⟨some "default",d,kp⟩] pos) (BK X.K ta td):=by
 intro Z0 s Z H Q I h;refine wpAny_Call_Name_kw (kg I hg hm PyProof.Rows.Boot.«min» ?_ (by decide) (by decide));refine PyProof.Rows.callWith_kw ?_ h1 h2 h3 h4;refine cA (nZ he yN hs pos Z0 s Z H (λvs H1=>∃x,vs=[x]/\td Z H1 λd H2=>∃p,∃ns:WN,x=.ref p/\aZ X.K H2 p (ns.map ay)/\(ns=[]->Q d H2)/\(∀m,m∈ns->(∀y∈ns,¬y<m)->Q (.str (txt m)) H2)) I ?_) λus s1 ⟨vs,H1,I1,r1,x,e1,q1⟩=>?_
 .exact(show ta Z H λx H1=>∃y,[x]=[y]/\_ from by
   have:(λ(x:V) (H1:Hp)=>td Z H1 λd H2=>∃p,∃ns:WN,x=.ref p/\aZ X.K H2 p (ns.map ay)/\(ns=[]->Q d H2)/\(∀m,m∈ns->(∀y∈ns,¬y<m)->Q (.str (txt m)) H2))=λ(x:V) (H1:Hp)=>∃y,[x]=[y]/\td Z H1 λd H2=>∃p,∃ns:WN,y=.ref p/\aZ X.K H2 p (ns.map ay)/\(ns=[]->Q d H2)/\(∀m,m∈ns->(∀y∈ns,¬y<m)->Q (.str (txt m)) H2):=by
    funext x H1
    exact propext ⟨λz=>⟨x,rfl,z⟩,λ⟨y,e,z⟩=>by cases e;exact z⟩
   unfold BK at h;rw[this] at h;exact h)
 .subst e1;obtain⟨u,rfl,ru⟩:=vals1 r1;refine cA (NP hd Qq pos Z0 s1 Z H1 (λvs H2=>∃d,vs=[d]/\∃p,∃ns:WN,x=.ref p/\aZ X.K H2 p (ns.map ay)/\(ns=[]->Q d H2)/\(∀m,m∈ns->(∀y∈ns,¬y<m)->Q (.str (txt m)) H2)) I1 ?_) λws s2 ⟨zs,H2,I2,r2,dv,e2,pa,ns,e3,hq,q0,q2⟩=>?_
  .exact(show td Z H1 λd H2=>∃d',[d]=[d']/\_ from by
    have:(λ(d:V) (H2:Hp)=>∃p,∃ns:WN,x=.ref p/\aZ X.K H2 p (ns.map ay)/\(ns=[]->Q d H2)/\(∀m,m∈ns->(∀y∈ns,¬y<m)->Q (.str (txt m)) H2))=λ(d:V) (H2:Hp)=>∃d',[d]=[d']/\∃p,∃ns:WN,x=.ref p/\aZ X.K H2 p (ns.map ay)/\(ns=[]->Q d' H2)/\(∀m,m∈ns->(∀y∈ns,¬y<m)->Q (.str (txt m)) H2):=by
     funext d H2
     exact propext ⟨λz=>⟨d,rfl,z⟩,λ⟨y,e,z⟩=>by cases e;exact z⟩
    rw[this] at q1;exact q1)
  .subst e2 e3;cases ru;obtain⟨wv,rfl,rw'⟩:=vals1 r2;rw[h5];obtain⟨its,rv,pl,hz⟩:=I2.list hq;have lx:ns.length=its.length:=by have:=rv.length;rwa[length_map] at this
   have hval:∀(i:Nat) (v:Value),its.toArray[i]?=some v->∃t,v=Value.str (txt (ns.getD i [])) t:=λi v e=>by
    rw[List.getElem?_toArray] at e;have hi:=(List.getElem?_eq_some_iff.mp e).1;obtain⟨u,hu,ru⟩:=rv.get (i:=i) (x:=ay ns[i]) (by rw[getElem?_map,getElem?_eq_getElem (by omega)];rfl);rw[e] at hu;cases hu;rw[getD_eq_getElem?_getD,getElem?_eq_getElem (by omega)];exact ru
   show wpAny _ X.A (call (.builtin "min") [.ref pa] [(Str.ofString "default",wv)]) _ _ _;refine MinD.Ij (I2.ok.hd hc) pl.isList (λi=>ns.getD i []) hval λv h' tk f1 f2 kp=>?_;have I3:Inv X Z0 Z H2 {s2 with heap:=h',toks:=tk}:=I2.kept kp
   by_cases hn:ns=[]
   .have:its.toArray.size=0:=by rw[size_toArray,<-lx,hn];rfl
    rw[f2 this];exact⟨dv,H2,I3,rw',q0 hn⟩
   .have h0:0<its.toArray.size:=by rw[size_toArray,<-lx];exact length_pos_iff.mpr hn
    have fv:=f1 h0;obtain⟨b1,b2⟩:=MinD.Fi (λi=>ns.getD i []) (its.toArray.size-1);generalize argBest _ (its.toArray.size-1)=k at fv b1 b2;obtain⟨t,rfl⟩:=hval k v fv;have at_:∀i,i<ns.length->ns[i]?=some (ns.getD i []):=λi hi=>by
     rw[getD_eq_getElem?_getD,getElem?_eq_getElem hi];rfl
    rw[size_toArray,<-lx] at h0 b1 b2;refine⟨.str _,H2,I3,⟨t,rfl⟩,q2 _ (mem_of_getElem? (at_ k (by omega))) λy hy=>?_⟩;obtain⟨i,hi,e⟩:=List.getElem_of_mem hy;have:=at_ i hi;rw[getElem?_eq_getElem hi,e] at this;rw[Option.some.inj this];exact b2 i (by omega)
end
section
variable{X:Cx}{e o value d:Expr}{es:WR Expr}{f x m:Str}{pos pos' p apos kp:Pos}{ta tv td:TE}{t:TA}
theorem Ow(he:QE X e ta)(hd:QE X d td)(hm:X.mg "min" =none)(hc:X.calm=true:=by rfl')(hg:X.env.kindOf "min" =some .globalImplicit:=by rfl')
  (h1:backTo pos (starEach [e] X.env)=(false,eval e X.env)::backTo pos (starEach [] X.env):=by rfl') (h2:(backTo pos (starEach [e] X.env)).any (·.1)=false:=by rfl')
  (h3:(backToKw pos (keywordEach [⟨some "default",d,kp⟩] X.env)).all (·.1.isSome)=true:=by rfl') (h4:(backToKw pos (keywordEach [⟨some "default",d,kp⟩] X.env)).any (·.1.isNone)=false:=by rfl')
  (h5:(backToKw pos (keywordEach [⟨some "default",d,kp⟩] X.env)).filterMap (·.1)=[Str.ofString "default"]:=by rfl') (hs:starEach [e] X.env=(false,eval e X.env)::starEach [] X.env:=by rfl'):
  QE X (.Call (.Name "min" p) [e] [⟨some "default",d,kp⟩] pos) (BK X.K ta td):=⟨Ov hc hg hm he.p hd.p h1 h2 h3 h4 h5 hs⟩
end
section
variable{X:Cx}{Z0:WR (Addr×Obj)}{Z:St}{H:Hp}{s:Shared}
theorem Inv.freeze{d:Addr}{o:Obj}{kvs:WR (Key×V)}(I:Inv X Z0 Z H s)(hd:H d=some (.dK kvs))(ho:s.heap.get? d=some o):Inv X Z0 Z (upd H d (.frz o (.dK kvs))) s:=by
 have ok:=I.hok d _ hd;have new:bZ X.prog X.w (upd H d (.frz o (.dK kvs))) s.heap d (.frz o (.dK kvs)):=⟨ho,ok⟩;exact I.write (t':=s.toks) (h':=s.heap) (x:=d) (e:=d) (by rw[hd];exact True.intro) (.inl rfl) (λ_ _ _ e=>e) ⟨o,ho⟩ new
theorem Inv.VY{σ0:St}{pins0:WR (Addr×Obj)}{H0:Hp}{s0:Shared}{d:Addr}{o:Obj}{k0 kvs:WR (Key×V)}(I0:Inv X pins0 σ0 H0 s0)(h0:H0 d=some (.dK k0))(I:Inv X Z0 Z H s)(hd:H d=some (.frz o (.dK kvs))):Inv X Z0 Z (upd H d (.dK kvs)) s:=by
 have ne:∀{b:Addr},H b=none->b≠d:=λh z=>by subst z;rw[hd] at h;cases h
 have ok:=I.hok d _ hd;refine⟨I.ok,I.os,I.bare,⟨I.base.keep,I.base.slot,λb ob e n hx=>?_,I.base.there,λb xs e=>?_,λb ob u e=>?_,λb ps e=>?_⟩,I.loc,I.cell,?_,λx c e=>?_,λp hp=>?_,λb u e=>?_,I.len⟩
 .have:=I.base.free b ob e n hx;rw[aH (ne this)];exact this
 .have:=I.base.tups b xs e;rw[aH (λz=>by subst z;rw[hd] at this;cases this)];exact this
 .have:=I.base.frzs b ob u e;rw[aH (λz=>by subst z;have q:=I0.base.frzs _ ob u e;rw[h0] at q;cases q)];exact this
 .obtain⟨more,this⟩:=I.base.tbls b ps e;exact⟨more,by rw[aH (λz=>by subst z;rw[hd] at this;cases this)];exact this⟩
 .rw[aH (ne I.free)];exact I.free
 .rw[aH (ne (I.freeC x c e))];exact I.freeC x c e
 .obtain⟨a,b,c⟩:=I.pin p hp;exact⟨a,by rw[aH (ne b)];exact b,c⟩
 .have st:∀{a:Addr} {u:HO},bZ X.prog X.w H s.heap a u->bZ X.prog X.w (upd H d (.dK kvs)) s.heap a u:=λx=>x.stay (λ_ _ _ q=>q)
   (λc q=>by rw[aH (λz=>by subst z;rw[hd] at q;cases q)];exact q) (λc xs q=>by rw[aH (λz=>by subst z;rw[hd] at q;cases q)];exact q)
  by_cases hb:b=d
  .subst hb;rw[aq] at e;cases e;exact st ok.2
  .rw[aH hb] at e;exact st (I.hok b u e)
def Wx(a:Addr)(o:Obj)(kvs:WR (Key×V)):It:=⟨λi H=>H a=some (.frz o (.dK kvs))/\i<kvs.length,λi H x H'=>H'=H/\∃k v,kvs[i]?=some (k,v)/\x=kV k,λi H=>H a=some (.frz o (.dK kvs))/\kvs.length<=i⟩
theorem KV.get{kvs:WR (Key×V)}{vs:WR (Key×Value)}(r:KV kvs vs):∀{i:Nat} {k:Key} {v:V},kvs[i]?=some (k,v)->∃u,vs[i]?=some (k,u):=by
 induction r with
 |nil=>intro i k v e;simp at e
 |@cons p q ps qs h t ih=>
  intro i k v e;cases i with
  |zero=>
   simp at e
   subst e;obtain⟨q1,q2⟩:=q;have h1:k=q1:=h.1;subst h1;exact⟨q2,rfl⟩
  |succ i=>exact ih (by simpa using e)
theorem KP{P:Program}{w:World}{h:Heap}{a:Addr}{o:Obj}{es:Array DictEntry}{ep:Nat}{kvs:WR (Key×V)}(hd:o.data=.dict es ep)(x:bZ P w H h a (.frz o (.dK kvs))):∃vs,KV kvs vs/\h.DictAt (bU P w) a vs ep:=by
 obtain⟨ho,z,y,vs,r,ob,es',ep',e,c1,c2,c3⟩:=x;rw[ho] at e;cases e;rw[hd] at c2;cases c2;exact⟨vs,r,o,es,ho,c1,hd,c3⟩
theorem Fj{P:Program}{w:World}{k:Key}{u:Value}(h:(bU P w).is k u=true):RelV (kV k) u:=by
 rcases cH (show rV k u=true from h) with⟨i,t,rfl,rfl⟩|⟨x,t,rfl,rfl⟩|⟨rfl,rfl⟩
 .exact⟨t,rfl⟩
 .exact⟨t,rfl⟩
 .rfl
theorem Ik{P:Program}{w:World}{K:W.Frag}{tg:Expr}(a it:Addr)(o:Obj)(kvs:WR (Key×V))(es:Array DictEntry)(ep:Nat)(hdt:o.data=.dict es ep):Turn P w K tg (Wx a o kvs) [it] it (λi h=>h.IsKeyIter it a i kvs.length ep) where
 mem:=by simp
 obj:=λi h st b hb=>by
  have e:b=it:=by simpa using hb
  subst e;obtain⟨o,e,c,d⟩:=st;exact⟨o,e,λv z=>by rw[d] at z;cases z⟩
 keep:=λi h h' st k=>st.at λo e=>k it (by simp) o e
 item:=by
  intro X hP hw hK hc i Z0 s Z H E I hf st hg;subst hP hw hK;obtain⟨hq,hx⟩:=hg;obtain⟨vs,r,da⟩:=KP hdt (I.hok a _ hq);have hl:=r.length;rw[hl] at st;obtain⟨⟨k,v⟩,hkv⟩:∃p,kvs[i]?=some p:=⟨kvs[i],getElem?_eq_getElem hx⟩;obtain⟨u,hu⟩:=r.get hkv;obtain⟨f0,f1,f2,f3,f4,f5⟩:=hf it (by simp);refine wpAny_pyNext_dict_item st da hu λkey h' hk st' sb=>?_;have I1:Inv X Z0 Z H {s with heap:=h' }:=I.turned (t':=s.toks) (λb o hb e=>(sb.2 b hb).trans e) f0 f1 f3 f4 f5
  obtain⟨ob,e,c,d⟩:=id st';rw[<-hl] at st';exact⟨key,rfl,EK (s:={s with heap:=h' }) e c d (by decide) ⟨kV k,H,I1,Fj hk,⟨rfl,k,v,hkv,rfl⟩,st',λb hb=>(hf b hb).1⟩⟩
 done:=by
  intro X hP hw hK hc i Z0 s Z H E I hf st hg;subst hP hw hK;obtain⟨hq,hx⟩:=hg;obtain⟨vs,r,da⟩:=KP hdt (I.hok a _ hq);have hl:=r.length;rw[hl] at st;obtain⟨f0,f1,f2,f3,f4,f5⟩:=hf it (by simp);exact wpAny_pyNext_dict_end (I.ok.hd hc) st da (getElem?_eq_none (by omega)) λh' eb=>⟨rfl,I.turned (t':=s.toks) (λb o hb e=>eb b o hb e) f0 f1 f3 f4 f5⟩
 self:=λ_ _ _ _ _ st h=>wpAny_pyIter_keyiter st h
def Fl(tl:TE):TI:=λZ H R=>tl Z H λx H1=>∃a kvs,x=.ref a/\H1 a=some (.dK kvs)/\∀o,R (Wx a o kvs) (upd H1 a (.frz o (.dK kvs)))
theorem Ox{tg l:Expr}{tl:TE}(hl:PE X l tl):PI X tg l (Fl tl):=by
 intro Z0 s Z H R I h;refine cA (hl Z0 s Z H _ I h) λv s1 ⟨x,H1,I1,r1,q1⟩=>?_;obtain⟨a,kvs,e,hd,q⟩:=q1;subst e;cases r1;obtain⟨z,hs,vs,rel,dd⟩:=BE I1.hok hd;obtain⟨ep,da⟩:=dd.dictAt;obtain⟨o,es,ho,c1,c2,c3⟩:=id da;have hlen:=rel.length;refine wpAny_pyIter_dict hs da ?_;have I2:=(I1.freeze hd ho).kept (t':=s1.toks) (h':=s1.heap.push {cls:=.type "dict_keyiterator",data:=.fields #[.ref a,.int 0 0,.int vs.length 0,.int ep 0] }) λb o e=>Heap.get?_push_of_some _ e;refine⟨s1.heap.objs.size,[s1.heap.objs.size],_,_,_,rfl,I2,Ik a _ o kvs es ep c2,⟨_,Heap.get?_push_size _ rfl,rfl,by rw[hlen];rfl⟩,λb hb=>?_,q o⟩;have e:b=s1.heap.objs.size:=by simpa using hb
 subst e;exact(I1.freeze hd ho).NB (le_refl _) ((I1.freeze hd ho).hok.fresh (le_refl _))
theorem Oz{tg a:Expr}{tl:TE}(hl:QE X a tl):QI X tg a (Fl tl):=⟨Ox hl.p⟩
def KQ(te:TE):TE:=λZ H Q=>te Z H λx H1=>∃a o k0 kvs,H a=some (.dK k0)/\H1 a=some (.frz o (.dK kvs))/\Q x (upd H1 a (.dK kvs))
theorem OA{e:Expr}{te:TE}(h:QE X e te):QE X e (KQ te):=⟨λZ0 s Z H Q I q=>cA (h.p Z0 s Z H _ I q) λv s1 ⟨x,H1,I1,r1,a,o,k0,kvs,h0,h1,q1⟩=>⟨x,_,I.VY h0 I1 h1,r1,q1⟩⟩
theorem Q9{tl:TE}{a:Addr}{kvs:WR (Key×V)}{Z:St}{fs:WM}{tt:TT}{te:TE}{H:Hp}{Q:VK}(ha:∀Q:VK,Q (.ref a) H->tl Z H Q)(hq:H a=some (.dK kvs))(Pv:Nat->WR V->Hp->Prop)(h0:∀H',(∀b,b≠a->H' b=H b)->Pv 0 [] H')(hl:∀i ys H',i<=kvs.length->Pv i ys H'->ys.length<=i)(hn:kvs.length<=sizeLine)
  (hs:∀i k v ys H',kvs[i]?=some (k,v)->Pv i ys H'->∀R:WR V->Hp->Prop,(∀ys' H'',Pv (i+1) ys' H''->H'' a=H' a->R ys' H'')->tt (some (kV k)::bg fs Z) H' λb H2=>if b=true then te (some (kV k)::bg fs Z) H2 λy H3=>R (ys++[y]) H3 else R ys H2)
  (hd:∀ys H',Pv kvs.length ys H'->∀p,H' p=none->p≠a->Q (.ref p) (upd (upd H' a (.dK kvs)) p (.lst ys))):KQ (dw (Fl tl) fs tt te) Z H Q:=by
 refine ha _ ⟨a,kvs,rfl,hq,λo=>?_⟩;refine⟨λi m ys H'=>m=kvs.length-i/\i<=kvs.length/\H' a=some (.frz o (.dK kvs))/\Pv i ys H',⟨kvs.length,by simp,zero_le _,aq,h0 _ λb hb=>aH hb⟩,?_⟩;rintro i m ys H' ⟨rfl,hi,hf,p⟩;have hle:=hl i ys H' hi p;refine⟨by omega,?_⟩
 by_cases hlt:i<kvs.length
 .refine .inr ⟨⟨hf,hlt⟩,by omega,λx H'' y=>?_⟩
  obtain⟨e,k,v,hkv,ex⟩:=y;subst e ex;exact hs i k v ys _ hkv p (λys' H2=>∃m',m'<kvs.length-i/\m'=kvs.length-(i+1)/\i+1<=kvs.length/\H2 a=some (.frz o (.dK kvs))/\Pv (i+1) ys' H2) λys' H2 q e=>⟨kvs.length-(i+1),by omega,rfl,hlt,by rw[e];exact hf,q⟩
 .have e:i=kvs.length:=by omega
  subst e;refine .inl ⟨⟨hf,le_refl _⟩,λp2 hp2=>?_⟩;have ne:p2≠a:=λz=>by subst z;rw[hf] at hp2;cases hp2
  refine⟨a,o,kvs,kvs,hq,by rw[aH (Ne.symm ne)];exact hf,?_⟩;have eq:upd (upd H' p2 (.lst ys)) a (.dK kvs)=upd (upd H' a (.dK kvs)) p2 (.lst ys):=by
   funext b
   unfold upd
   by_cases h1:b=a
   .subst h1;simp[Ne.symm ne]
   .by_cases h2:b=p2
    .subst h2;simp[h1]
    .simp[h1,h2]
  rw[eq];exact hd ys H' p p2 hp2 ne
end
end L2
namespace DOf
open PySem PyProof.Rows PySem.Calls
theorem miss:typeLookup (.type "list") "keys" =pure none:=by rw[typeLookup_type,builtinLookup_eq_fast];rfl'
section
variable{prog:Program}{w:World}{A:Around}{E:Value->Shared->Prop}
theorem Il{s:Shared}{a:Addr}{o:Obj}{xs:Array Value}{k:Nat}{Q:Option Value->Shared->Prop}
  (hx:s.heap.get? a=some o) (hc:o.cls=.type "list") (hdat:o.data=.seq xs k) (hd:o.dict=none) (hA:A.handled=none)
  (h:∀h' tk e,Heap.NewExcOf s.heap h' e "AttributeError"->Q none {s with heap:=h',toks:=tk}):
  wpAny (model prog w) A (getAttr? (.ref a) "keys") Q E s:=by
 obtain⟨c,dct,dat,sl⟩:=o;simp only at hc hdat hd;subst hc hdat hd;obtain⟨hp,g,d,tk,os⟩:=s;have hT:∀tk',(⟨hp,g,d,tk',os⟩:Shared).TypeIs (.ref a) "list":=λ_=>⟨_,hx,rfl⟩;have f1:=sub_AttributeError;have f3:=F.slot_list_getattribute.lookup;have f4:=F.slot_list_getattribute.bind (.ref a);have f5:=am_list_getattr_none;unfold getAttr? getAttrBy? getAttrBy
 repeat (any_goals (first|assumption|exact hT _|((with_reducible show wpAny _ _ (call (Value.builtin "list.__getattribute__") _ _) _ _ _);refine call_meets F.slot_list_getattribute (hT _) am_entry_list_getattribute (F.args_list_getattribute_2 _ _) (meets_getattribute_miss_list a xs k sl "keys" _ miss (by decide+kernel) (by size_fits)) ⟨hx,hA,λh' tk' e hx'=>?_⟩)|wp_step))
 obtain⟨t',u',he⟩:=hx'.there;show wpAny _ _ (getattributeRaised _ _ _ _ _ _ _) _ _ _;unfold getattributeRaised
 repeat (any_goals (first|assumption|wp_step))
 exact h _ _ _ hx'.of
theorem vB:entryFor table "dict.update.loop" =some Builtin.«dict.update.loop»:=by first|exact entryFor_of_fast (by rfl')|exact entryFor_of_tree (by rfl')
theorem jx:plainId "dict.update.loop" =true:=by decide+kernel
variable{K:Type}[DecidableEq K]{knd:PySem.KeyKind prog w K}
def Dw(knd:PySem.KeyKind prog w K)(h:Heap)(items:WR Value)(ps:WR (K×Value)):Prop:=items.length=ps.length/\∀(j:Nat) (k:K) (v:Value),ps[j]?=some (k,v)->∃a u,items[j]?=some (.ref a)/\h.IsTuple a #[u,v]/\knd.is k u=true
theorem loop(hh:A.handled=none){d it l:Addr}(hil:it≠l)(hid:it≠d)(hdl:d≠l){items:WR Value}{ps:WR (K×Value)}{R:Result->Shared->Prop}:
  ∀(n i:Nat) (s:Shared) (kvs:WR (K×Value)),ps.length=i+n->s.heap.IsListIter it l i->s.heap.IsList l items.toArray->s.heap.DictOf knd d kvs->Dw knd s.heap items ps->kvs.length+n<=sizeLine->
  (∀h' tk,h'.DictOf knd d (merged kvs (ps.drop i))->(∀b o,b≠d->b≠it->s.heap.get? b=some o->h'.get? b=some o)->R (.ok (.ret .none)) {s with heap:=h',toks:=tk})->
  codeAny (model prog w) A (.builtin "dict.update.loop" ⟨[.ref d,.ref it,rawInt (i:Int),.none],[]⟩) R s:=by
 intro n
 induction n with
 |zero=>
  intro i s kvs hn st hl hd hp hz q;have hps:ps.drop i=[]:=List.drop_of_length_le (by omega);rw[hps] at q;refine codeAny_builtin vB ?_;rw[Around.under_plainId jx _];show wpAny _ A.in1 (pyNext (.ref it)>>=_) _ _ s;refine wpAny_bind (wpAny_pyNext_list_end (A:=A.in1) hh st hl (by rw[List.getElem?_toArray];exact getElem?_eq_none (by rw[hp.1];omega)) λh' eb=>?_);show wpAny _ A.in1 (Builtin.Dict.addKeywords d []>>=_) _ _ _;refine wpAny_bind (wpAny_pure (wpAny_pure ?_));have hd':h'.DictOf knd d kvs:=hd.extBut eb hid.symm;exact q h' _ hd' λb o _ hb e=>eb b o hb e
 |succ n ih=>
  intro i s kvs hn st hl hd hp hz q;obtain⟨⟨k,v⟩,hkv⟩:∃p,ps[i]?=some p:=⟨_,getElem?_eq_getElem (show i<ps.length by omega)⟩;obtain⟨a,u,hit,ht,hk⟩:=hp.2 i k v hkv;refine codeAny_builtin vB ?_;rw[Around.under_plainId jx _];show wpAny _ A.in1 (pyNext (.ref it)>>=_) _ _ s;refine wpAny_bind (wpAny_pyNext_list_item st hl (x:=.ref a) (by simpa using hit) λh' st' sb=>?_);show wpAny _ A.in1 (holding [.ref a] _>>=_) _ _ _;refine wpAny_bind (wpAny_holding (wpAny_bind (wpAny_tryCatch ?_)));unfold Builtin.Dict.pairItems;have ne:∀b xs,s.heap.IsTuple b xs->b≠it/\b≠d:=λb xs ⟨o,ho,hc,_⟩=>by
   refine⟨λz=>?_,λz=>?_⟩
   .obtain⟨o',ho',hc',_⟩:=st;rw[z,ho'] at ho;cases ho;rw[hc'] at hc;injection hc with hc
    exact absurd hc (by decide)
   .obtain⟨o',ho',hc'⟩:=hd.typeIs (s:=s);rw[z,ho'] at ho;cases ho;rw[hc'] at hc;injection hc with hc
    exact absurd hc (by decide)
  have ht':h'.IsTuple a #[u,v]:=let ⟨o,ho,r⟩:=ht;⟨o,(sb.2 a (ne a _ ht).1).trans ho,r⟩;obtain⟨o,ho,hc,n0,hdat⟩:=id ht';refine wpAny_bind (wpAny_typeOf (T:="tuple") ⟨o,ho,hc⟩ ?_);rw[if_pos (by decide)];refine wpAny_bind (wpAny_seqItems ho hdat (wpAny_pure ?_));show wpAny _ _ (holding [u,v] (dictSet d u v)) _ _ _;have hd':h'.DictOf knd d kvs:=hd.extBut sb.extBut hid.symm;refine wpAny_holding (wpAny_dictSet_pairs hk hd' (λh2 hd2 sb2=>?_) (by omega));have e1:merged kvs (ps.drop i)=merged (stored kvs k v) (ps.drop (i+1)):=by
   rw[drop_eq_getElem_cons (show i<ps.length by omega)];have:ps[i]=(k,v):=Option.some.inj ((getElem?_eq_getElem _).symm.trans hkv);rw[this];rfl
  rw[e1] at q;have kp:∀b o,b≠d->b≠it->s.heap.get? b=some o->h2.get? b=some o:=λb o h1 h2' e=>(sb2.2 b h1).trans ((sb.2 b h2').trans e);refine wpAny_pure ⟨plainId_quiet jx _,?_⟩;have:=ih (i+1) {s with heap:=h2,toks:=s.toks+1} (stored kvs k v) (by omega) (st'.at λo e=>(sb2.2 it hid).trans e) (hl.at λo e=>kp l o hdl.symm hil.symm e) hd2
   ⟨hp.1,λj k' v' e=>by
    obtain⟨a',u',x1,x2,x3⟩:=hp.2 j k' v' e;obtain⟨o',y1,y2⟩:=id x2;exact⟨a',u',x1,⟨o',kp a' o' (ne a' _ x2).2 (ne a' _ x2).1 y1,y2⟩,x3⟩⟩
   (by have:=stored_length_le kvs k v;omega) λh3 tk hd3 k3=>q h3 tk hd3 λb o h1 h2' e=>k3 b o h1 h2' (kp b o h1 h2' e)
  rwa[show ((i+1:Nat):Int)=(i:Int)+1 by omega] at this
theorem Im{s:Shared}{l:Addr}{items:WR Value}{c:Nat}{ps:WR (K×Value)}{Q:Value->Shared->Prop}(hh:A.handled=none)(hlst:s.heap.get? l=some {cls:=.type "list",dict:=none,data:=.seq items.toArray c,slots:=#[] })(hp:Dw knd s.heap items ps)(hz:ps.length<=sizeLine)
  (h:∀h' tk,h'.DictOf knd s.heap.objs.size (merged [] ps)->(∀b o,s.heap.get? b=some o->h'.get? b=some o)->Q (.ref s.heap.objs.size) {s with heap:=h',toks:=tk}):
  wpAny (model prog w) A (call (.type "dict") [.ref l]) Q E s:=by
 refine callType_codes (Q₁:=λobj s₁=>obj=.ref s.heap.objs.size/\s₁={s with heap:=s.heap.push {cls:=.type "dict",data:=.dict #[] } }) PySem.F.kt_called_dict (PySem.F.kt_typeCall_dict_1 _) PySem.F.entry_dict_init (kt_code_dict_new _ ⟨rfl,rfl⟩) ?_;rintro obj s₁ ⟨rfl,rfl⟩;have hnew:(s.heap.push {cls:=.type "dict",data:=.dict #[] }).DictOf knd s.heap.objs.size []:=Heap.DictOf.new s.heap;refine⟨hnew.typeIs,PySem.F.args_dict_init_2 _ _,?_⟩;have hlt:l<s.heap.objs.size:=Heap.lt_size hlst;have hl1:=Heap.get?_push_of_some {cls:=.type "dict",data:=.dict #[] } hlst;unfold Builtin.«dict.__init__»;refine wpAny_bind ?_;unfold Builtin.Dict.selfAndRest;refine wpAny_bind (wpAny_notOrdered_dict hnew.typeIs ?_);show wpAny _ _ (pure (s.heap.objs.size,[Value.ref l])) _ _ _;refine wpAny_pure ?_;show wpAny _ _ (Builtin.Dict.updateFrom "dict.__init__" s.heap.objs.size (.ref l) [] .none) _ _ _;unfold Builtin.Dict.updateFrom;refine wpAny_bind (wpAny_typeOf (T:="list") ⟨_,hl1,rfl⟩ ?_);rw[if_pos (by decide)];refine wpAny_bind (Il hl1 rfl rfl rfl (by exact hh) λh2 tk2 e2 ne2=>?_);have k2:∀b o,(s.heap.push {cls:=.type "dict",data:=.dict #[] }).get? b=some o->h2.get? b=some o:=λb o e=>ne2.keeps b o e;simp only[Option.isNone_none,if_true];refine wpAny_bind (wpAny_rule ?_);have hl2:h2.IsList l items.toArray:=⟨_,k2 _ _ hl1,rfl,_,rfl⟩;refine wpAny_bind (wpAny_pyIter_list hl2 ?_);refine wpAny_pure ⟨plainId_quiet jx _,?_⟩;have hd2:(h2.push {cls:=.type "list_iterator",data:=.fields #[.ref l,.int 0 0] }).DictOf knd s.heap.objs.size []:=hnew.keep (λb o e=>Heap.get?_push_of_some _ (k2 b o e));have sz:s.heap.objs.size<h2.objs.size:=by obtain⟨_,_,_,e,_⟩:=hnew;exact Heap.lt_size (k2 _ _ e)
 have lt2:l<h2.objs.size:=Heap.lt_size (k2 _ _ hl1);refine loop (knd:=knd) (A:=A.in1) hh (ne_of_gt lt2) (ne_of_gt sz) (ne_of_gt hlt) ps.length 0 _ [] (by omega) ⟨_,Heap.get?_push_size _ rfl,rfl,rfl⟩ (hl2.push _) hd2
  ⟨hp.1,λj k v e=>by
   obtain⟨a,u,x1,⟨o,y1,y2⟩,x3⟩:=hp.2 j k v e;exact⟨a,u,x1,⟨o,Heap.get?_push_of_some _ (k2 _ _ (Heap.get?_push_of_some _ y1)),y2⟩,x3⟩⟩ (by simpa using hz) λh3 tk hd3 k3=>?_
 rw[drop_zero] at hd3;refine⟨rfl,h h3 tk hd3 λb o e=>?_⟩;have hb:=Heap.lt_size e;exact k3 b o (ne_of_lt hb) (ne_of_lt (Nat.lt_trans hb sz)) (Heap.get?_push_of_some _ (k2 _ _ (Heap.get?_push_of_some _ e)))
end
end DOf
namespace L2
open PySem PySem.Spec PyProof.Rows
def TH(H:Hp)(ys:WR V)(ps:WR (Key×V)):Prop:=ys.length=ps.length/\∀(i:Nat) (k:Key) (v:V),ps[i]?=some (k,v)->∃t,ys[i]?=some (.ref t)/\H t=some (.tup [kV k,v])
abbrev pe:WR V->Hp->VK->Prop:=λxs H Q=>∃p ys ps,xs=[.ref p]/\H p=some (.lst ys)/\TH H ys ps/\∀d,H d=none->Q (.ref d) (upd H d (.dK (ic [] ps)))
theorem sr{P:Program}{w:World}{h:Heap}:∀{ps:WR (Key×V)} {items:WR Value},items.length=ps.length->
  (∀(i:Nat) (k:Key) (v:V),ps[i]?=some (k,v)->∃a u x,items[i]?=some (.ref a)/\h.IsTuple a #[u,x]/\(bU P w).is k u=true/\RelV v x)->∃rs,KV ps rs/\DOf.Dw (bU P w) h items rs
 |[],[],_,_=>⟨[],.nil,rfl,λj k v e=>by simp at e⟩
 |[],_::_,e,_=>by simp at e
 |_::_,[],e,_=>by simp at e
 |(k,v)::ps,it::items,e,h1=>by
  obtain⟨rs,r1,r2,r3⟩:=sr (ps:=ps) (items:=items) (by simpa using e) λi k' v' e'=>by simpa using h1 (i+1) k' v' (by simpa using e')
  obtain⟨a,u,x,x1,x2,x3,x4⟩:=h1 0 k v rfl;refine⟨(k,x)::rs,.cons ⟨rfl,x4⟩ r1,by simp[r2],λj k' v' e'=>?_⟩
  cases j with
  |zero=>
   simp at e'
   obtain⟨rfl,rfl⟩:=e';exact⟨a,u,x1,x2,x3⟩
  |succ j=>simpa using r3 j k' v' (by simpa using e')
theorem iI{X:Cx}(hc:X.calm=true):fh X (.type "dict") pe:=by
 intro Z0 s Z H xs us Q I r h;obtain⟨p,ys,ps,rfl,hH,⟨hl,hp⟩,q⟩:=h;obtain⟨u,rfl,ru⟩:=vals1 r;cases ru;obtain⟨z,its,n,rv,hn,e⟩:=I.HF hH;have hlen:=rv.length;obtain⟨rs,k1,k2⟩:=sr (P:=X.prog) (w:=X.w) (h:=s.heap) (ps:=ps) (items:=its) (by omega) λi k v e'=>by
  obtain⟨t,e1,e2⟩:=hp i k v e';obtain⟨u,hu,ru⟩:=rv.get e1;cases ru;obtain⟨it2,rv2,p2,_⟩:=I.tuple (ff.of e2);cases rv2 with
  |cons r1 rr=>
   cases rr with
   |cons r2 rr=>
    cases rr;exact⟨t,_,_,hu,p2,vn r1,r2⟩
 have hps:rs.length=ps.length:=k1.length.symm;refine DOf.Im (knd:=bU X.prog X.w) (I.ok.hd hc) e k2 (by omega) λh' tk hd kp=>?_;have big:=I.big;refine⟨.ref s.heap.objs.size,_,I.laid (t':=tk) (o:=.dK (ic [] ps)) kp (le_refl _) ⟨?_,?_,merged [] rs,KV.merge k1 .nil,hd⟩,rfl,q _ (I.hok.fresh (le_refl _))⟩
 .have:=mK ps [];simp at this
  omega
 .exact beq_eq_false_iff_ne.mpr (ne_of_gt big)
end L2
namespace KSrt
open PySem PySem.W PyProof.Rows
def run{α:Type}(c:Nat->Nat->Bool):KasT α->α
 |.ret a=>a
 |.ask i j k=>run c (k (c i j))
theorem run_bind{α β:Type}(c:Nat->Nat->Bool)(f:α->KasT β):∀t:KasT α,run c (t.bind f)=run c (f (run c t))
 |.ret _=>rfl
 |.ask i j k=>run_bind c f (k (c i j))
variable{K:Nat->WM}{n:Nat}
def ky(K:Nat->WM)(p:Array Nat)(i:Nat):WM:=K (p.getD i 0)
def cm(K:Nat->WM)(i j:Nat):Bool:=decide (K i<K j)
structure Df(K:Nat->WM)(n:Nat)(p:Array Nat):Prop where
 size:p.size=n
 ne:∀i j,i<n->j<n->i≠j->ky K p i≠ky K p j
def Up(K:Nat->WM)(p:Array Nat)(m:Nat):Prop:=∀i j,i<j->j<m->ky K p i<ky K p j
def Dn(K:Nat->WM)(p:Array Nat)(m:Nat):Prop:=∀i j,i<j->j<m->ky K p j<ky K p i
theorem tot{a b:WM}(h:¬a<b)(ne:a≠b):b<a:=by
 by_cases z:b<a
 .exact z
 .exact absurd (List.le_antisymm (List.not_lt.mp z) (List.not_lt.mp h)) ne
theorem Up.more{p:Array Nat}{m:Nat}(h:Up K p m)(hl:∀i,i<m->ky K p i<ky K p m):Up K p (m+1):=λi j hij hj=>by
 rcases eq_or_lt_of_le (Nat.le_of_lt_succ hj) with e|e
 .subst e;exact hl i hij
 .exact h i j hij e
theorem Up.last{p:Array Nat}{m:Nat}(hm:1<=m)(h:Up K p m)(g:ky K p (m-1)<ky K p m):Up K p (m+1):=h.more λi hi=>by
 rcases eq_or_lt_of_le (show i<=m-1 by omega) with e|e
 .rw[e];exact g
 .exact List.lt_trans (h i (m-1) e (by omega)) g
theorem Dn.last{p:Array Nat}{m:Nat}(hm:1<=m)(h:Dn K p m)(g:ky K p m<ky K p (m-1)):Dn K p (m+1):=λi j hij hj=>by
 rcases eq_or_lt_of_le (Nat.le_of_lt_succ hj) with e|e
 .subst e
  rcases eq_or_lt_of_le (show i<=j-1 by omega) with e|e
  .rw[e];exact g
  .exact List.lt_trans g (h i (j-1) e (by omega))
 .exact h i j hij e
theorem zy{p:Array Nat}(d:Df K n p):∀f m,1<=m->m+f<=n->Up K p m->∃r,run (cm K) (kas_asc p f m)=r/\m<=r/\r<=m+f/\Up K p r/\(r<m+f->ky K p r<ky K p (r-1))
 | 0,m,_,_,up=>⟨m,rfl,le_refl _,le_refl _,up,λh=>by omega⟩
 |f+1,m,hm,hf,up=>by
  show ∃r,run (cm K) (if cm K (p.getD m 0) (p.getD (m-1) 0)=true then .ret m else kas_asc p f (m+1))=r/\_
  by_cases h:ky K p m<ky K p (m-1)
  .rw[if_pos (show cm K _ _=true from decide_eq_true h)];exact⟨m,rfl,le_refl _,by omega,up,λ_=>h⟩
  .rw[if_neg (by rw[show cm K (p.getD m 0) (p.getD (m-1) 0)=false from decide_eq_false h];decide)]
   obtain⟨r,e,a1,a2,a3,a4⟩:=zy d f (m+1) (by omega) (by omega) (up.last hm (tot h (d.ne m (m-1) (by omega) (by omega) (by omega))));exact⟨r,e,by omega,by omega,a3,λz=>a4 (by omega)⟩
theorem BL{p:Array Nat}(d:Df K n p):∀f m,1<=m->m+f<=n->Dn K p m->∃r,run (cm K) (kas_desc f p m 0)=(p,r,0)/\m<=r/\r<=m+f/\Dn K p r
 | 0,m,_,_,dn=>⟨m,rfl,le_refl _,le_refl _,dn⟩
 |f+1,m,hm,hf,dn=>by
  show ∃r,run (cm K) (if cm K (p.getD m 0) (p.getD (m-1) 0)=true then(if 0>0 then kas_desc f (kas_rev p (m-(0+1)) m) (m+1) 0 else kas_desc f p (m+1) 0)
   else .ask (p.getD (m-1) 0) (p.getD m 0) λe=>if e=true then .ret (p,m,0) else kas_desc f p (m+1) (0+1))=(p,r,0)/\_
  by_cases h:ky K p m<ky K p (m-1)
  .rw[if_pos (show cm K _ _=true from decide_eq_true h),if_neg (by omega)];obtain⟨r,e,a1,a2,a3⟩:=BL d f (m+1) (by omega) (by omega) (dn.last hm h);exact⟨r,e,by omega,by omega,a3⟩
  .rw[if_neg (by rw[show cm K (p.getD m 0) (p.getD (m-1) 0)=false from decide_eq_false h];decide)]
   show ∃r,run (cm K) (if cm K (p.getD (m-1) 0) (p.getD m 0)=true then .ret (p,m,0) else kas_desc f p (m+1) (0+1))=(p,r,0)/\_
   rw[if_pos (show cm K _ _=true from decide_eq_true (tot h (d.ne m (m-1) (by omega) (by omega) (by omega))))];exact⟨m,rfl,le_refl _,by omega,dn⟩
theorem iJ{p q:Array Nat}{i j:Nat}(h:p[i]?=q[j]?):p.getD i 0=q.getD j 0:=by
 rw[Array.getD_eq_getD_getElem?,Array.getD_eq_getD_getElem?,h]
theorem zz{p:Array Nat}{m:Nat}(hm:m<=p.size)(k:Nat):ky K (kas_rev p 0 m) k=if k<m then ky K p (m-1-k) else ky K p k:=by
 have e:=getElem?_mirror_all (i:=0) hm k;unfold ky kas_rev
 by_cases h:k<m
 .rw[if_pos ⟨zero_le _,h⟩] at e;rw[if_pos h,iJ e,show 0+m-1-k=m-1-k by omega]
 .rw[if_neg (λz=>h z.2)] at e;rw[if_neg h,iJ e]
theorem Df.rev{p:Array Nat}{m:Nat}(d:Df K n p)(hm:m<=n):Df K n (kas_rev p 0 m) where
 size:=by unfold kas_rev;rw[mirror_size,d.size]
 ne:=λi j hi hj hij=>by
  rw[zz (by rw[d.size];exact hm),zz (by rw[d.size];exact hm)];split<;>split<;>exact d.ne _ _ (by omega) (by omega) (by omega)
theorem Dn.rev{p:Array Nat}{m:Nat}(hm:m<=p.size)(h:Dn K p m):Up K (kas_rev p 0 m) m:=λi j hij hj=>by
 rw[zz hm,zz hm,if_pos (by omega),if_pos hj];exact h _ _ (by omega) (by omega)
theorem Io{p:Array Nat}(d:Df K n p)(hn:2<=n):∃r q,run (cm K) (kas_count n p)=(r,q)/\1<=r/\r<=n/\Df K n q/\Up K q r/\q.Perm p:=by
 unfold kas_count;rw[run_bind];obtain⟨r,e,a1,a2,a3,a4⟩:=zy d (n-1) 1 (le_refl _) (by omega) (λi j h1 h2=>by omega);rw[e]
 by_cases h:r=n
 .rw[if_pos (by simpa using h)];exact⟨r,p,rfl,a1,by omega,d,a3,Array.Perm.refl _⟩
 .rw[if_neg (by simpa using h)]
  by_cases h1:r>1
  .rw[if_pos h1];show ∃r' q,run (cm K) (if cm K (p.getD 0 0) (p.getD (r-1) 0)=true then .ret (r,p) else kas_descPart r n (kas_rev p 0 r))=(r',q)/\_
   rw[if_pos (show cm K _ _=true from decide_eq_true (a3 0 (r-1) (by omega) (by omega)))];exact⟨r,p,rfl,a1,by omega,d,a3,Array.Perm.refl _⟩
  .rw[if_neg h1];have er:r=1:=by omega
   subst er;unfold kas_descPart;rw[run_bind];obtain⟨m,e2,b1,b2,b3⟩:=BL d (n-(1+1)) (1+1) (by omega) (by omega) (λi j h1 h2=>by
    have e1:i=0:=by omega
    have e2:j=1:=by omega
    subst e1 e2;exact a4 (by omega))
   rw[e2];show ∃r q,run (cm K) (if 0>0 then _ else kas_tail3 m n p)=(r,q)/\_;rw[if_neg (by omega)];unfold kas_tail3;rw[run_bind];have hmn:m<=n:=by omega
   obtain⟨r,e3,c1,c2,c3,_⟩:=zy (d.rev hmn) (n-m) m (by omega) (by omega) (b3.rev (by rw[d.size];exact hmn));rw[e3];exact⟨r,_,rfl,by omega,by omega,d.rev hmn,c3,mirror_perm _ _ _ _⟩
theorem qH{p:Array Nat}{k:Nat}(d:Df K n p)(hk:k<n)(up:Up K p k):∀f l r,l<=r->r<=k->r-l<=f->(∀i,i<l->ky K p i<ky K p k)->(∀i,r<=i->i<k->ky K p k<ky K p i)->
  ∃l',run (cm K) (kas_place p k f l r)=l'/\l'<=k/\(∀i,i<l'->ky K p i<ky K p k)/\∀i,l'<=i->i<k->ky K p k<ky K p i
 | 0,l,r,h1,h2,h3,h4,h5=>⟨l,rfl,by omega,h4,λi hi=>h5 i (by omega)⟩
 |f+1,l,r,h1,h2,h3,h4,h5=>by
  unfold kas_place
  by_cases h:l≥r
  .rw[if_pos h];exact⟨l,rfl,by omega,h4,λi hi=>h5 i (by omega)⟩
  .rw[if_neg h];show ∃l',run (cm K) (if cm K (p.getD k 0) (p.getD ((l+r)/2) 0)=true then kas_place p k f l ((l+r)/2) else kas_place p k f ((l+r)/2+1) r)=l'/\_
   by_cases z:ky K p k<ky K p ((l+r)/2)
   .rw[if_pos (show cm K _ _=true from decide_eq_true z)];refine qH d hk up f l ((l+r)/2) (by omega) (by omega) (by omega) h4 λi hi hik=>?_
    rcases eq_or_lt_of_le hi with e|e
    .rw[<-e];exact z
    .exact List.lt_trans z (up _ i e hik)
   .rw[if_neg (by rw[show cm K (p.getD k 0) (p.getD ((l+r)/2) 0)=false from decide_eq_false z];decide)]
    have g:=tot z (d.ne k ((l+r)/2) hk (by omega) (by omega));refine qH d hk up f ((l+r)/2+1) r (by omega) h2 (by omega) (λi hi=>?_) h5
    rcases eq_or_lt_of_le (Nat.le_of_lt_succ hi) with e|e
    .rw[e];exact g
    .exact List.lt_trans (up i _ e (by omega)) g
theorem zA{p:Array Nat}{k l:Nat}(hk:k<p.size)(hl:l<=k)(i:Nat):ky K (bubble p k (k-l)) i=if i=l then ky K p k else if l<i/\i<=k then ky K p (i-1) else ky K p i:=by
 have e:=getElem?_bubble hk (k-l) (by omega) i;rw[show k-(k-l)=l by omega] at e
 unfold ky
 by_cases h1:i=l
 .rw[if_pos h1] at e ⊢;rw[iJ e]
 .rw[if_neg h1] at e ⊢
  by_cases h2:l<i/\i<=k
  .rw[if_pos h2] at e ⊢;rw[iJ e]
  .rw[if_neg h2] at e ⊢;rw[iJ e]
theorem Fp:∀f (p:Array Nat) k,Df K n p->k+f=n->Up K p k->∃q,run (cm K) (kas_bin f p k)=q/\Df K n q/\Up K q n/\q.Perm p
 | 0,p,k,d,hk,up=>⟨p,rfl,d,by rw[<-hk];exact up,Array.Perm.refl _⟩
 |f+1,p,k,d,hk,up=>by
  unfold kas_bin;rw[run_bind];obtain⟨l,e,a1,a2,a3⟩:=qH d (show k<n by omega) up k 0 k (zero_le _) (le_refl _) (by omega) (λi hi=>absurd hi (Nat.not_lt_zero _)) (λi h1 h2=>by omega);rw[e];have hks:k<p.size:=by rw[d.size];omega
  have d2:Df K n (bubble p k (k-l)):=⟨by rw[bubble_size,d.size],λi j hi hj hij=>by
   rw[zA hks a1,zA hks a1]
   repeat' split
   all_goals first|(exfalso;omega)|exact d.ne _ _ (by omega) (by omega) (by omega)⟩
  have up2:Up K (bubble p k (k-l)) (k+1):=λi j hij hj=>by
   rw[zA hks a1,zA hks a1]
   repeat' split
   all_goals first|(exfalso;omega)|exact a2 _ (by omega)|exact a3 _ (by omega) (by omega)|exact up _ _ (by omega) (by omega)
  obtain⟨q,e2,b1,b2,b3⟩:=Fp f (bubble p k (k-l)) (k+1) d2 (by omega) up2;exact⟨q,e2,b1,b2,b3.trans (bubble_perm _ _ _)⟩
theorem KR(hn:2<=n)(inj:∀i j,i<n->j<n->i≠j->K i≠K j):∃q,run (cm K) (kas_sort n)=q/\Up K q n/\q.Perm (List.toArray (List.range n))/\q.size=n:=by
 have gd:∀i,i<n->(List.toArray (List.range n)).getD i 0=i:=λi hi=>by simp[Array.getD,hi]
 have d:Df K n (List.toArray (List.range n)):=⟨by simp,λi j hi hj hij=>by unfold ky;rw[gd i hi,gd j hj];exact inj i j hi hj hij⟩;unfold kas_sort;rw[run_bind];obtain⟨r,q,e,a1,a2,a3,a4,a5⟩:=Io d hn;rw[e]
 by_cases h:r<n
 .rw[if_pos h];obtain⟨q2,e2,b1,b2,b3⟩:=Fp (n-max r 1) q (max r 1) a3 (by omega) (by rw[Nat.max_eq_left a1];exact a4);exact⟨q2,e2,b2,b3.trans a5,b1.size⟩
 .rw[if_neg h];exact⟨q,rfl,by rw[show n=r by omega];exact a4,a5,a3.size⟩
def AR{α:Type}(P:Nat->Nat->Prop)(R:α->Prop):KasT α->Prop
 |.ret a=>R a
 |.ask i j k=>P i j/\∀b,AR P R (k b)
theorem AR.bind{α β:Type}{P:Nat->Nat->Prop}{R:α->Prop}{R':β->Prop}{f:α->KasT β}(hf:∀a,R a->AR P R' (f a)):∀{t:KasT α},AR P R t->AR P R' (t.bind f)
 |.ret a,h=>hf a h
 |.ask i j k,h=>⟨h.1,λb=>AR.bind hf (h.2 b)⟩
theorem Ft{α:Type}{P:Nat->Nat->Prop}{R:α->Prop}{c:Nat->Nat->Bool}{cmp:Nat->Nat->(Bool->Shared->Prop)->Shared->Prop}{J:Shared->Prop}(hc:∀i j C s,P i j->J s->(∀s',J s'->C (c i j) s')->cmp i j C s){Q:α->Shared->Prop}:∀(t:KasT α) (s:Shared),AR P R t->J s->(∀s',J s'->Q (run c t) s')->t.kasWp cmp Q s
 |.ret a,s,_,hs,h=>h s hs
 |.ask i j k,s,ha,hs,h=>hc i j _ s ha.1 hs λs' hs'=>Ft hc (k (c i j)) s' (ha.2 _) hs' h
def zB(n:Nat)(p:Array Nat):Prop:=∀m,p.getD m 0<n
def Pn(n i j:Nat):Prop:=i<n/\j<n
theorem zB.rev{p:Array Nat}(h:zB n p)(i j:Nat)(hj:j<=p.size):zB n (kas_rev p i j):=λm=>by
 have e:=getElem?_mirror_all (i:=i) hj m;unfold kas_rev;split at e<;>(rw[iJ e];exact h _)
theorem zB.WI{p:Array Nat}(h:zB n p){k d:Nat}(hk:k<p.size)(hd:d<=k):zB n (bubble p k d):=λm=>by
 have e:=getElem?_bubble hk d hd m;split at e
 .rw[iJ e];exact h _
 .split at e<;>(rw[iJ e];exact h _)
theorem Dy{p:Array Nat}(h:zB n p):∀f m,m+f<=p.size->AR (Pn n) (λr=>r<=p.size) (kas_asc p f m)
 | 0,m,hm=>hm
 |f+1,m,hm=>⟨⟨h _,h _⟩,λb=>by
  cases b with
  |true=>show AR _ _ (if true=true then _ else _);rw[if_pos rfl];exact(show m<=p.size by omega)
  |false=>show AR _ _ (if false=true then _ else _);rw[if_neg Bool.false_ne_true];exact Dy h f (m+1) (by omega)⟩
theorem t6:∀f (p:Array Nat) m q,zB n p->p.size=n->m+f<=n->AR (Pn n) (λr=>zB n r.1/\r.1.size=n/\r.2.1<=n) (kas_desc f p m q)
 | 0,p,m,q,h,hs,hm=>⟨h,hs,by simpa using hm⟩
 |f+1,p,m,q,h,hs,hm=>⟨⟨h _,h _⟩,λb=>by
  cases b with
  |true=>
   show AR _ _ (if true=true then _ else _);rw[if_pos rfl];split
   .exact t6 f _ (m+1) 0 (h.rev _ _ (by omega)) (by unfold kas_rev;rw[mirror_size,hs]) (by omega)
   .exact t6 f p (m+1) 0 h hs (by omega)
  |false=>
   show AR _ _ (if false=true then _ else _);rw[if_neg Bool.false_ne_true];refine⟨⟨h _,h _⟩,λb=>?_⟩;cases b with
   |true=>show AR _ _ (if true=true then _ else _);rw[if_pos rfl];exact⟨h,hs,show m<=n by omega⟩
   |false=>show AR _ _ (if false=true then _ else _);rw[if_neg Bool.false_ne_true];exact t6 f p (m+1) (q+1) h hs (by omega)⟩
theorem Fv{p:Array Nat}{m:Nat}(h:zB n p)(hs:p.size=n)(hm:m<=n):AR (Pn n) (λr=>zB n r.2/\r.2.size=n/\r.1<=n) (kas_tail3 m n p):=by
 have h2:=h.rev 0 m (by omega);have hz:(kas_rev p 0 m).size=n:=by unfold kas_rev;rw[mirror_size,hs]
 unfold kas_tail3;refine AR.bind (R:=λr=>r<=(kas_rev p 0 m).size) (λr hr=>?_) (Dy h2 (n-m) m (by omega));exact(⟨h2,hz,by rw[<-hz];exact hr⟩:zB n (kas_rev p 0 m)/\(kas_rev p 0 m).size=n/\r<=n)
theorem su{p:Array Nat}{m:Nat}(h:zB n p)(hs:p.size=n)(hm:m<n):AR (Pn n) (λr=>zB n r.2/\r.2.size=n/\r.1<=n) (kas_descPart m n p):=by
 unfold kas_descPart;refine AR.bind (λr hr=>?_) (t6 (n-(m+1)) p (m+1) 0 h hs (by omega));split
 .exact Fv (hr.1.rev _ _ (by omega)) (by unfold kas_rev;rw[mirror_size];exact hr.2.1) hr.2.2
 .exact Fv hr.1 hr.2.1 hr.2.2
theorem KS{p:Array Nat}(h:zB n p)(hs:p.size=n)(hn:2<=n):AR (Pn n) (λr=>zB n r.2/\r.2.size=n/\r.1<=n) (kas_count n p):=by
 unfold kas_count;refine AR.bind (λr hr=>?_) (Dy h (n-1) 1 (by omega))
 by_cases e:r=n
 .rw[if_pos (by simpa using e)];exact⟨h,hs,show r<=n by omega⟩
 .rw[if_neg (by simpa using e)];have hr2:r<n:=by have:r<=p.size:=hr;omega
  split
  .refine⟨⟨h _,h _⟩,λb=>?_⟩;cases b with
   |true=>show AR _ _ (if true=true then _ else _);rw[if_pos rfl];exact⟨h,hs,show r<=n by omega⟩
   |false=>show AR _ _ (if false=true then _ else _);rw[if_neg Bool.false_ne_true];exact su (h.rev _ _ (by omega)) (by unfold kas_rev;rw[mirror_size,hs]) hr2
  .exact su h hs hr2
theorem vC{p:Array Nat}{k:Nat}(h:zB n p):∀f l r,l<=k->r<=k->AR (Pn n) (λl=>l<=k) (kas_place p k f l r)
 | 0,l,r,hl,hr=>hl
 |f+1,l,r,hl,hr=>by
  unfold kas_place;split
  .exact hl
  .refine⟨⟨h _,h _⟩,λb=>?_⟩;cases b with
   |true=>show AR _ _ (if true=true then _ else _);rw[if_pos rfl];exact vC h f l _ hl (by omega)
   |false=>show AR _ _ (if false=true then _ else _);rw[if_neg Bool.false_ne_true];exact vC h f _ r (by omega) hr
theorem KW:∀f (p:Array Nat) k,zB n p->p.size=n->k+f=n->AR (Pn n) (λ_=>True) (kas_bin f p k)
 | 0,p,k,_,_,_=>trivial
 |f+1,p,k,h,hs,hk=>AR.bind (λl hl=>KW f _ (k+1) (h.WI (by omega) (by omega)) (by rw[bubble_size,hs]) (by omega)) (vC h k 0 k (zero_le _) (le_refl _))
theorem OB(hn:2<=n):AR (Pn n) (λ_=>True) (kas_sort n):=by
 have h:zB n (List.toArray (List.range n)):=λm=>by
  by_cases z:m<n
  .simp[Array.getD,z]
  .simp[Array.getD,z];omega
 unfold kas_sort;refine AR.bind (λr hr=>?_) (KS h (by simp) hn);split
 .rename_i z
  exact KW _ _ _ hr.1 hr.2.1 (by omega)
 .trivial
end KSrt
namespace KSrt
open PySem PySem.W PyProof.Rows
def tx(l:WM):Str:=⟨l.toArray⟩
theorem pq(l:WM):(tx l).cps.toList=l:=by simp[tx]
section
variable{prog:Program}{w:World}{A:Around}{E:Value->Shared->Prop}{s:Shared}{K U:Nat->WM}{vs:WR Value}
def Dz(K U:Nat->WM)(h:Heap)(vs:WR Value):Prop:=∀i,i<vs.length->∃b o t1 t2 c,vs[i]?=some (.ref b)/\h.get? b=some o/\o.cls=.type "tuple"/\o.data=.seq #[.str (tx (K i)) t1,.str (tx (U i)) t2] c
theorem BN:∀{vs:WR Value} {K U:Nat->WM} {h:Heap},Dz K U h vs->∃fs,KatTups h vs fs/\fs.length=vs.length/\∀f∈fs,∃x t,f=Value.str x t
 |[],_,_,_,_=>⟨[],trivial,rfl,λf h=>(nomatch h)⟩
 |v::vs,K,U,h,t=>by
  obtain⟨b,o,t1,t2,c,e1,e2,e3,e4⟩:=t 0 (by simp);obtain⟨fs,a1,a2,a3⟩:=BN (vs:=vs) (K:=λi=>K (i+1)) (U:=λi=>U (i+1)) (h:=h) λi hi=>by simpa using t (i+1) (by simpa using hi)
  have e:v=.ref b:=by simpa using e1
  subst e;refine⟨.str (tx (K 0)) t1::fs,.cons e2 e3 e4 rfl a1,by simp[a2],λf hf=>?_⟩
  rcases mem_cons.mp hf with rfl|hf
  .exact⟨_,_,rfl⟩
  .exact a3 f hf
theorem ask{h3:Heap}(ht:Dz K U s.heap vs)(h64:vs.length<=100){i j:Nat}(hi:i<vs.length)(hj:j<vs.length)(hne:∀i j,i<vs.length->j<vs.length->i≠j->K i≠K j){C:Bool->Shared->Prop}(q:C (cm K i j) s):kas_ask prog w A (tuples' true) vs i j C s:=by
 obtain⟨b,o,t1,t2,c,e1,e2,e3,e4⟩:=ht i hi;obtain⟨b',o',u1,u2,c',f1,f2,f3,f4⟩:=ht j hj;unfold kas_ask;rw[show vs.getD i Value.none=.ref b by rw[getD_eq_getElem?_getD,e1];rfl,show vs.getD j Value.none=.ref b' by rw[getD_eq_getElem?_getD,f1];rfl]
 refine kat_lt e2 e4 f2 f4 ?_;refine kat_cons (SeqAt.EqAt.str_str (tx (K i)) t1 (tx (K j)) u1 _ _ _ _ ?_)
 by_cases hij:i=j
 .subst hij;rw[show ((tx (K i))==(tx (K i)))=true from beq_self_eq_true _];refine kat_yes (kat_cons (SeqAt.EqAt.str_str (tx (U i)) t2 (tx (U i)) u2 _ _ _ _ ?_));rw[show ((tx (U i))==(tx (U i)))=true from beq_self_eq_true _];rw[show cm K i i=false from decide_eq_false (List.lt_irrefl _)] at q;exact kat_yes (kat_nil q)
 .rw[show ((tx (K i))==(tx (K j)))=false from beq_eq_false_iff_ne.mpr λz=>hne i j hi hj hij (by rw[<-pq (K i),z,pq])];refine kat_no (oneLt_str ?_);rw[pq,pq];exact q
theorem KY{a:Addr}{n:Nat}{P:PySem.Fin->Shared->Prop}(ho:s.heap.get? a=some (seqObj "list" vs.toArray n))(ht:Dz K U s.heap vs)(hne:∀i j,i<vs.length->j<vs.length->i≠j->K i≠K j)(h64:vs.length<64)
  (h:∀(q:Array Nat) (h':Heap) (e:Nat),q.size=vs.length->q.Perm (List.toArray (List.range vs.length))->Up K q vs.length->(∀b o,b≠a->s.heap.get? b=some o->h'.get? b=some o)->h'.get? a=some (seqObj "list" (List.toArray (q.toList.map λi=>vs.getD i Value.none)) e)->P (.done (.ret .none)) {s with heap:=h' }):
  wpAny (model prog w) A (Builtin.«list.sort» ⟨[.ref a],[]⟩) P E s:=by
 have ha:a<s.heap.objs.size:=Heap.lt_size ho;have s1:=Heap.SameBut.update s.heap a (Obj.mapSeq λ_=>(#[]:Array Value));obtain⟨e1,ho1⟩:∃e1,(s.heap.update a (Obj.mapSeq λ_=>(#[]:Array Value))).get? a=some (seqObj "list" #[] e1):=⟨_,get?_update_seq ho λ_=>#[]⟩;have keep:∀b o,b≠a->s.heap.get? b=some o->(((s.heap.update a (Obj.mapSeq λ_=>(#[]:Array Value))).push (seqObj "tuple" vs.toArray 0)).push (seqObj "list" #[] 0)).get? b=some o:=λb o hb e=>Heap.get?_push_of_some _ (Heap.get?_push_of_some _ ((s1.2 b hb).trans e));have ho6:(((s.heap.update a (Obj.mapSeq λ_=>(#[]:Array Value))).push (seqObj "tuple" vs.toArray 0)).push (seqObj "list" #[] 0)).get? a=some (seqObj "list" #[] e1):=Heap.get?_push_of_some _ (Heap.get?_push_of_some _ ho1);have ht6:Dz K U (((s.heap.update a (Obj.mapSeq λ_=>(#[]:Array Value))).push (seqObj "tuple" vs.toArray 0)).push (seqObj "list" #[] 0)) vs:=λi hi=>by
  obtain⟨b,o,t1,t2,c,x1,x2,x3,x4⟩:=ht i hi;refine⟨b,o,t1,t2,c,x1,keep b o (λz=>?_) x2,x3,x4⟩;subst z;rw[ho] at x2;cases x2;injection x3 with x3
  exact absurd x3 (by decide)
 rw[list_sort_plain];refine wpAny_bind (listItems_at ho rfl ?_);refine wpAny_bind (listUpdate_at ho rfl ?_ (by rw[size_toArray,sizeLine_eq];omega) (zero_le _));refine wpAny_bind (seqEpoch_at ho1 rfl ?_);refine wpAny_bind (wpAny_newTuple ?_ (by show vs.length<=_;rw[sizeLine_eq];omega));refine wpAny_bind (wpAny_newList ?_ (zero_le _));refine wpAny_holding ?_;show wpAny (model prog w) A _ P E {s with heap:=((s.heap.update a (Obj.mapSeq λ_=>(#[]:Array Value))).push (seqObj "tuple" vs.toArray 0)).push (seqObj "list" #[] 0)}
 generalize ((s.heap.update a (Obj.mapSeq λ_=>(#[]:Array Value))).push (seqObj "tuple" vs.toArray 0)).push (seqObj "list" #[] 0)=B at keep ho6 ht6 ⊢;dsimp only
 by_cases h2:vs.toArray.size<2
 .rw[if_pos h2,if_pos h2];refine wpAny_bind (wpAny_pure ?_);rw[StateT.run_pure];refine wpAny_bind (wpAny_pure ?_);dsimp only;refine wpAny_bind (seqEpoch_at ho6 rfl ?_);refine wpAny_bind (listUpdate_at ho6 rfl ?_ (hsz2:=by rw[Array.size_map];show (pairsOf vs).size<=_;rw[pairsOf_size,sizeLine_eq];omega));simp only[bne_self_eq_false,false_eq_true,if_false];rw[size_toArray] at h2;have s2:=Heap.SameBut.update B a (Obj.mapSeq λ_=>(arrOf (SortSt.mk' general' (vs.toArray.zip vs.toArray) #[] 7 none)).map (·.2));obtain⟨c2,hc2⟩:∃c2,(B.update a (Obj.mapSeq λ_=>(arrOf (SortSt.mk' general' (vs.toArray.zip vs.toArray) #[] 7 none)).map (·.2))).get? a=some (seqObj "list" ((arrOf (SortSt.mk' general' (vs.toArray.zip vs.toArray) #[] 7 none)).map (·.2)) c2):=⟨_,get?_update_seq ho6 λ_=>(arrOf (SortSt.mk' general' (vs.toArray.zip vs.toArray) #[] 7 none)).map (·.2)⟩;have e1:(arrOf (SortSt.mk' general' (vs.toArray.zip vs.toArray) #[] 7 none)).map (·.2)=List.toArray ((List.toArray (List.range vs.length)).toList.map λi=>vs.getD i Value.none):=by
   apply Array.toList_inj.mp
   show ((vs.toArray.zip vs.toArray).map (·.2)).toList=_;rw[Array.toList_map,Array.toList_zip];show (vs.zip vs).map (·.2)=(List.range vs.length).map λi=>vs.getD i Value.none;apply List.ext_getElem
   .simp
   .intro i h1 h3;simp at h1
    simp[h1]
  exact wpAny_pure (h (List.toArray (List.range vs.length)) _ c2 (by simp) (Array.Perm.refl _) (λi j h1 h3=>by omega) (λb o hb e=>(s2.2 b hb).trans (keep b o hb e)) (hc2.trans (by rw[e1])))
 .rw[if_neg h2,if_neg h2];rw[size_toArray] at h2;obtain⟨fs,k1,k2,k3⟩:=BN ht6;refine wpAny_bind (kat_kind (s:={s with heap:=B}) (T:=.type "str") k1 (by omega) (λf hf=>by obtain⟨x,t,rfl⟩:=k3 f hf;exact Looks.of_pure rfl) (by decide) ?_);rw[show tuples' ((Value.type "str") !=Value.type "tuple")=tuples' true from rfl];obtain⟨q,eq,q1,q2,q3⟩:=KR (K:=K) (n:=vs.length) (by omega) hne;have hk:(kas_sort vs.length).kasWp (kas_ask prog w A (tuples' true) vs) (λp s'=>p=q/\s'={s with heap:=B}) {s with heap:=B}:=
   Ft (P:=Pn vs.length) (c:=cm K) (J:=λs'=>s'={s with heap:=B}) (λi j C s' hp hs' hC=>by
    subst hs';exact ask (s:={s with heap:=B}) (h3:=B) ht6 (by omega) hp.1 hp.2 hne (hC _ rfl)) _ _ (OB (by omega)) rfl λs' hs'=>⟨eq,hs'⟩
  refine wpAny_bind (wpAny_mono (kat_run (Q:=λst' s'=>arrOf st'=q.map (kas_item (vs.toArray.zip vs.toArray))/\failedOf st'=none/\s'={s with heap:=B})
   rfl (by omega) h64 (λp' st' s' a1 a2 a3 a4=>by obtain⟨rfl,rfl⟩:=a4;exact⟨a2,a3,rfl⟩) hk) ?_ λ_ _ e=>e)
  rintro⟨⟨⟩,st'⟩ s' ⟨har,hf,rfl⟩;dsimp only;have hout:=kat_snds rfl har;have hsz:(List.toArray (q.toList.map λi=>vs.getD i Value.none)).size=vs.length:=by rw[size_toArray,length_map,Array.length_toList,q3]
  rw[hout];have s2:=Heap.SameBut.update B a (Obj.mapSeq λ_=>List.toArray (q.toList.map λi=>vs.getD i Value.none));obtain⟨c2,hc2⟩:∃c2,(B.update a (Obj.mapSeq λ_=>List.toArray (q.toList.map λi=>vs.getD i Value.none))).get? a=some (seqObj "list" (List.toArray (q.toList.map λi=>vs.getD i Value.none)) c2):=⟨_,get?_update_seq ho6 λ_=>List.toArray (q.toList.map λi=>vs.getD i Value.none)⟩;refine wpAny_bind (seqEpoch_at ho6 rfl ?_);refine wpAny_bind (listUpdate_at ho6 rfl ?_ (zero_le _) (Nat.le_trans (Nat.le_of_eq hsz) (by rw[sizeLine_eq];omega)));rw[hf];simp only[bne_self_eq_false,false_eq_true,if_false];exact wpAny_pure (h q _ c2 q3 q2 q1 (λb o hb e=>(s2.2 b hb).trans (keep b o hb e)) hc2)
theorem OC{κ:Type}[DecidableEq κ]{knd:PySem.KeyKind prog w κ}{r d:Addr}{kvs:WR (κ×Value)}{ep:Nat}{Q:Value->Shared->Prop}(hh:A.handled=none)(hv:s.heap.IsItemsView r d)(hm:s.heap.DictAt knd d kvs ep)(h64:kvs.length<64)
  (hK:∀(i:Nat) (k:κ) (v u:Value),kvs[i]?=some (k,v)->knd.is k u=true->(∃t,u=Value.str (tx (K i)) t)/\∃t,v=Value.str (tx (U i)) t) (hne:∀i j,i<kvs.length->j<kvs.length->i≠j->K i≠K j)
  (h:∀(h1 h':Heap) (tk:Nat) (q:Array Nat) (e:Nat) (vs:WR Value),(∀b o,s.heap.get? b=some o->h1.get? b=some o)->vs.length=kvs.length->q.size=kvs.length->q.Perm (List.toArray (List.range kvs.length))->Up K q kvs.length->Dz K U h1 vs->
   (∀b o,h1.get? b=some o->h'.get? b=some o)->h'.get? h1.objs.size=some (seqObj "list" (List.toArray (q.toList.map λi=>vs.getD i Value.none)) e)->(∀(i:Nat) (b:Addr),vs[i]?=some (Value.ref b)->s.heap.objs.size<=b)->Q (.ref h1.objs.size) {s with heap:=h',toks:=tk}):
  wpAny (model prog w) A (call (.builtin "sorted") [.ref r]) Q E s:=by
 have hn:kvs.length<=sizeLine:=by rw[sizeLine_eq];omega
 refine Calls.call_function_entry kind_sorted plain_sorted entry_sorted (args_sorted1 _) ?_;unfold Builtin.«sorted»;refine wpAny_bind (m:=checkCount "sorted" 1 1 _) (wpAny_pure ?_);refine wpAny_bind (kdx_collect (A:=A.in1) (knd:=knd) hh hv hm hn λh1 tk as hk hl hG=>?_);have hlen:(as.map Value.ref).length=kvs.length:=by rw[length_map,hl]
 refine wpAny_bind (wpAny_newList ?_ (by rw[hlen];exact hn));have ht:Dz K U h1 (as.map Value.ref):=λi hi=>by
  rw[length_map] at hi;have ea:as[i]?=some as[i]:=getElem?_eq_getElem hi;obtain⟨key,k,x,x1,x2,x3⟩:=hG.pairs i _ ea;obtain⟨⟨t1,e1⟩,t2,e2⟩:=hK i k x key x1 x2;subst e1 e2;exact⟨as[i],_,t1,t2,_,by rw[getElem?_map,ea];rfl,x3,rfl,rfl⟩
 have ho:(h1.push {cls:=.type "list",data:=.seq (as.map Value.ref).toArray}).get? h1.objs.size=some (seqObj "list" (as.map Value.ref).toArray 0):=Heap.get?_push_size _ rfl;have ht2:Dz K U (h1.push {cls:=.type "list",data:=.seq (as.map Value.ref).toArray}) (as.map Value.ref):=λi hi=>by
  obtain⟨b,o,t1,t2,c,x1,x2,x3,x4⟩:=ht i hi;exact⟨b,o,t1,t2,c,x1,Heap.get?_push_of_some _ x2,x3,x4⟩
 refine wpAny_bind (wpAny_holding (wpAny_call_entry slot_list_sort ⟨_,ho,rfl⟩ entry_list_sort (KY (s:={s with heap:=h1.push {cls:=.type "list",data:=.seq (as.map Value.ref).toArray},toks:=tk}) (K:=K) (U:=U) ho ht2 (by rw[hlen];exact hne) (by rw[hlen];exact h64) λq h' e q1 q2 q3 kp hc=>⟨_,rfl,?_⟩) (args_list_sort _)));rw[hlen] at q1 q2 q3;refine wpAny_pure ⟨_,rfl,h h1 h' tk q e _ hk hlen q1 q2 q3 ht (λb o hb=>kp b o (ne_of_lt (Heap.lt_size hb)) (Heap.get?_push_of_some _ hb)) hc λi b hb=>?_⟩;rw[getElem?_map] at hb;obtain⟨a,ha,e⟩:=map_eq_some_iff.mp hb;cases e;exact le_of_lt (hG.above _ (mem_of_getElem? ha))
end
end KSrt
namespace L2
open PySem PySem.Spec PyProof.Rows
section
variable{X:Cx}{Z0:WR (Addr×Obj)}{Z:St}{H H':Hp}{s:Shared}{h':Heap}
theorem bZ.there{P:Program}{w:World}{h:Heap}{a:Addr}{o:HO}(x:bZ P w H h a o):∃ob,h.get? a=some ob:=by
 cases o with
 |lst xs=>obtain⟨_,_,_,_,e⟩:=x;exact⟨_,e⟩
 |tup xs=>obtain⟨_,_,_,_,e,_⟩:=x;exact⟨_,e⟩
 |dK kvs=>obtain⟨_,_,_,_,_,_,_,e,_⟩:=x;exact⟨_,e⟩
 |dT kvs=>obtain⟨_,_,_,_,_,_,_,e,_⟩:=x;exact⟨_,e⟩
 |set S n=>obtain⟨_,_,_,_,e,_⟩:=x;exact⟨_,e⟩
 |ins C dx fs=>obtain⟨_,_,_,e,_⟩:=x;exact⟨_,e⟩
 |own y=>obtain⟨_,e⟩:=x;exact⟨_,e⟩
 |xd fs=>obtain⟨_,⟨_,_,_,e,_⟩,_⟩:=x;exact⟨_,e⟩
 |met f y=>exact⟨_,x⟩
 |rng lo hi=>obtain⟨_,_,_,e⟩:=x;exact⟨_,e⟩
 |frz ob u=>obtain⟨e,_⟩:=x;exact⟨_,e⟩
 |tbl ps=>exact⟨_,x⟩
 |ext φ=>obtain⟨_,e,_⟩:=x;exact e
theorem Inv.TJ{t':Nat}(I:Inv X Z0 Z H s)(k:∀b u,s.heap.get? b=some u->h'.get? b=some u)(old:∀b o,s.heap.get? b=some o->H' b=H b)(new:∀b o,s.heap.get? b=none->H' b=some o->bZ X.prog X.w H' h' b o):
  Inv X Z0 Z H' {s with heap:=h',toks:=t' }:=by
 have J:=I.kept (t':=t') k;have sm:∀{b:Addr} {o:HO},H b=some o->H' b=some o:=λ{b o} e=>by
  obtain⟨ob,q⟩:=(I.hok b o e).there;exact(old b ob q).trans e
 refine⟨J.ok,J.os,J.bare,⟨J.base.keep,J.base.slot,λb ob e n hx=>?_,J.base.there,λb xs e=>sm (J.base.tups b xs e),λb ob u e=>sm (J.base.frzs b ob u e),λb ps e=>?_⟩,J.loc,J.cell,?_,λx c e=>?_,λp hp=>?_,λb u e=>?_,J.len⟩
 .obtain⟨o',q⟩:=I.base.there b ob e hx;rw[old b o' q];exact J.base.free b ob e n hx
 .obtain⟨more,q⟩:=J.base.tbls b ps e;exact⟨more,sm q⟩
 .obtain⟨m,⟨o,es,ep,q,_⟩,_⟩:=I.loc;rw[old _ _ q];exact I.free
 .obtain⟨v,o,q,_⟩:=I.cell x c e;rw[old _ _ q];exact I.freeC x c e
 .obtain⟨a,b,c⟩:=I.pin p hp;exact⟨k _ _ a,by rw[old _ _ a];exact b,c⟩
 .cases q:s.heap.get? b with
  |some ob=>
   rw[old b ob q] at e;exact(J.hok b u e).stay (λ_ _ _ q=>q) (λc q=>sm q) λc xs q=>sm q
  |none=>exact new b u q e
def kH(v d:Addr):HO:=.ext λh=>h.IsItemsView v d
abbrev DA:V->WR V->Hp->VK->Prop:=λx xs H Q=>∃a kvs,x=.ref a/\xs=[]/\H a=some (.dK kvs)/\∀v,H v=none->Q (.ref v) (upd H v (kH v a))
theorem BO:Jq X "dict.items" DA:=by
 intro Z0 s Z H x xs v us Q I rx rv h;obtain⟨a,kvs,rfl,rfl,hH,q⟩:=h;cases rx;have hus:=rv.zero;subst hus;obtain⟨z,hd,vs,rel,dd⟩:=BE I.hok hH;refine call_meetsIn PySem.F.slot_dict_items dd.typeIs PySem.F.entry_dict_items (PySem.F.args_dict_items_1 _) (meets_dict_items (bU X.prog X.w) a hd) ⟨⟨vs,dd⟩,?_⟩;have hv:(s.heap.push {cls:=.type "dict_items",data:=.fields #[.ref a] }).IsItemsView s.heap.objs.size a:=⟨_,Heap.get?_push_size _ rfl,rfl,rfl⟩;refine⟨.ref s.heap.objs.size,_,I.laid (t':=s.toks) (o:=kH s.heap.objs.size a) (λb o e=>Heap.get?_push_of_some _ e) (le_refl _) ⟨hv,⟨_,Heap.get?_push_size _ rfl⟩,λh1 h2 x k=>?_⟩,rfl,q _ (I.hok.fresh (le_refl _))⟩;obtain⟨o,e,r⟩:=x;exact⟨o,k o e,r⟩
abbrev vD:WR V->Hp->VK->Prop:=λxs H Q=>∃v a,∃kvs:WO,xs=[.ref v]/\H v=some (kH v a)/\H a=some (.dK (kvs.map λkv=>(Key.inr (txt kv.1),ay kv.2)))/\kvs.length<64/\(kvs.map (·.1)).Nodup/\
 ∀H' l ys (zs:WO),aI H H'->H l=none->H' l=some (.lst ys)->zs.Perm kvs->(zs.map (·.1)).Pairwise (·<·)->ys.length=zs.length->(∀(i:Nat) kv,zs[i]?=some kv->∃t,ys[i]?=some (.ref t)/\H' t=some (.tup [ay kv.1,ay kv.2])/\H t=none)->Q (.ref l) H'
theorem KV.VZ{kvs:WR (Key×V)}{vs:WR (Key×Value)}(r:KV kvs vs):∀{i:Nat} {k:Key} {u:Value},vs[i]?=some (k,u)->∃v,kvs[i]?=some (k,v)/\RelV v u:=by
 induction r with
 |nil=>intro i k v e;simp at e
 |@cons p q ps qs h t ih=>
  intro i k u e;cases i with
  |zero=>
   simp at e
   subst e;obtain⟨p1,p2⟩:=p;have h1:p1=k:=h.1;subst h1;exact⟨p2,rfl,h.2⟩
  |succ i=>exact ih (by simpa using e)
def adr(vs:WR Value)(j:Nat):Addr:=match vs[j]? with|some (.ref b)=>b|_=>0
theorem pA(hc:X.calm=true):fh X (.builtin "sorted") vD:=by
 intro Z0 s Z H xs us Q I r h;obtain⟨v,a,kvs,rfl,hV,hH,h64,hnd,q⟩:=h;obtain⟨u,rfl,ru⟩:=vals1 r;cases ru;obtain⟨z,hd,vs,rel,dd⟩:=BE I.hok hH;obtain⟨ep,da⟩:=dd.dictAt;have hl:=rel.length;rw[length_map] at hl;have hv:s.heap.IsItemsView v a:=(show bZ X.prog X.w H s.heap v (kH v a) from I.hok v _ hV).1;have hin:∀i j,i<vs.length->j<vs.length->i≠j->(kvs.getD i ([],[])).1≠(kvs.getD j ([],[])).1:=λi j hi hj hij e=>by
  rw[getD_eq_getElem?_getD,getD_eq_getElem?_getD,getElem?_eq_getElem (by omega),getElem?_eq_getElem (by omega)] at e;have pw:=pairwise_iff_getElem.mp hnd
  rcases lt_or_ge i j with w|w
  .exact pw i j (by rw[length_map];omega) (by rw[length_map];omega) w (by rw[getElem_map,getElem_map];exact e)
  .exact pw j i (by rw[length_map];omega) (by rw[length_map];omega) (by omega) (by rw[getElem_map,getElem_map];exact e.symm)
 refine KSrt.OC (K:=λi=>(kvs.getD i ([],[])).1) (U:=λi=>(kvs.getD i ([],[])).2) (I.ok.hd hc) hv da (by omega) (λi k v u e hk=>?_) hin λh1 h' tk p e ws k1 l1 p1 p2 p3 tp k2 hg ab=>?_
 .obtain⟨v',e1,rv⟩:=rel.VZ e;rw[getElem?_map] at e1;obtain⟨kv,e2,e3⟩:=map_eq_some_iff.mp e1;cases e3;rw[getD_eq_getElem?_getD,e2];exact⟨Fj hk,rv⟩
 .have tb:∀j,j<ws.length->∃o t1 t2 c,ws[j]?=some (.ref (adr ws j))/\h1.get? (adr ws j)=some o/\o.cls=.type "tuple"/\o.data=.seq #[.str (txt (kvs.getD j ([],[])).1) t1,.str (txt (kvs.getD j ([],[])).2) t2] c:=λj hj=>by
   obtain⟨b,o,t1,t2,c,x1,x2,x3,x4⟩:=tp j hj;have eb:adr ws j=b:=by unfold adr;rw[x1]
   exact⟨o,t1,t2,c,by rw[eb];exact x1,by rw[eb];exact x2,x3,x4⟩
  have one:∀i j,i<ws.length->j<ws.length->adr ws i=adr ws j->i=j:=λi j hi hj e=>by
   obtain⟨o,t1,t2,c,x1,x2,x3,x4⟩:=tb i hi;obtain⟨o',u1,u2,c',y1,y2,y3,y4⟩:=tb j hj;rw[e,y2] at x2;cases x2;rw[x4] at y4
   by_cases hij:i=j
   .exact hij
   .refine absurd ?_ (hin i j (by omega) (by omega) hij);injection y4 with y4 _
    have y5:=congrArg (λa:Array Value=>a[0]?) y4;simp at y5
    exact cJ.mp y5.1
  have lows:∀j,j<ws.length->s.heap.objs.size<=adr ws j/\adr ws j<h1.objs.size:=λj hj=>by
   obtain⟨o,t1,t2,c,x1,x2,x3,x4⟩:=tb j hj;exact⟨ab j _ x1,Heap.lt_size x2⟩
  have hpl:p.toList.Perm (List.range vs.length):=by simpa using p2.toList
  have plt:∀i∈p.toList,i<vs.length:=λi hi=>mem_range.mp (hpl.mem_iff.mp hi)
  let KU:=λj=>kvs.getD j ([],[])
  let ys:=p.toList.map λi=>V.ref (adr ws i)
  let Hn:Hp:=λb=>if (s.heap.get? b).isSome=true then H b else if b=h1.objs.size then some (.lst ys) else((List.range ws.length).find? λj=>decide (adr ws j=b)).map λj=>.tup [ay (KU j).1,ay (KU j).2]
  have nbl:s.heap.get? h1.objs.size=none:=by
   cases w:s.heap.get? h1.objs.size with
   |none=>rfl
   |some o=>exact absurd (Heap.lt_size (k1 _ _ w)) (Nat.lt_irrefl _)
  have nad:∀j,j<ws.length->s.heap.get? (adr ws j)=none:=λj hj=>Heap.get?_none_of_le (lows j hj).1;have hHl:Hn h1.objs.size=some (.lst ys):=by
   show (if (s.heap.get? h1.objs.size).isSome=true then _ else _)=_;rw[nbl,if_neg (by decide),if_pos rfl]
  have hHt:∀j,j<ws.length->Hn (adr ws j)=some (.tup [ay (KU j).1,ay (KU j).2]):=λj hj=>by
   show (if (s.heap.get? (adr ws j)).isSome=true then _ else _)=_
   rw[nad j hj,if_neg (by decide),if_neg (ne_of_lt (lows j hj).2)];cases w:(List.range ws.length).find? λi=>decide (adr ws i=adr ws j) with
   |none=>
    have:=List.find?_eq_none.mp w j (mem_range.mpr hj);simp at this
   |some i=>
    have h1':=List.find?_some w;have h2':=mem_range.mp (List.mem_of_find?_eq_some w);have:=one i j h2' hj (of_decide_eq_true h1');subst this;rfl
  have nH:∀b,s.heap.get? b=none->H b=none:=λb w=>by
   cases w2:H b with
   |none=>rfl
   |some u=>obtain⟨ob,w3⟩:=(I.hok b u w2).there;rw[w] at w3;cases w3
  have fin:Inv X Z0 Z Hn {s with heap:=h',toks:=tk}:=by
   refine I.TJ (λb o e=>k2 b o (k1 b o e)) (λb o e=>?_) λb o e w=>?_
   .show (if (s.heap.get? b).isSome=true then _ else _)=_;rw[e,if_pos (show (some o).isSome=true from rfl)]
   .have w':(if (s.heap.get? b).isSome=true then H b else if b=h1.objs.size then some (.lst ys) else((List.range ws.length).find? λj=>decide (adr ws j=b)).map λj=>.tup [ay (KU j).1,ay (KU j).2])=some o:=w
    rw[e,if_neg (by decide)] at w'
    by_cases z1:b=h1.objs.size
    .rw[if_pos z1] at w';cases w';subst z1;refine⟨?_,p.toList.map λi=>ws.getD i Value.none,_,?_,by simpa [seqObj] using hg⟩
     .show (p.toList.map _).length<=_;rw[length_map,Array.length_toList,p1,sizeLine_eq];omega
     .have gen:∀l:WM,(∀i∈l,i<vs.length)->Vals (l.map λi=>V.ref (adr ws i)) (l.map λi=>ws.getD i Value.none):=λl=>by
       induction l with
       |nil=>intro _;exact .nil
       |cons i l ih=>
        intro hl';refine .cons ?_ (ih λj hj=>hl' j (mem_cons_of_mem _ hj));obtain⟨o,t1,t2,c,x1,_⟩:=tb i (by rw[l1];exact hl' i mem_cons_self);show ws.getD i Value.none=Value.ref (adr ws i);rw[getD_eq_getElem?_getD,x1];rfl
      exact gen p.toList plt
    .rw[if_neg z1] at w';obtain⟨j,w3,w4⟩:=map_eq_some_iff.mp w';have h1':adr ws j=b:=by have:=List.find?_some w3;simpa using this
     have h2':=mem_range.mp (List.mem_of_find?_eq_some w3);subst h1';cases w4;obtain⟨ob,t1,t2,c,x1,x2,x3,x4⟩:=tb j h2';exact⟨show 2<=sizeLine by decide,[.str (txt (KU j).1) t1,.str (txt (KU j).2) t2],.cons ⟨t1,rfl⟩ (.cons ⟨t2,rfl⟩ .nil),ob,k2 _ _ x2,x3,c,x4⟩
  have hzp:(p.toList.map KU).Perm kvs:=by
   have e2:(List.range vs.length).map KU=kvs:=by
    apply List.ext_getElem
    .rw[length_map,length_range,hl]
    .intro i h1' h2';rw[getElem_map,List.getElem_range];show kvs.getD i ([],[])=_;rw[getD_eq_getElem?_getD,getElem?_eq_getElem h2'];rfl
   rw[<-e2];exact hpl.map KU
  refine⟨.ref h1.objs.size,Hn,fin,rfl,q Hn h1.objs.size ys (p.toList.map KU) (λb o e=>?_) (nH _ nbl) hHl hzp ?_ (by show (p.toList.map _).length=_;rw[length_map,length_map]) λi kv e=>?_⟩
  .obtain⟨ob,w3⟩:=(I.hok b o e).there;show (if (s.heap.get? b).isSome=true then _ else _)=_;rw[w3,if_pos (show (some ob).isSome=true from rfl)];exact e
  .rw[map_map,pairwise_map,pairwise_iff_getElem];intro i j hi hj hij;rw[Array.length_toList,p1] at hi hj;have:=p3 i j hij hj;unfold KSrt.ky at this;rw[show p.getD i 0=p.toList[i]'(by rw[Array.length_toList,p1];exact hi) by simp[Array.getD,p1,hi],show p.getD j 0=p.toList[j]'(by rw[Array.length_toList,p1];exact hj) by simp[Array.getD,p1,hj]] at this
   exact this
  .rw[getElem?_map] at e;obtain⟨j,e1,rfl⟩:=map_eq_some_iff.mp e;have hj:j<ws.length:=by rw[l1];exact plt j (mem_of_getElem? e1)
   exact⟨adr ws j,by show (p.toList.map _)[i]?=_;rw[getElem?_map,e1];rfl,hHt j hj,nH _ (nad j hj)⟩
end
inductive FP where
 |raw (t:TE)
 |fmt (t:TE)
def TM(v:V)(l:WM):Prop:=v=.str (txt l)\/∃i:Int,v=.int i/\i.natAbs.log2<1920/\txt l=(toString i:Str)
def VA:WR FP->WM->TE
 |[],out,_,H,Q=>out.length<=100000/\Q (.str (txt out)) H
 |.raw t::r,out,Z,H,Q=>t Z H λv H1=>∃l,v=.str (txt l)/\out.length+l.length<=100000/\VA r (out++l) Z H1 Q
 |.fmt t::r,out,Z,H,Q=>t Z H λv H1=>∃l,TM v l/\out.length+l.length<=100000/\VA r (out++l) Z H1 Q
structure QF(X:Cx)(es:WR Expr)(ps:WR FP):Prop where
 p:∀(Z0:WR (Addr×Obj)) (s:Shared) (Z:St) (H:Hp) (Q:VK) (out:WM),Inv X Z0 Z H s->VA ps out Z H Q->wpAny (model X.prog X.w) X.A (joinParts (txt out) (evalEach es X.env)) (EP X Z0 Z Q) X.xe s
section
variable{X:Cx}{e:Expr}{es:WR Expr}{t:TE}{ps:WR FP}{pos:Pos}
theorem iK(l:WM):(txt l).length=l.length:=by simp[txt,Str.length]
theorem qI:QF X [] []:=⟨λZ0 s Z H Q out I ⟨hz,q⟩=>joinParts_nil ⟨.str (txt out),H,I.tok _,⟨_,rfl⟩,q⟩ (by rw[iK];exact Nat.le_trans hz (by decide))⟩
theorem kI(h:QE X e t)(r:QF X es ps):QF X (e::es) (.raw t::ps):=⟨by
 intro Z0 s Z H Q out I q;refine joinParts_cons (cA (h.p Z0 s Z H _ I q) λv s1 ⟨x,H1,I1,rx,l,ex,hz,q1⟩=>?_);subst ex;obtain⟨u,rfl⟩:=rx;refine⟨by rw[lI,iK,length_append];exact Nat.le_trans hz (by decide),?_⟩;rw[lI];exact r.p Z0 s1 Z H1 Q _ I1 q1⟩
theorem ie{fpos:Pos}(h:QE X e t)(r:QF X es ps):QF X (.FormattedValue e (-1) none fpos::es) (.fmt t::ps):=⟨by
 intro Z0 s Z H Q out I q;refine joinParts_cons (FormattedValue_plain (cA (h.p Z0 s Z H _ I q) λv s1 ⟨x,H1,I1,rx,l,fx,hz,q1⟩=>?_));have sz:(txt out++txt l).length<=sizeLine:=by rw[lI,iK,length_append];exact Nat.le_trans hz (by decide)
 rcases fx with ex|⟨i,ex,hi,el⟩
 .subst ex;obtain⟨u,rfl⟩:=rx;refine formatField_str (λt' tk=>⟨sz,?_⟩) (by rw[iK];exact Nat.le_trans (show l.length<=100000 by omega) (by decide));rw[lI];exact r.p Z0 _ Z H1 Q _ (I1.tok _) q1
 .subst ex;obtain⟨u,rfl⟩:=rx;refine formatField_int_small hi ?_;rw[<-el];refine⟨sz,?_⟩;rw[lI];exact r.p Z0 _ Z H1 Q _ (I1.tok _) q1⟩
def vE(ps:WR FP):TE:=VA ps []
theorem lR{e1 e2:Expr}(h:QF X (e1::e2::es) ps):QE X (.JoinedStr (e1::e2::es) pos) (vE ps):=⟨λZ0 s Z H Q I q=>JoinedStr_many (h.p Z0 s Z H Q [] I q)⟩
end
def gq(c:Nat):WM->WN
 |[]=>[[]]
 |x::l=>if x=c then []::gq c l else match gq c l with
  |[]=>[[x]]
  |w::ws=>(x::w)::ws
theorem sy{c:Nat}:∀w:WM,c∉w->gq c w=[w]
 |[],_=>rfl
 |x::w,h=>by
  have hx:¬x=c:=λz=>h (by rw[z];exact mem_cons_self);rw[gq,if_neg hx,sy w λz=>h (mem_cons_of_mem _ z)]
theorem vF{c:Nat}(l:WM):∀w:WM,c∉w->gq c (w++c::l)=w::gq c l
 |[],_=>by rw[nil_append,gq,if_pos rfl]
 |x::w,h=>by
  have hx:¬x=c:=λz=>h (by rw[z];exact mem_cons_self);rw[cons_append,gq,if_neg hx,vF l w λz=>h (mem_cons_of_mem _ z)]
theorem cT(sep y z:WM)(r:WN):gP sep (y::z::r)=y++sep++gP sep (z::r):=by
 show r.foldl _ (y++sep++z)=y++sep++r.foldl _ z
 induction r generalizing z with
 |nil=>rfl
 |cons a r ih=>rw[foldl_cons,foldl_cons,<-ih];simp only[append_assoc]
theorem kJ{c:Nat}:∀ws:WN,ws≠[]->(∀w∈ws,c∉w)->gq c (gP [c] ws)=ws
 |[],h,_=>absurd rfl h
 |[w],_,h=>sy w (h w mem_cons_self)
 |w::z::r,_,h=>by
  rw[cT,append_assoc,List.singleton_append,vF _ w (h w mem_cons_self),kJ (z::r) (by simp) λy hy=>h y (mem_cons_of_mem _ hy)]
theorem Ip(l:WM)(c:Nat):Txt.split (txt l) (txt [c])=(gq c l).map txt:=by
 have e0:(Txt.split (txt l) (txt [c]))=((Txt.split (txt l) (txt [c])).map λp=>p.cps.toList).map txt:=by
  rw[map_map];exact(map_id _).symm.trans (List.map_congr_left λp _=>(txt_codes p).symm)
 have fr:=StrLaws.split_free (txt l) c;have j1:=StrLaws.join_split (txt l) (txt [c]);have pos:=split_pos (txt l) (txt [c]);generalize hws:(Txt.split (txt l) (txt [c])).map (λp=>p.cps.toList)=ws at e0;have hf:∀w∈ws,c∉w:=λw hw=>by
  rw[<-hws] at hw;obtain⟨p,hp,rfl⟩:=mem_map.mp hw;exact fr p hp
 have hne:ws≠[]:=λz=>by
  rw[z] at hws;have:=congrArg List.length hws;rw[length_map] at this;simp at this
  rw[this] at pos;simp at pos
 rw[e0] at j1;have j2:txt (gP [c] ws)=txt l:=by
  rw[<-j1,<-StrLaws.glued_eq_join];exact(Bm [c] ws).symm
 rw[e0,<-cJ.mp j2,kJ ws hne hf]
abbrev KZ:V->WR V->Hp->VK->Prop:=λx xs H Q=>∃l c,x=.str (txt l)/\xs=[.str (txt [c])]/\l.length<=100000/\∀p,H p=none->Q (.ref p) (upd H p (.lst ((gq c l).map ay)))
section
variable{prog:Program}{w:World}{A:Around}{E:Value->Shared->Prop}{s:Shared}{x y:Str}{t u:Tok}{Q:Value->Shared->Prop}
theorem DB(hy:(y.length==0)=false)(h:∀l k,l.map (·.1)=Txt.split x y->Q (.ref s.heap.objs.size) {s with heap:=s.heap.push {cls:=.type "list",data:=.seq (strValues l).toArray},toks:=k})(hsz:x.length+2<=sizeLine):
  wpAny (model prog w) A (call (.builtin "str.split") [.str x t,.str y u]) Q E s:=by
 have hn:(Builtin.Str.partsBetween x (Builtin.Str.occurrences x y 0 x.length (x.length+1)) y.length).length<=sizeLine:=by
  have e1:=StrLaws.occ_length_le x y 0 x.length (x.length+1);rw[length_partsBetween];omega
 cases h1:(decide (x.length<y.length)||decide (Builtin.Str.strKind x<Builtin.Str.strKind y))
 .cases hf:(Builtin.Str.occurrences x y 0 x.length (x.length+1)).isEmpty
  .refine call_meets F.slot_str_split (typeIs_str _ _ _) F.entry_str_split (F.args_str_split_2 _ _) (meets_str_split_sep x y t u h1 hy hf (by omega) hn) ?_;show wants Q E _ {s with toks:=_,heap:=s.heap.push {cls:=.type "list",data:=.seq (strsFrom s.toks (Builtin.Str.partsBetween x (Builtin.Str.occurrences x y 0 x.length (x.length+1)) y.length)).toArray} }
   rw[strsFrom_eq];exact h (numbered s.toks _) _ ((numbered_texts _ _).trans ((if_neg (ne_true_of_eq_false h1)).trans (if_neg (ne_true_of_eq_false hf))).symm)
  .exact call_meets F.slot_str_split (typeIs_str _ _ _) F.entry_str_split (F.args_str_split_2 _ _) (meets_str_split_not_found x y t u h1 hy hf)
    (h [(x,t)] s.toks ((if_neg (ne_true_of_eq_false h1)).trans (if_pos hf)).symm)
 .exact call_meets F.slot_str_split (typeIs_str _ _ _) F.entry_str_split (F.args_str_split_2 _ _) (meets_str_split_cannot_occur x y t u h1)
   (h [(x,t)] s.toks (if_pos h1).symm)
end
theorem BP:∀{l:WR (Str×Tok)} {ws:WN},l.map (·.1)=ws.map txt->Vals (ws.map ay) (strValues l)
 |[],[],_=>.nil
 |[],_::_,h=>by cases h
 |_::_,[],h=>by cases h
 |(y,u)::l,w::ws,h=>by
  rw[map_cons,map_cons] at h;obtain⟨h1,h2⟩:=List.cons.inj h;have h1:y=txt w:=h1;subst h1;exact .cons ⟨u,rfl⟩ (BP h2)
section
variable{X:Cx}
theorem K0:Jq X "str.split" KZ:=by
 intro Z0 s Z H x vs v us Q I rx rv h;obtain⟨l,c,rfl,rfl,hz,q⟩:=h;obtain⟨t,rfl⟩:=rx;obtain⟨u,rfl,t',rfl⟩:=rv.one;refine DB (by rw[iK];rfl) (λls k e=>?_) (by rw[iK];exact Nat.le_trans (Nat.add_le_add_right hz 2) (by decide));have e2:=e;rw[Ip] at e;have hl:=congrArg List.length e;rw[length_map,length_map] at hl;have hle:=split_le (txt l) (txt [c]);rw[<-e2,length_map,iK] at hle;refine⟨.ref s.heap.objs.size,_,I.laid (t':=k) (o:=.lst ((gq c l).map ay)) (λb o e=>Heap.get?_push_of_some _ e) (le_refl _) ⟨?_,strValues ls,_,BP e,Heap.get?_push_size _ rfl⟩,rfl,q _ (I.hok.fresh (le_refl _))⟩;rw[length_map,<-hl];exact Nat.le_trans hle (Nat.le_trans (Nat.add_le_add_right hz 2) (by decide))
abbrev Fw:V->WR V->Hp->VK->Prop:=λx xs H Q=>∃l c,x=.str (txt l)/\xs=[.str (txt [c])]/\Q (.bl (decide (l.head?=some c))) H
theorem Iq(l:WM)(c:Nat):Txt.startswith (txt l) (txt [c])=decide (l.head?=some c):=by
 unfold Txt.startswith;rw[cg,cg];cases l with
 |nil=>rfl
 |cons x l=>
  rw[decide_eq_true (show 0+[c].length<=(x::l).length by simp),Bool.true_and];unfold Builtin.Str.subAt;rw[cg];have e:(txt (x::l)).cps.extract 0 (0+[c].length)=[x].toArray:=by
   simp only[txt,List.extract_toArray,List.extract_eq_take_drop];rfl
  rw[e];show ([x].toArray==[c].toArray)=_;rw[Bool.eq_iff_iff];simp
theorem xM:Jq X "str.startswith" Fw:=by
 intro Z0 s Z H x vs v us Q I rx rv h;obtain⟨l,c,rfl,rfl,q⟩:=h;obtain⟨t,rfl⟩:=rx;obtain⟨u,rfl,t',rfl⟩:=rv.one;refine call_gives F.slot_str_startswith (typeIs_str _ _ _) F.entry_str_startswith (F.args_str_startswith_2 _ _) (gives_str_startswith _ _ t t') ?_;refine⟨.bl _,H,I,?_,q⟩;rw[<-Iq];rfl
abbrev Fy:WR V->Hp->VK->Prop:=λxs H Q=>∃l n,xs=[.str (txt l)]/\l.length<=640/\PySem.intText? (txt l)=some n/\Q (.int n) H
theorem qJ:fh X (.type "int") Fy:=by
 intro Z0 s Z H xs us Q I r h;obtain⟨l,n,rfl,hl,hn,q⟩:=h;obtain⟨u,rfl,t,rfl⟩:=vals1 r;exact W.KIN.call_text hn (by rw[iK];exact hl) ⟨.int n,H,I.tok _,⟨_,rfl⟩,q⟩
theorem K3{n:Int}{l:WM}(h0:0<=n)(h1:n<10^10)(e:txt l=(toString n:Str)):PySem.intText? (txt l)=some n:=by
 rw[e];exact W.KIN.num_reads h0 h1
end
structure Fx(K:W.Frag)(mg:Str->Option Value)(n:Str)(st:Stmt)(ps:WR Str)(x:Addr×FuncData):Prop where
 g:mg n=some (.ref x.1)
 F:EX K n n st x.1 x.2
 b:Binds K x.2 ps []
structure Mx(K:W.Frag)(C:Addr)(n q:Str)(st:Stmt)(ps:WR Str)(x:Addr×FuncData):Prop where
 M:Meth K C n x.1
 F:EX K n q st x.1 x.2
 b:Binds K x.2 ps []
def Lk(K:W.Frag)(n q:Str)(st:Stmt)(f:Addr):Prop:=∃(oc:Value) (od:Option Addr) (sl:Array (Option Value)) (kV dc pm:Value) (an:Option Addr) (cd ct:Value),K.lookup f=some ⟨oc,od,.func (W.fnOf n q (iC st) (fu st) (aB st) .none kV dc pm an cd ct),sl⟩/\W.codeIn K cd q=true/\W.keepIn K (.ref f)=true
def Fq(K:W.Frag)(n:Str)(st:Stmt):Prop:=∃f,W.nsIn K mainGlobals n=some (some (.ref f))/\Lk K n n st f
def Mq(K:W.Frag)(C:Addr)(n q:Str)(st:Stmt):Prop:=∃f,W.findIn K (.ref C) n=some (some (.ref f))/\W.isFn K (.ref f)=true/\Lk K n q st f
def Bd(n q:Str)(st:Stmt)(ps:WR Str):Prop:=∀(kV doc pm:Value) (an:Option Addr) (cdv ct:Value) (us:WR Value),us.length=ps.length->bindArgs (W.fnOf n q (iC st) (fu st) (aB st) .none kV doc pm an cdv ct) ⟨us,[]⟩=pure (ps.zip us)
section
variable{K:W.Frag}{mg:Str->Option Value}{n q:Str}{st:Stmt}{ps:WR Str}{C:Addr}
theorem Lk.fx{f:Addr}(p:Lk K n q st f)(hb:Bd n q st ps):∃fd,EX K n q st f fd/\Binds K fd ps []:=by
 obtain⟨_,_,_,_,_,_,_,_,_,l,c,k⟩:=p;have F:=Qx l c k;exact⟨_,F,F.binds hb⟩
theorem Fq.fx{h:Heap}(p:Fq K n st)(X:K.In h)(G:h.Ns mainGlobals mg)(hb:Bd n n st ps):∃x,Fx K mg n st ps x:=by
 obtain⟨f,a,l⟩:=p;obtain⟨fd,F,b⟩:=l.fx hb;exact⟨(f,fd),W.mg_of X G a,F,b⟩
theorem Mq.fx(p:Mq K C n q st)(hb:Bd n q st ps):∃x,Mx K C n q st ps x:=by
 obtain⟨f,a,i,l⟩:=p;obtain⟨fd,F,b⟩:=l.fx hb;exact⟨(f,fd),⟨a,i,F.kp⟩,F,b⟩
end
theorem Wy{P:WR Value->Prop}(h:P []):∀us,us.length=0->P us:=λus hl=>by rw[length_eq_zero_iff.mp hl];exact h
theorem Wz{P:WR Value->Prop}{n:Nat}(h:∀a us,us.length=n->P (a::us)):∀us,us.length=n+1->P us:=λus hl=>by
 cases us with
 |nil=>cases hl
 |cons a us=>exact h a us (Nat.succ.inj hl)
abbrev Xc(K:W.Frag)(c:Addr):Prop:=W.excIn K c [.type "ValueError",.type "Exception",.type "BaseException",.type "object"] "ValueError.__new__" =true
abbrev Fx.Ok{K:W.Frag}{mg:Str->Option Value}{n:Str}{st:Stmt}{ps:WR Str}{x:Addr×FuncData}(_:Fx K mg n st ps x)(P:Program)(w:World)(base:Heap)(CX:AZ)(k:Nat)(sp:Sp):Prop:=gK P w K mg base CX k x.1 x.2 ps sp
abbrev Mx.Ok{K:W.Frag}{C:Addr}{n q:Str}{st:Stmt}{ps:WR Str}{x:Addr×FuncData}(_:Mx K C n q st ps x)(mg:Str->Option Value)(P:Program)(w:World)(base:Heap)(CX:AZ)(k:Nat)(sp:Sp):Prop:=gK P w K mg base CX k x.1 x.2 ps sp
theorem EX.bt{K:W.Frag}{n q p:Str}{st:Stmt}{f:Addr}{fd:FuncData}(F:EX K n q st f fd)(hb:Bd n q st [p])(s:Shared)(v:Value):BindsTo s fd ⟨[v],[]⟩ [(p,v)]:=by
 obtain⟨_,_,_,_,_,_,_,_,_,rfl,_,_⟩:=F.ex;exact .of_eq (hb _ _ _ _ _ _ [v] rfl)
section
variable{K:W.Frag}{n q:Str}{st:Stmt}{C f:Addr}{oc:Value}{od:Option Addr}{sl:Array (Option Value)}{kV dc pm:Value}{an:Option Addr}{cd ct:Value}
theorem bx(a:W.nsIn K mainGlobals n=some (some (.ref f)))(l:K.lookup f=some ⟨oc,od,.func (W.fnOf n n (iC st) (fu st) (aB st) .none kV dc pm an cd ct),sl⟩)(c:W.codeIn K cd n=true)(k:W.keepIn K (.ref f)=true):Fq K n st:=⟨f,a,oc,od,sl,kV,dc,pm,an,cd,ct,l,c,k⟩
theorem kK(a:W.findIn K (.ref C) n=some (some (.ref f)))(i:W.isFn K (.ref f)=true)(l:K.lookup f=some ⟨oc,od,.func (W.fnOf n q (iC st) (fu st) (aB st) .none kV dc pm an cd ct),sl⟩)(c:W.codeIn K cd q=true)(k:W.keepIn K (.ref f)=true):Mq K C n q st:=⟨f,a,i,oc,od,sl,kV,dc,pm,an,cd,ct,l,c,k⟩
end
section
variable{X:Cx}{CX:AZ}{k:Nat}{n q:Str}{st:Stmt}{ps:WR Str}{x:Addr×FuncData}{sp:Sp}{E:XK}{C:Addr}{e o:Expr}{es:WR Expr}{t:TA}{ta:TE}{p pos apos:Pos}
theorem kc(T:Fx X.K X.mg n st ps x)(F:gK X.prog X.w X.K X.mg X.base CX k x.1 x.2 ps sp)(hx:Passes CX X E)(ha:QA X (e::es) t)(hr:b6 k X.A:=by exact b6.mono (by assumption) (by decide))
  (hg:X.env.kindOf n=some .globalImplicit:=by rfl') (hdb:(n==("__debug__":Str))=false:=by rfl') (he:starEach (e::es) X.env=(false,eval e X.env)::starEach es X.env:=by rfl') (hpl:(backTo pos (starEach es X.env)).any (·.1)=false:=by rfl'):
  QE X (.Call (.Name n p) (e::es) [] pos) (aF sp [] E t):=E6 F hr T.g T.F.kp T.b hx ha hg hdb he hpl
theorem bX(T:Fx X.K X.mg n st ps x)(F:gK X.prog X.w X.K X.mg X.base fc k x.1 x.2 ps sp)(ha:QA X (e::es) t)(hr:b6 k X.A:=by exact b6.mono (by assumption) (by decide))
  (hg:X.env.kindOf n=some .globalImplicit:=by rfl') (hdb:(n==("__debug__":Str))=false:=by rfl') (he:starEach (e::es) X.env=(false,eval e X.env)::starEach es X.env:=by rfl') (hpl:(backTo pos (starEach es X.env)).any (·.1)=false:=by rfl'):
  QE X (.Call (.Name n p) (e::es) [] pos) (aF sp [] E0 t):=E6 F hr T.g T.F.kp T.b gM ha hg hdb he hpl
end
end L2
local macro_rules | `(tactic| nofun)=>`(tactic| simp only [L2.cX,L2.iT,L2.J7,L2.aJ,L2.aY,L2.aG,L2.aS,L2.ai,L2.tC,L2.bD,L2.tB,L2.Nu,L2.cW,L2.qh,L2.AM,L2.qi,L2.iA,L2.Jz,L2.bA,L2.b8,L2.bR,L2.dj,L2.ah,L2.az,L2.xD,L2.Hz,L2.aF,L2.mU,L2.iZ,L2.Nm,L2.mH,L2.fV,L2.uI,L2.iY,L2.gO,L2.CF,L2.rI,L2.tV,L2.Sy,L2.start,L2.bg,map_cons,map_nil,length_cons,length_nil,replicate_succ,replicate_zero,cons_append,nil_append,append_nil,List.getElem?_cons_zero,getElem?_cons_succ,set_cons_zero,set_cons_succ,Option.some.injEq,Option.join_some,L2.V.int.injEq,L2.V.str.injEq,L2.V.bl.injEq,L2.V.ref.injEq,L2.cJ,exists_eq_left',exists_eq_left,exists_and_left,and_true,true_and,decide_eq_true_eq,reduceCtorEq,decide_false,decide_true,Bool.not_false,Bool.not_true,if_true,if_false,false_eq_true,Nat.reduceAdd,Nat.reduceSub,not_eq_true',decide_eq_false_iff_not,not_true_eq_false,not_false_eq_true])
local macro_rules | `(tactic| simp? [$t,*])=>`(tactic| simp only [$t,*,L2.cX,L2.iT,L2.J7,L2.aJ,L2.aY,L2.aG,L2.aS,L2.ai,L2.tC,L2.bD,L2.tB,L2.Nu,L2.cW,L2.qh,L2.AM,L2.qi,L2.iA,L2.Jz,L2.bA,L2.b8,L2.bR,L2.dj,L2.ah,L2.az,L2.xD,L2.Hz,L2.aF,L2.mU,L2.iZ,L2.Nm,L2.mH,L2.fV,L2.uI,L2.iY,L2.gO,L2.CF,L2.rI,L2.tV,L2.Sy,L2.start,L2.bg,map_cons,map_nil,length_cons,length_nil,replicate_succ,replicate_zero,cons_append,nil_append,append_nil,List.getElem?_cons_zero,getElem?_cons_succ,set_cons_zero,set_cons_succ,Option.some.injEq,Option.join_some,L2.V.int.injEq,L2.V.str.injEq,L2.V.bl.injEq,L2.V.ref.injEq,L2.cJ,exists_eq_left',exists_eq_left,exists_and_left,and_true,true_and,decide_eq_true_eq,reduceCtorEq,decide_false,decide_true,Bool.not_false,Bool.not_true,if_true,if_false,false_eq_true,Nat.reduceAdd,Nat.reduceSub,not_eq_true',decide_eq_false_iff_not,not_true_eq_false,not_false_eq_true])
namespace L2
open PySem PySem.Spec PyProof.Rows MM
def c9(K:W.Frag):Sp:=λvs H Q _=>∃(a:Addr) (ns:WR Int) (k m:Int),vs=[.ref a,.int k,.int m]/\aZ K H a (ns.map V.int)/\ns.length<=63/\0<=k/\k<1048576/\0<m/\∀r:Int,0<=r->r<m->Q (.int r) H
variable {E:XK}{Q:VK}{xs vs ys ts:WR V}{H H' H2:Hp}{a b it f p C dx q d p2 pr pk p1 p3:Addr}{F fp as:WR Addr}{h t' i j c n L ep c':Nat}{x y qual:Str}{N ps:WR Str}{Z:St}{K:PySem.W.Frag}{es m:WM}{te td:TE}{tb:TS}{lo hi:WQ}{ta:TA}{kvs zs zs' S:WO}{ks ws ws':WN}
def DC(K:W.Frag):TS:=
  aJ (aY (Nu (bD (aS Bp (dj (b5 K) (ah (ai 0) az)) (tC (.int 0)))) (aS (bY K) (ai 0) (aS iE (ai 1) (dj (b5 K) (ah (ai 0) az)))) (tC (.int 0))) (aG 3))
   (aJ (cW (qh (bD (aS Bp (dj (b5 K) (ah (ai 0) az)) (tC (.int 0)))) (bD (aS tV (aS iE (aS (bY K) (ai 0) (tC (.int 0))) (tC (.int 2))) (tC (.int 1))))) (bA (aS iE (aS iE (aS Tj (ai 3) (aS bS (aS iF (tC (.int 20)) (aS se (ai 1) (dj (b5 K) (ah (ai 0) az)))) (tC (.int 1)))) (tC (.int 1048576))) (ai 2))) (b8))
   (aJ (aY (aS bS (aS bS (aS iE (ai 3) (tC (.int 1000003))) (aS iF (aS iF (tC (.int 31)) (ai 1)) (ai 1))) (tC (.int 1))) (aG 4))
   (bA (aS iE (aS iE (aS iF (aS iE (aS iF (ai 4) (tC (.int 48271))) (tC (.int 999983))) (tC (.int 7919))) (tC (.int 524287))) (ai 2)))))
theorem BQ{i k m:Int}{Q:Int->Prop}(h0:0<=k)(h1:k<1048576)(h2:0<m)(q:∀r:Int,0<=r->r<m->Q r):
  (0:Int)<1000003/\jX 31 k/\jX (31*k) k/\jX (i%1000003+31*k*k+1) 48271/\(0:Int)<999983/\jX ((i%1000003+31*k*k+1)*48271%999983) 7919/\(0:Int)<524287/\0<m/\
   Q ((i%1000003+31*k*k+1)*48271%999983*7919%524287%m):=
 ⟨by decide,C6 (by decide) (by decide),iQ (by omega) (by omega),iQ (by decide) (by decide),by decide,iQ (by decide) (by decide),by decide,h2,q _ (emod_nonneg _ (by omega)) (Int.emod_lt_of_pos _ h2)⟩
theorem K4{i k m:Int}{x:Int}{Q:Int->Prop}(h0:0<=k)(hx:0<x)(hx2:x<=63)(h2:0<m)(q:∀r:Int,0<=r->r<m->Q r):
  NG k x/\jX 20 (k/x)/\0<=20*(k/x)+1/\(0:Int)<1048576/\0<m/\Q (i/2^(20*(k/x)+1).toNat%1048576%m):=by
 have e:0<=k/x:=Int.ediv_nonneg h0 (by omega);exact⟨cdiv hx (by omega),C6 (by decide) (by decide),by omega,by decide,h2,q _ (emod_nonneg _ (by omega)) (Int.emod_lt_of_pos _ h2)⟩
theorem Ir(hN:N.length=5)(h:c9 K vs H Q E):DC K {nx:=λ_ H'=>Q .non H',rt:=Q} (L2.start N vs) H:=by
 obtain⟨a,ns,k,m,rfl,hS,hl,h0,h1,h2,q⟩:=h;unfold DC L2.start;rw[hN];nofun;refine oF hS ⟨_,rfl,?_⟩
 by_cases hn:(0:Int)<(ns.length:Int)
 .rw[if_pos hn];refine oF hS ⟨_,rfl,hn,C4 hS (emod_nonneg _ (by omega)) (Int.emod_lt_of_pos _ hn) λz _ _=>?_⟩;refine oF hS ⟨_,rfl,?_⟩;rw[if_pos hn];refine C4 hS (by decide) hn λz0 _ _=>⟨_,rfl,by decide,rfl,?_⟩;split
  .refine oF hS ⟨_,rfl,?_⟩;have:=K4 (i:=z) (Q:=λr=>Q (.int r) H) h0 hn (by omega) h2 q;exact⟨this.1,this.2.1,_,rfl,this.2.2⟩
  .exact⟨_,rfl,BQ (Q:=λr=>Q (.int r) H) h0 h1 h2 q⟩
 .rw[if_neg hn];refine oF hS ⟨_,rfl,?_⟩;rw[if_neg hn];exact BQ (Q:=λr=>Q (.int r) H) h0 h1 h2 q
def qK:Sp:=λvs H Q _=>∃(K h j:Nat),vs=[.int K,.int h,.int j]/\K<=26/\0<h/\∀H',aI H H'->Q (.str (txt (bC K h j))) H'
def DE(K:W.Frag):TS:=
  bA (xD K "str" (rJoin K) (tC (.str (txt []))) (ah (dw (uM (ah (tC (.int 1)) (ah (ai 0) az))) [2,1] (bD (aS tV (aS iE (aS rZ (ai 0) (tC (.int 1))) (ai 2)) (ai 1))) (aS m5 (tC (.str (txt xE))) (ai 0))) az))
theorem Iu(l:WM):(l.map λc=>[c]).flatten=l:=by
 induction l with
 |nil=>rfl
 |cons c l ih=>rw[map_cons,List.flatten_cons,ih];rfl
theorem K5(l:WM):((l.map λc=>[c]).map (·.length)).sum=l.length:=by
 induction l with
 |nil=>rfl
 |cons c l ih=>simp only[map_cons,List.sum_cons,ih,length_cons,length_nil];omega
theorem Iv(hN:N.length=3)(h:qK vs H Q E):DE K {nx:=λ_ H'=>Q .non H',rt:=Q} (L2.start N vs) H:=by
 obtain⟨n,h,j,rfl,hn,hh,q⟩:=h;unfold DE L2.start;rw[hN];nofun;refine⟨rfl,?_⟩;refine N5 (l:=1) (j:=n) (λQ h=>⟨_,rfl,h⟩) (by decide) (by decide) (by omega) (by omega) (Nat.le_trans (show ((n:Int)-1).toNat<=100000 by omega) (by decide))
  (λi ys H'=>H'=H/\ys=((List.range i).filter (λi=>decide (i%h=j))).map (λi=>ay [98+i])) ⟨rfl,rfl⟩
  (λi ys H' _ p=>by rw[p.2,length_map];exact Nat.le_trans (length_filter_le _ _) (by rw[length_range];exact le_refl _)) ?_ ?_
 .rintro i ys H' hi ⟨rfl,rfl⟩ R hR;nofun;have e1:(1+(i:Int)-1)%(h:Int)=((i%h:Nat):Int):=by rw[show (1+(i:Int)-1)=(i:Int) by omega];exact(Int.natCast_emod i h).symm
  rw[e1];refine⟨by omega,rfl,?_⟩;rw[range_succ,filter_append,map_append] at hR;split
  .rename_i e
   refine uZ (by omega) (by omega) (hR _ _ ⟨rfl,?_⟩);rw[show (1+(i:Int)).toNat=i+1 by omega,List.filter_cons_of_pos (by simpa using (show i%h=j by omega))]
   simp only[List.filter_nil,map_cons,map_nil];rw[show 97+(i+1)=98+i by omega];rfl
  .rename_i e
   refine hR _ _ ⟨rfl,?_⟩;rw[List.filter_cons_of_neg (by simpa using (show ¬i%h=j by omega))];simp
 .rintro ys H' ⟨rfl,rfl⟩ p hp;refine⟨[],p,(bC n h j).map (λc=>[c]),rfl,rfl,?_,?_,?_⟩
  .refine .inl (.inl (Eq.trans aq (congrArg (λl=>some (HO.lst l)) ?_)));unfold bC;rw[show ((n:Int)-1).toNat=n-1 by omega,map_map,map_map]
   rfl
  .rw[K5,length_map];have:(bC n h j).length<=26:=by
    unfold bC;rw[length_map];exact Nat.le_trans (length_filter_le _ _) (by rw[length_range];omega)
   simp only[length_nil];omega
  .rw[HS,Iu];exact q _ (aI.up _ hp)
def oV:WQ->V
 |none=>.non
 |some l=>.str (txt l)
def vG:WQ->Nat->Nat
 |none,_=>0
 |some l,i=>Of l i
def dG(K:Nat):WQ->Nat->Nat
 |none,_=>0
 |some l,n=>val K l n
def Nn:WQ->Prop
 |none=>True
 |some l=>Ls 26 l/\l.length<=100000
theorem yt(K:Nat)(o:WQ):dG K o 0=0:=by cases o<;>simp[dG,val_zero]
theorem ja(K:Nat)(o:WQ)(n:Nat):dG K o (n+1)=dG K o n*K+vG o n:=by
 cases o with
 |none=>simp[dG,vG]
 |some l=>exact val_succ K l n
def BR:Sp:=λvs H Q _=>∃(o:WQ) (i:Nat),vs=[oV o,.int i]/\Nn o/\Q (.int (vG o i:Nat)) H
def K6(K:W.Frag):TS:=
  aJ (cW (AM (tB (uI (ai 0))) (bD (aS QN (ai 1) (dj oB (ah (ai 0) az))))) (bA (tC (.int 0))) (b8))
   (bA (xD K "str" yZ (tC (.str (txt xE))) (ah (aS m5 (ai 0) (ai 1)) az)))
theorem K7(hN:N.length=2)(h:BR vs H Q E):K6 K {nx:=λ_ H'=>Q .non H',rt:=Q} (L2.start N vs) H:=by
 obtain⟨o,i,rfl,ho,q⟩:=h;unfold K6 L2.start;rw[hN];cases o with
 |none=>
  simp? [oV]
  exact q
 |some l=>
  obtain⟨hl,hz⟩:=ho;simp? [oV]
  refine iG hz ⟨_,rfl,?_⟩
  by_cases hi:l.length<=i
  .rw[if_pos (by omega)];have e:vG (some l) i=0:=by simp[vG,Of,getElem?_eq_none hi]
   rw[e] at q;exact q
  .rw[if_neg (by omega)];have hi':i<l.length:=by omega
   have e:vG (some l) i=l[i]-97:=by simp[vG,Of,hi']
   have hc:=hl l[i] (getElem_mem hi');rw[e] at q;exact⟨rfl,C5 hz (by omega) (by simp[hi']) (yi hc.1 hc.2 q)⟩
def pB:Sp:=λvs H Q _=>∃(L:Nat) (o:WQ) (n:Nat),vs=[.int L,oV o,.int n]/\L<=26/\Nn o/\n<=100000/\Q (.int (dG L o n:Nat)) H
def zC:TS:=
  aJ (aY (tC (.int 0)) (aG 3))
   (aJ (iy (jW (ah (ai 2) az)) (aG 4) (aY (aS bS (aS iF (ai 3) (ai 0)) (aF BR [] E0 (ah (ai 1) (ah (ai 4) az)))) (aG 3)))
   (bA (ai 3)))
theorem DF(hN:N.length=5)(h:pB vs H Q E):zC {nx:=λ_ H'=>Q .non H',rt:=Q} (L2.start N vs) H:=by
 obtain⟨L,o,n,rfl,hL,ho,hn,q⟩:=h;unfold zC L2.start;rw[hN];nofun;refine qw (j:=n) (λQ h=>⟨_,rfl,h⟩) (by omega) (by omega) (λi Z H'=>H'=H/\∃v4,Z=[some (.int L),some (oV o),some (.int n),some (.int (dG L o i:Nat)),v4]) ⟨rfl,_,by rw[yt];rfl⟩ ?_ ?_
 .rintro i Z H1 hi ⟨rfl,v4,rfl⟩;nofun;refine⟨iQ (by omega) (by omega),o,i,rfl,ho,?_⟩;nofun;exact⟨some (.int i),by rw[ja,natCast_add,natCast_mul]⟩
 .rintro Z H1 ⟨rfl,v4,rfl⟩;nofun;rw[toNat_natCast];exact q
def pC:Sp:=λvs H Q _=>∃(L r n:Nat),vs=[.int L,.int r,.int n]/\0<L/\L<=26/\n<=100000/\Q (.str (txt (mk L r n))) H
def vH(K:W.Frag):TS:=
  aJ (aY (tC (.str (txt []))) (aG 3))
   (aJ (aY (ai 1) (aG 4))
   (aJ (iy (jW (ah (ai 2) az)) (aG 5) (aJ (aY (aS Bq (aS m5 (tC (.str (txt xE))) (aS iE (ai 4) (ai 0))) (ai 3)) (aG 3))
   (aY (aS se (ai 4) (ai 0)) (aG 4))))
   (bA (xD K "str" yY (ai 3) (ah (tC (.str (txt [97]))) az)))))
theorem BS(hN:N.length=6)(h:pC vs H Q E):vH K {nx:=λ_ H'=>Q .non H',rt:=Q} (L2.start N vs) H:=by
 obtain⟨L,r,n,rfl,hL0,hL,hn,q⟩:=h;unfold vH L2.start;rw[hN];nofun;refine qw (j:=n) (λQ h=>⟨_,rfl,h⟩) (by omega) (by omega) (λi Z H'=>H'=H/\∃v5,Z=[some (.int L),some (.int r),some (.int n),some (.str (txt (low L r i))),some (.int (r/L^i:Nat)),v5]) ⟨rfl,_,by rw[Nat.pow_zero,Nat.div_one];rfl⟩ ?_ ?_
 .rintro i Z H1 hi ⟨rfl,v5,rfl⟩;have e1:((r/L^i:Nat):Int)%(L:Int)=((r/L^i%L:Nat):Int):=(Int.natCast_emod _ _).symm;have e2:((r/L^i:Nat):Int)/(L:Int)=((r/L^(i+1):Nat):Int):=by rw[pow_succ,<-Nat.div_div_eq_div_mul];exact(Int.natCast_ediv _ _).symm
  have hb:=mod_lt (r/L^i) hL0;nofun;rw[e1,e2];refine⟨by omega,uZ (by omega) (by omega) (zc (by rw[low_length];simp only[length_cons,length_nil];omega) ⟨cdiv (by omega) (by omega),?_⟩)⟩
  exact⟨rfl,some (.int i),by rw[toNat_natCast];rfl⟩
 .rintro Z H1 ⟨rfl,v5,rfl⟩;nofun;rw[toNat_natCast];exact⟨rfl,HW (by rw[low_length];exact hn) q⟩
def markB(L:Nat)(l:WM):Bool:=!decide (l=[]) && !decide (l.getLast?=some 97)&&l.all λc=>decide (97<=c/\c<97+L)
theorem Iw{l:WM}:markB L l=true↔Mark L l:=by
 unfold markB;simp only[and_eq_true,not_eq_true',decide_eq_false_iff_not,all_eq_true,decide_eq_true_eq];constructor
 .rintro⟨⟨h1,h2⟩,h3⟩;exact⟨h3,λc hc e=>h2 (by rw[hc,e]),h1⟩
 .rintro⟨h1,h2,h3⟩;exact⟨⟨h3,λe=>h2 97 e rfl⟩,h1⟩
theorem Ra(l:WM):(decide ([97].length<=l.length)&&(l.drop (l.length-[97].length)==[97]))=decide (l.getLast?=some 97):=by
 rw[Bool.eq_iff_iff];simp only[and_eq_true,decide_eq_true_eq,beq_iff_eq,length_cons,length_nil];constructor
 .rintro⟨h1,h2⟩;have:l=l.take (l.length-1)++[97]:=by
   have e:=take_append_drop (l.length-1) l;rw[show l.length-(0+1)=l.length-1 by omega] at h2
   rw[h2] at e;exact e.symm
  rw[this];simp
 .intro h;obtain⟨r,rfl⟩:=List.getLast?_eq_some_iff.mp h;simp
theorem OE(hL:L<=26):c∈xE.take L↔97<=c/\c<97+L:=by
 have e:xE.take L=(List.range L).map (97+·):=by
  unfold xE;rw[<-List.map_take,List.take_range,min_eq_left hL]
 rw[e,mem_map];constructor
 .rintro⟨i,hi,rfl⟩;have:=mem_range.mp hi;omega
 .rintro⟨h1,h2⟩;exact⟨c-97,mem_range.mpr (by omega),by omega⟩
def vI:Sp:=λvs H Q _=>∃(L:Nat) (l:WM),vs=[.int L,.str (txt l)]/\L<=26/\l.length<=100000/\∀H',aI H H'->Q (.bl (markB L l)) H'
def vJ(K:W.Frag):TS:=
  aJ (cW (AM (bD (aS tV (ai 1) (tC (.str (txt []))))) (tB (xD K "str" Pr (ai 1) (ah (tC (.str (txt [97]))) az)))) (bA (tC (.bl false))) (b8))
   (bA (dj (Br K) (ah (dw (C3 (ai 1)) [0] gO (aS QU (ai 0) (Nm QC (tC (.str (txt xE))) fV (mH (ai 1))))) az)))
theorem BU(hN:N.length=2)(h:vI vs H Q E):vJ K {nx:=λ_ H'=>Q .non H',rt:=Q} (L2.start N vs) H:=by
 obtain⟨L,l,rfl,hL,hz,q⟩:=h;unfold vJ L2.start;rw[hN];nofun;refine⟨rfl,?_⟩;split
 .rename_i e
  subst e;exact q H (aI.refl _)
 .rename_i hne
  refine⟨rfl,l,[97],rfl,rfl,?_⟩;rw[Ra];refine⟨_,rfl,?_⟩
  by_cases he:l.getLast?=some 97
  .rw[decide_eq_true he,if_pos rfl];have:markB L l=false:=by unfold markB;rw[decide_eq_true he];simp
   rw[this] at q;exact q H (aI.refl _)
  .rw[decide_eq_false he,if_neg (by decide)];refine zb (l:=l) (λQ h=>⟨_,rfl,h⟩) (Nat.le_trans hz (by decide)) (λi ys H'=>H'=H/\ys=((l.take i).map λc=>decide (97<=c/\c<97+L)).map V.bl) ⟨rfl,rfl⟩
    (λi ys H' _ p=>by rw[p.2,length_map,length_map,length_take];omega) ?_ ?_
   .rintro i c ys H' hc ⟨rfl,rfl⟩ R hR;nofun;refine QV (by rw[oz];decide) ?_;rw[N6 (by omega) (by rw[oz];omega),toNat_natCast];refine⟨c,_,rfl,rfl,hR _ _ ⟨rfl,?_⟩⟩;rw[take_succ,hc,map_append,map_append];simp only[OE hL];rfl
   .rintro ys H' ⟨rfl,rfl⟩ p hp;refine⟨p,(l.map λc=>decide (97<=c/\c<97+L)),rfl,?_,?_⟩
    .rw[take_length];exact aZ.here
    .have e:(l.map λc=>decide (97<=c/\c<97+L)).all id=markB L l:=by
      unfold markB;rw[decide_eq_false hne,decide_eq_false he,List.all_map];rfl
     rw[e];exact q _ (aI.up _ hp)
theorem aI.set{o:HO}(s:aI H H')(hp:H p=none):aI H (upd H' p o):=λb q e=>by
 have:=s b q e;rw[aH (eO e hp)];exact this
theorem some_at{α:Type}{l:WR α}(h:i<l.length):∃c,l[i]?=some c:=⟨l[i],getElem?_eq_getElem h⟩
def ua:Sp:=λvs H Q _=>∃(L n:Nat),vs=[.int L,.int n]/\L<=26/\n<=100000/\Q (.int (L^n:Nat)) H
def zD:TS:=
  aJ (aY (tC (.int 1)) (aG 2))
   (aJ (iy (jW (ah (ai 1) az)) (aG 3) (aY (aS iF (ai 2) (ai 0)) (aG 2)))
   (bA (ai 2)))
theorem DG(hN:N.length=4)(h:ua vs H Q E):zD {nx:=λ_ H'=>Q .non H',rt:=Q} (L2.start N vs) H:=by
 obtain⟨L,n,rfl,hL,hn,q⟩:=h;unfold zD L2.start;rw[hN];nofun;refine qw (j:=n) (λQ h=>⟨_,rfl,h⟩) (by omega) (by omega) (λi Z H'=>H'=H/\∃v3,Z=[some (.int L),some (.int n),some (.int (L^i:Nat)),v3]) ⟨rfl,_,rfl⟩ ?_ ?_
 .rintro i Z H1 hi ⟨rfl,v3,rfl⟩;nofun;exact⟨iQ (by omega) (by omega),some (.int i),by rw[pow_succ,natCast_mul]⟩
 .rintro Z H1 ⟨rfl,v3,rfl⟩;nofun;rw[toNat_natCast];exact q
def dz(L:Nat):WQ->Nat->Nat
 |none,n=>L^n
 |some h,n=>val L h n
def zE:Sp:=λvs H Q _=>∃(L:Nat) (o:WQ) (n:Nat),vs=[.int L,oV o,.int n]/\L<=26/\Nn o/\n<=100000/\Q (.int (dz L o n:Nat)) H
def DH:TS:=
  aJ (cW (tB (uI (ai 1))) (bA (aF ua [] E0 (ah (ai 0) (ah (ai 2) az)))) (b8))
   (bA (aF pB [] E0 (ah (ai 0) (ah (ai 1) (ah (ai 2) az)))))
theorem Iz(hN:N.length=3)(h:zE vs H Q E):DH {nx:=λ_ H'=>Q .non H',rt:=Q} (L2.start N vs) H:=by
 obtain⟨L,o,n,rfl,hL,ho,hn,q⟩:=h;unfold DH L2.start;rw[hN];cases o with
 |none=>
  simp? [oV]
  exact⟨L,n,rfl,hL,hn,q⟩
 |some h=>
  simp? [oV]
  exact⟨L,some h,n,rfl,hL,ho,hn,q⟩
def pD:Sp:=λvs H Q _=>∃(L:Nat) (es:WM) (n:Nat),vs=[.int L,.str (txt es),.int n]/\0<L/\L<=26/\es.length<=26/\∀H',aI H H'->Q (.int (ob L es n:Nat)) H'
def zF(K:W.Frag):TS:=
  aJ (cX 3 (C3 (ai 1)) [2,0] (bD (aS N3 (ai 0) (aS m5 (tC (.str (txt xE))) (aS iE (ai 1) (ai 2))))) (ai 0))
   (bA (aS bS (aS iF (aS se (ai 2) (ai 0)) (dj oB (ah (ai 1) az))) (dj (b5 K) (ah (ai 3) az))))
theorem K8(a b:Nat):([a]<[b])↔a<b:=by
 rw[cons_lt_cons_iff];constructor
 .rintro(h|⟨_,h⟩)
  .exact h
  .exact absurd h (List.not_lt_nil _)
 .exact .inl
theorem DI(hN:N.length=4)(h:pD vs H Q E):zF K {nx:=λ_ H'=>Q .non H',rt:=Q} (L2.start N vs) H:=by
 obtain⟨L,es,n,rfl,hL0,hL,hes,q⟩:=h;unfold zF L2.start;rw[hN];have hm:=mod_lt n hL0;have e1:(n:Int)%(L:Int)=((n%L:Nat):Int):=(Int.natCast_emod _ _).symm;have e2:(n:Int)/(L:Int)=((n/L:Nat):Int):=(Int.natCast_ediv _ _).symm;nofun;refine zb (l:=es) (λQ h=>⟨_,rfl,h⟩) (Nat.le_trans (show es.length<=100000 by omega) (by decide)) (λi ys H'=>H'=H/\ys=((es.take i).filter λe=>decide (e<97+n%L)).map (λc=>ay [c])) ⟨rfl,rfl⟩
  (λi ys H' _ p=>by rw[p.2,length_map];exact Nat.le_trans (length_filter_le _ _) (by rw[length_take];omega)) ?_ ?_
 .rintro i c ys H' hc ⟨rfl,rfl⟩ R hR;nofun;rw[e1];refine⟨by omega,uZ (by omega) (by omega) ⟨_,_,rfl,rfl,_,rfl,?_⟩⟩
  rw[toNat_natCast];rw[take_succ,hc,filter_append,map_append] at hR
  by_cases hlt:c<97+n%L
  .rw[decide_eq_true ((K8 _ _).mpr hlt),if_pos rfl];refine hR _ _ ⟨rfl,?_⟩;show _=_++List.map _ (List.filter _ [c]);rw[List.filter_cons_of_pos (by simpa using hlt)];rfl
  .rw[decide_eq_false (λz=>hlt ((K8 _ _).mp z)),if_neg (by decide)];refine hR _ _ ⟨rfl,?_⟩;show _=_++List.map _ (List.filter _ [c]);rw[List.filter_cons_of_neg (by simpa using hlt)];simp
 .rintro ys H' ⟨rfl,rfl⟩ p hp;rw[e2];refine⟨cdiv (by omega) (by omega),iG (by omega) ⟨_,rfl,iQ (by omega) (by omega),?_⟩⟩;refine bG aZ.here ⟨_,rfl,?_⟩;rw[length_map,take_length];have:=q _ (aI.up H' hp (o:=HO.lst ((es.filter λe=>decide (e<97+n%L)).map (λc=>ay [c]))));unfold ob MM.cnt at this;rw[natCast_add,natCast_mul] at this;exact this
def pF:Sp:=λvs H Q _=>∃(L:Nat) (es:WM) (n:Nat),vs=[.int L,.str (txt es),.int n]/\0<L/\L<=26/\es.length<=26/\∀H',aI H H'->Q (.int (ob L es (n+1):Nat)) H'
def zG:TS:=bA (aF pD [] E0 (ah (ai 0) (ah (ai 1) (ah (aS bS (ai 2) (tC (.int 1))) az))))
theorem DJ(hN:N.length=3)(h:pF vs H Q E):zG {nx:=λ_ H'=>Q .non H',rt:=Q} (L2.start N vs) H:=by
 obtain⟨L,es,n,rfl,hL0,hL,hes,q⟩:=h;unfold zG L2.start;rw[hN];nofun;exact⟨L,es,n+1,rfl,hL0,hL,hes,q⟩
def kL:WQ->Nat->Nat->Nat
 |none,w,_=>w
 |some h,w,n=>if n<h.length then w+1 else w
def vK(b:Bool)(o:WQ)(w n:Nat):Nat:=if b=true then kL o w n else w
def uc:Sp:=λvs H Q _=>∃(L:Nat) (es:WM) (o:WQ) (w n:Nat) (b:Bool),vs=[.int L,.str (txt es),oV o,.int w,.int n,.bl b]/\0<L/\L<=26/\es.length<=26/\Nn o/\∀H',aI H H'->Q (.int (ob L es (vK b o w n):Nat)) H'
def zH:TS:=
  aJ (cW (qh (tB (ai 5)) (qh (tB (iY (ai 2))) (bD (aS xF (ai 4) (dj oB (ah (ai 2) az)))))) (bA (aF pD [] E0 (ah (ai 0) (ah (ai 1) (ah (aS bS (ai 3) (tC (.int 1))) az))))) (b8))
   (bA (aF pD [] E0 (ah (ai 0) (ah (ai 1) (ah (ai 3) az)))))
theorem DK(hN:N.length=6)(h:uc vs H Q E):zH {nx:=λ_ H'=>Q .non H',rt:=Q} (L2.start N vs) H:=by
 obtain⟨L,es,o,w,n,b,rfl,hL0,hL,hes,ho,q⟩:=h;unfold zH L2.start;rw[hN];cases b with
 |false=>
  nofun;exact⟨L,es,w,rfl,hL0,hL,hes,q⟩
 |true=>
  cases o with
  |none=>
   simp? [oV]
   exact⟨L,es,w,rfl,hL0,hL,hes,q⟩
  |some h=>
   simp? [oV]
   refine iG ho.2 ⟨_,rfl,?_⟩;have ea:vK true (some h) w n=if n<h.length then w+1 else w:=rfl
   rw[ea] at q
   by_cases hn:n<h.length
   .rw[if_pos (by omega)];rw[if_pos hn] at q;exact⟨L,es,w+1,rfl,hL0,hL,hes,q⟩
   .rw[if_neg (by omega)];rw[if_neg hn] at q;exact⟨L,es,w,rfl,hL0,hL,hes,q⟩
def iz(lo hi:WQ):Prop:=∀l h,lo=some l->hi=some h->l<h
def gF(c:Addr):Sp:=λvs H Q E=>∃lo hi:WQ,vs=[oV lo,oV hi]/\(iz lo hi->Q .non H)/\(¬iz lo hi->E (.ref c) none H)
def lS(c:Addr)(E:XK)(m:WM):TS:=
  cW (qh (tB (iY (ai 0))) (qh (tB (iY (ai 1))) (bD (aS VN (ai 0) (ai 1))))) (iT (.ref c) E (ah (tC (.str (txt m))) az)) (b8)
theorem zI{c:Addr}(hN:N.length=2)(h:gF c vs H Q E):lS c E m {nx:=λ_ H'=>Q .non H',rt:=Q} (L2.start N vs) H:=by
 obtain⟨lo,hi,rfl,q1,q2⟩:=h;unfold lS L2.start;rw[hN];cases lo with
 |none=>
  simp? [oV]
  exact q1 (λl h e=>nomatch e)
 |some l=>
  cases hi with
  |none=>
   simp? [oV]
   exact q1 (λl h _ e=>nomatch e)
  |some h=>
   simp? [oV]
   refine⟨l,h,rfl,rfl,_,rfl,?_⟩
   by_cases hl:l<h
   .rw[decide_eq_true hl,if_neg (by decide)];exact q1 (λl' h' e1 e2=>by cases e1;cases e2;exact hl)
   .rw[decide_eq_false hl,if_pos (by decide)];exact⟨by decide,q2 (λz=>hl (z l h rfl rfl))⟩
def BV(L:Nat)(es:WM)(lo hi:WQ)(n:Nat):Int:=(ob L es (kL hi (dz L hi n) n):Nat)-(ob L es (dG L lo n+1):Nat)
def iL(b:Bool)(L:Nat)(es:WM)(lo hi:WQ)(n:Nat):Int:=(ob L es (vK b hi (dz L hi n) n):Nat)-(ob L es (dG L lo n+1):Nat)
theorem DL(L:Nat)(es:WM)(lo hi:WQ)(n:Nat):iL true L es lo hi n=BV L es lo hi n:=rfl
def lT:Sp:=λvs H Q _=>∃(L:Nat) (es:WM) (lo hi:WQ) (n:Nat) (b:Bool),vs=[.int L,.str (txt es),oV lo,oV hi,.int n,.bl b]/\0<L/\L<=26/\es.length<=26/\Nn lo/\Nn hi/\n<=100000/\∀H',aI H H'->Q (.int (iL b L es lo hi n)) H'
def qL:TS:=
  aJ (aY (aF pB [] E0 (ah (ai 0) (ah (ai 2) (ah (ai 4) az)))) (aG 6))
   (aJ (aY (aF zE [] E0 (ah (ai 0) (ah (ai 3) (ah (ai 4) az)))) (aG 7))
   (aJ (aY (aF uc [] E0 (ah (ai 0) (ah (ai 1) (ah (ai 3) (ah (ai 7) (ah (ai 4) (ah (ai 5) az))))))) (aG 8))
   (bA (aS rZ (ai 8) (aF pF [] E0 (ah (ai 0) (ah (ai 1) (ah (ai 6) az))))))))
theorem zJ(hN:N.length=9)(h:lT vs H Q E):qL {nx:=λ_ H'=>Q .non H',rt:=Q} (L2.start N vs) H:=by
 obtain⟨L,es,lo,hi,n,b,rfl,l0,l26,hes,olo,ohi,hn,q⟩:=h;unfold qL L2.start;rw[hN];nofun;refine⟨L,lo,n,rfl,l26,olo,hn,?_⟩;refine⟨L,hi,n,rfl,l26,ohi,hn,?_⟩;refine⟨L,_,hi,_,n,b,rfl,l0,l26,hes,ohi,λH2 s2=>?_⟩;refine⟨L,_,_,rfl,l0,l26,hes,λH3 s3=>?_⟩;nofun;exact q _ (s2.trans s3)
structure DM(L h j:Nat)(lo hi:WQ)(n:Nat):Prop where
 l0:0<L
 l26:L<=26
 h0:0<h
 lo:Nn lo
 hi:Nn hi
 n:n<=100000
theorem jb(hL:L<=26):(bC L h j).length<=26:=by
 unfold bC;rw[length_map];exact Nat.le_trans (length_filter_le _ _) (by rw[length_range];omega)
def DN(c:Addr):Sp:=λvs H Q E=>∃(L h j:Nat) (lo hi:WQ) (n:Nat),vs=[.int L,.int h,.int j,oV lo,oV hi,.int n]/\DM L h j lo hi n/\(iz lo hi->∀H',aI H H'->Q (.int (BV L (bC L h j) lo hi n)) H')/\(¬iz lo hi->E (.ref c) none H)
def DO(c:Addr)(E:XK):TS:=
  aJ (bR (aF (gF c) [] E (ah (ai 3) (ah (ai 4) az))))
   (bA (aF lT [] E0 (ah (ai 0) (ah (aF qK [] E0 (ah (ai 0) (ah (ai 1) (ah (ai 2) az)))) (ah (ai 3) (ah (ai 4) (ah (ai 5) (ah (tC (.bl true)) az))))))))
theorem IA{c:Addr}(hN:N.length=6)(h:DN c vs H Q E):DO c E {nx:=λ_ H'=>Q .non H',rt:=Q} (L2.start N vs) H:=by
 obtain⟨L,h,j,lo,hi,n,rfl,R,q1,q2⟩:=h;unfold DO L2.start;rw[hN];nofun;refine⟨lo,hi,rfl,λok=>?_,q2⟩;nofun;refine⟨L,h,j,rfl,R.l26,R.h0,λH1 s1=>?_⟩;refine⟨L,_,lo,hi,n,true,rfl,R.l0,R.l26,jb R.l26,R.lo,R.hi,R.n,λH2 s2=>?_⟩;exact q1 ok _ (s1.trans s2)
def Fz(c:Addr):Sp:=λvs H Q E=>∃(L h j:Nat) (lo hi:WQ) (n k:Nat),vs=[.int L,.int h,.int j,oV lo,oV hi,.int n,.int k]/\DM L h j lo hi n/\j<h/\h+1<=L/\
 (iz lo hi->∀H',aI H H'->Q (.str (txt (mk L (xK L (bC L h j) (ob L (bC L h j) (dG L lo n+1)+k)) n))) H')/\(¬iz lo hi->E (.ref c) none H)
def K9(K:W.Frag)(c:Addr)(E:XK):TS:=
  aJ (bR (aF (gF c) [] E (ah (ai 3) (ah (ai 4) az))))
   (aJ (aY (aF qK [] E0 (ah (ai 0) (ah (ai 1) (ah (ai 2) az)))) (aG 7))
   (aJ (aY (aF pB [] E0 (ah (ai 0) (ah (ai 3) (ah (ai 5) az)))) (aG 8))
   (aJ (aY (aS bS (aF pF [] E0 (ah (ai 0) (ah (ai 7) (ah (ai 8) az)))) (ai 6)) (aG 9))
   (aJ (aY (xD K "str" yZ (tC (.str (txt xE))) (ah (aS m5 (ai 7) (aS iE (ai 9) (dj oB (ah (ai 7) az)))) az)) (aG 10))
   (bA (aF pC [] E0 (ah (ai 0) (ah (aS bS (aS iF (aS se (ai 9) (dj oB (ah (ai 7) az))) (ai 0)) (ai 10)) (ah (ai 5) az)))))))))
theorem La{c:Addr}(hN:N.length=11)(h:Fz c vs H Q E):K9 K c E {nx:=λ_ H'=>Q .non H',rt:=Q} (L2.start N vs) H:=by
 obtain⟨L,h,j,lo,hi,n,k,rfl,R,hj,hh,q1,q2⟩:=h;unfold K9 L2.start;rw[hN];nofun;refine⟨lo,hi,rfl,λok=>?_,q2⟩;have q1:=q1 ok;nofun;refine⟨L,h,j,rfl,R.l26,R.h0,λH1 s1=>?_⟩;have EN:=jv hj hh;have hel:=jb (h:=h) (j:=j) R.l26;generalize bC L h j=es at q1 EN hel ⊢;refine⟨L,lo,n,rfl,R.l26,R.lo,R.n,?_⟩;refine⟨L,_,_,rfl,R.l0,R.l26,hel,λH2 s2=>?_⟩;nofun;generalize ob L es (dG L lo n+1)=p0 at q1 ⊢;have hp:0<es.length:=length_pos_iff.mpr EN.ne;refine⟨rfl,iG (by omega) ⟨_,rfl,by omega,?_⟩⟩;have e1:((p0:Int)+(k:Int))%(es.length:Int)=(((p0+k)%es.length:Nat):Int):=by rw[<-natCast_add];exact(Int.natCast_emod _ _).symm
 have e2:((p0:Int)+(k:Int))/(es.length:Int)=(((p0+k)/es.length:Nat):Int):=by rw[<-natCast_add];exact(Int.natCast_ediv _ _).symm
 have hm:=mod_lt (p0+k) hp;obtain⟨c0,hc0⟩:=some_at hm;have hcm:=mem_of_getElem? hc0;have c1:=EN.lo c0 hcm;have c2:=EN.hi c0 hcm;have l26:=R.l26;rw[e1];refine C5 (by omega) (by omega) (by rw[toNat_natCast];exact hc0) (yi (by omega) (by omega) ?_);nofun;refine iG (by omega) ⟨_,rfl,cdiv (by omega) (by omega),iQ (by omega) (by omega),?_⟩;rw[e2];refine⟨L,xK L es (p0+k),n,?_,R.l0,R.l26,R.n,q1 _ (s1.trans s2)⟩;unfold xK;rw[getD_eq_getElem?_getD,hc0,natCast_add,natCast_mul];rfl
structure b7(L:Nat)(lo hi:WQ):Prop where
 mlo:∀m,lo=some m->Mark L m/\m.length<=1000
 mhi:∀m,hi=some m->Mark L m/\m.length<=1000
def cY:WQ->Nat
 |none=>0
 |some l=>l.length
structure jZ(L h j:Nat):Prop where
 l2:2<=L
 l26:L<=26
 hj:j<h
 hh:h+1<=L
structure jy(b:Bool)(L:Nat)(es:WM)(lo hi:WQ)(k n:Nat):Prop where
 pos:1<=n
 len:n<=1+cY lo+k\/n<=1+cY hi+k
 room:(k:Int)<=iL b L es lo hi n
 less:∀m,1<=m->m<n->iL b L es lo hi m<k
theorem jy.one{b:Bool}{k m:Nat}(A:jy b L es lo hi k n)(B:jy b L es lo hi k m):n=m:=by
 rcases lt_trichotomy n m with h|h|h
 .have:=B.less n A.pos h;have:=A.room;omega
 .exact h
 .have:=A.less m B.pos h;have:=B.room;omega
theorem b7.VB(M:b7 L lo hi)(hL:L<=26):Nn lo/\Nn hi:=by
 constructor
 .cases lo with
  |none=>trivial
  |some m=>exact⟨(M.mlo m rfl).1.ls.mono hL,by have:=(M.mlo m rfl).2;omega⟩
 .cases hi with
  |none=>trivial
  |some m=>exact⟨(M.mhi m rfl).1.ls.mono hL,by have:=(M.mhi m rfl).2;omega⟩
theorem b7.Lb(M:b7 L lo hi)(D:jZ L h j)(hn:n<=100000):DM L h j lo hi n:=
 ⟨by have:=D.l2;omega,D.l26,by have:=D.hj;omega,(M.VB D.l26).1,(M.VB D.l26).2,hn⟩
theorem b7.lens(M:b7 L lo hi):cY lo<=1000/\cY hi<=1000:=by
 constructor
 .cases lo with
  |none=>exact zero_le _
  |some m=>exact(M.mlo m rfl).2
 .cases hi with
  |none=>exact zero_le _
  |some m=>exact(M.mhi m rfl).2
theorem jz(L:Nat)(o:WQ)(n:Nat):dz L o (n+1)=dz L o n*L+vG o n:=by
 cases o with
 |none=>show L^(n+1)=L^n*L+0;rw[pow_succ];rfl
 |some l=>exact val_succ L l n
theorem jc{o:WQ}(h:cY o<=n):vG o n=0:=by
 cases o with
 |none=>rfl
 |some l=>show Of l n=0;unfold Of;rw[getElem?_eq_none h]
theorem yu(hL:0<L)(M:b7 L lo hi)(ok:iz lo hi)(h1:cY lo<=n)(h2:cY hi<=n):dG L lo n<dz L hi n:=by
 cases lo with
 |none=>
  cases hi with
  |none=>exact Nat.pow_pos hL
  |some h=>exact tY hL n (M.mhi h rfl).1.ls (M.mhi h rfl).1.na (M.mhi h rfl).1.ne h2
 |some l=>
  cases hi with
  |none=>exact gm hL n (M.mlo l rfl).1.ls
  |some h=>exact(Dc hL n (M.mlo l rfl).1.ls (M.mhi h rfl).1.ls (M.mlo l rfl).1.na (M.mhi h rfl).1.na h1 h2).mp (ok l h rfl rfl)
theorem BW(hL:2<=L)(M:b7 L lo hi)(ok:iz lo hi)(h1:cY lo<=n)(h2:cY hi<=n):∀t,dG L lo (n+t)+(t+1)<=dz L hi (n+t)
 | 0=>yu (by omega) M ok h1 h2
 |t+1=>by
  have ih:=BW hL M ok h1 h2 t;rw[show n+(t+1)=n+t+1 by omega,ja,jz,jc (by omega),jc (by omega),add_zero,add_zero]
  have:=mul_le_mul_right L ih;rw[add_mul] at this;have h3:(t+1)*2<=(t+1)*L:=Nat.mul_le_mul_left _ hL;omega
theorem yw(hL:0<L)(E:MM.Ends L es)(v d:Nat):ob L es (v*L+1)+d<=ob L es ((v+d)*L):=by
 have hp:0<es.length:=length_pos_iff.mpr E.ne;obtain⟨e,he⟩:=List.exists_mem_of_ne_nil _ E.ne;have h1:=E.lo e he;have h2:=E.hi e he;have m1:(v*L+1)/L=v:=by rw[mul_comm,Nat.mul_add_div hL,Nat.div_eq_of_lt (by omega)];rfl
 have m2:(v*L+1)%L=1:=by rw[mul_comm,Nat.mul_add_mod,mod_eq_of_lt (by omega)]
 unfold ob;rw[m1,m2,Nat.mul_div_cancel _ hL,Nat.mul_mod_left,add_zero,Fc E.lo];have:MM.cnt es (97+1)=0:=by
  unfold MM.cnt;rw[length_eq_zero_iff,filter_eq_nil_iff];intro e he;have:=E.lo e he;simp only[decide_eq_true_eq];omega
 rw[this,add_mul];have:=Nat.le_mul_of_pos_right d hp;omega
theorem IB{b:Bool}{k:Nat}(hL:2<=L)(E:MM.Ends L es)(M:b7 L lo hi)(ok:iz lo hi)(h1:cY lo<=n)(h2:cY hi<=n):(k:Int)<=iL b L es lo hi (n+k+1):=by
 have hv:=BW hL M ok h1 h2 k;have hL0:0<L:=by omega
 have ea:vK b hi (dz L hi (n+k+1)) (n+k+1)=dz L hi (n+k+1):=by
  cases b with
  |false=>rfl
  |true=>
   cases hi with
   |none=>rfl
   |some h=>
    show (if n+k+1<h.length then _ else _)=_;have h2:h.length<=n:=h2;rw[if_neg (by omega)]
 unfold iL;rw[ea,jz,ja,jc (by omega),jc (by omega),add_zero,add_zero];have b:=yw hL0 E (dG L lo (n+k)) k;have m:=ju hL0 E (mul_le_mul_right L (show dG L lo (n+k)+k<=dz L hi (n+k) by omega));omega
theorem DP{b:Bool}(hL:2<=L)(E:MM.Ends L es)(M:b7 L lo hi)(ok:iz lo hi)(h1:cY lo<=n)(h2:cY hi<=n):0<iL b L es lo hi (n+1):=by
 have hv:=yu (by omega) M ok h1 h2;have hL0:0<L:=by omega
 have ea:vK b hi (dz L hi (n+1)) (n+1)=dz L hi (n+1):=by
  cases b with
  |false=>rfl
  |true=>
   cases hi with
   |none=>rfl
   |some h=>
    show (if n+1<h.length then _ else _)=_;have h2:h.length<=n:=h2;rw[if_neg (by omega)]
 unfold iL;rw[ea,jz,ja,jc h1,jc h2,add_zero,add_zero];have b:=yw hL0 E (dG L lo n) 1;have m:=ju hL0 E (mul_le_mul_right L (show dG L lo n+1<=dz L hi n by omega));omega
theorem jy.Lc{b:Bool}(A:jy b L es lo hi 1 n)(hL:2<=L)(E:MM.Ends L es)(M:b7 L lo hi)(ok:iz lo hi):n<=1+max (cY lo) (cY hi):=by
 rcases lt_or_ge (1+max (cY lo) (cY hi)) n with z|z
 .have r:=DP (b:=b) hL E M ok (n:=max (cY lo) (cY hi)) (Nat.le_max_left _ _) (Nat.le_max_right _ _);have:=A.less (max (cY lo) (cY hi)+1) (by omega) (by omega);omega
 .exact z
def pG:Sp:=λvs H Q _=>∃(L:Nat) (es:WM) (lo hi:WQ) (k:Nat) (b:Bool),vs=[.int L,.str (txt es),oV lo,oV hi,.int k,.bl b]/\2<=L/\L<=26/\es.length<=26/\MM.Ends L es/\b7 L lo hi/\iz lo hi/\1<=k/\k<=10000/\∀H' n,aI H H'->jy b L es lo hi k n->Q (.int n) H'
def vL:TS:=
  aJ (aY (tC (.int 0)) (aG 6))
   (aJ (aY (tC (.int 0)) (aG 7))
   (aJ (aY (tC (.int 0)) (aG 8))
   (aJ (aY (aF zE [] E0 (ah (ai 0) (ah (ai 3) (ah (tC (.int 0)) az)))) (aG 9))
   (aJ (qk (bD (aS xF (ai 7) (ai 4))) (aJ (aY (aS bS (aS iF (ai 8) (ai 0)) (aF BR [] E0 (ah (ai 2) (ah (ai 6) az)))) (aG 8))
   (aJ (aY (aS bS (aS iF (ai 9) (ai 0)) (aF BR [] E0 (ah (ai 3) (ah (ai 6) az)))) (aG 9))
   (aJ (aY (aS bS (ai 6) (tC (.int 1))) (aG 6))
   (aJ (aY (aF uc [] E0 (ah (ai 0) (ah (ai 1) (ah (ai 3) (ah (ai 9) (ah (ai 6) (ah (ai 5) az))))))) (aG 10))
   (aY (aS rZ (ai 10) (aF pF [] E0 (ah (ai 0) (ah (ai 1) (ah (ai 8) az))))) (aG 7)))))))
   (bA (ai 6))))))
theorem BX(hN:N.length=11)(h:pG vs H Q E):vL {nx:=λ_ H'=>Q .non H',rt:=Q} (L2.start N vs) H:=by
 obtain⟨L,es,lo,hi,k,b,rfl,hl2,Ld,hel,EN,M,ok,hk1,hk2,q1⟩:=h;unfold vL L2.start;rw[hN];have hL0:0<L:=by omega
 obtain⟨okl,okh⟩:=M.VB Ld;have hlen:=M.lens;nofun;refine⟨L,hi,0,rfl,Ld,okh,by omega,?_⟩;have rl:=IB (b:=b) (n:=max (cY lo) (cY hi)) (k:=k) hl2 EN M ok (Nat.le_max_left _ _) (Nat.le_max_right _ _);have mx:max (cY lo) (cY hi)=cY lo\/max (cY lo) (cY hi)=cY hi:=by omega
 generalize max (cY lo) (cY hi)=N1 at rl mx;obtain⟨N0,hN0⟩:∃N0,N0=N1+k:=⟨_,rfl⟩;rw[<-hN0] at rl;refine u0 (λm Z H'=>∃(n:Nat) (r:Int) (v10:Option V),aI H H'/\Z=[some (.int L),some (.str (txt es)),some (oV lo),some (oV hi),some (.int k),some (.bl b),some (.int n),some (.int r),some (.int (dG L lo n:Nat)),some (.int (dz L hi n:Nat)),v10]/\n<=N0+1/\m=N0+1-n/\((n=0/\r=0)\/(1<=n/\r=iL b L es lo hi n))/\∀m',1<=m'->m'<n->iL b L es lo hi m'<k) (N0+1)
  ⟨0,0,none,aI.refl _,by rw[yt];rfl,by omega,by omega,.inl ⟨rfl,rfl⟩,λm' h1 h2=>by omega⟩ ?_
 rintro m Z H2 ⟨n,r,v10,s2,rfl,hn,hm,hr,hp⟩ R hgo hstop;nofun
 by_cases hr1:r<k
 .rw[decide_eq_true hr1];refine hgo H2 ?_;have hnN:n<=N0:=by
   by_cases z:n=N0+1
   .subst z
    rcases hr with⟨z,_⟩|⟨_,z⟩
    .omega
    .omega
   .omega
  nofun;refine⟨iQ (by omega) (by omega),lo,n,rfl,okl,?_⟩;nofun;refine⟨iQ (by omega) (by omega),hi,n,rfl,okh,?_⟩;nofun;have e1:((dG L lo n:Nat):Int)*(L:Int)+(vG lo n:Nat)=(dG L lo (n+1):Nat):=by rw[ja,natCast_add,natCast_mul]
  have e2:((dz L hi n:Nat):Int)*(L:Int)+(vG hi n:Nat)=(dz L hi (n+1):Nat):=by rw[jz,natCast_add,natCast_mul]
  have e3:(n:Int)+1=((n+1:Nat):Int):=rfl;rw[e1,e2,e3];refine⟨L,es,hi,_,n+1,b,rfl,hL0,Ld,hel,okh,λH3 s3=>?_⟩;refine⟨L,es,_,rfl,hL0,Ld,hel,λH4 s4=>?_⟩;nofun;refine⟨N0+1-(n+1),by omega,(s2.trans s3).trans s4,n+1,iL b L es lo hi (n+1),_,rfl,by omega,rfl,.inr ⟨by omega,rfl⟩,λm' h1 h2=>?_⟩
  by_cases z:m'=n
  .subst z
   rcases hr with⟨z,_⟩|⟨_,z⟩
   .omega
   .omega
  .exact hp m' h1 (by omega)
 .rw[decide_eq_false hr1];refine hstop H2 ?_;nofun
  rcases hr with⟨z,z2⟩|⟨z,rfl⟩
  .omega
  .exact q1 _ n s2 ⟨z,by omega,by omega,hp⟩
def zK(c:Addr):Sp:=λvs H Q E=>∃(L h j:Nat) (lo hi:WQ) (k:Nat),vs=[.int L,.int h,.int j,oV lo,oV hi,.int k]/\jZ L h j/\b7 L lo hi/\1<=k/\k<=10000/\(iz lo hi->∀H' n,aI H H'->jy true L (bC L h j) lo hi k n->Q (.int n) H')/\(¬iz lo hi->E (.ref c) none H)
def zL(c:Addr)(E:XK):TS:=
  aJ (bR (aF (gF c) [] E (ah (ai 3) (ah (ai 4) az))))
   (bA (aF pG [] E0 (ah (ai 0) (ah (aF qK [] E0 (ah (ai 0) (ah (ai 1) (ah (ai 2) az)))) (ah (ai 3) (ah (ai 4) (ah (ai 5) (ah (tC (.bl true)) az))))))))
theorem DQ{c:Addr}(hN:N.length=6)(h:zK c vs H Q E):zL c E {nx:=λ_ H'=>Q .non H',rt:=Q} (L2.start N vs) H:=by
 obtain⟨L,h,j,lo,hi,k,rfl,D,M,hk1,hk2,q1,q2⟩:=h;unfold zL L2.start;rw[hN];nofun;refine⟨lo,hi,rfl,λok=>?_,q2⟩;nofun;refine⟨L,h,j,rfl,D.l26,by have:=D.hj;omega,λH1 s1=>?_⟩;exact⟨L,_,lo,hi,k,true,rfl,D.l2,D.l26,jb D.l26,jv (K:=L) D.hj D.hh,M,ok,hk1,hk2,λH2 n s2 LN=>q1 ok _ n (s1.trans s2) LN⟩
def BY:WQ->WQ->Int->Int
 |some _,none,_=>0
 |none,some _,z=>z-1
 |_,_,z=>(z-1)/2
def DR:Sp:=λvs H Q _=>∃(lo hi:WQ) (z:Int),vs=[oV lo,oV hi,.int z]/\Q (.int (BY lo hi z)) H
def DS:TS:=
  aJ (cW (qh (tB (uI (ai 1))) (tB (iY (ai 0)))) (bA (tC (.int 0))) (b8))
   (aJ (cW (qh (tB (uI (ai 0))) (tB (iY (ai 1)))) (bA (aS rZ (ai 2) (tC (.int 1)))) (b8))
   (bA (aS se (aS rZ (ai 2) (tC (.int 1))) (tC (.int 2)))))
theorem IC(hN:N.length=3)(h:DR vs H Q E):DS {nx:=λ_ H'=>Q .non H',rt:=Q} (L2.start N vs) H:=by
 obtain⟨lo,hi,z,rfl,q⟩:=h;unfold DS L2.start;rw[hN];cases lo<;>cases hi
 .simp? [oV]
  exact⟨cdiv (by decide) (by decide),q⟩
 .simp? [oV]
  exact q
 .simp? [oV]
  exact q
 .simp? [oV]
  exact⟨cdiv (by decide) (by decide),q⟩
structure Found(L:Nat)(es:WM)(lo hi:WQ)(n w:Nat)(m:WM):Prop where
 least:jy true L es lo hi 1 n
 eq:m=low L w n
 own:ow L es w=true
 ge:dG L lo n+1<=w
 lt:w<kL hi (dz L hi n) n
 at_:(ob L es w:Int)=(ob L es (dG L lo n+1):Int)+BY lo hi (BV L es lo hi n)
def qM(c:Addr):Sp:=λvs H Q E=>∃(L h j:Nat) (lo hi:WQ),vs=[.int L,.int h,.int j,oV lo,oV hi]/\jZ L h j/\b7 L lo hi/\(iz lo hi->∀H' n w m,aI H H'->Found L (bC L h j) lo hi n w m->Q (.str (txt m)) H')/\(¬iz lo hi->E (.ref c) none H)
def qN(c:Addr)(E:XK):TS:=
  aJ (aY (aF (zK c) [] E (ah (ai 0) (ah (ai 1) (ah (ai 2) (ah (ai 3) (ah (ai 4) (ah (tC (.int 1)) az))))))) (aG 5))
   (aJ (aY (aF (DN c) [] E (ah (ai 0) (ah (ai 1) (ah (ai 2) (ah (ai 3) (ah (ai 4) (ah (ai 5) az))))))) (aG 6))
   (bA (aF (Fz c) [] E (ah (ai 0) (ah (ai 1) (ah (ai 2) (ah (ai 3) (ah (ai 4) (ah (ai 5) (ah (aF DR [] E0 (ah (ai 3) (ah (ai 4) (ah (ai 6) az)))) az))))))))))
theorem OF(lo hi:WQ){z:Int}(h:0<z):0<=BY lo hi z/\BY lo hi z<z:=by
 cases lo<;>cases hi<;>simp only[BY]<;>omega
theorem zM{c:Addr}(hN:N.length=7)(h:qM c vs H Q E):qN c E {nx:=λ_ H'=>Q .non H',rt:=Q} (L2.start N vs) H:=by
 obtain⟨L,h,j,lo,hi,rfl,D,M,q1,q2⟩:=h;unfold qN L2.start;rw[hN];nofun;refine⟨L,h,j,lo,hi,1,rfl,D,M,by omega,by omega,λok H1 n s1 LN=>?_,q2⟩;have hl2:=D.l2;have hL0:0<L:=by omega
 have EN:=jv (K:=L) D.hj D.hh;have hlen:=M.lens;have hn:n<=1002:=by have:=LN.len;omega
 have Rm:=M.Lb (n:=n) D (by omega);refine⟨L,h,j,lo,hi,n,rfl,Rm,λ_ H2 s2=>?_,λz=>absurd ok z⟩;refine⟨lo,hi,_,rfl,?_⟩;have LNr:0<BV L (bC L h j) lo hi n:=by have:=LN.room;rw[DL] at this;omega
 obtain⟨t0,t1⟩:=OF lo hi LNr;obtain⟨k,hk⟩:=eq_ofNat_of_zero_le t0;refine⟨L,h,j,lo,hi,n,k,by rw[hk],Rm,D.hj,D.hh,λ_ H3 s3=>?_,λz=>absurd ok z⟩;have q:=q1 ok H3 n (xK L (bC L h j) (ob L (bC L h j) (dG L lo n+1)+k)) (low L (xK L (bC L h j) (ob L (bC L h j) (dG L lo n+1)+k)) n) ((s1.trans s2).trans s3);obtain⟨n',rfl⟩:∃n',n=n'+1:=⟨n-1,by have:=LN.pos;omega⟩;rw[Kx hL0 (Fd EN _)];obtain⟨o1,o2⟩:=Dg hL0 EN (ob L (bC L h j) (dG L lo (n'+1)+1)+k);have hri:BV L (bC L h j) lo hi (n'+1)=(ob L (bC L h j) (kL hi (dz L hi (n'+1)) (n'+1)):Nat)-(ob L (bC L h j) (dG L lo (n'+1)+1):Nat):=rfl;obtain⟨i1,i2⟩:=Ky hL0 EN (A:=dG L lo (n'+1)+1) (B:=kL hi (dz L hi (n'+1)) (n'+1)) (p:=ob L (bC L h j) (dG L lo (n'+1)+1)+k) (by omega) (by omega);exact q ⟨LN,rfl,o2,i1,i2,by rw[o1,hk];omega⟩
theorem FA(hL:0<L)(w:Nat):ow L (bC L h j) w=true↔0<w%L/\(w%L-1)%h=j:=by
 unfold ow;rw[decide_eq_true_iff,qD];have:=mod_lt w hL;constructor
 .rintro⟨i,h1,h2,h3⟩;have:w%L=i+1:=by omega
  rw[this];exact⟨by omega,h2⟩
 .rintro⟨h1,h2⟩;exact⟨w%L-1,by omega,h2,by omega⟩
theorem FD{w:Nat}(hL:0<L)(hw:w<L^(n+1))(h0:w%L≠0){l:WM}(hl:Ls L l):l<low L w (n+1)↔val L l (n+1)+1<=w:=by
 rw[Fb hL (n+1) hl (qB hL _ _) (λc hc=>by rw[oS hL] at hc;have:=Option.some.inj hc;omega) (low_length _ _ _),g7 hL,mod_eq_of_lt hw];omega
theorem Le{w:Nat}(hL:0<L)(hw:w<L^n){h:WM}(hh:Ls L h)(na:Na h):low L w n<h↔w<kL (some h) (val L h n) n:=by
 rw[By hL n hh (qB hL _ _) na (low_length _ _ _),g7 hL,mod_eq_of_lt hw];have e:kL (some h) (val L h n) n=if n<h.length then val L h n+1 else val L h n:=rfl
 rw[e]
 by_cases z:n<h.length
 .rw[if_pos z];omega
 .rw[if_neg z];omega
theorem Lf(n:Nat)(hL:0<L)(M:b7 L lo hi):kL hi (dz L hi n) n<=L^n:=by
 cases hi with
 |none=>exact le_refl _
 |some h=>
  have v:=gm hL n (M.mhi h rfl).1.ls;show (if n<h.length then val L h n+1 else val L h n)<=L^n;split<;>omega
theorem OG{k R:Nat}(h:k<=R):i+1<=(i+1)*(R+1)/(k+1):=by
 rw[Nat.le_div_iff_mul_le (by omega)];exact Nat.mul_le_mul_left _ (by omega)
theorem OH{k R:Nat}(h:i<k):(i+1)*(R+1)/(k+1)<R+1:=by
 rw[Nat.div_lt_iff_lt_mul (by omega),mul_comm (R+1)];exact Nat.mul_lt_mul_of_pos_right (by omega) (by omega)
theorem ID{k R:Nat}(h:k<=R):(i+1)*(R+1)/(k+1)+1<=(i+1+1)*(R+1)/(k+1):=by
 rw[Nat.le_div_iff_mul_le (by omega),add_mul,one_mul,add_mul (i+1) 1,one_mul];have:=Nat.div_mul_le_self ((i+1)*(R+1)) (k+1);omega
def vM:Sp:=λvs H Q _=>∃(m W:Nat),vs=[.int m,.int W]/\m<=100000/\∀p,H p=none->Q (.ref p) (upd H p (.lst ((List.range m).map λ(k:Nat)=>V.int (((k+1)*W/(m+1):Nat):Int))))
def vN:TS:=bA (dw (jW (ah (ai 0) az)) [1,0] gO (aS se (aS iF (aS bS (ai 0) (tC (.int 1))) (ai 1)) (aS bS (ai 2) (tC (.int 1)))))
theorem BZ(hN:N.length=2)(h:vM vs H Q E):vN {nx:=λ_ H'=>Q .non H',rt:=Q} (L2.start N vs) H:=by
 obtain⟨m,W,rfl,hm,q⟩:=h;unfold vN L2.start;rw[hN];nofun;refine E4 (j:=m) (λQ h=>⟨_,rfl,h⟩) (by omega) (by omega) (Nat.le_trans (show (m:Int).toNat<=100000 by omega) (by decide))
  (λi ys H'=>H'=H/\ys=(List.range i).map λ(k:Nat)=>V.int (((k+1)*W/(m+1):Nat):Int)) ⟨rfl,rfl⟩
  (λi ys H' _ p=>by rw[p.2,length_map,length_range];exact le_refl _) ?_ ?_
 .rintro i ys H' hi ⟨rfl,rfl⟩ R hR;nofun;refine⟨C6 (by omega) (by omega),cdiv (by omega) (by omega),hR _ _ ⟨rfl,?_⟩⟩;rw[range_succ,map_append,map_cons,map_nil,Int.natCast_ediv,natCast_mul];rfl
 .rintro ys H' ⟨rfl,rfl⟩ p hp;rw[toNat_natCast];exact q p hp
structure fF(L m n:Nat):Prop where
 lt:m<L^n
 less:∀i,i<n->L^i<=m
theorem fF.le{m:Nat}(A:fF L m n)(hL:2<=L):n<=m:=by
 rcases lt_or_ge m n with h|h
 .have h1:=A.less m h;have:=Nat.lt_pow_self (n:=m) (show 1<L by omega);omega
 .exact h
def qO:Sp:=λvs H Q _=>∃(L m:Nat),vs=[.int L,.int m]/\2<=L/\L<=26/\∀n,fF L m n->Q (.int n) H
def qP:TS:=
  aJ (aY (tC (.int 0)) (aG 2))
   (aJ (aY (tC (.int 1)) (aG 3))
   (aJ (qk (bD (aS xF (aS rZ (ai 3) (tC (.int 1))) (ai 1))) (aJ (aY (aS iF (ai 3) (ai 0)) (aG 3))
   (aY (aS bS (ai 2) (tC (.int 1))) (aG 2))))
   (bA (ai 2))))
theorem zN(hN:N.length=4)(h:qO vs H Q E):qP {nx:=λ_ H'=>Q .non H',rt:=Q} (L2.start N vs) H:=by
 obtain⟨L,m,rfl,hL,dY,q⟩:=h;unfold qP L2.start;rw[hN];nofun;refine u0 (λx Z H'=>H'=H/\∃(n:Nat),Z=[some (.int L),some (.int m),some (.int n),some (.int (L^n:Nat))]/\x=m+1-n/\∀i,i<n->L^i<=m) (m+1) ⟨rfl,0,rfl,by omega,λi hi=>by omega⟩ ?_;rintro x Z H2 ⟨rfl,n,rfl,hx,hp⟩ R hgo hstop;nofun;have WJ:=Nat.lt_pow_self (n:=n) (show 1<L by omega)
 by_cases h1:((L^n:Nat):Int)-1<(m:Int)
 .rw[decide_eq_true h1];refine hgo _ ?_;nofun;refine⟨iQ (by omega) (by omega),m+1-(n+1),by omega,n+1,by rw[pow_succ,natCast_mul];rfl,rfl,λi hi=>?_⟩
  by_cases e:i=n
  .subst e;omega
  .exact hp i (by omega)
 .rw[decide_eq_false h1];refine hstop _ ?_;nofun;exact q n ⟨by omega,hp⟩
def tF(L m n k:Nat):Nat:=(k+1)*L^n/(m+1)
def kM(L m n:Nat):WN:=(List.range m).map λk=>mk L (tF L m n k) n
theorem zO{m k:Nat}(R:fF L m n)(hk:k<m):0<tF L m n k/\tF L m n k<L^n:=by
 have h:=R.lt;obtain⟨r,hr⟩:∃r,L^n=r+1:=⟨L^n-1,by omega⟩;unfold tF;rw[hr];have:=OG (i:=k) (k:=m) (R:=r) (by omega);have:=OH (R:=r) hk;omega
theorem IE{m k:Nat}(R:fF L m n):tF L m n k<tF L m n (k+1):=by
 have h:=R.lt;obtain⟨r,hr⟩:∃r,L^n=r+1:=⟨L^n-1,by omega⟩;unfold tF;rw[hr];have:=ID (i:=k) (k:=m) (R:=r) (by omega);omega
theorem FE{m:Nat}(R:fF L m n):∀{j:Nat},i<j->tF L m n i<tF L m n j
 |j+1,h=>by
  have h1:=IE (k:=j) R
  rcases eq_or_lt_of_le (Nat.le_of_lt_succ h) with e|h2
  .subst e;exact h1
  .exact Nat.lt_trans (FE R h2) h1
theorem FF{m:Nat}(hL:0<L)(R:fF L m n):(kM L m n).Pairwise (·<·):=by
 unfold kM;rw[pairwise_map];refine List.Pairwise.imp_of_mem ?_ (List.pairwise_lt_range (n:=m));intro i j hi hj hij;have hi:=mem_range.mp hi;have hj:=mem_range.mp hj;have a:=zO R hi;have b:=zO R hj;have c:=FE R hij;rw[Dc hL n (Ku hL _ _) (Ku hL _ _) (Kv _ _ _) (Kv _ _ _) (Dd _ _ _) (Dd _ _ _),mk_val hL a.2,mk_val hL b.2];exact c
theorem B0{m:Nat}(hL:0<L)(R:fF L m n):∀x∈kM L m n,Mark L x/\x.length<=n:=λx hx=>by
 unfold kM at hx;obtain⟨k,hk,rfl⟩:=mem_map.mp hx;have a:=zO R (mem_range.mp hk);exact⟨Og hL a.1 a.2,Dd _ _ _⟩
theorem vO(L m n:Nat):(kM L m n).length=m:=by
 unfold kM;rw[length_map,length_range]
theorem Lg{m k:Nat}(h:k<m):(kM L m n)[k]?=some (mk L (tF L m n k) n):=by
 unfold kM;rw[getElem?_map,List.getElem?_range h];rfl
def qQ:Sp:=λvs H Q _=>∃(L m:Nat),vs=[.int L,.int m]/\2<=L/\L<=26/\m<=10000/\∀H' n p,fF L m n->aI H H'->H' p=none->Q (.ref p) (upd H' p (.lst ((kM L m n).map ay)))
def qR(K:W.Frag):TS:=
  aJ (aY (aF qO [] E0 (ah (ai 0) (ah (ai 1) az))) (aG 2))
   (bA (dw (bV K (aF vM [] E0 (ah (ai 1) (ah (aF ua [] E0 (ah (ai 0) (ah (ai 2) az))) az)))) [0,2] gO (aF pC [] E0 (ah (ai 1) (ah (ai 0) (ah (ai 2) az))))))
theorem zP(hN:N.length=3)(h:qQ vs H Q E):qR K {nx:=λ_ H'=>Q .non H',rt:=Q} (L2.start N vs) H:=by
 obtain⟨L,m,rfl,hL,dY,hm,q⟩:=h;unfold qR L2.start;rw[hN];nofun;refine⟨L,m,rfl,hL,dY,λn R=>?_⟩;have hn:=R.le hL;refine tX λR0 hR0=>?_;simp? [bV]
 refine⟨L,n,rfl,dY,by omega,?_⟩;refine⟨m,L^n,rfl,by omega,λp hp=>?_⟩;refine⟨_,rfl,⟨_,aZ.here⟩,?_⟩;rw[hR0];refine kD (xs:=(List.range m).map λ(k:Nat)=>V.int (((k+1)*L^n/(m+1):Nat):Int)) (λi ys H'=>H'=upd H p (.lst ((List.range m).map λ(k:Nat)=>V.int (((k+1)*L^n/(m+1):Nat):Int)))/\ys=((List.range i).map λk=>mk L (tF L m n k) n).map ay) ⟨rfl,rfl⟩
  (λi ys H' _ p=>⟨by rw[p.1];exact aZ.here,by rw[p.2,length_map,length_map,length_range];exact le_refl _⟩) (by rw[length_map,length_range,sizeLine_eq];omega) ?_ ?_
 .rintro i x ys H' hx ⟨rfl,rfl⟩ R1 hR1;rw[getElem?_map] at hx;have hik:i<m:=by
   rcases lt_or_ge i m with z|z
   .exact z
   .rw[getElem?_eq_none (by rw[length_range];exact z)] at hx;cases hx
  rw[List.getElem?_range hik] at hx;cases Option.some.inj hx;nofun;refine⟨L,tF L m n i,n,rfl,by omega,dY,by omega,hR1 _ _ ⟨rfl,?_⟩⟩
  rw[range_succ,map_append,map_append,map_cons,map_nil,map_cons,map_nil];rfl
 .rintro ys H' ⟨rfl,rfl⟩ p2 hp2;rw[length_map,length_range];exact q _ n p2 R (aI.up _ hp) hp2
def dH(H:Hp):WR V->WR (V×V)->Prop
 |[],[]=>True
 |x::xs,p::ps=>(∃t,x=.ref t/\H t=some (.tup [p.1,p.2]))/\dH H xs ps
 |_,_=>False
theorem dH.keep(k:∀t ys,H t=some (.tup ys)->H' t=some (.tup ys)):∀{xs:WR V} {ps:WR (V×V)},dH H xs ps->dH H' xs ps
 |[],[],_=>trivial
 |[],_::_,h=>h.elim
 |_::_,[],h=>h.elim
 |_::_,_::_,⟨⟨t,e,h⟩,r⟩=>⟨⟨t,e,k t _ h⟩,dH.keep k r⟩
theorem dH.same{ps:WR (V×V)}(h:dH H xs ps)(s:aI H H'):dH H' xs ps:=h.keep λt ys e=>s t _ e
theorem dH.app:∀{xs:WR V} {ps:WR (V×V)} {ys:WR V} {qs:WR (V×V)},dH H xs ps->dH H ys qs->dH H (xs++ys) (ps++qs)
 |[],[],_,_,_,h=>h
 |[],_::_,_,_,h,_=>h.elim
 |_::_,[],_,_,h,_=>h.elim
 |_::_,_::_,_,_,⟨a,r⟩,h=>⟨a,dH.app r h⟩
theorem dH.len:∀{xs:WR V} {ps:WR (V×V)},dH H xs ps->xs.length=ps.length
 |[],[],_=>rfl
 |[],_::_,h=>h.elim
 |_::_,[],h=>h.elim
 |_::_,_::_,⟨_,r⟩=>by rw[length_cons,length_cons,dH.len r]
theorem dH.get:∀{xs:WR V} {ps:WR (V×V)} {i:Nat} {x:V},dH H xs ps->xs[i]?=some x->∃p t,ps[i]?=some p/\x=.ref t/\H t=some (.tup [p.1,p.2])
 |[],_,_,_,_,e=>by simp at e
 |_::_,[],_,_,h,_=>h.elim
 |_::_,p::_,0,_,⟨⟨t,e1,h⟩,_⟩,e=>by
  have:_=_:=Option.some.inj e;subst this;exact⟨p,t,rfl,e1,h⟩
 |_::_,_::_,i+1,_,⟨_,r⟩,e=>by
  obtain⟨p,t,a,b,c⟩:=dH.get r (i:=i) (by simpa using e);exact⟨p,t,by simpa using a,b,c⟩
def jd:V->PyData
 |.bl b=>.bool b
 |.int i=>.int i
 |.str x=>.str x
 |_=>.none
inductive DT:V->Prop where
 |non:DT .non
 |bl (b:Bool):DT (.bl b)
 |str {l:WM} (h:PyData.strOk (txt l)=true):DT (.str (txt l))
theorem DT.dat{v:V}(h:DT v):Dat K H v (jd v):=by
 cases h with
 |non=>exact .non
 |bl b=>exact .bl b
 |str h=>exact .str _
def pairD(ps:WR (V×V)):WR PyData:=ps.map λp=>.tuple [jd p.1,jd p.2]
theorem dH.dat:∀{xs:WR V} {ps:WR (V×V)},dH H xs ps->(∀p∈ps,DT p.1/\DT p.2)->DatAll K H xs (pairD ps)
 |[],[],_,_=>.nil
 |[],_::_,h,_=>h.elim
 |_::_,[],h,_=>h.elim
 |_::_,p::_,⟨⟨t,e,h⟩,r⟩,ok=>by
  subst e;have o:=ok p mem_cons_self;exact .cons (.tup (ff.of h) (.cons o.1.dat (.cons o.2.dat .nil))) (dH.dat r λq hq=>ok q (mem_cons_of_mem _ hq))
theorem B3{v:V}(h:DT v):PyData.canLay0 (jd v)=true/\PyData.depth (jd v)=0:=by
 cases h with
 |non=>exact⟨by simp[jd,PyData.canLay0],by simp[jd,PyData.depth]⟩
 |bl b=>exact⟨by simp[jd,PyData.canLay0],by simp[jd,PyData.depth]⟩
 |str h=>exact⟨by simp[jd,PyData.canLay0,h],by simp[jd,PyData.depth]⟩
theorem qS:∀{ps:WR (V×V)},(∀p∈ps,DT p.1/\DT p.2)->PyData.canLayAll0 (pairD ps)=true/\PyData.depthAll (pairD ps)<=1
 |[],_=>⟨by simp[pairD,PyData.canLayAll0],by simp[pairD,PyData.depthAll]⟩
 |p::ps,ok=>by
  obtain⟨a,b⟩:=qS λq hq=>ok q (mem_cons_of_mem _ hq);obtain⟨o1,o2⟩:=ok p mem_cons_self;obtain⟨c1,d1⟩:=B3 o1;obtain⟨c2,d2⟩:=B3 o2;have e:pairD (p::ps)=.tuple [jd p.1,jd p.2]::pairD ps:=rfl;rw[e];refine⟨by simp[PyData.canLayAll0,PyData.canLay0,c1,c2,a],?_⟩;simp only[PyData.depthAll,PyData.depth,d1,d2];omega
def kP(k:WM×Bool):V×V:=(ay k.1,.bl k.2)
def cU(ks:WR (WM×Bool)):Nat:=(ks.filter λk=>k.2).length
def ee(fr:WN):Nat->WR (WM×Bool)->WR (V×V)
 |_,[]=>[]
 |g,(m,true)::ks=>(ay m,ay (fr.getD g []))::ee fr (g+1) ks
 |g,(m,false)::ks=>(ay m,.non)::ee fr g ks
theorem nc(m:WM)(b:Bool)(ks:WR (WM×Bool)):cU ((m,b)::ks)=cU ks+(if b=true then 1 else 0):=by
 unfold cU;cases b
 .rw[List.filter_cons_of_neg (by simp)];rfl
 .rw[List.filter_cons_of_pos (by simp)];rfl
theorem vP(ks:WR (WM×Bool)):cU ks<=ks.length:=length_filter_le _ _
theorem DU{tl:TE}{ks:WR (WM×Bool)}(ha:∀Q:VK,Q (.ref p) H->tl Z H Q)(hq:aZ K H p xs)(hp:dH H xs (ks.map kP))(hn:ks.length<=100000)
  (hd:∀r,H r=none->Q (.ref r) (upd H r (.lst (((ks.filter λk=>k.2).map λk=>k.1).map ay)))):g5 K (bV K tl) [] (tB (ai 1)) (ai 0) Z H Q:=by
 have hl:=hp.len;rw[length_map] at hl;refine lO ha hq (λi ys H'=>H'=H/\ys=(((ks.take i).filter λk=>k.2).map λk=>k.1).map ay) ⟨rfl,rfl⟩ (λi ys H' _ h=>⟨by rw[h.1];exact hq,?_⟩) (by rw[hl,sizeLine_eq];omega) ?_ ?_
 .rw[h.2,length_map,length_map];exact Nat.le_trans (length_filter_le _ _) (by rw[length_take];omega)
 .rintro i x ys H' hx ⟨rfl,rfl⟩;obtain⟨q,t,e1,rfl,e2⟩:=hp.get hx;rw[getElem?_map] at e1;obtain⟨⟨m,b⟩,e3,rfl⟩:=map_eq_some_iff.mp e1;refine⟨t,_,_,rfl,ff.of e2,λR hR=>?_⟩;simp? [kP]
  rw[take_succ,e3] at hR;cases b
  .rw[if_neg (by decide)];exact hR _ _ ⟨rfl,by simp⟩
  .rw[if_pos rfl];exact hR _ _ ⟨rfl,by simp[ay]⟩
 .rintro ys H' ⟨rfl,rfl⟩ r hr;have:=hd r hr;rw[hl,take_length];exact this
def DV(K:W.Frag):Sp:=λvs H Q _=>∃(L:Nat) (p:Addr) (ks:WR (WM×Bool)),vs=[.int L,.ref p]/\2<=L/\L<=26/\ks.length<=1000/\(∃xs,aZ K H p xs/\dH H xs (ks.map kP))/\
 ∀H' r ys n,fF L (cU ks) n->aI H H'->H r=none->H' r=some (.lst ys)->dH H' ys (ee (kM L (cU ks) n) 0 ks)->Q (.ref r) H'
def DW(K:W.Frag):TS:=
  aJ (aY (aF qQ [] E0 (ah (ai 0) (ah (dj (b5 K) (ah (g5 K (bV K (ai 1)) [] (tB (ai 1)) (ai 0)) az)) az))) (aG 2))
   (aJ (aY (mU az) (aG 3))
   (aJ (aY (tC (.int 0)) (aG 4))
   (aJ (iy (bV K (ai 1)) (AX K 2 (kh (aG 5) (kh (aG 6) AW))) (cW (tB (ai 6)) (aJ (bR (xD K "list" fq (ai 3) (ah (iZ (ah (ai 5) (ah (aS (bY K) (ai 2) (ai 4)) az))) az)))
   (aY (aS bS (ai 4) (tC (.int 1))) (aG 4))) (bR (xD K "list" fq (ai 3) (ah (iZ (ah (ai 5) (ah (tC .non) az))) az)))))
   (bA (ai 3)))))
def OI(L:Nat)(p p2 p3:Addr)(H2:Hp)(fr:WN)(ks:WR (WM×Bool)):Nat->St->Hp->Prop:=λi Z H'=>∃(g:Nat) (ys:WR V) (ps:WR (V×V)) (v5 v6:Option V),aI H2 H'/\H' p3=some (.lst ys)/\dH H' ys ps/\Z=[some (.int L),some (.ref p),some (.ref p2),some (.ref p3),some (.int g),v5,v6]/\ps++ee fr g (ks.drop i)=ee fr 0 ks/\g+cU (ks.drop i)=cU ks/\ys.length=i
theorem qT{t r:Addr}{o:HO}{zs:WR V}(ht:H t=none)(hr:H r=some (.lst ys)):∀u xs,H u=some (.tup xs)->(upd (upd H t o) r (.lst zs)) u=some (.tup xs):=λu xs e=>by
 rw[aH (λz=>by subst z;rw[hr] at e;cases e),aH (λz=>by subst z;rw[ht] at e;cases e)];exact e
theorem kN{α:Type}{l:WR α}{x:α}(h:l[i]?=some x):l.drop i=x::l.drop (i+1):=by
 obtain⟨h1,h2⟩:=List.getElem?_eq_some_iff.mp h;rw[drop_eq_getElem_cons h1,h2]
theorem IF(hN:N.length=7)(h:DV K vs H Q E):DW K {nx:=λ_ H'=>Q .non H',rt:=Q} (L2.start N vs) H:=by
 obtain⟨L,p,ks,rfl,hL,dY,hks,⟨xs,hq,hp⟩,q⟩:=h;unfold DW L2.start;rw[hN];have hxl:=hp.len;rw[length_map] at hxl;refine aO λc hc=>?_;nofun;refine DU (ks:=ks) (λQ h=>⟨_,rfl,h⟩) hq hp (by omega) λp1 hp1=>?_;refine bG aZ.here ?_;rw[length_map,length_map];have hst:=vP ks;refine⟨L,cU ks,rfl,hL,dY,by omega,λH1 n p2 R s1 hp2=>hc _ _ ?_⟩;clear hc c;have s2:aI H (upd H1 p2 (.lst ((kM L (cU ks) n).map ay))):=((aI.up H hp1).trans s1).new hp2;have hF:aZ K (upd H1 p2 (.lst ((kM L (cU ks) n).map ay))) p2 ((kM L (cU ks) n).map ay):=aZ.here;have q:=λH' r ys=>q H' r ys n R;have hfl:=vO L (cU ks) n;have hfg:=λ(g:Nat) (h:g<cU ks)=>Lg (L:=L) (n:=n) h;generalize upd H1 p2 _=H2 at s2 hF ⊢;generalize kM L (cU ks) n=fr at hF q hfl hfg;refine aO λc hc=>?_;nofun;refine⟨by decide,λp3 hp3=>hc _ _ ?_⟩;clear hc c;refine aO λc hc=>?_;nofun;refine hc _ _ ?_;clear hc c;have s3:aI H2 (upd H2 p3 (.lst [])):=aI.up _ hp3;refine aT λc hc=>?_;refine uY (a:=p) (xs:=xs) (λQ h=>⟨_,rfl,h⟩) (s3.seq (s2.seq hq))
  (OI L p p2 p3 H2 fr ks)
  ⟨0,[],[],_,_,s3,aq,trivial,rfl,rfl,by rw[drop_zero,Nat.zero_add],rfl⟩ (λi Z H' _ h=>by obtain⟨_,_,_,_,_,s,_⟩:=h;exact s.seq (s2.seq hq)) ?_ ?_
 .rintro i x Z H' hx ⟨g,ys,ps,v5,v6,s4,hr,hps,rfl,e1,e2,e3⟩;obtain⟨k,t,ek,rfl,ht⟩:=((hp.same s2).same s4).get hx;rw[getElem?_map] at ek;obtain⟨⟨m,b⟩,ek2,rfl⟩:=map_eq_some_iff.mp ek;rw[kN ek2] at e1 e2;rw[nc] at e2;have hil:i<xs.length:=(List.getElem?_eq_some_iff.mp hx).1;simp? [AX,kh,AW,kP]
  refine⟨[ay m,.bl b],ff.of ht,rfl,ay m,[.bl b],rfl,.bl b,[],rfl,rfl,?_⟩;have hz:ys.length<sizeLine:=by rw[sizeLine_eq];omega
  cases b with
  |true=>
   nofun;rw[if_pos rfl] at e2;refine⟨.inl ⟨rfl,_,aZ.of hr⟩,?_⟩;refine bq (v:=ay (fr.getD g [])) (s4.seq hF) (by omega) ?_ ?_
   .rw[toNat_natCast,getElem?_map,getD_eq_getElem?_getD,hfg g (by omega)];rfl
   .refine⟨by decide,λt2 ht2=>?_⟩;have h3:p3≠t2:=λz=>by subst z;rw[hr] at ht2;cases ht2
    refine⟨p3,ys,_,rfl,rfl,by rw[aH h3];exact hr,hz,?_⟩;refine⟨g+1,ys++[.ref t2],ps++[(ay m,ay (fr.getD g []))],_,_,(s4.new ht2).set hp3,aq,(hps.keep (qT ht2 hr)).app ⟨⟨t2,rfl,?_⟩,trivial⟩,rfl,?_,by omega,by rw[length_append];simp[e3]⟩
    .rw[aH (Ne.symm h3),aq]
    .rw[append_assoc];exact e1
  |false=>
   nofun;rw[if_neg (by decide)] at e2;refine⟨.inl ⟨rfl,_,aZ.of hr⟩,by decide,λt2 ht2=>?_⟩
   have h3:p3≠t2:=λz=>by subst z;rw[hr] at ht2;cases ht2
   refine⟨p3,ys,_,rfl,rfl,by rw[aH h3];exact hr,hz,?_⟩;refine⟨g,ys++[.ref t2],ps++[(ay m,.non)],_,_,(s4.new ht2).set hp3,aq,(hps.keep (qT ht2 hr)).app ⟨⟨t2,rfl,?_⟩,trivial⟩,rfl,?_,by omega,by rw[length_append];simp[e3]⟩
   .rw[aH (Ne.symm h3),aq]
   .rw[append_assoc];exact e1
 .rintro Z H' ⟨g,ys,ps,v5,v6,s4,hr,hps,rfl,e1,e2,e3⟩;refine hc _ _ ?_;nofun;rw[hxl,drop_length] at e1;have e1:ps=ee fr 0 ks:=by simpa [ee] using e1
  rw[e1] at hps;exact q _ p3 ys (s2.trans s4) (s2.free hp3) hr hps
theorem gz{zs:WN}(h:zs.Pairwise (·<=·))(n:zs.Nodup):zs.Pairwise (·<·):=by
 have:=List.Pairwise.and h n;refine this.imp λ{a b} hab=>?_
 by_cases z:a<b
 .exact z
 .exact absurd (List.le_antisymm hab.1 (List.not_lt.mp z)) hab.2
def Keeps(F:WR Addr)(H H':Hp):Prop:=∀b o,H b=some o->b∉F->H' b=some o
theorem aI.keeps(s:aI H H')(F:WR Addr):Keeps F H H':=λb o e _=>s b o e
theorem Keeps.trans{H1:Hp}(a:Keeps F H H1)(b:Keeps F H1 H2):Keeps F H H2:=λx o e n=>b x o (a x o e n) n
theorem Keeps.upd {o:HO} (a:Keeps F H H') (h:p ∈ F ∨ H' p = none):Keeps F H (upd H' p o):=fun x q e n=>by
  have:=a x q e n
  rw [aH (fun z => by subst z; rcases h with h | h
                      . exact n h
                      . rw [this] at h; cases h)]
  exact this
def zQ(c:Addr):Sp:=λvs H Q E=>∃(L h:Int),vs=[.int L,.int h]/\((2<=L/\L<=26/\1<=h/\h<L)->Q .non H)/\(¬(2<=L/\L<=26/\1<=h/\h<L)->E (.ref c) none H)
def zR(c:Addr)(E:XK)(m1 m2:WM):TS:=
  aJ (cW (AM (bD (aS xF (ai 0) (tC (.int 2)))) (bD (aS Bp (ai 0) (dj oB (ah (tC (.str (txt xE))) az))))) (iT (.ref c) E (ah (tC (.str (txt m1))) az)) (b8))
   (cW (AM (bD (aS xF (ai 1) (tC (.int 1)))) (bD (aS QN (ai 1) (ai 0)))) (iT (.ref c) E (ah (tC (.str (txt m2))) az)) (b8))
theorem IG{c:Addr}{m1 m2:WM}(hN:N.length=2)(h:zQ c vs H Q E):zR c E m1 m2 {nx:=λ_ H'=>Q .non H',rt:=Q} (L2.start N vs) H:=by
 obtain⟨L,h,rfl,q1,q2⟩:=h;unfold zR L2.start;rw[hN];nofun
 by_cases h1:L<2
 .rw[if_pos h1];exact⟨by decide,q2 (by omega)⟩
 .rw[if_neg h1];refine iG (by rw[oz];decide) ⟨_,rfl,?_⟩;rw[oz]
  by_cases h2:((26:Nat):Int)<L
  .rw[if_pos h2];exact⟨by decide,q2 (by omega)⟩
  .rw[if_neg h2]
   by_cases h3:h<1
   .rw[if_pos h3];exact⟨by decide,q2 (by omega)⟩
   .rw[if_neg h3]
    by_cases h4:L<=h
    .rw[if_pos h4];exact⟨by decide,q2 (by omega)⟩
    .rw[if_neg h4];exact q1 (by omega)
def yx:WM:=[97,98,99,100,101,102,103,104,105,106,107,108,109,110,111,112,113,114,115,116,117,118,119,120,121,122,48,49,50,51,52,53,54,55,56,57]
def Thing(t:WM):Prop:=t≠[]/\t.length<=12/\∀c∈t,c∈yx
def lU:Sp:=λvs H Q _=>∃t:WM,vs=[.str (txt t)]/\t.length<=100000/\∀H' b,aI H H'->(b=true↔Thing t)->Q (.bl b) H'
def qU(K:W.Frag):TS:=
  aJ (cW (AM (bD (aS tV (ai 0) (tC (.str (txt []))))) (bD (aS Bp (dj oB (ah (ai 0) az)) (tC (.int 12))))) (bA (tC (.bl false))) (b8))
   (bA (dj (Br K) (ah (dw (C3 (ai 0)) [] gO (aS QU (ai 0) (tC (.str (txt yx))))) az)))
theorem zS(hN:N.length=1)(h:lU vs H Q E):qU K {nx:=λ_ H'=>Q .non H',rt:=Q} (L2.start N vs) H:=by
 obtain⟨t,rfl,hz,q⟩:=h;unfold qU L2.start;rw[hN];nofun;refine⟨rfl,?_⟩
 by_cases h1:t=[]
 .rw[if_pos h1];exact q _ _ (aI.refl _) ⟨(λz=>nomatch z),λz=>absurd h1 z.1⟩
 .rw[if_neg h1];refine iG hz ⟨_,rfl,?_⟩
  by_cases h2:(12:Int)<(t.length:Int)
  .rw[if_pos h2];exact q _ _ (aI.refl _) ⟨(λz=>nomatch z),λz=>by have:=z.2.1;omega⟩
  .rw[if_neg h2];refine zb (l:=t) (λQ h=>⟨_,rfl,h⟩) (Nat.le_trans (show t.length<=100000 by omega) (by decide)) (λi ys H'=>H'=H/\ys=((t.take i).map λc=>decide (c∈yx)).map V.bl) ⟨rfl,rfl⟩
    (λi ys H' _ p=>by rw[p.2,length_map,length_map,length_take];omega) ?_ ?_
   .rintro i c ys H' hc ⟨rfl,rfl⟩ R hR;nofun;refine⟨c,_,rfl,rfl,hR _ _ ⟨rfl,?_⟩⟩;rw[take_succ,hc,map_append,map_append];rfl
   .rintro ys H' ⟨rfl,rfl⟩ p hp;rw[take_length];refine⟨p,_,rfl,aZ.here,q _ _ (aI.up _ hp) ?_⟩;rw[List.all_map,all_eq_true];constructor
    .intro z;exact⟨h1,by omega,λc hc=>by simpa using z c hc⟩
    .rintro⟨_,_,z⟩ c hc;simpa using z c hc
def ng(c:Addr):Sp:=λvs H Q E=>∃t:WM,vs=[.str (txt t)]/\t.length<=100000/\∀H',aI H H'->(Thing t->Q .non H')/\(¬Thing t->E (.ref c) none H')
def jA(c:Addr)(E:XK)(m:WM):TS:=
  cW (qi (tB (aF lU [] E0 (ah (ai 0) az)))) (iT (.ref c) E (ah (tC (.str (txt m))) az)) (b8)
theorem xN{c:Addr}(hN:N.length=1)(h:ng c vs H Q E):jA c E m {nx:=λ_ H'=>Q .non H',rt:=Q} (L2.start N vs) H:=by
 obtain⟨t,rfl,hz,q⟩:=h;unfold jA L2.start;rw[hN];nofun;refine⟨t,rfl,hz,λH' b s hb=>⟨_,rfl,?_⟩⟩;cases b with
 |true=>
  nofun;exact(q H' s).1 (hb.mp rfl)
 |false=>
  nofun;exact⟨by decide,(q H' s).2 λz=>by have:=hb.mpr z;cases this⟩
def jB(c:Addr):Sp:=λvs H Q E=>∃(i n:Int),vs=[.int i,.int n]/\((0<=i/\i<n)->Q .non H)/\(¬(0<=i/\i<n)->E (.ref c) none H)
def eT(c:Addr)(E:XK)(m:WM):TS:=
  cW (AM (bD (aS xF (ai 0) (tC (.int 0)))) (bD (aS QN (ai 0) (ai 1)))) (iT (.ref c) E (ah (tC (.str (txt m))) az)) (b8)
theorem mO{c:Addr}(hN:N.length=2)(h:jB c vs H Q E):eT c E m {nx:=λ_ H'=>Q .non H',rt:=Q} (L2.start N vs) H:=by
 obtain⟨i,n,rfl,q1,q2⟩:=h;unfold eT L2.start;rw[hN];nofun
 by_cases h1:i<0
 .rw[if_pos h1];exact⟨by decide,q2 (by omega)⟩
 .rw[if_neg h1]
  by_cases h2:n<=i
  .rw[if_pos h2];exact⟨by decide,q2 (by omega)⟩
  .rw[if_neg h2];exact q1 (by omega)
end L2
namespace L2
open PySem PySem.Spec PyProof.Rows SetTx
variable {E:XK}{Q:VK}{xs vs ys ts:WR V}{H H' H2:Hp}{a b it f p C dx q d p2 pr pk p1 p3:Addr}{F fp as:WR Addr}{h t' i j c n L ep c':Nat}{x y qual:Str}{N ps:WR Str}{Z:St}{K:PySem.W.Frag}{es m:WM}{te td:TE}{tb:TS}{lo hi:WQ}{ta:TA}{kvs zs zs' S:WO}{ks ws ws':WN}
section
variable{X:Cx}
theorem Inv.OJ{Z0:WR (Addr×Obj)}{Z:WR (Option V)}{s:Shared}{d':Drawn}(I:Inv X Z0 Z H s):Inv X Z0 Z H {s with drawn:=d' }:={I with}
def Lh(P:Program)(w:World)(a:Addr)(ss:WR Str):HO:=.ext λh=>qF P w h a ss (!cR w)
abbrev Px(X:Cx):WR V->Hp->VK->Prop:=λxs H Q=>∃p,∃ys:WN,xs=[.ref p]/\aZ X.K H p (ys.map ay)/\ys.length<64/\∀a ss,H a=none->ss.Nodup->(∀y:WM,txt y∈ss↔y∈ys)->ss.length<64->Q (.ref a) (upd H a (Lh X.prog X.w a ss))
abbrev ni(X:Cx):WR V->Hp->VK->Prop:=λxs H Q=>∃a ss,xs=[.ref a]/\H a=some (Lh X.prog X.w a ss)/\ss.length<64/\∀l,∀zs:WN,H l=none->(zs.map txt).Perm ss->zs.Pairwise (·<=·)->Q (.ref l) (upd H l (.lst (zs.map ay)))
theorem DX(hc:X.calm=true):fh X (.builtin "sorted") (ni X):=by
 intro Z0 s Z H xs us Q I r h;obtain⟨a,ss,rfl,hH,hz,q⟩:=h;obtain⟨u,rfl,ru⟩:=vals1 r;cases ru;have hS:qF X.prog X.w s.heap a ss (!cR X.w):=(show bZ X.prog X.w H s.heap a (Lh X.prog X.w a ss) from I.hok a _ hH).1;refine Dt (I.ok.hd hc) hS hz λh1 h' tk d' e out ss' k1 k2 he a1 a2 a3=>?_;have ez:ss'=(ss'.map λx=>x.cps.toList).map txt:=by
  rw[map_map];have:(txt∘λ(x:Str)=>x.cps.toList)=id:=by funext x;exact txt_codes x
  rw[this,map_id]
 have hp:((ss'.map λx=>x.cps.toList).map txt).Perm ss:=by rw[<-ez];exact a2
 rw[ez] at a3;have hv:Vals ((ss'.map λx=>x.cps.toList).map ay) out.toList:=by rw[kr,<-ez];exact qv a1
 have I1:Inv X Z0 Z H {s with heap:=h1,toks:=s.toks}:=I.kept (t':=s.toks) k1
 refine⟨.ref h1.objs.size,_,(I1.laid (t':=tk) (a:=h1.objs.size) (o:=.lst ((ss'.map λx=>x.cps.toList).map ay)) k2 (le_refl _) ⟨?_,out.toList,e,hv,by simpa [seqObj] using he⟩).OJ,rfl,q _ _ (I1.hok.fresh (le_refl _)) hp (uW _ a3)⟩;have:=a2.length_eq;rw[length_map,length_map,sizeLine_eq];omega
theorem FG:∀{us:WR Value} {ss:WR Str},StrsAre us ss->∀(i:Nat) (v:Value),us[i]?=some v->∃t,v=.str (ss.getD i "") t
 |_,_,.nil,i,v,e=>by simp at e
 |_,_,.cons y t h,0,v,e=>by
  simp at e
  exact⟨t,e.symm⟩
 |_,_,.cons y t h,i+1,v,e=>by
  simp only[getElem?_cons_succ] at e;exact FG h i v e
theorem B4{a b:WM}(h:txt a=txt b):a=b:=by
 have:=congrArg (λx:Str=>x.cps.toList) h;simpa [bN] using this
theorem II(hc:X.calm=true):fh X (.type "set") (Px X):=by
 intro Z0 s Z H xs us Q I r h;obtain⟨p,ys,rfl,hx,hz,q⟩:=h;obtain⟨u,rfl,ru⟩:=vals1 r;cases ru;obtain⟨its,rv,pl,hl⟩:=I.list hx;have hlen:=rv.length;rw[kr] at rv;have st:=gQ rv;have il:its.length=ys.length:=by rw[<-hlen,length_map]
 refine vz (val:=λi=>(ys.map txt).getD i "") (I.ok.hd hc) pl.isList (λi v e=>FG st i v (by simpa using e)) (by unfold scanBound;simp;omega) λh' tk hS hk=>?_;have sz:its.toArray.size=ys.length:=by simp[il]
 rw[sz] at hS;refine⟨.ref s.heap.objs.size,_,I.laid (t':=tk) (a:=s.heap.objs.size) (o:=Lh X.prog X.w s.heap.objs.size _) (λb o e=>hk b o (Heap.lt_size e) e) (le_refl _) ⟨hS,?_,λh1 h2 x k=>x.keep k⟩,rfl,q _ _ (I.hok.fresh (le_refl _)) (vv _ _) (λy=>?_) ?_⟩
 .obtain⟨o,es,ep,t,ho,_⟩:=hS;exact⟨o,ho⟩
 .rw[BG];constructor
  .rintro⟨j,hj,e⟩;rw[getD_eq_getElem?_getD,getElem?_map,getElem?_eq_getElem hj] at e;have e2:ys[j]=y:=B4 e;rw[<-e2];exact getElem_mem hj
  .intro hy;obtain⟨j,hj,e⟩:=List.getElem_of_mem hy;exact⟨j,hj,by rw[getD_eq_getElem?_getD,getElem?_map,getElem?_eq_getElem hj,e];rfl⟩
 .have:=vt (λi=>(ys.map txt).getD i "") ys.length;omega
abbrev fG(K:W.Frag):WR V->Hp->VK->Prop:=λxs H Q=>∃p,∃ys:WN,xs=[.ref p]/\aZ K H p (ys.map ay)/\ys.length<64/\∀H' l,∀zs:WN,aI H H'->H l=none->H' l=some (.lst (zs.map ay))->zs.Nodup->(∀y,y∈zs↔y∈ys)->zs.Pairwise (·<=·)->Q (.ref l) H'
theorem Li{Q1:VK}(h:fG X.K xs H Q)(h1:∀v H2,ni X [v] H2 Q->Q1 v H2):Px X xs H Q1:=by
 obtain⟨p,ys,rfl,hx,hz,q⟩:=h;refine⟨p,ys,rfl,hx,hz,λa ss ha nd mem hl=>h1 _ _ ⟨a,ss,rfl,aq,hl,λl zs hl' hp hs=>?_⟩⟩;have s1:=aI.up H ha (o:=Lh X.prog X.w a ss);refine q _ l zs (s1.new hl') (by cases e:H l with|none=>rfl|some o=>rw[s1 _ _ e] at hl';cases hl') aq ?_ (λy=>?_) hs
 .have:=hp.nodup_iff.mpr nd;exact(pairwise_map.mp this).imp λh e=>h (by rw[e])
 .rw[<-mem y,<-hp.mem_iff,mem_map];constructor
  .intro h;exact⟨y,h,rfl⟩
  .rintro⟨z,hz,e⟩;rw[<-B4 e];exact hz
theorem IJ(hc:X.calm=true)(Q:VK):fh X (.type "set") (λxs H Q1=>fG X.K xs H Q/\∀v H2,ni X [v] H2 Q->Q1 v H2):=λZ0 s Z H xs us Q1 I r h=>II hc Z0 s Z H xs us Q1 I r (Li h.1 h.2)
theorem DY{e:Expr}{p p2 pos pos2:Pos}(hc:X.calm=true)(hg:Gl X "sorted")(hm:X.mg "sorted" =none)(hg2:Gl X "set")(hm2:X.mg "set" =none)(ha:PA X [e] (ah te az))(hv:bootBuiltins "sorted" =some (.builtin "sorted"))(hv2:bootBuiltins "set" =some (.type "set"))
  (hs:starEach [e] X.env=(false,eval e X.env)::starEach [] X.env:=by rfl) (hpl:(backTo pos2 (starEach [] X.env)).any (·.1)=false:=by rfl)
  (hs2:starEach [.Call (.Name "set" p2) [e] [] pos2] X.env=(false,eval (.Call (.Name "set" p2) [e] [] pos2) X.env)::starEach [] X.env:=by rfl) (hpl2:(backTo pos (starEach [] X.env)).any (·.1)=false:=by rfl):
  PE X (.Call (.Name "sorted" p) [.Call (.Name "set" p2) [e] [] pos2] [] pos) (dj (fG X.K) (ah te az)):=by
 intro Z0 s Z H Q I h;have inner:=ye (p:=p2) (pos:=pos2) (IJ hc Q) hg2 hm2 hv2 ha (by decide) (by decide) hs hpl;have outer:=uR (p:=p) (pos:=pos) (DX hc) hg hm hv (nZ inner yN hs2) (by decide) (by decide) hs2 hpl2;refine outer Z0 s Z H Q I ?_;show te Z H λx H1=>fG X.K [x] H1 Q/\∀v H2,ni X [v] H2 Q->ni X [v] H2 Q;have e1:(λ(x:V) (H1:Hp)=>fG X.K [x] H1 Q/\∀v H2,ni X [v] H2 Q->ni X [v] H2 Q)=λx H1=>fG X.K [x] H1 Q:=by
  funext x H1
  exact propext ⟨λz=>z.1,λz=>⟨z,λ_ _ y=>y⟩⟩
 rw[e1];exact h
theorem nj(hc:X.calm=true){e:Expr}{p p2 pos pos2:Pos}(hm:X.mg "sorted" =none)(hm2:X.mg "set" =none)(ha:QA X [e] (ah te az))(hv:bootBuiltins "sorted" =some (.builtin "sorted"))(hv2:bootBuiltins "set" =some (.type "set"))
  (hg:X.env.kindOf "sorted" =some .globalImplicit:=by rfl') (hg2:X.env.kindOf "set" =some .globalImplicit:=by rfl')
  (hs:starEach [e] X.env=(false,eval e X.env)::starEach [] X.env:=by rfl') (hpl:(backTo pos2 (starEach [] X.env)).any (·.1)=false:=by rfl')
  (hs2:starEach [.Call (.Name "set" p2) [e] [] pos2] X.env=(false,eval (.Call (.Name "set" p2) [e] [] pos2) X.env)::starEach [] X.env:=by rfl') (hpl2:(backTo pos (starEach [] X.env)).any (·.1)=false:=by rfl'):
  QE X (.Call (.Name "sorted" p) [.Call (.Name "set" p2) [e] [] pos2] [] pos) (dj (fG X.K) (ah te az)):=⟨DY hc hg hm hg2 hm2 ha.p hv hv2 hs hpl hs2 hpl2⟩
end
section
variable{X:Cx}
theorem Lj{o e f:Expr}{ty tx:TE}{apos cpos:Pos}(hu:X.A.units+64<cLine)(ho:QE X o td)(he:QE X e ty)(hf:QE X f tx)
  (h1:attributeBase o "get" X.env (eval o X.env)=eval o X.env:=by rfl')
  (h2:((backTo cpos (starEach [e,f] X.env)).all (λx=>!x.1)&&(backToKw cpos (keywordEach [] X.env)).all (λx=>x.1.isSome)&&decide (([e,f]:WR Expr).length+([]:WR Keyword).length+(if ([]:WR Keyword).isEmpty then 0 else 1)<30))=true:=by rfl')
  (h3:(apos.endLine==cpos.line)=true:=by rfl') (h4:backTo cpos (starEach [e,f] X.env)=[(false,eval e X.env),(false,eval f X.env)]:=by rfl'):
  QE X (.Call (.Attribute o "get" apos) [e,f] [] cpos) (zv td ty tx):=⟨KG (by omega) ho.p he.p hf.p ⟨h1,h2,h3,h4⟩⟩
end
end L2
namespace L2
open PySem PySem.Spec PyProof.Rows SetTx
variable {E:XK}{Q:VK}{xs vs ys ts:WR V}{H H' H2:Hp}{a b it f p C dx q d p2 pr pk p1 p3:Addr}{F fp as:WR Addr}{h t' i j c n L ep c':Nat}{x y qual:Str}{N ps:WR Str}{Z:St}{K:PySem.W.Frag}{es m:WM}{te td:TE}{tb:TS}{lo hi:WQ}{ta:TA}{kvs zs zs' S:WO}{ks ws ws':WN}
def gu(ms:WN)(i:Nat):WQ:=if i=0 then none else ms[i-1]?
end L2
namespace L2
open PySem PySem.Spec PyProof.Rows MM
variable {E:XK}{Q:VK}{xs vs ys ts:WR V}{H H' H2:Hp}{a b it f p C dx q d p2 pr pk p1 p3:Addr}{F fp as:WR Addr}{h t' i j c n L ep c':Nat}{x y qual:Str}{N ps:WR Str}{Z:St}{K:PySem.W.Frag}{es m:WM}{te td:TE}{tb:TS}{lo hi:WQ}{ta:TA}{kvs zs zs' S:WO}{ks ws ws':WN}
theorem FH(h:i<=xs.length):yP xs none (some (i:Int))=xs.take i:=by
 unfold yP;rw[HT.yO,HT.uS,drop_zero,Nat.sub_zero,min_eq_left h]
theorem yy(h:i<=xs.length):yP xs (some (i:Int)) none=xs.drop i:=by
 unfold yP;rw[HT.yO,HT.uS,min_eq_left h,List.take_of_length_le];rw[length_drop];exact le_refl _
theorem TN(h2:2<=L)(h26:L<=26):jZ L 1 0:=⟨h2,h26,by decide,by omega⟩
theorem OL{w:Nat}(hL:0<L):ow L (bC L 1 0) w=true↔w%L≠0:=by
 rw[FA hL];constructor
 .intro h;omega
 .intro h;exact⟨by omega,Nat.mod_one _⟩
theorem kQ{l:WM}(h:∀c∈l,c<200):PyData.strOk (txt l)=true:=by
 unfold PyData.strOk txt;simp only[Array.all_eq_true_iff_forall_mem,List.mem_toArray,decide_eq_true_eq];intro c hc;have:=h c hc;omega
theorem jC(hL:L<=26)(h:Ls L m):PyData.strOk (txt m)=true:=kQ λc hc=>by have:=h c hc;omega
theorem B7:∀c∈yx,c<200:=by decide
theorem B9{t:WM}(h:Thing t):PyData.strOk (txt t)=true:=kQ λc hc=>B7 c (h.2.2 c hc)
theorem cj{H0:Hp}(s:aI H0 H)(k:Keeps F H H')(h:∀a∈F,H0 a=none):aI H0 H':=λb o e=>k b o (s b o e) (λz=>by rw[h b z] at e;cases e)
structure xO(L:Nat)(lo hi:WQ)(n w:Nat)(m:WM):Prop where
 least:jy false L (bC L 1 0) lo hi 1 n
 eq:m=low L w n
 own:ow L (bC L 1 0) w=true
 ge:dG L lo n+1<=w
 lt:w<dz L hi n
 at_:(MM.ob L (bC L 1 0) w:Int)=(MM.ob L (bC L 1 0) (dG L lo n+1):Int)+(iL false L (bC L 1 0) lo hi n-1)/2
theorem Ll{t:WM}:∀{l m:WM},l<m->l<m++t
 |l,[],h=>absurd h (List.not_lt_nil _)
 |[],c::m,_=>by simp
 |a::l,c::m,h=>by
  rw[cons_append,cons_lt_cons_iff]
  rcases cons_lt_cons_iff.mp h with z|⟨z1,z2⟩
  .exact .inl z
  .exact .inr ⟨z1,Ll z2⟩
theorem vQ{K:Nat}(hK:0<K){t:WM}:∀{x h:WM} (n:Nat),Ls K x->Ls K h->x.length=n->val K x n<val K h n->x++t<h/\h.take n≠x
 |[],h,n,_,_,e,hv=>by
  obtain rfl:n=0:=by simpa using e.symm
  rw[val_zero,val_zero] at hv;omega
 |c::x,[],n,_,_,_,hv=>by rw[dP] at hv;omega
 |c::x,d::h,0,_,_,e,_=>by simp at e
 |c::x,d::h,n+1,hx,hh,e,hv=>by
  rw[bW,bW,oQ (gm hK n hx.tail) (gm hK n hh.tail),(sj hx.head.1 hh.head.1).1,(sj hx.head.1 hh.head.1).2] at hv;rw[cons_append,cons_lt_cons_iff,List.take_succ_cons]
  rcases hv with z|⟨rfl,z⟩
  .exact⟨.inl z,λe=>by have:=(List.cons.inj e).1;omega⟩
  .obtain⟨a,b⟩:=vQ hK (t:=t) n hx.tail hh.tail (by simpa using e) z;exact⟨.inr ⟨rfl,a⟩,λe=>b (List.cons.inj e).2⟩
section
variable{L n w:Nat}{lo hi:WQ}{m:WM}
theorem OM(hL:0<L)(M:b7 L lo hi):dz L hi n<=L^n:=by
 cases hi with
 |none=>exact le_refl _
 |some u=>exact le_of_lt (gm hL n (M.mhi u rfl).1.ls)
theorem xO.all(S:xO L lo hi n w m)(hL:2<=L)(M:b7 L lo hi)(ok:iz lo hi):
  Mark L m/\m.length=n/\val L m n=w/\n<=1+max (cY lo) (cY hi)/\(∀l,lo=some l->∀t,l<m++t)/\∀u,hi=some u->∀t,m++t<u/\u.take n≠m:=by
 have hL0:0<L:=by omega
 have hw:w<L^n:=lt_of_lt_of_le S.lt (OM hL0 M);have hm:m.length=n:=by rw[S.eq,low_length]
 have hv:val L m n=w:=by rw[S.eq,g7 hL0,mod_eq_of_lt hw]
 have h0:=(OL hL0).mp S.own;have hn1:=S.least.pos;have hnl:=S.least.Lc hL (jv (K:=L) (h:=1) (j:=0) (by decide) (by omega)) M ok;have hls:Ls L m:=by rw[S.eq];exact qB hL0 _ _
 obtain⟨n',rfl⟩:∃n',n=n'+1:=⟨n-1,by omega⟩;refine⟨⟨hls,λc hc=>?_,λz=>by rw[z] at hm;simp at hm⟩,hm,hv,hnl,λl e t=>Ll ?_,λu e t=>?_⟩
 .rw[S.eq,oS hL0] at hc;have:=Option.some.inj hc;omega
 .rw[S.eq,FD hL0 hw h0 (M.mlo l e).1.ls];have:=S.ge;rw[e] at this;exact this
 .refine vQ hL0 (n'+1) hls (M.mhi u e).1.ls hm ?_;have:=S.lt;rw[e] at this;rw[hv];exact this
end
def DZ(c:Addr):Sp:=λvs H Q E=>∃(L:Nat) (lo hi:WQ),vs=[.int L,oV lo,oV hi]/\2<=L/\L<=26/\b7 L lo hi/\(iz lo hi->∀H' n w m,aI H H'->xO L lo hi n w m->Q (.str (txt m)) H')/\(¬iz lo hi->E (.ref c) none H)
def D0(c:Addr)(E:XK):TS:=
  aJ (bR (aF (gF c) [] E (ah (ai 1) (ah (ai 2) az))))
   (aJ (aY (aF qK [] E0 (ah (ai 0) (ah (tC (.int 1)) (ah (tC (.int 0)) az)))) (aG 3))
   (aJ (aY (aF pG [] E0 (ah (ai 0) (ah (ai 3) (ah (ai 1) (ah (ai 2) (ah (tC (.int 1)) (ah (tC (.bl false)) az))))))) (aG 4))
   (aJ (aY (aF lT [] E0 (ah (ai 0) (ah (ai 3) (ah (ai 1) (ah (ai 2) (ah (ai 4) (ah (tC (.bl false)) az))))))) (aG 5))
   (bA (aF (Fz c) [] E (ah (ai 0) (ah (tC (.int 1)) (ah (tC (.int 0)) (ah (ai 1) (ah (ai 2) (ah (ai 4) (ah (aS se (aS rZ (ai 5) (tC (.int 1))) (tC (.int 2))) az))))))))))))
theorem IK{c:Addr}(hN:N.length=6)(h:DZ c vs H Q E):D0 c E {nx:=λ_ H'=>Q .non H',rt:=Q} (L2.start N vs) H:=by
 obtain⟨L,lo,hi,rfl,hL,dY,M,q1,q2⟩:=h;unfold D0 L2.start;rw[hN];have hL0:0<L:=by omega
 obtain⟨okl,okh⟩:=M.VB dY;have E1:=jv (K:=L) (h:=1) (j:=0) (by decide) (by omega);have hlen:=M.lens;nofun;refine⟨lo,hi,rfl,λok=>?_,q2⟩;nofun;refine⟨L,1,0,rfl,dY,by decide,λH1 s1=>?_⟩;nofun;refine⟨L,_,lo,hi,1,false,rfl,hL,dY,jb dY,E1,M,ok,by omega,by omega,λH2 n s2 LN=>?_⟩;have hn:n<=1002:=by have:=LN.len;omega
 nofun;refine⟨L,_,lo,hi,n,false,rfl,hL0,dY,jb dY,okl,okh,by omega,λH3 s3=>?_⟩;nofun;have r1:=LN.room;obtain⟨k,hk⟩:=eq_ofNat_of_zero_le (a:=(iL false L (bC L 1 0) lo hi n-1)/2) (by omega);refine⟨cdiv (by decide) (by decide),L,1,0,lo,hi,n,k,by rw[hk];rfl,M.Lb (TN hL dY) (by omega),by decide,by omega,λ_ H4 s4=>?_,λz=>absurd ok z⟩;have q:=q1 ok H4 n (xK L (bC L 1 0) (MM.ob L (bC L 1 0) (dG L lo n+1)+k)) (low L (xK L (bC L 1 0) (MM.ob L (bC L 1 0) (dG L lo n+1)+k)) n) (((s1.trans s2).trans s3).trans s4);obtain⟨n',rfl⟩:∃n',n=n'+1:=⟨n-1,by have:=LN.pos;omega⟩;rw[Kx hL0 (Fd E1 _)];obtain⟨o1,o2⟩:=Dg hL0 E1 (MM.ob L (bC L 1 0) (dG L lo (n'+1)+1)+k);have hri:iL false L (bC L 1 0) lo hi (n'+1)=(MM.ob L (bC L 1 0) (dz L hi (n'+1)):Nat)-(MM.ob L (bC L 1 0) (dG L lo (n'+1)+1):Nat):=rfl;obtain⟨i1,i2⟩:=Ky hL0 E1 (A:=dG L lo (n'+1)+1) (B:=dz L hi (n'+1)) (p:=MM.ob L (bC L 1 0) (dG L lo (n'+1)+1)+k) (by omega) (by omega);exact q ⟨LN,rfl,o2,i1,i2,by rw[o1,hk];omega⟩
abbrev bB:=WM×WQ
def jD(r:bB):V×V:=(ay r.1,oV r.2)
def fR(R:WR bB):WQ:=R.findSome? (·.2)
def j3(m:WM)(r:bB):Bool:=decide (r.1<m)
def vR(R:WR bB)(m:WM):WQ:=fR (R.reverse.filter (j3 m))
def kR(R:WR bB)(m:WM):WQ:=fR (R.filter λr=>!j3 m r)
structure bw(L:Nat)(R:WR bB):Prop where
 up:R.Pairwise λa b=>a.1<b.1
 olds:∀r∈R,Mark L r.1/\r.1.length<=500
 news:R.Pairwise λa b=>∀x y,a.2=some x->b.2=some y->x<y
 marks:∀r∈R,∀n,r.2=some n->Mark L n/\n.length<=500
 len:R.length<=10000
theorem vS{a b c:WM}(h:a<b)(g:¬c<b):a<c:=by
 rcases lt_or_ge 0 1 with _|z
 .by_cases z:a<c
  .exact z
  .exact absurd (List.lt_of_le_of_lt (List.not_lt.mp z) h) g
 .omega
theorem Ca(r:bB)(R:WR bB):fR (r::R)=match r.2 with|some x=>some x|none=>fR R:=by
 unfold fR;rw[List.findSome?_cons];cases r.2<;>rfl
theorem vU{R:WR bB}{x:WM}(h:fR R=some x):∃r∈R,r.2=some x:=by
 obtain⟨r,hr,e⟩:=List.exists_of_findSome?_eq_some h;exact⟨r,hr,e⟩
variable{L:Nat}{R:WR bB}
theorem FI{T:bB->bB->Prop}(h:R.Pairwise T){r s:bB}(hr:r∈R)(hs:s∈R):r=s\/T r s\/T s r:=by
 obtain⟨i,hi,rfl⟩:=mem_iff_getElem.mp hr;obtain⟨j,hj,rfl⟩:=mem_iff_getElem.mp hs;rw[pairwise_iff_getElem] at h
 rcases lt_trichotomy i j with z|z|z
 .exact .inr (.inl (h i j hi hj z))
 .subst z;exact .inl rfl
 .exact .inr (.inr (h j i hj hi z))
theorem bw.rise(O:bw L R){r s:bB}{x y:WM}(hr:r∈R)(hs:s∈R)(h:r.1<s.1)(hx:r.2=some x)(hy:s.2=some y):x<y:=by
 have both:=O.up.and O.news
 rcases FI both hr hs with e|⟨_,e⟩|⟨e,_⟩
 .subst e;exact absurd h (List.lt_irrefl _)
 .exact e x y hx hy
 .exact absurd (List.lt_trans h e) (List.lt_irrefl _)
theorem bw.one(O:bw L R){r s:bB}(hr:r∈R)(hs:s∈R)(h:r.1=s.1):r=s:=by
 rcases FI O.up hr hs with e|e|e
 .exact e
 .rw[h] at e;exact absurd e (List.lt_irrefl _)
 .rw[h] at e;exact absurd e (List.lt_irrefl _)
theorem pH{x:WM}(h:vR R m=some x):∃r∈R,r.1<m/\r.2=some x:=by
 obtain⟨r,hr,e⟩:=vU h;obtain⟨h1,h2⟩:=mem_filter.mp hr;exact⟨r,List.mem_reverse.mp h1,of_decide_eq_true h2,e⟩
theorem lV{x:WM}(h:kR R m=some x):∃r∈R,¬r.1<m/\r.2=some x:=by
 obtain⟨r,hr,e⟩:=vU h;obtain⟨h1,h2⟩:=mem_filter.mp hr;refine⟨r,h1,?_,e⟩;intro z;rw[j3,decide_eq_true z] at h2;cases h2
theorem bw.zT(O:bw L R)(m:WM):b7 L (vR R m) (kR R m) where
 mlo:=λx h=>by obtain⟨r,hr,_,e⟩:=pH h;have:=O.marks r hr x e;exact⟨this.1,by omega⟩
 mhi:=λx h=>by obtain⟨r,hr,_,e⟩:=lV h;have:=O.marks r hr x e;exact⟨this.1,by omega⟩
theorem bw.Rb(O:bw L R)(m:WM):iz (vR R m) (kR R m):=λx y hx hy=>by
 obtain⟨r,hr,h1,e1⟩:=pH hx;obtain⟨s,hs,h2,e2⟩:=lV hy;exact O.rise hr hs (vS h1 h2) e1 e2
theorem bw.lens(O:bw L R)(m:WM):cY (vR R m)<=500/\cY (kR R m)<=500:=by
 constructor
 .cases h:vR R m with
  |none=>exact zero_le _
  |some x=>obtain⟨r,hr,_,e⟩:=pH h;exact(O.marks r hr x e).2
 .cases h:kR R m with
  |none=>exact zero_le _
  |some x=>obtain⟨r,hr,_,e⟩:=lV h;exact(O.marks r hr x e).2
theorem xO.one{w n' w':Nat}{m':WM}(hL:2<=L)(A:xO L lo hi n w m)(B:xO L lo hi n' w' m'):m=m':=by
 have E:MM.Ends L (bC L 1 0):=jv (K:=L) (h:=1) (j:=0) (by decide) (by omega);obtain rfl:=A.least.one B.least;have h1:=A.at_;have h2:=B.at_;have hw:w=w':=by
  rcases lt_trichotomy w w' with z|z|z
  .have:=ju (by omega) E (show w+1<=w' by omega);have:=tZ (by omega) E w;rw[A.own] at this;simp at this
   omega
  .exact z
  .have:=ju (by omega) E (show w'+1<=w by omega);have:=tZ (by omega) E w';rw[B.own] at this;simp at this
   omega
 subst hw;rw[A.eq,B.eq]
def yz(L:Nat)(R:WR bB)(m:WM)(v:WQ):Prop:=(∃r∈R,r.1=m/\v=r.2)\/((∀r∈R,r.1≠m)/\∃n w s,xO L (vR R m) (kR R m) n w s/\v=some (s++m))
theorem yz.one(O:bw L R)(hL:2<=L){v v':WQ}(A:yz L R m v)(B:yz L R m v'):v=v':=by
 rcases A with⟨r,hr,e,rfl⟩|⟨h1,n,w,s,S,rfl⟩<;>rcases B with⟨r',hr',e',rfl⟩|⟨h2,n',w',s',S',rfl⟩
 .rw[O.one hr hr' (e.trans e'.symm)]
 .exact absurd e (h2 r hr)
 .exact absurd e' (h1 r' hr')
 .rw[S.one hL S']
theorem yz.len(O:bw L R)(hL:2<=L){x:WM}(M:Mark L m)(A:yz L R m (some x)):Mark L x/\x.length<=501+m.length:=by
 rcases A with⟨r,hr,e,h⟩|⟨h1,n,w,s,S,h⟩
 .have:=O.marks r hr x h.symm;exact⟨this.1,by omega⟩
 .injection h with h
  subst h;obtain⟨a1,a2,a3,a4,_⟩:=S.all hL (O.zT m) (O.Rb m);have:=O.lens m;exact⟨⟨a1.ls.app M.ls,Na.app M.na M.ne,by simp[M.ne]⟩,by rw[length_append];omega⟩
def vV(K:W.Frag)(H:Hp)(p:Addr)(R:WR bB):Prop:=∃xs,aZ K H p xs/\dH H xs (R.map jD)
theorem vV.get{R:WR bB}(h:vV K H p R){r:bB}(hi:R[i]?=some r):∃xs t,aZ K H p xs/\xs[i]?=some (.ref t)/\ff K H t [ay r.1,oV r.2]:=by
 obtain⟨xs,a,b⟩:=h;have hl:=b.len;rw[length_map] at hl;have hlt:i<R.length:=(List.getElem?_eq_some_iff.mp hi).1;obtain⟨x,hx⟩:=some_at (l:=xs) (i:=i) (by omega);obtain⟨q,t,e1,e2,e3⟩:=b.get hx;rw[getElem?_map,hi] at e1;cases e1;subst e2;exact⟨xs,t,a,hx,ff.of e3⟩
def vW(K:W.Frag):Sp:=λvs H Q _=>∃(p:Addr) (R:WR bB) (m:WM),vs=[.ref p,.str (txt m)]/\vV K H p R/\R.Pairwise (λa b=>a.1<b.1)/\R.length<=10000/\
 ∀k,k<=R.length->(∀r∈R.take k,r.1<m)->(∀r∈R.drop k,¬r.1<m)->Q (.int (k:Nat)) H
def vX(K:W.Frag):TS:=
  aJ (aY (tC (.int 0)) (aG 2))
   (aJ (aY (dj (b5 K) (ah (ai 0) az)) (aG 3))
   (aJ (qk (bD (aS xF (ai 2) (ai 3))) (aJ (aY (aS se (aS bS (ai 2) (ai 3)) (tC (.int 2))) (aG 4))
   (cW (bD (aS N3 (aS (dF K) (aS (bY K) (ai 0) (ai 4)) (tC (.int 0))) (ai 1))) (aY (aS bS (ai 4) (tC (.int 1))) (aG 2)) (aY (ai 4) (aG 3)))))
   (bA (ai 2))))
def Lm(p:Addr)(R:WR bB)(m:WM)(H:Hp):Nat->St->Hp->Prop:=λc Z H'=>∃(f l:Nat) (v4:Option V),H'=H/\Z=[some (.ref p),some (.str (txt m)),some (.int f),some (.int l),v4]/\f<=l/\l<=R.length/\c=l-f/\
 (∀i r,R[i]?=some r->i<f->r.1<m)/\∀i r,R[i]?=some r->l<=i->¬r.1<m
theorem Cb(hN:N.length=5)(h:vW K vs H Q E):vX K {nx:=λ_ H'=>Q .non H',rt:=Q} (L2.start N vs) H:=by
 obtain⟨p,R,m,rfl,hA,up,hl,q⟩:=h;unfold vX L2.start;rw[hN];refine aO λc hc=>?_;nofun;refine hc _ _ ?_;clear hc c;refine aO λc hc=>?_;nofun;obtain⟨xs,hq,hp⟩:=id hA;have hxl:=hp.len;rw[length_map] at hxl;refine bG hq (hc _ _ ?_);clear hc c;rw[hxl];refine aT λc hc=>?_;refine u0 (Lm p R m H) R.length ⟨0,R.length,none,rfl,rfl,zero_le _,le_refl _,rfl,λi r _ h=>absurd h (Nat.not_lt_zero _),λi r e h=>absurd (List.getElem?_eq_some_iff.mp e).1 (by omega)⟩ ?_;rintro cc Z H' ⟨f,l,v4,rfl,rfl,h1,h2,rfl,h3,h4⟩ W hT hF;nofun
 by_cases z:(f:Int)<(l:Int)
 .rw[decide_eq_true z];refine hT _ ?_;refine aO λc2 hc2=>?_;nofun;refine⟨cdiv (by decide) (by decide),hc2 _ _ ?_⟩;clear hc2 c2;rw[show ((f:Int)+(l:Int))/2=(((f+l)/2:Nat):Int) by omega]
  generalize hg:(f+l)/2=g;obtain⟨r,hr⟩:=some_at (l:=R) (i:=g) (by omega);obtain⟨ys,t,b1,b2,b3⟩:=hA.get hr;nofun;refine bq b1 (by omega) (by rw[toNat_natCast];exact b2) ?_;refine bH (v:=ay r.1) b3 (by decide) rfl ?_;simp? [ay]
  have gt:∀i r',R[i]?=some r'->g<=i->¬r.1<m->¬r'.1<m:=λi r' e hi hn hm=>by
   rcases eq_or_lt_of_le hi with e2|e2
   .subst e2;rw[hr] at e;cases e;exact hn hm
   .obtain⟨a1,a2⟩:=List.getElem?_eq_some_iff.mp hr;obtain⟨a3,a4⟩:=List.getElem?_eq_some_iff.mp e;have:=pairwise_iff_getElem.mp up g i a1 a3 e2;rw[a2,a4] at this;exact hn (List.lt_trans this hm)
  have lt:∀i r',R[i]?=some r'->i<g+1->r.1<m->r'.1<m:=λi r' e hi hm=>by
   rcases eq_or_lt_of_le (Nat.le_of_lt_succ hi) with e2|e2
   .subst e2;rw[hr] at e;cases e;exact hm
   .obtain⟨a1,a2⟩:=List.getElem?_eq_some_iff.mp hr;obtain⟨a3,a4⟩:=List.getElem?_eq_some_iff.mp e;have:=pairwise_iff_getElem.mp up i g a3 a1 e2;rw[a2,a4] at this;exact List.lt_trans this hm
  refine⟨_,_,rfl,rfl,_,rfl,?_⟩
  by_cases y:r.1<m
  .rw[if_pos (decide_eq_true y)];exact⟨_,show l-(g+1)<l-f by omega,g+1,l,_,rfl,rfl,by omega,h2,rfl,λi r' e hi=>lt i r' e hi y,h4⟩
  .rw[if_neg (by rw[decide_eq_false y];decide)];exact⟨_,show g-f<l-f by omega,f,g,_,rfl,rfl,by omega,by omega,rfl,h3,λi r' e hi=>gt i r' e hi y⟩
 .rw[decide_eq_false z];refine hF _ (hc _ _ ?_);nofun;have e:f=l:=by omega
  subst e;refine q f h2 (λr hr=>?_) λr hr=>?_
  .obtain⟨i,hi,rfl⟩:=mem_iff_getElem.mp hr;rw[length_take] at hi;exact h3 i _ (by rw[List.getElem_take];exact getElem?_eq_getElem (by omega)) (by omega)
  .obtain⟨i,hi,rfl⟩:=mem_iff_getElem.mp hr;rw[length_drop] at hi;exact h4 (f+i) _ (by rw[List.getElem_drop];exact getElem?_eq_getElem (by omega)) (by omega)
def pI(K:W.Frag):Sp:=λvs H Q _=>∃(p:Addr) (R:WR bB),vs=[.ref p]/\vV K H p R/\Q (oV (fR R)) H
def vY(K:W.Frag):TS:=
  aJ (iy (bV K (ai 0)) (AX K 2 (kh (aG 1) (kh (aG 2) AW))) (cW (tB (iY (ai 2))) (bA (ai 2)) (b8)))
   (bA (tC .non))
theorem Cc{R:WR bB}{r:bB}(h:R[i]?=some r):fR (R.drop i)=match r.2 with|some x=>some x|none=>fR (R.drop (i+1)):=by
 rw[kN h];exact(Ca r _).trans (by cases r.2<;>rfl)
theorem Cd(hN:N.length=3)(h:pI K vs H Q E):vY K {nx:=λ_ H'=>Q .non H',rt:=Q} (L2.start N vs) H:=by
 obtain⟨p,R,rfl,⟨xs,hq,hp⟩,q⟩:=h;unfold vY L2.start;rw[hN];have hxl:=hp.len;rw[length_map] at hxl;refine aT λc hc=>?_;nofun;refine uY (a:=p) (xs:=xs) (λQ h=>⟨_,rfl,h⟩) hq (λi Z H'=>∃(v1 v2:Option V),H'=H/\Z=[some (.ref p),v1,v2]/\fR (R.drop i)=fR R) ⟨_,_,rfl,rfl,by rw[drop_zero]⟩ (λi Z H' _ h=>by obtain⟨_,_,e,_⟩:=h;rw[e];exact hq) ?_ ?_
 .rintro i x Z H' hx ⟨v1,v2,rfl,rfl,hf⟩;obtain⟨k,t,ek,rfl,ht⟩:=hp.get hx;rw[getElem?_map] at ek;obtain⟨⟨m,v⟩,ek2,rfl⟩:=map_eq_some_iff.mp ek;rw[Cc ek2] at hf;simp? [AX,kh,AW,jD]
  refine⟨[ay m,oV v],ff.of ht,rfl,ay m,[oV v],rfl,oV v,[],rfl,rfl,?_⟩;cases v with
  |none=>
   simp? [oV]
   exact⟨_,_,rfl,hf⟩
  |some y=>
   simp? [oV]
   rw[<-hf] at q;exact q
 .rintro Z H' ⟨v1,v2,rfl,rfl,hf⟩;refine hc _ _ ?_;nofun;rw[<-hf,List.drop_of_length_le (by omega)] at q;exact q
def kO:WQ->Key
 |none=>.non
 |some l=>.inr (txt l)
theorem V0(o:WQ):kV (kO o)=oV o:=by cases o<;>rfl
theorem Ln{a b:WQ}(h:kO a=kO b):a=b:=by
 cases a<;>cases b
 .rfl
 .cases h
 .cases h
 .injection h with h;rw[cJ.mp h]
def fS(L:Nat)(kvs:WR (WR Key×V)):Prop:=∀lo hi v,cV kvs [kO lo,kO hi]=some v->∃n w s,v=ay s/\xO L lo hi n w s
theorem fS.nil(L:Nat):fS L []:=λlo hi v h=>by cases h
theorem fS.put{kvs:WR (WR Key×V)}(h:fS L kvs){w:Nat}{s:WM}(S:xO L lo hi n w s):fS L (putK kvs [kO lo,kO hi] (ay s)):=λlo' hi' v e=>by
 rw[vm] at e;split at e
 .rename_i q
  injection q with q1 q2
  injection q2 with q2 _
  rw[Ln q1,Ln q2];injection e with e
  exact⟨n,w,s,e.symm,S⟩
 .exact h _ _ _ e
def D3(K:W.Frag):Sp:=λvs H Q _=>∃(L:Nat) (p d:Addr) (R:WR bB) (m:WM) (kvs:WR (WR Key×V)),vs=[.int L,.ref p,.str (txt m),.ref d]/\2<=L/\L<=26/\vV K H p R/\bw L R/\Mark L m/\m.length<=90000/\
 H d=some (.dT kvs)/\fS L kvs/\kvs.length<=100000/\
 ∀H' v kvs',Keeps [d] H H'->H' d=some (.dT kvs')->fS L kvs'->kvs'.length<=kvs.length+1->yz L R m v->Q (oV v) H'
def D4(K:W.Frag)(c:Addr):TS:=
  aJ (aY (aF (vW K) [] E0 (ah (ai 1) (ah (ai 2) az))) (aG 4))
   (aJ (cW (qh (bD (aS xF (ai 4) (dj (b5 K) (ah (ai 1) az)))) (bD (aS tV (aS (dF K) (aS (bY K) (ai 1) (ai 4)) (tC (.int 0))) (ai 2)))) (bA (aS (dF K) (aS (bY K) (ai 1) (ai 4)) (tC (.int 1)))) (b8))
   (aJ (aY (aF (pI K) [] E0 (ah (oX K (ah (Nm (CV K) (ai 1) fV (mH (ai 4))) az)) az)) (aG 5))
   (aJ (aY (aF (pI K) [] E0 (ah (Nm (CV K) (ai 1) (mH (ai 4)) fV) az)) (aG 6))
   (aJ (cW (bD (aS (BJ true) (iZ (ah (ai 5) (ah (ai 6) az))) (ai 3))) (jY (ai 3) (iZ (ah (ai 5) (ah (ai 6) az))) (aF (DZ c) [] E0 (ah (ai 0) (ah (ai 5) (ah (ai 6) az))))) (b8))
   (bA (aS Bq (g9 (ai 3) (iZ (ah (ai 5) (ah (ai 6) az)))) (ai 2)))))))
theorem dH.take:∀{xs:WR V} {ps:WR (V×V)} (n:Nat),dH H xs ps->dH H (xs.take n) (ps.take n)
 |[],[],n,_=>by simp[dH]
 |[],_::_,_,h=>h.elim
 |_::_,[],_,h=>h.elim
 |_::_,_::_,0,_=>trivial
 |_::_,_::_,n+1,⟨a,r⟩=>⟨a,dH.take n r⟩
theorem dH.drop:∀{xs:WR V} {ps:WR (V×V)} (n:Nat),dH H xs ps->dH H (xs.drop n) (ps.drop n)
 |[],[],n,_=>by simp[dH]
 |[],_::_,_,h=>h.elim
 |_::_,[],_,h=>h.elim
 |_::_,_::_,0,h=>h
 |_::_,_::_,n+1,⟨_,r⟩=>dH.drop n r
theorem dH.rev:∀{xs:WR V} {ps:WR (V×V)},dH H xs ps->dH H xs.reverse ps.reverse
 |[],[],_=>trivial
 |[],_::_,h=>h.elim
 |_::_,[],h=>h.elim
 |_::_,_::_,⟨a,r⟩=>by
  rw[List.reverse_cons,List.reverse_cons];exact dH.app (dH.rev r) ⟨a,trivial⟩
section
variable{L:Nat}{R:WR bB}{m:WM}{k:Nat}
theorem yC(h1:∀r∈R.take k,r.1<m)(h2:∀r∈R.drop k,¬r.1<m):R.filter (j3 m)=R.take k/\R.filter (λr=>!j3 m r)=R.drop k:=by
 have a1:(R.take k).filter (j3 m)=R.take k:=List.filter_eq_self.mpr λr hr=>decide_eq_true (h1 r hr);have a2:(R.drop k).filter (j3 m)=[]:=filter_eq_nil_iff.mpr λr hr=>by rw[j3,decide_eq_false (h2 r hr)];decide
 have a3:(R.take k).filter (λr=>!j3 m r)=[]:=filter_eq_nil_iff.mpr λr hr=>by rw[j3,decide_eq_true (h1 r hr)];decide
 have a4:(R.drop k).filter (λr=>!j3 m r)=R.drop k:=List.filter_eq_self.mpr λr hr=>by rw[j3,decide_eq_false (h2 r hr)];rfl
 constructor
 .conv=>lhs;rw[<-take_append_drop k R]
  rw[filter_append,a1,a2,append_nil]
 .conv=>lhs;rw[<-take_append_drop k R]
  rw[filter_append,a3,a4,nil_append]
theorem Lo(h1:∀r∈R.take k,r.1<m)(h2:∀r∈R.drop k,¬r.1<m):fR (R.take k).reverse=vR R m:=by
 unfold vR;rw[List.filter_reverse,(yC h1 h2).1]
theorem IL(h1:∀r∈R.take k,r.1<m)(h2:∀r∈R.drop k,¬r.1<m):fR (R.drop k)=kR R m:=by
 unfold kR;rw[(yC h1 h2).2]
theorem Lp(up:R.Pairwise λa b=>a.1<b.1)(h1:∀r∈R.take k,r.1<m)(h2:∀r∈R.drop k,¬r.1<m)(h3:∀r,R[k]?=some r->r.1≠m):∀r∈R,r.1≠m:=λr hr e=>by
 rw[<-take_append_drop k R] at hr
 rcases mem_append.mp hr with hr|hr
 .have:=h1 r hr;rw[e] at this;exact List.lt_irrefl _ this
 .obtain⟨i,hi,rfl⟩:=mem_iff_getElem.mp hr;rw[length_drop] at hi;rw[List.getElem_drop] at e;cases i with
  |zero=>exact h3 _ (getElem?_eq_getElem (by omega)) e
  |succ i=>
   have:=pairwise_iff_getElem.mp up k (k+(i+1)) (by omega) (by omega) (by omega);rw[e] at this;exact h2 R[k] (by rw[drop_eq_getElem_cons (show k<R.length by omega)];exact mem_cons_self) this
end
theorem vZ{lo hi:Option Int}(h:aZ K H a xs)(q:∀p,H p=none->Q (.ref p) (upd H p (.lst (yP xs lo hi)))):CV K (.ref a) lo hi H Q:=⟨a,xs,rfl,h,q⟩
theorem Keeps.of_same(s:aI H H'):Keeps F H H':=λb o e _=>s b o e
theorem IM{c:Addr}(hN:N.length=7)(h:D3 K vs H Q E):D4 K c {nx:=λ_ H'=>Q .non H',rt:=Q} (L2.start N vs) H:=by
 obtain⟨L,p,d,R,m,kvs,rfl,hL,dY,hA,O,M,hm,hd,hst,hkv,q⟩:=h;unfold D4 L2.start;rw[hN];refine aO λc1 hc=>?_;nofun;refine⟨p,R,m,rfl,hA,O.up,O.len,λk hk h1 h2=>hc _ _ ?_⟩;clear hc c1;obtain⟨xs,hq,hp⟩:=id hA;have hxl:=hp.len;rw[length_map] at hxl;refine aT λc1 hc=>?_;suffices main:(∀r∈R,r.1≠m)->c1 [some (.int L),some (.ref p),some (.str (txt m)),some (.ref d),some (.int k),none,none] H by
  nofun;refine bG hq ⟨_,rfl,?_⟩;rw[hxl]
  by_cases z:(k:Int)<(R.length:Int)
  .rw[if_pos z];obtain⟨r,hr⟩:=some_at (l:=R) (i:=k) (by omega);obtain⟨ys,t,b1,b2,b3⟩:=hA.get hr;refine bq b1 (by omega) (by rw[toNat_natCast];exact b2) ?_;refine bH (v:=ay r.1) b3 (by decide) rfl ?_;refine⟨rfl,?_⟩
   by_cases e:r.1=m
   .rw[if_pos (by rw[e];rfl)];refine bq b1 (by omega) (by rw[toNat_natCast];exact b2) ?_;refine bH (v:=oV r.2) b3 (by decide) rfl ?_;exact q H _ kvs (Keeps.of_same (aI.refl _)) hd hst (by omega) (.inl ⟨r,mem_of_getElem? hr,e,rfl⟩)
   .rw[if_neg (λz=>e (cJ.mp (by injection z)))];exact main (Lp O.up h1 h2 λr' hr'=>by rw[hr] at hr';cases hr';exact e)
  .rw[if_neg z];exact main (Lp O.up h1 h2 λr' hr'=>absurd (List.getElem?_eq_some_iff.mp hr').1 (by omega))
 intro hno;refine hc _ _ ?_;clear hc c1;refine aO λc1 hc=>?_;simp? [oX]
 refine vZ hq λp1 hp1=>?_;rw[FH (by omega)];have s1:=aI.up H hp1 (o:=.lst (xs.take k));refine⟨p1,rfl,xs.take k,aZ.here,λp2 hp2=>?_⟩;have s2:=s1.new hp2 (o:=.lst (xs.take k).reverse);refine⟨p2,(R.take k).reverse,rfl,⟨_,aZ.here,?_⟩,hc _ _ ?_⟩
 .have:=(hp.take k).rev;rw[<-List.map_take,<-List.map_reverse] at this;exact this.same s2
 clear hc c1;rw[Lo h1 h2];generalize upd (upd H p1 _) p2 _=H2 at s2 ⊢;refine aO λc1 hc=>?_;nofun;refine vZ (s2.seq hq) λp3 hp3=>?_;rw[yy (by omega)];have s3:=s2.new hp3 (o:=.lst (xs.drop k));refine⟨p3,R.drop k,rfl,⟨_,aZ.here,?_⟩,hc _ _ ?_⟩
 .have:=hp.drop k;rw[<-List.map_drop] at this;exact this.same s3
 clear hc c1;rw[IL h1 h2];generalize upd H2 p3 _=H3 at s3 ⊢;have hlen:=O.lens m;have hok:=O.Rb m;have hMk:=O.zT m;generalize elo:vR R m=lo at hlen hok hMk ⊢;generalize ehi:kR R m=hi at hlen hok hMk ⊢;have ek:[oV lo,oV hi]=[kO lo,kO hi].map kV:=by simp[V0]
 refine aT λc1 hc=>?_;suffices main:∀H5 D5 s n w,Keeps [d] H H5->H5 d=some (.dT D5)->fS L D5->D5.length<=kvs.length+1->cV D5 [kO lo,kO hi]=some (ay s)->xO L lo hi n w s->
   c1 [some (.int L),some (.ref p),some (.str (txt m)),some (.ref d),some (.int k),some (oV lo),some (oV hi)] H5 by
  nofun;refine⟨by decide,λt ht=>?_⟩;have s4:=s3.new ht (o:=.tup [oV lo,oV hi]);have hT:(upd H3 t (.tup [oV lo,oV hi])) t=some (.tup ([kO lo,kO hi].map kV)):=by rw[<-ek];exact aq
  generalize upd H3 t _=H4 at s4 hT ⊢;have hd4:=s4 _ _ hd;refine⟨d,cV kvs [kO lo,kO hi],rfl,gx.t hd4 hT,_,rfl,?_⟩;cases ev:cV kvs [kO lo,kO hi] with
  |some v=>
   obtain⟨n,w,s,rfl,S⟩:=hst _ _ _ ev;rw[if_neg (by simp)];exact main H4 kvs s n w (Keeps.of_same s4) hd4 hst (by omega) ev S
  |none=>
   rw[if_pos (by simp)];simp? [jY]
   refine⟨L,lo,hi,rfl,hL,dY,hMk,λ_ H5 n w s s5 S=>?_,λno=>absurd hok no⟩;refine⟨by decide,λt2 ht2=>?_⟩;have s6:=(s4.trans s5).new ht2 (o:=.tup [oV lo,oV hi]);have hT2:(upd H5 t2 (.tup [oV lo,oV hi])) t2=some (.tup ([kO lo,kO hi].map kV)):=by rw[<-ek];exact aq
   generalize upd H5 t2 _=H6 at s6 hT2 ⊢;refine⟨_,vq.t (s6 _ _ hd) hT2 (by rw[sizeLine_eq];omega),?_⟩;exact main _ _ s n w ((Keeps.of_same s6).upd (.inl mem_cons_self)) aq (hst.put S) (gg _ _ _) (by rw[vm,if_pos rfl];rfl) S
 intro H5 D5 s n w k5 hd5 st5 V1 ev5 S;refine hc _ _ ?_;clear hc c1;simp? [g9]
 refine⟨by decide,λt ht=>?_⟩;have hT:(upd H5 t (.tup [oV lo,oV hi])) t=some (.tup ([kO lo,kO hi].map kV)):=by rw[<-ek];exact aq
 have ne:d≠t:=λz=>by subst z;rw[hd5] at ht;cases ht
 have hd6:(upd H5 t (.tup [oV lo,oV hi])) d=some (.dT D5):=by rw[aH ne];exact hd5
 have k6:Keeps [d] H (upd H5 t (.tup [oV lo,oV hi])):=k5.upd (.inr ht);generalize upd H5 t _=H6 at hT hd6 k6 ⊢;refine⟨ay s,by rw[<-ev5];exact gx.t hd6 hT,?_⟩;obtain⟨_,b2,_,b4,_⟩:=S.all hL hMk hok;have hz:s.length<=501:=by rw[b2];omega
 refine zc (by omega) ?_;exact q H6 (some (s++m)) D5 k6 hd6 st5 V1 (.inr ⟨hno,n,w,s,by rw[elo,ehi];exact S,rfl⟩)
structure gh(K:W.Frag)(C:Addr):Prop where
 cls:ES K C
 nl:di K C "letters"
 nh:di K C "hands"
 nn:di K C "own_number"
 nr:di K C "renewals"
 nt:di K C "thing_of"
 nk:di K C "taken"
def ck(L h j:Nat)(pr pt pk:Addr):WR (Str×V):=[("letters",.int L),("hands",.int h),("own_number",.int j),("renewals",.ref pr),("thing_of",.ref pt),("taken",.ref pk)]
def fH(kvs:WO):WR (Key×V):=kvs.map λkv=>(Key.inr (txt kv.1),ay kv.2)
def iX(ks:WN):WR (Key×V):=ks.map λm=>(Key.inr (txt m),.bl true)
structure jg(C:Addr)(H:Hp)(x dx pr pt pk:Addr)(L h j:Nat)(kvs:WO)(ks:WN):Prop where
 ins:H x=some (.ins C dx (ck L h j pr pt pk))
 own:H dx=some (.own x)
 tho:H pt=some (.dK (fH kvs))
 tak:H pk=some (.dK (iX ks))
 apart:pt≠pk
theorem jg.same{x pt:Addr}(S:jg C H x dx pr pt pk L h j kvs ks)(s:aI H H'):jg C H' x dx pr pt pk L h j kvs ks:=⟨s _ _ S.ins,s _ _ S.own,s _ _ S.tho,s _ _ S.tak,S.apart⟩
theorem Lq(kvs:WO):fH kvs=(kvs.map λkv=>(kv.1,ay kv.2)).map λkv=>(Key.inr (txt kv.1),kv.2):=by
 unfold fH;rw[map_map];rfl
theorem wc(m:WM):∀ks:WN,(cV (iX ks) (Key.inr (txt m))).isSome=decide (m∈ks)
 |[]=>by simp[iX,vh]
 |k::ks=>by
  have ih:=wc m ks;show (cV ((Key.inr (txt k),V.bl true)::iX ks) _).isSome=_
  by_cases e:k=m
  .subst e;rw[cN rfl];simp
  .rw[cy (λz=>e (cJ.mp (by injection z))),ih];simp[Ne.symm e]
section
variable{K:W.Frag}{C:Addr}{H:Hp}{x dx pr pt pk:Addr}{L h j:Nat}{kvs:WO}{ks:WN}{Z:St}{i:Nat}{Q:VK}
theorem D6(S:jg C H x dx pr pt pk L h j kvs ks)(c:gh K C)(e:Z[i]?=some (some (.ref x)))(q:Q (.int L) H):dU K (ai i) "letters" Z H Q:=⟨_,e,x,C,dx,_,_,rfl,S.ins,c.cls,c.nl,rfl,q⟩
theorem Lr(S:jg C H x dx pr pt pk L h j kvs ks)(c:gh K C)(e:Z[i]?=some (some (.ref x)))(q:Q (.int h) H):dU K (ai i) "hands" Z H Q:=⟨_,e,x,C,dx,_,_,rfl,S.ins,c.cls,c.nh,rfl,q⟩
theorem Lu(S:jg C H x dx pr pt pk L h j kvs ks)(c:gh K C)(e:Z[i]?=some (some (.ref x)))(q:Q (.int j) H):dU K (ai i) "own_number" Z H Q:=⟨_,e,x,C,dx,_,_,rfl,S.ins,c.cls,c.nn,rfl,q⟩
theorem D7(S:jg C H x dx pr pt pk L h j kvs ks)(c:gh K C)(e:Z[i]?=some (some (.ref x)))(q:Q (.ref pr) H):dU K (ai i) "renewals" Z H Q:=⟨_,e,x,C,dx,_,_,rfl,S.ins,c.cls,c.nr,rfl,q⟩
theorem nq(S:jg C H x dx pr pt pk L h j kvs ks)(c:gh K C)(e:Z[i]?=some (some (.ref x)))(q:Q (.ref pt) H):dU K (ai i) "thing_of" Z H Q:=⟨_,e,x,C,dx,_,_,rfl,S.ins,c.cls,c.nt,rfl,q⟩
theorem zU(S:jg C H x dx pr pt pk L h j kvs ks)(c:gh K C)(e:Z[i]?=some (some (.ref x)))(q:Q (.ref pk) H):dU K (ai i) "taken" Z H Q:=⟨_,e,x,C,dx,_,_,rfl,S.ins,c.cls,c.nk,rfl,q⟩
end
def kT(C:Addr):Sp:=λvs H Q _=>∃(x dx pr pt pk:Addr) (L h j:Nat) (kvs:WO) (ks:WN),vs=[.ref x]/\jg C H x dx pr pt pk L h j kvs ks/\kvs.length<64/\(kvs.map (·.1)).Nodup/\
 ∀H' p (zs:WN),aI H H'->H' p=none->zs.Pairwise (·<·)->(∀m,m∈zs↔m∈kvs.map (·.1)/\¬m∈ks)->Q (.ref p) (upd H' p (.lst (zs.map ay)))
def we(K:W.Frag):TS:=bA (dw (bV K (dj oZ (ah (dU K (ai 0) "thing_of") az))) [0] (bD (aS (BJ true) (ai 0) (dU K (ai 1) "taken"))) (ai 0))
def TQ(H:Hp)(zs:WN)(ks:WN):Nat->WR V->Hp->Prop:=λi ys H'=>H'=H/\ys=((zs.take i).filter λm=>!decide (m∈ks)).map ay
theorem Ce(cl:gh K C)(hN:N.length=1)(h:kT C vs H Q E):we K {nx:=λ_ H'=>Q .non H',rt:=Q} (L2.start N vs) H:=by
 obtain⟨x,dx,pr,pt,pk,L,h,j,kvs,ks,rfl,S,h64,hnd,q⟩:=h;unfold we L2.start;rw[hN];nofun;refine tX λR0 hR0=>?_;simp? [bV]
 refine nq S cl rfl ⟨pt,kvs.map λkv=>(kv.1,ay kv.2),rfl,by rw[<-Lq];exact S.tho,by rw[length_map];exact h64,λl zs hl hpm hle=>⟨l,rfl,⟨_,aZ.here⟩,?_⟩⟩
 rw[hR0];have hk:(kvs.map λkv=>(kv.1,ay kv.2)).map (·.1)=kvs.map (·.1):=by rw[map_map];rfl
 rw[hk] at hpm;have zlt:=gz hle (hpm.nodup_iff.mpr hnd);have s1:=aI.up H hl (o:=.lst (zs.map ay));have S1:=S.same s1;have hZ:(upd H l (.lst (zs.map ay))) l=some (.lst (zs.map ay)):=aq;generalize upd H l _=H1 at s1 S1 hZ ⊢;have zl:zs.length<64:=by rw[hpm.length_eq,length_map];exact h64
 refine kD (K:=K) (xs:=zs.map ay) (Z:=[some (.ref x)]) (fs:=[0]) (tt:=bD (aS (BJ true) (ai 0) (dU K (ai 1) "taken"))) (te:=ai 0) (Q:=Q) (TQ H1 zs ks) ⟨rfl,rfl⟩ (λi ys H' _ p=>by
  obtain⟨e,e2⟩:=p;rw[e,e2,length_map];refine⟨aZ.of hZ,Nat.le_trans (length_filter_le _ _) ?_⟩;rw[length_take];exact min_le_left _ _) (by rw[length_map,sizeLine_eq];omega) ?_ ?_
 .rintro i v ys H' hv ⟨rfl,rfl⟩ W hW;rw[getElem?_map] at hv;obtain⟨m,hm,rfl⟩:=map_eq_some_iff.mp hv;simp? [ay]
  refine zU S1 cl rfl ⟨pk,_,rfl,gx.k (k:=Key.inr (txt m)) S1.tak,_,rfl,?_⟩;rw[wc];have etk:zs.take (i+1)=zs.take i++[m]:=by rw[take_add_one,hm];rfl
  by_cases z:m∈ks
  .rw[if_neg (by simp[z])];refine hW _ _ ⟨rfl,?_⟩;rw[etk,filter_append];simp[z]
  .rw[if_pos (by simp[z])];refine hW _ _ ⟨rfl,?_⟩;rw[etk,filter_append,map_append];simp[z,ay]
 .rintro ys H' ⟨rfl,rfl⟩ p hp;rw[length_map,take_length];refine q H' p _ s1 hp (zlt.filter _) λm=>?_;rw[mem_filter,hpm.mem_iff];simp
def iM(lo:WQ)(m:WM):Bool:=match lo with|none=>true|some l=>decide (l<m)
def qV(K:W.Frag)(C:Addr):Sp:=λvs H Q _=>∃(x dx pr pt pk:Addr) (L h j:Nat) (kvs:WO) (ks:WN) (lo:WQ),vs=[.ref x,oV lo]/\jg C H x dx pr pt pk L h j kvs ks/\kvs.length<=10000/\
 ∀H' v,aI H H'->(v=none->∀k∈kvs.map (·.1),iM lo k=false)->(∀m,v=some m->m∈kvs.map (·.1)/\iM lo m=true/\∀k∈kvs.map (·.1),iM lo k=true->¬k<m)->Q (oV v) H'
def qW(K:W.Frag):TS:=bA (BK K (KQ (dw (Fl (dU K (ai 0) "thing_of")) [1] (AM (tB (uI (ai 1))) (bD (aS N3 (ai 1) (ai 0)))) (ai 0))) (tC .non))
theorem zV(cl:gh K C)(hN:N.length=2)(h:qV K C vs H Q E):qW K {nx:=λ_ H'=>Q .non H',rt:=Q} (L2.start N vs) H:=by
 obtain⟨x,dx,pr,pt,pk,L,h,j,kvs,ks,lo,rfl,S,hl,q⟩:=h;unfold qW L2.start;rw[hN];simp? [BK]
 refine Q9 (a:=pt) (kvs:=fH kvs) (λQ h=>nq S cl rfl h) S.tho (λi ys H'=>(∀b,b≠pt->H' b=H b)/\ys=(((kvs.map (·.1)).take i).filter (iM lo)).map ay) (λH' k=>⟨k,rfl⟩)
  (λi ys H' _ p=>by
   rw[p.2,length_map];refine Nat.le_trans (length_filter_le _ _) ?_;rw[length_take];exact min_le_left _ _) (by rw[fH,length_map,sizeLine_eq];omega) ?_ ?_
 .rintro i k v ys H' hv ⟨hk,rfl⟩ W hW;unfold fH at hv;rw[getElem?_map] at hv;obtain⟨kv,hm,e⟩:=map_eq_some_iff.mp hv;cases e;have etk:(kvs.map (·.1)).take (i+1)=(kvs.map (·.1)).take i++[kv.1]:=by rw[take_add_one,getElem?_map,hm];rfl
  have yes:iM lo kv.1=true->W ((((kvs.map (·.1)).take i).filter (iM lo)).map ay++[ay kv.1]) H':=λz=>hW _ _ ⟨hk,by rw[etk,filter_append,map_append];simp[z]⟩ rfl;have no:iM lo kv.1=false->W ((((kvs.map (·.1)).take i).filter (iM lo)).map ay) H':=λz=>hW _ _ ⟨hk,by rw[etk,filter_append];simp[z]⟩ rfl;cases lo with
  |none=>
   simp? [kV,oV]
   exact yes rfl
  |some l=>
   simp? [kV,oV]
   refine⟨_,_,rfl,rfl,_,rfl,?_⟩
   by_cases z:l<kv.1
   .rw[if_pos (decide_eq_true z)];exact yes (decide_eq_true z)
   .rw[if_neg (by rw[decide_eq_false z];decide)];exact no (decide_eq_false z)
 .rintro ys H' ⟨hk,rfl⟩ p hp hne;have eH:upd H' pt (.dK (fH kvs))=H:=by
   funext b
   by_cases z:b=pt
   .subst z;rw[aq];exact S.tho.symm
   .rw[aH z];exact hk b z
  rw[eH];have hpH:H p=none:=by rw[<-hk p hne];exact hp
  have s1:=aI.up H hpH (o:=.lst ((((kvs.map (·.1)).take (fH kvs).length).filter (iM lo)).map ay));have full:(kvs.map (·.1)).take (fH kvs).length=kvs.map (·.1):=List.take_of_length_le (by rw[fH,length_map,length_map];exact le_refl _);refine⟨p,rfl,(((kvs.map (·.1)).take (fH kvs).length).filter (iM lo)),aZ.here,λe=>?_,λm hm hmin=>?_⟩
  .rw[full] at e;refine q _ none s1 (λ_ k hk'=>?_) (λm z=>by cases z);have:=filter_eq_nil_iff.mp e k hk';simpa using this
  .rw[full] at hm hmin;obtain⟨h1,h2⟩:=mem_filter.mp hm;exact q _ (some m) s1 (λz=>by cases z) λm' z=>by
    cases z;exact⟨h1,h2,λk hk' hb=>hmin k (mem_filter.mpr ⟨hk',hb⟩)⟩
theorem cE{x pt:Addr}{m:Str}{sp:Sp}{t:TA}{to:TE}(S:jg C H x dx pr pt pk L h j kvs ks)(ho:∀R:VK,R (.ref x) H->to Z H R)(hm:(ck L h j pr pt pk).lookup m=none)(q:t Z H λvs H2=>sp (.ref x::(vs++[])) H2 Q E):cI C m sp [] E to t Z H Q:=
 ho _ ⟨x,dx,_,rfl,S.ins,hm,q⟩
theorem jg.take{x pt:Addr}(S:jg C H x dx pr pt pk L h j kvs ks)(hm:¬m∈ks):jg C (upd H pk (.dK (putK (iX ks) (Key.inr (txt m)) (.bl true)))) x dx pr pt pk L h j kvs (ks++[m]):=by
 have n1:x≠pk:=λz=>by subst z;have:=S.ins.symm.trans S.tak;cases this
 have n2:dx≠pk:=λz=>by subst z;have:=S.own.symm.trans S.tak;cases this
 have e:putK (iX ks) (Key.inr (txt m)) (.bl true)=iX (ks++[m]):=by
  rw[oU _ (by
   have:=wc m ks;rw[decide_eq_false hm] at this;cases w:cV (iX ks) (Key.inr (txt m)) with
   |none=>rfl
   |some v=>rw[w] at this;cases this)]
  unfold iX;rw[map_append];rfl
 rw[e];exact⟨by rw[aH n1];exact S.ins,by rw[aH n2];exact S.own,by rw[aH S.apart];exact S.tho,aq,S.apart⟩
structure pJ(kvs:WO)(ks zs:WN):Prop where
 up:zs.Pairwise (·<·)
 mem:∀m,m∈zs↔m∈kvs.map (·.1)/\¬m∈ks
def pK(C c:Addr):Sp:=λvs H Q E=>∃(x dx pr pt pk:Addr) (L h j:Nat) (kvs:WO) (ks:WN) (i:Int),vs=[.ref x,.int i]/\jg C H x dx pr pt pk L h j kvs ks/\kvs.length<64/\(kvs.map (·.1)).Nodup/\ks.length<=10000/\
 ∀zs,pJ kvs ks zs->((0<=i/\i<zs.length)->∀H' m,zs[i.toNat]?=some m->Keeps [pk] H H'->jg C H' x dx pr pt pk L h j kvs (ks++[m])->Q (.str (txt m)) H')/\(¬(0<=i/\i<zs.length)->∀H',aI H H'->E (.ref c) none H')
def zW(K:W.Frag)(C c:Addr)(E:XK):TS:=
  aJ (aY (cI C "marks" (kT C) [] E0 (ai 0) az) (aG 2))
   (aJ (bR (aF (jB c) [] E (ah (ai 1) (ah (dj (b5 K) (ah (ai 2) az)) az))))
   (aJ (jY (dU K (ai 0) "taken") (aS (bY K) (ai 2) (ai 1)) (tC (.bl true)))
   (bA (aS (bY K) (ai 2) (ai 1)))))
theorem D8{c:Addr}(cl:gh K C)(hN:N.length=3)(h:pK C c vs H Q E):zW K C c E {nx:=λ_ H'=>Q .non H',rt:=Q} (L2.start N vs) H:=by
 obtain⟨x,dx,pr,pt,pk,L,h,j,kvs,ks,i,rfl,S,h64,hnd,hkl,q⟩:=h;unfold zW L2.start;rw[hN];refine aO λc1 hc=>?_;nofun;refine cE S (λR r=>⟨_,rfl,r⟩) rfl ⟨x,dx,pr,pt,pk,L,h,j,kvs,ks,rfl,S,h64,hnd,λH1 p zs s1 hp up mem=>hc _ _ ?_⟩;clear hc c1;obtain⟨q1,q2⟩:=q zs ⟨up,mem⟩;have s2:=s1.new hp (o:=.lst (zs.map ay));have hZ:(upd H1 p (.lst (zs.map ay))) p=some (.lst (zs.map ay)):=aq;generalize upd H1 p _=H2 at s2 hZ ⊢;have S2:=S.same s2;refine aT λc1 hc=>?_;nofun;refine bG (aZ.of hZ) ?_;rw[length_map];refine⟨i,_,rfl,λhi=>hc _ _ ?_,λhi=>q2 hi H2 s2⟩;clear hc c1;obtain⟨m,hm⟩:=some_at (l:=zs) (i:=i.toNat) (by omega);have hmk:=(mem m).mp (mem_of_getElem? hm);refine aT λc1 hc=>?_;simp? [jY]
 refine zU S2 cl rfl (bq (v:=ay m) (aZ.of hZ) hi.1 (by rw[getElem?_map,hm];rfl) ⟨pk,rfl,_,vq.k (k:=Key.inr (txt m)) S2.tak (by rw[iX,length_map,sizeLine_eq];omega),hc _ _ ?_⟩);clear hc c1;have S3:=S2.take hmk.2;have np:p≠pk:=λz=>by subst z;rw[S2.tak] at hZ;cases hZ
 have hZ3:(upd H2 pk (.dK (putK (iX ks) (Key.inr (txt m)) (.bl true)))) p=some (.lst (zs.map ay)):=by rw[aH np];exact hZ
 have k3:Keeps [pk] H (upd H2 pk (.dK (putK (iX ks) (Key.inr (txt m)) (.bl true)))):=(s2.keeps _).upd (.inl mem_cons_self);generalize upd H2 pk _=H3 at S3 hZ3 k3 ⊢;nofun;exact bq (v:=ay m) (aZ.of hZ3) hi.1 (by rw[getElem?_map,hm];rfl) (q1 hi H3 m hm k3 S3)
theorem Found.V2{w:Nat}(F:Found L (bC L h j) lo hi n w m)(D:jZ L h j)(M:b7 L lo hi)(ok:iz lo hi):
  Mark L m/\m.length<=1+max (cY lo) (cY hi)/\(∀l,lo=some l->l<m)/\∀u,hi=some u->m<u:=by
 have hL:=D.l2;have hL0:0<L:=by omega
 have hw:w<L^n:=lt_of_lt_of_le F.lt (Lf n hL0 M);have hm:=low_length L w n;rw[<-F.eq] at hm;have h0:w%L≠0:=by have:=((FA hL0 w).mp F.own).1;omega
 have hn1:=F.least.pos;have hnl:=F.least.Lc hL (jv (K:=L) D.hj D.hh) M ok;obtain⟨n',rfl⟩:∃n',n=n'+1:=⟨n-1,by omega⟩;refine⟨?_,by omega,λl e=>?_,λu e=>?_⟩
 .refine⟨by rw[F.eq];exact qB hL0 _ _,λc hc=>?_,λz=>by rw[z] at hm;simp at hm⟩;rw[F.eq,oS hL0] at hc;have:=Option.some.inj hc;omega
 .rw[F.eq,FD hL0 hw h0 (M.mlo l e).1.ls];have:=F.ge;rw[e] at this;exact this
 .rw[F.eq,Le hL0 hw (M.mhi u e).1.ls (M.mhi u e).1.na];have:=F.lt;rw[e] at this;exact this
structure gi(L:Nat)(kvs:WO)(ks:WN)(k b:Nat):Prop where
 nd:(kvs.map (·.1)).Nodup
 mar:∀kv∈kvs,Mark L kv.1/\kv.1.length<=b/\Thing kv.2
 few:kvs.length<=k
 sub:∀m∈ks,m∈kvs.map (·.1)
 tnd:ks.Nodup
theorem gi.mark{k b:Nat}(W:gi L kvs ks k b)(h:m∈kvs.map (·.1)):Mark L m/\m.length<=b:=by
 obtain⟨kv,h1,rfl⟩:=mem_map.mp h;exact⟨(W.mar kv h1).1,(W.mar kv h1).2.1⟩
theorem eZ:∀{ks ms:WN},ks.Nodup->(∀m∈ks,m∈ms)->ks.length<=ms.length
 |[],_,_,_=>zero_le _
 |k::ks,ms,h,s=>by
  obtain⟨h1,h2⟩:=nodup_cons.mp h;have hk:=s k mem_cons_self;have:=eZ (ms:=ms.erase k) h2 λm hm=>(List.mem_erase_of_ne (λz=>h1 (by rw[<-z];exact hm))).mpr (s m (mem_cons_of_mem _ hm));rw[List.length_erase_of_mem hk] at this;have hp:0<ms.length:=List.length_pos_of_mem hk;rw[length_cons];omega
theorem gi.take{k b:Nat}(W:gi L kvs ks k b)(h:m∈kvs.map (·.1))(n:¬m∈ks):gi L kvs (ks++[m]) k b:=
 ⟨W.nd,W.mar,W.few,λy hy=>by
  rcases mem_append.mp hy with hy|hy
  .exact W.sub y hy
  .rw[mem_singleton.mp hy];exact h,by
  rw[nodup_append];exact⟨W.tnd,by simp,λa ha b hb=>by rw[mem_singleton.mp hb];intro z;subst z;exact n ha⟩⟩
structure jE(kvs:WO)(lo v:WQ):Prop where
 no:v=none->∀k∈kvs.map (·.1),iM lo k=false
 yes:∀m,v=some m->m∈kvs.map (·.1)/\iM lo m=true/\∀k∈kvs.map (·.1),iM lo k=true->¬k<m
theorem jE.ok{v:WQ}(F:jE kvs lo v):iz lo v:=λl u e1 e2=>by
 have:=(F.yes u e2).2.1;rw[e1] at this;exact of_decide_eq_true this
theorem jE.marks{k b:Nat}{v:WQ}(F:jE kvs lo v)(W:gi L kvs ks k b)(hb:b<=999)(hl:∀l,lo=some l->l∈kvs.map (·.1)):b7 L lo v/\cY lo<=b/\cY v<=b:=by
 refine⟨⟨λm e=>?_,λm e=>?_⟩,?_,?_⟩
 .have:=W.mark (hl m e);exact⟨this.1,by omega⟩
 .have:=W.mark (F.yes m e).1;exact⟨this.1,by omega⟩
 .cases lo with
  |none=>exact zero_le _
  |some l=>exact(W.mark (hl l rfl)).2
 .cases v with
  |none=>exact zero_le _
  |some l=>exact(W.mark (F.yes l rfl).1).2
theorem jE.new{v:WQ}(F:jE kvs lo v)(h1:∀l,lo=some l->l<m)(h2:∀u,v=some u->m<u):¬m∈kvs.map (·.1):=λhm=>by
 have hb:iM lo m=true:=by
  cases lo with
  |none=>rfl
  |some l=>exact decide_eq_true (h1 l rfl)
 cases v with
 |none=>have:=F.no rfl m hm;rw[hb] at this;cases this
 |some u=>exact(F.yes u rfl).2.2 m hm hb (h2 u rfl)
theorem gi.put{k b:Nat}(W:gi L kvs ks k b){t:WM}(hm:Mark L m)(hl:m.length<=b+1)(ht:Thing t)(hn:¬m∈kvs.map (·.1)):gi L (kvs++[(m,t)]) ks (k+1) (b+1):=by
 refine⟨?_,λkv hkv=>?_,?_,λy hy=>?_,W.tnd⟩
 .rw[map_append,nodup_append];exact⟨W.nd,by simp,λa ha b hb=>by
   intro z;subst z;have:a=m:=by simpa using hb
   rw[this] at ha;exact hn ha⟩
 .rcases mem_append.mp hkv with h|h
  .have:=W.mar kv h;exact⟨this.1,by omega,this.2.2⟩
  .rw[mem_singleton.mp h];exact⟨hm,hl,ht⟩
 .rw[length_append];have:=W.few;simp;omega
 .rw[map_append];exact mem_append_left _ (W.sub y hy)
theorem zX(m:WM):∀kvs:WO,¬m∈kvs.map (·.1)->cV (fH kvs) (Key.inr (txt m))=none
 |[],_=>by simp[fH,vh]
 |k::kvs,h=>by
  show cV ((Key.inr (txt k.1),ay k.2)::fH kvs) _=_;rw[cy (λz=>h (by have e:k.1=m:=cJ.mp (by injection z);rw[<-e];simp))];exact zX m kvs λz=>h (mem_cons_of_mem _ z)
theorem jg.put{x pt:Addr}(S:jg C H x dx pr pt pk L h j kvs ks){t:WM}(hm:¬m∈kvs.map (·.1)):jg C (upd H pt (.dK (putK (fH kvs) (Key.inr (txt m)) (ay t)))) x dx pr pt pk L h j (kvs++[(m,t)]) ks:=by
 have n1:x≠pt:=λz=>by subst z;have:=S.ins.symm.trans S.tho;cases this
 have n2:dx≠pt:=λz=>by subst z;have:=S.own.symm.trans S.tho;cases this
 have e:putK (fH kvs) (Key.inr (txt m)) (ay t)=fH (kvs++[(m,t)]):=by
  rw[oU _ (zX m kvs hm)];unfold fH;rw[map_append];rfl
 rw[e];exact⟨by rw[aH n1];exact S.ins,by rw[aH n2];exact S.own,aq,by rw[aH (Ne.symm S.apart)];exact S.tak,S.apart⟩
def qX(c:Addr):Sp:=λvs H Q E=>∃(i n:Int),vs=[.int i,.int n]/\((0<=i/\i<n)->Q .non H)/\(¬(0<=i/\i<n)->E (.ref c) none H)
theorem zY{c:Addr}(hN:N.length=2)(h:qX c vs H Q E):eT c E m {nx:=λ_ H'=>Q .non H',rt:=Q} (L2.start N vs) H:=mO hN h
def FJ(L h:Int):Prop:=2<=L/\L<=26/\1<=h/\h<L
def ud(C cl ch:Addr):Sp:=λvs H Q E=>∃(x dx:Addr) (L h j:Int),vs=[.ref x,.int L,.int h,.int j]/\H x=some (.ins C dx [])/\H dx=some (.own x)/\
 (FJ L h->0<=j/\j<h->∀H' pr pt pk,Keeps [x] H H'->jg C H' x dx pr pt pk L.toNat h.toNat j.toNat [] []->H' pr=some (.lst [])->H pr=none->H pt=none->H pk=none->Q .non H')/\
 (¬FJ L h->E (.ref cl) none H)/\(FJ L h->¬(0<=j/\j<h)->E (.ref ch) none H)
def zZ(K:W.Frag)(c d:Addr)(E:XK):TS:=
  aJ (bR (aF (zQ c) [] E (ah (ai 1) (ah (ai 2) az))))
   (aJ (bR (aF (qX d) [] E (ah (ai 3) (ah (ai 2) az))))
   (aJ (iP K (ai 0) (ai 1) "letters")
   (aJ (iP K (ai 0) (ai 2) "hands")
   (aJ (iP K (ai 0) (ai 3) "own_number")
   (aJ (iP K (ai 0) (mU az) "renewals")
   (aJ (iP K (ai 0) gp "thing_of")
   (iP K (ai 0) gp "taken")))))))
theorem D9{c:Addr}(cl:gh K C)(hN:N.length=4)(h:ud C c d vs H Q E):zZ K c d E {nx:=λ_ H'=>Q .non H',rt:=Q} (L2.start N vs) H:=by
 obtain⟨x,dx,L,h,j,rfl,hx,hd,q1,q2,q3⟩:=h;unfold zZ L2.start;rw[hN];refine aT λk hk=>?_;nofun;refine⟨L,h,rfl,λhL=>hk _ _ ?_,λhL=>q2 hL⟩;clear hk k;refine aT λk hk=>?_;nofun;refine⟨j,h,rfl,λhJ=>hk _ _ ?_,λhJ=>q3 hL hJ⟩;clear hk k;have q1:=q1 hL hJ;clear q2 q3;have hxd:dx≠x:=λz=>by subst z;rw[hx] at hd;cases hd
 have k0:Keeps [x] H H:=λb o e _=>e;refine aT λk hk=>?_;refine⟨.int L,rfl,_,rfl,x,C,dx,[],rfl,hx,cl.cls,cl.nl,by decide,hk _ _ ?_⟩;clear hk k;have k1:=k0.upd (p:=x) (o:=.ins C dx (cz "letters" (.int L) [])) (.inl mem_cons_self);have h1:(upd H x (.ins C dx (cz "letters" (.int L) []))) x=some (.ins C dx [("letters",.int L)]):=aq;generalize upd H x _=H1 at k1 h1 ⊢;refine aT λk hk=>?_;refine⟨.int h,rfl,_,rfl,x,C,dx,_,rfl,h1,cl.cls,cl.nh,by simp,hk _ _ ?_⟩;clear hk k;have k2:=k1.upd (p:=x) (o:=.ins C dx (cz "hands" (.int h) [("letters",.int L)])) (.inl mem_cons_self);have h2:(upd H1 x (.ins C dx (cz "hands" (.int h) [("letters",.int L)]))) x=some (.ins C dx [("letters",.int L),("hands",.int h)]):=aq;generalize upd H1 x _=H2 at k2 h2 ⊢;clear k1 h1;refine aT λk hk=>?_;refine⟨.int j,rfl,_,rfl,x,C,dx,_,rfl,h2,cl.cls,cl.nn,by simp,hk _ _ ?_⟩;clear hk k;have k3:=k2.upd (p:=x) (o:=.ins C dx (cz "own_number" (.int j) [("letters",.int L),("hands",.int h)])) (.inl mem_cons_self);have h3:(upd H2 x (.ins C dx (cz "own_number" (.int j) [("letters",.int L),("hands",.int h)]))) x=some (.ins C dx [("letters",.int L),("hands",.int h),("own_number",.int j)]):=aq;generalize upd H2 x _=H3 at k3 h3 ⊢;clear k2 h2;have fresh:∀{Hn:Hp} {p:Addr},Keeps [x] H Hn->Hn p=none->p≠x->H p=none:=λ{Hn p} k e n=>by
  cases w:H p with
  |none=>rfl
  |some o=>have:=k p o w (λz=>n (mem_singleton.mp z));rw[e] at this;cases this
 refine aT λk hk=>?_;unfold iP;nofun;refine⟨by decide,λpr hpr=>⟨C,dx,[("letters",.int L),("hands",.int h),("own_number",.int j)],?_⟩⟩
 have nr:x≠pr:=λz=>by subst z;rw[h3] at hpr;cases hpr
 have gr:=fresh k3 hpr (Ne.symm nr);refine⟨by rw[aH nr];exact h3,cl.cls,cl.nr,by simp,hk _ _ ?_⟩;clear hk k;have k4:=(k3.upd (p:=pr) (o:=.lst []) (.inr hpr)).upd (p:=x) (o:=.ins C dx (cz "renewals" (.ref pr) [("letters",.int L),("hands",.int h),("own_number",.int j)])) (.inl mem_cons_self);have h4:(upd (upd H3 pr (.lst [])) x (.ins C dx (cz "renewals" (.ref pr) [("letters",.int L),("hands",.int h),("own_number",.int j)]))) x=some (.ins C dx [("letters",.int L),("hands",.int h),("own_number",.int j),("renewals",.ref pr)]):=aq;have r4:(upd (upd H3 pr (.lst [])) x (.ins C dx (cz "renewals" (.ref pr) [("letters",.int L),("hands",.int h),("own_number",.int j)]))) pr=some (.lst []):=by rw[aH (Ne.symm nr),aq]
 generalize upd (upd H3 pr _) x _=H4 at k4 h4 r4 ⊢;clear k3 h3 hpr;refine aT λk hk=>?_;unfold iP gp;nofun;refine λpt hpt=>⟨C,dx,[("letters",.int L),("hands",.int h),("own_number",.int j),("renewals",.ref pr)],?_⟩;have nt:x≠pt:=λz=>by subst z;rw[h4] at hpt;cases hpt
 have nrt:pr≠pt:=λz=>by subst z;rw[r4] at hpt;cases hpt
 have gt:=fresh k4 hpt (Ne.symm nt);refine⟨by rw[aH nt];exact h4,cl.cls,cl.nt,by simp,hk _ _ ?_⟩;clear hk k;have k5:=(k4.upd (p:=pt) (o:=.dK []) (.inr hpt)).upd (p:=x) (o:=.ins C dx (cz "thing_of" (.ref pt) [("letters",.int L),("hands",.int h),("own_number",.int j),("renewals",.ref pr)])) (.inl mem_cons_self);have h5:(upd (upd H4 pt (.dK [])) x (.ins C dx (cz "thing_of" (.ref pt) [("letters",.int L),("hands",.int h),("own_number",.int j),("renewals",.ref pr)]))) x=some (.ins C dx [("letters",.int L),("hands",.int h),("own_number",.int j),("renewals",.ref pr),("thing_of",.ref pt)]):=aq;have r5:(upd (upd H4 pt (.dK [])) x (.ins C dx (cz "thing_of" (.ref pt) [("letters",.int L),("hands",.int h),("own_number",.int j),("renewals",.ref pr)]))) pr=some (.lst []):=by rw[aH (Ne.symm nr),aH nrt];exact r4
 have t5:(upd (upd H4 pt (.dK [])) x (.ins C dx (cz "thing_of" (.ref pt) [("letters",.int L),("hands",.int h),("own_number",.int j),("renewals",.ref pr)]))) pt=some (.dK []):=by rw[aH (Ne.symm nt),aq]
 generalize upd (upd H4 pt _) x _=H5 at k5 h5 r5 t5 ⊢;clear k4 h4 r4 hpt;unfold iP gp;nofun;refine λpk hpk=>⟨C,dx,[("letters",.int L),("hands",.int h),("own_number",.int j),("renewals",.ref pr),("thing_of",.ref pt)],?_⟩;have nk:x≠pk:=λz=>by subst z;rw[h5] at hpk;cases hpk
 have nrk:pr≠pk:=λz=>by subst z;rw[r5] at hpk;cases hpk
 have ntk:pt≠pk:=λz=>by subst z;rw[t5] at hpk;cases hpk
 have gk:=fresh k5 hpk (Ne.symm nk);refine⟨by rw[aH nk];exact h5,cl.cls,cl.nk,by simp,?_⟩;have k6:=(k5.upd (p:=pk) (o:=.dK []) (.inr hpk)).upd (p:=x) (o:=.ins C dx (cz "taken" (.ref pk) [("letters",.int L),("hands",.int h),("own_number",.int j),("renewals",.ref pr),("thing_of",.ref pt)])) (.inl mem_cons_self);have eL:((L.toNat:Nat):Int)=L:=Int.toNat_of_nonneg (by have:=hL.1;omega);have eh:((h.toNat:Nat):Int)=h:=Int.toNat_of_nonneg (by have:=hL.2.2.1;omega);have ej:((j.toNat:Nat):Int)=j:=Int.toNat_of_nonneg hJ.1;refine q1 _ pr pt pk k6 ⟨?_,k6 dx _ hd (λz=>hxd (mem_singleton.mp z)),?_,?_,ntk⟩ ?_ gr gt gk
 .rw[aq,ck,eL,eh,ej];rfl
 .rw[aH (Ne.symm nt),aH ntk];exact t5
 .rw[aH (Ne.symm nk),aq];rfl
 .rw[aH (Ne.symm nr),aH nrk];exact r5
def wg(C ct cp:Addr):Sp:=λvs H Q E=>∃(x dx pr pt pk:Addr) (L h j:Nat) (kvs:WO) (ks:WN) (k b:Nat) (i:Int) (t:WM),vs=[.ref x,.int i,.str (txt t)]/\jg C H x dx pr pt pk L h j kvs ks/\jZ L h j/\gi L kvs ks k b/\k<=62/\b<=998/\t.length<=100000/\
 (¬Thing t->∀H',aI H H'->E (.ref ct) none H')/\
 ∀zs,pJ kvs ks zs->(Thing t->(0<=i/\i<=zs.length)->∀H' v n w m,Keeps [pt] H H'->jE kvs (gu zs i.toNat) v->Found L (bC L h j) (gu zs i.toNat) v n w m->jg C H' x dx pr pt pk L h j (kvs++[(m,t)]) ks->gi L (kvs++[(m,t)]) ks (k+1) (b+1)->Q (.str (txt m)) H')/\
  (Thing t->¬(0<=i/\i<=zs.length)->∀H',aI H H'->E (.ref cp) none H')
def Ea(K:W.Frag)(C ct cp cr:Addr)(E:XK):TS:=
  aJ (bR (aF (ng ct) [] E (ah (ai 2) az)))
   (aJ (aY (cI C "marks" (kT C) [] E0 (ai 0) az) (aG 3))
   (aJ (bR (aF (jB cp) [] E (ah (ai 1) (ah (aS bS (dj (b5 K) (ah (ai 3) az)) (tC (.int 1))) az))))
   (aJ (aY (Nu (bD (aS Bp (ai 1) (tC (.int 0)))) (aS (bY K) (ai 3) (aS rZ (ai 1) (tC (.int 1)))) (tC .non)) (aG 4))
   (aJ (aY (aF (qM cr) [] E (ah (dU K (ai 0) "letters") (ah (dU K (ai 0) "hands") (ah (dU K (ai 0) "own_number") (ah (ai 4) (ah (cI C "first_behind" (qV K C) [] E0 (ai 0) (ah (ai 4) az)) az)))))) (aG 5))
   (aJ (jY (dU K (ai 0) "thing_of") (ai 5) (ai 2))
   (bA (ai 5)))))))
theorem IP{ct cp cr:Addr}(cl:gh K C)(hN:N.length=6)(h:wg C ct cp vs H Q E):Ea K C ct cp cr E {nx:=λ_ H'=>Q .non H',rt:=Q} (L2.start N vs) H:=by
 obtain⟨x,dx,pr,pt,pk,L,h,j,kvs,ks,k,b,i,t,rfl,S,D,W,hk,hb,ht,qn,q⟩:=h;unfold Ea L2.start;rw[hN];refine aT λc1 hc=>?_;nofun;refine⟨t,rfl,ht,λH1 s1=>⟨λth=>hc _ _ ?_,λno=>qn no H1 s1⟩⟩;clear hc c1;have S1:=S.same s1;have few:=W.few;refine aO λc1 hc=>?_;refine cE S1 (λR r=>⟨_,rfl,r⟩) rfl ⟨x,dx,pr,pt,pk,L,h,j,kvs,ks,rfl,S1,by omega,W.nd,λH2 p zs s2 hp up mem=>hc _ _ ?_⟩;clear hc c1;obtain⟨qg,qp⟩:=q zs ⟨up,mem⟩;have s3:=(s1.trans s2).new hp (o:=.lst (zs.map ay));have hZ:(upd H2 p (.lst (zs.map ay))) p=some (.lst (zs.map ay)):=aq;generalize upd H2 p _=H3 at s3 hZ ⊢;have S3:=S.same s3;refine aT λc1 hc=>?_;nofun;refine bG (aZ.of hZ) ⟨_,rfl,?_⟩;rw[length_map];refine⟨i,_,rfl,λhi=>hc _ _ ?_,λhi=>qp th (by omega) H3 s3⟩;clear hc c1;have qg:=qg th (by omega);refine aO λc1 hc=>?_;nofun;have w:c1 (oV (gu zs i.toNat)) H3:=hc _ _ (by
  clear hc c1;have hlo:∀l,gu zs i.toNat=some l->l∈kvs.map (·.1):=λl e=>by
   unfold gu at e;split at e
   .cases e
   .exact((mem l).mp (mem_of_getElem? e)).1
  generalize gu zs i.toNat=lo at qg hlo ⊢;refine aO λc1 hc=>?_;nofun;refine D6 S3 cl rfl (Lr S3 cl rfl (Lu S3 cl rfl ?_));refine cE S3 (λR r=>⟨_,rfl,r⟩) rfl ?_;nofun;refine⟨x,dx,pr,pt,pk,L,h,j,kvs,ks,lo,rfl,S3,by omega,λH4 v s4 v1 v2=>?_⟩;have F:jE kvs lo v:=⟨v1,v2⟩;obtain⟨mo,hl1,hl2⟩:=F.marks W (by omega) hlo;refine⟨L,h,j,lo,v,rfl,D,mo,λok H5 n w m s5 Fo=>hc _ _ ?_,λz=>absurd F.ok z⟩;clear hc c1;obtain⟨g1,g2,g3,g4⟩:=Fo.V2 D mo ok;have nm:=F.new g3 g4;have s5:=(s3.trans s4).trans s5;have S5:=S.same s5;refine aT λc1 hc=>?_;simp? [jY]
  refine nq S5 cl rfl ⟨pt,rfl,_,vq.k (k:=Key.inr (txt m)) S5.tho (by rw[fH,length_map,sizeLine_eq];omega),hc _ _ ?_⟩;clear hc c1;have S6:=S5.put (t:=t) nm;have k6:Keeps [pt] H (upd H5 pt (.dK (putK (fH kvs) (Key.inr (txt m)) (ay t)))):=(s5.keeps _).upd (.inl mem_cons_self);nofun;exact qg _ v n w m k6 F Fo S6 (W.put g1 (by omega) th nm))
 clear hc
 by_cases h0:0<i
 .rw[if_pos h0];obtain⟨m,hm⟩:=some_at (l:=zs) (i:=i.toNat-1) (by omega);have e:gu zs i.toNat=some m:=by unfold gu;rw[if_neg (by omega)];exact hm
  rw[e] at w;exact bq (v:=ay m) (aZ.of hZ) (by omega) (by rw[show (i-1).toNat=i.toNat-1 by omega,getElem?_map,hm];rfl) w
 .rw[if_neg h0];have e:gu zs i.toNat=none:=by unfold gu;rw[if_pos (by omega)]
  rw[e] at w;exact w
def bu(H:Hp):WR Addr->WR (WR bB)->Prop
 |[],[]=>True
 |a::as,r::R=>(∃xs,H a=some (.lst xs)/\dH H xs (r.map jD))/\bu H as R
 |_,_=>False
theorem bu.same(s:aI H H'):∀{as:WR Addr} {R:WR (WR bB)},bu H as R->bu H' as R
 |[],[],_=>trivial
 |[],_::_,h=>h.elim
 |_::_,[],h=>h.elim
 |_::_,_::_,⟨⟨xs,e,p⟩,r⟩=>⟨⟨xs,s _ _ e,p.same s⟩,bu.same s r⟩
theorem bu.len:∀{as:WR Addr} {R:WR (WR bB)},bu H as R->as.length=R.length
 |[],[],_=>rfl
 |[],_::_,h=>h.elim
 |_::_,[],h=>h.elim
 |_::_,_::_,⟨_,r⟩=>by rw[length_cons,length_cons,bu.len r]
theorem bu.app:∀{as:WR Addr} {R:WR (WR bB)} {bs:WR Addr} {S:WR (WR bB)},bu H as R->bu H bs S->bu H (as++bs) (R++S)
 |[],[],_,_,_,h=>h
 |[],_::_,_,_,h,_=>h.elim
 |_::_,[],_,_,h,_=>h.elim
 |_::_,_::_,_,_,⟨a,r⟩,h=>⟨a,bu.app r h⟩
theorem bu.get:∀{as:WR Addr} {R:WR (WR bB)} {i:Nat} {a:Addr},bu H as R->as[i]?=some a->∃r xs,R[i]?=some r/\H a=some (.lst xs)/\dH H xs (r.map jD)
 |[],_,_,_,_,e=>by simp at e
 |_::_,[],_,_,h,_=>h.elim
 |_::_,r::_,0,_,⟨⟨xs,h,p⟩,_⟩,e=>by
  have:_=_:=Option.some.inj e;subst this;exact⟨r,xs,rfl,h,p⟩
 |_::_,_::_,i+1,_,⟨_,r⟩,e=>by
  obtain⟨p,t,a,b,c⟩:=bu.get r (i:=i) (by simpa using e);exact⟨p,t,by simpa using a,b,c⟩
def AN(z:WM×WM):V×V:=(ay z.1,ay z.2)
structure j7(H:Hp)(p p1 p2 p3:Addr)(bs:WR Addr)(ts:WR V)(L h:Nat)(R:WR (WR bB))(zs:WO)(ws:WN):Prop where
 top:H p=some (.tup [.int L,.int h,.ref p1,.ref p2,.ref p3])
 ren:H p1=some (.lst (bs.map V.ref))
 row:bu H bs R
 thi:H p2=some (.lst ts)
 prs:dH H ts (zs.map AN)
 tak:H p3=some (.lst (ws.map ay))
theorem j7.same{bs:WR Addr}{R:WR (WR bB)}(A:j7 H p p1 p2 p3 bs ts L h R zs ws)(s:aI H H'):j7 H' p p1 p2 p3 bs ts L h R zs ws:=
 ⟨s _ _ A.top,s _ _ A.ren,A.row.same s,s _ _ A.thi,A.prs.same s,s _ _ A.tak⟩
def lW:Sp:=λvs H Q _=>∃(L h:Nat) (pr pt pk:Addr) (as:WR Addr) (R:WR (WR bB)) (ts:WR V) (zs:WO) (ws:WN),vs=[.int L,.int h,.ref pr,.ref pt,.ref pk]/\H pr=some (.lst (as.map V.ref))/\bu H as R/\H pt=some (.lst ts)/\dH H ts (zs.map AN)/\H pk=some (.lst (ws.map ay))/\R.length<=10000/\
 ∀H' p p1 p2 p3 bs,aI H H'->j7 H' p p1 p2 p3 bs ts L h R zs ws->(p::p1::p2::p3::bs).Nodup->(∀b∈p::p1::p2::p3::bs,H b=none)->Q (.ref p) H'
def qY(K:W.Frag):TS:=
  bA (iZ (ah (ai 0) (ah (ai 1) (ah (dw (bV K (ai 2)) [] gO (dj (oE K) (ah (ai 0) az))) (ah (dj (oE K) (ah (ai 3) az)) (ah (dj (oE K) (ah (ai 4) az)) az))))))
theorem aI.bO(s:aI H H')(h:H' p=none):H p=none:=by
 cases w:H p with
 |none=>rfl
 |some o=>rw[s p o w] at h;cases h
def TR(H:Hp)(R:WR (WR bB)):Nat->WR V->Hp->Prop:=λi ys H'=>aI H H'/\∃bs:WR Addr,ys=bs.map V.ref/\bu H' bs (R.take i)/\bs.Nodup/\(∀b∈bs,H b=none)/\bs.length<=i
theorem z3(hN:N.length=5)(h:lW vs H Q E):qY K {nx:=λ_ H'=>Q .non H',rt:=Q} (L2.start N vs) H:=by
 obtain⟨L,h,pr,pt,pk,as,R,ts,zs,ws,rfl,hr,hR,ht,hz,hw,hl,q⟩:=h;have al:=hR.len;unfold qY L2.start;rw[hN];nofun;refine kE (a:=pr) (xs:=as.map V.ref) (λQ h=>⟨_,rfl,h⟩) (aZ.of hr) (TR H R) ⟨aI.refl _,[],rfl,trivial,nodup_nil,λb hb=>(nomatch hb),zero_le _⟩ ?_ (by rw[length_map,sizeLine_eq];omega) ?_ ?_
 .rintro i ys H' _ ⟨s,bs,rfl,_,_,_,hbl⟩;exact⟨aZ.of (s _ _ hr),by rw[length_map];exact hbl⟩
 .rintro i v ys H' hv ⟨s,bs,rfl,hrows,hnd,hfr,hbl⟩ W hW;rw[getElem?_map] at hv;obtain⟨a,ha,rfl⟩:=map_eq_some_iff.mp hv;obtain⟨r,xs,er,hx,px⟩:=(hR.same s).get ha;nofun;refine⟨a,xs,rfl,.inl (aZ.of hx),λl hl=>?_⟩;have e:R.take (i+1)=R.take i++[r]:=by rw[take_add_one,er];rfl
  have s2:=aI.up H' hl (o:=.lst xs);have:=hW (bs.map V.ref++[.ref l]) (upd H' l (.lst xs)) ⟨s.trans s2,bs++[l],by rw[map_append];rfl,by rw[e];exact(hrows.same s2).app ⟨⟨xs,aq,px.same s2⟩,trivial⟩,?_,λb hb=>?_,by rw[length_append];simp;omega⟩
  .exact this
  .rw[nodup_append];exact⟨hnd,by simp,λb hb c hc=>by
    rw[mem_singleton.mp hc];intro z;subst z;obtain⟨j,hj⟩:=getElem?_of_mem hb;obtain⟨_,_,_,w,_⟩:=hrows.get hj;rw[w] at hl;cases hl⟩
  .rcases mem_append.mp hb with hb|hb
   .exact hfr b hb
   .rw[mem_singleton.mp hb];exact s.bO hl
 .rintro ys H1 ⟨s,bs,rfl,hrows,hnd,hfr,hbl⟩ p1 hp1;rw[length_map,al,take_length] at hrows;have nb1:¬p1∈bs:=λhb=>by
   obtain⟨j,hj⟩:=getElem?_of_mem hb;obtain⟨_,_,_,w,_⟩:=hrows.get hj;rw[w] at hp1;cases hp1
  have s1:=s.new hp1 (o:=.lst (bs.map V.ref));have r1:=hrows.same (aI.up H1 hp1 (o:=.lst (bs.map V.ref)));have e1:(upd H1 p1 (.lst (bs.map V.ref))) p1=some (.lst (bs.map V.ref)):=aq;have f1:=s.bO hp1;generalize upd H1 p1 _=H2 at s1 r1 e1 ⊢;refine⟨pt,ts,rfl,.inl (aZ.of (s1 _ _ ht)),λp2 hp2=>⟨pk,ws.map ay,rfl,.inl (aZ.of ((s1.new hp2) _ _ hw)),λp3 hp3=>⟨by decide,λp hp=>?_⟩⟩⟩;have f2:=s1.bO hp2;have nb2:¬p2∈bs:=λhb=>by
   obtain⟨j,hj⟩:=getElem?_of_mem hb;obtain⟨_,_,_,w,_⟩:=r1.get hj;rw[w] at hp2;cases hp2
  have n12:p1≠p2:=λz=>by subst z;rw[e1] at hp2;cases hp2
  have s2:=aI.up H2 hp2 (o:=.lst ts);have e2:(upd H2 p2 (.lst ts)) p2=some (.lst ts):=aq;generalize upd H2 p2 _=H3 at s2 e2 hp3 hp ⊢;have r2:=r1.same s2;have f3:=(s1.trans s2).bO hp3;have nb3:¬p3∈bs:=λhb=>by
   obtain⟨j,hj⟩:=getElem?_of_mem hb;obtain⟨_,_,_,w,_⟩:=r2.get hj;rw[w] at hp3;cases hp3
  have n13:p1≠p3:=λz=>by subst z;rw[s2 _ _ e1] at hp3;cases hp3
  have n23:p2≠p3:=λz=>by subst z;rw[e2] at hp3;cases hp3
  have s3:=aI.up H3 hp3 (o:=.lst (ws.map ay));have e3:(upd H3 p3 (.lst (ws.map ay))) p3=some (.lst (ws.map ay)):=aq;generalize upd H3 p3 _=H4 at s3 e3 hp ⊢;have r3:=r2.same s3;have f4:=((s1.trans s2).trans s3).bO hp;have nb4:¬p∈bs:=λhb=>by
   obtain⟨j,hj⟩:=getElem?_of_mem hb;obtain⟨_,_,_,w,_⟩:=r3.get hj;rw[w] at hp;cases hp
  have n1:p≠p1:=λz=>by subst z;rw[s3 _ _ (s2 _ _ e1)] at hp;cases hp
  have n2:p≠p2:=λz=>by subst z;rw[s3 _ _ e2] at hp;cases hp
  have n3:p≠p3:=λz=>by subst z;rw[e3] at hp;cases hp
  have s4:=aI.up H4 hp (o:=.tup [.int L,.int h,.ref p1,.ref p2,.ref p3]);have sa:=((s1.trans s2).trans s3).trans s4;refine q _ p p1 p2 p3 bs sa ⟨aq,s4 _ _ (s3 _ _ (s2 _ _ e1)),r3.same s4,s4 _ _ (s3 _ _ e2),hz.same sa,s4 _ _ e3⟩ ?_ ?_
  .simp only[nodup_cons,mem_cons,not_or];exact⟨⟨n1,n2,n3,nb4⟩,⟨n12,n13,nb1⟩,⟨n23,nb2⟩,nb3,hnd⟩
  .intro b hb;simp only[mem_cons] at hb
   rcases hb with rfl|rfl|rfl|rfl|hb
   .exact f4
   .exact f1
   .exact f2
   .exact f3
   .exact hfr b hb
structure Told(kvs:WO)(ks:WN)(zs:WO)(ws:WN):Prop where
 perm:zs.Perm kvs
 up:(zs.map (·.1)).Pairwise (·<·)
 tperm:ws.Perm ks
 tup:ws.Pairwise (·<·)
def dJ(C:Addr):Sp:=λvs H Q _=>∃(x dx pr pt pk:Addr) (L h j:Nat) (kvs:WO) (ks:WN) (as:WR Addr) (R:WR (WR bB)),vs=[.ref x]/\jg C H x dx pr pt pk L h j kvs ks/\kvs.length<64/\(kvs.map (·.1)).Nodup/\ks.length<64/\ks.Nodup/\H pr=some (.lst (as.map V.ref))/\bu H as R/\R.length<=10000/\
 ∀H' p p1 p2 p3 bs ts zs ws,aI H H'->Told kvs ks zs ws->j7 H' p p1 p2 p3 bs ts L h R zs ws->(p::p1::p2::p3::bs).Nodup->(∀b∈p::p1::p2::p3::bs,H b=none)->Q (.ref p) H'
def wj(K:W.Frag):TS:=
  aJ (aY (dj vD (ah (Hz K "dict" DA (dU K (ai 0) "thing_of")) az)) (aG 1))
   (bA (aF lW [] E0 (ah (dU K (ai 0) "letters") (ah (dU K (ai 0) "hands") (ah (dU K (ai 0) "renewals") (ah (ai 1) (ah (dj oZ (ah (dU K (ai 0) "taken") az)) az)))))))
theorem Eb:∀{ys:WR V} {zs:WO},ys.length=zs.length->(∀(i:Nat) kv,zs[i]?=some kv->∃t,ys[i]?=some (.ref t)/\H t=some (.tup [ay kv.1,ay kv.2]))->dH H ys (zs.map AN)
 |[],[],_,_=>trivial
 |[],_::_,h,_=>by simp at h
 |_::_,[],h,_=>by simp at h
 |y::ys,z::zs,h,k=>by
  obtain⟨t,e,ht⟩:=k 0 z rfl;refine⟨⟨t,Option.some.inj e,ht⟩,Eb (by simpa using h) λi kv e=>?_⟩;obtain⟨t,e,ht⟩:=k (i+1) kv (by simpa using e);exact⟨t,by simpa using e,ht⟩
theorem Rc(ks:WN):iX ks=(ks.map λm=>(m,V.bl true)).map λkv=>(Key.inr (txt kv.1),kv.2):=by
 unfold iX;rw[map_map];rfl
theorem Cf(cl:gh K C)(hN:N.length=2)(h:dJ C vs H Q E):wj K {nx:=λ_ H'=>Q .non H',rt:=Q} (L2.start N vs) H:=by
 obtain⟨x,dx,pr,pt,pk,L,h,j,kvs,ks,as,R,rfl,S,h64,hnd,k64,knd,hr,hR,hl,q⟩:=h;unfold wj L2.start;rw[hN];refine aO λc1 hc=>?_;nofun;refine nq S cl rfl ⟨.inr (.inr (.inl ⟨rfl,.inl ⟨_,S.tho⟩⟩)),pt,_,rfl,rfl,S.tho,λv hv=>?_⟩;have s1:=aI.up H hv (o:=kH v pt);have eV:(upd H v (kH v pt)) v=some (kH v pt):=aq;generalize upd H v _=H1 at s1 eV ⊢;have S1:=S.same s1;refine⟨v,pt,kvs,rfl,eV,S1.tho,h64,hnd,λH2 l ys zs s2 hl0 hl2 hp hup hlen hat=>hc _ _ ?_⟩;clear hc c1;have s2:=s1.trans s2;have S2:=S.same s2;have pz:dH H2 ys (zs.map AN):=Eb hlen λi kv e=>by obtain⟨t,a,b,_⟩:=hat i kv e;exact⟨t,a,b⟩
 nofun;refine D6 S2 cl rfl (Lr S2 cl rfl (D7 S2 cl rfl ?_));refine zU S2 cl rfl ⟨pk,ks.map λm=>(m,V.bl true),rfl,by rw[<-Rc];exact S2.tak,by rw[length_map];exact k64,λp3 ws hp3 hpm hle=>?_⟩;have ek:(ks.map λm=>(m,V.bl true)).map (·.1)=ks:=by rw[map_map];exact map_id _
 rw[ek] at hpm;have wlt:=gz hle (hpm.nodup_iff.mpr knd);have s3:=aI.up H2 hp3 (o:=.lst (ws.map ay));have e3:(upd H2 p3 (.lst (ws.map ay))) p3=some (.lst (ws.map ay)):=aq;generalize upd H2 p3 _=H3 at s3 e3 ⊢;have s23:=s2.trans s3;refine⟨L,h,pr,l,p3,as,R,ys,zs,ws,rfl,s23 _ _ hr,hR.same s23,s3 _ _ hl2,pz.same s3,e3,hl,λH4 p p1 p2 p3 bs s4 A nd fr=>?_⟩;exact q H4 p p1 p2 p3 bs ys zs ws (s23.trans s4) ⟨hp,hup,hpm,wlt⟩ A nd λb hb=>s23.bO (fr b hb)
def pL(R:WR (WR bB)):WR PyData:=R.map λr=>.list (pairD (r.map jD))
def Qz(L h:Nat)(R:WR (WR bB))(zs:WO)(ws:WN):PyData:=.tuple [.int L,.int h,.list (pL R),.list (pairD (zs.map AN)),.list ((ws.map txt).map PyData.str)]
structure Cg(R:WR (WR bB))(zs:WO)(ws:WN):Prop where
 rows:∀r∈R,∀y∈r,PyData.strOk (txt y.1)=true/\∀z,y.2=some z->PyData.strOk (txt z)=true
 things:∀z∈zs,PyData.strOk (txt z.1)=true/\PyData.strOk (txt z.2)=true
 taken:∀w∈ws,PyData.strOk (txt w)=true
theorem Lv{r:WR bB}(h:∀y∈r,PyData.strOk (txt y.1)=true/\∀z,y.2=some z->PyData.strOk (txt z)=true):∀p∈r.map jD,DT p.1/\DT p.2:=λp hp=>by
 obtain⟨y,hy,rfl⟩:=mem_map.mp hp;obtain⟨a,b⟩:=h y hy;refine⟨.str a,?_⟩;show DT (oV y.2);cases e:y.2 with
 |none=>exact .non
 |some z=>exact .str (b z e)
theorem Ci(h:∀z∈zs,PyData.strOk (txt z.1)=true/\PyData.strOk (txt z.2)=true):∀p∈zs.map AN,DT p.1/\DT p.2:=λp hp=>by
 obtain⟨z,hz,rfl⟩:=mem_map.mp hp;exact⟨.str (h z hz).1,.str (h z hz).2⟩
theorem bu.dat:∀{as:WR Addr} {R:WR (WR bB)},bu H as R->(∀r∈R,∀y∈r,PyData.strOk (txt y.1)=true/\∀z,y.2=some z->PyData.strOk (txt z)=true)->DatAll K H (as.map V.ref) (pL R)
 |[],[],_,_=>.nil
 |[],_::_,h,_=>h.elim
 |_::_,[],h,_=>h.elim
 |_::_,r::_,⟨⟨xs,e,p⟩,t⟩,ok=>.cons (.lst (aZ.of e) (p.dat (Lv (ok r mem_cons_self)))) (bu.dat t λq hq=>ok q (mem_cons_of_mem _ hq))
theorem yD:∀ms:WN,DatAll K H (ms.map ay) ((ms.map txt).map PyData.str)
 |[]=>.nil
 |m::ms=>.cons (.str _) (yD ms)
theorem j7.dat{bs:WR Addr}{R:WR (WR bB)}(A:j7 H p p1 p2 p3 bs ts L h R zs ws)(ok:Cg R zs ws):Dat K H (.ref p) (Qz L h R zs ws):=
 .tup (ff.of A.top) (.cons (.int _) (.cons (.int _) (.cons (.lst (aZ.of A.ren) (A.row.dat ok.rows)) (.cons (.lst (aZ.of A.thi) (A.prs.dat (Ci ok.things))) (.cons (.lst (aZ.of A.tak) (yD ws)) .nil)))))
theorem wk:∀{R:WR (WR bB)},(∀r∈R,∀y∈r,PyData.strOk (txt y.1)=true/\∀z,y.2=some z->PyData.strOk (txt z)=true)->PyData.canLayAll0 (pL R)=true/\PyData.depthAll (pL R)<=2
 |[],_=>⟨by simp[pL,PyData.canLayAll0],by simp[pL,PyData.depthAll]⟩
 |r::R,ok=>by
  obtain⟨a,b⟩:=wk (R:=R) λq hq=>ok q (mem_cons_of_mem _ hq);obtain⟨c,d⟩:=qS (Lv (ok r mem_cons_self));have e:pL (r::R)=.list (pairD (r.map jD))::pL R:=rfl;rw[e];refine⟨by simp[PyData.canLayAll0,PyData.canLay0,a,c],?_⟩;simp only[PyData.depthAll,PyData.depth];omega
theorem gG{R:WR (WR bB)}(ok:Cg R zs ws):SeqAt.shaped (Qz L h R zs ws)=true:=by
 obtain⟨a,b⟩:=wk ok.rows;obtain⟨c,d⟩:=qS (Ci ok.things);have o2:∀y∈ws.map txt,PyData.strOk y=true:=λy hy=>by obtain⟨z,hz,rfl⟩:=mem_map.mp hy;exact ok.taken z hz
 unfold SeqAt.shaped Qz;rw[and_eq_true];have cl:=ku _ o2;have dl:=mZ (ws.map txt);generalize (ws.map txt).map PyData.str=D2 at cl dl ⊢;refine⟨by simp[PyData.canLay0,PyData.canLayAll0,a,c,cl],?_⟩;rw[decide_eq_true_eq];simp only[PyData.depth,PyData.depthAll,dl];omega
theorem yE{q1 q2 q3:Addr}{bs cs:WR Addr}{us:WR V}{R:WR (WR bB)}(A:j7 H p p1 p2 p3 bs ts L h R zs ws)(B:j7 H q q1 q2 q3 cs us L h R zs ws)(ok:Cg R zs ws)(r:Q (.bl true) H):Ob K (.ref p) (.ref q) H Q:=by
 refine⟨_,_,A.dat ok,B.dat ok,gG ok,gG ok,?_⟩;rw[SeqAt.eqv_refl _ (SeqAt.canLay_of_shaped (gG ok))];exact r
theorem IQ{q1 q2 q3:Addr}{bs cs:WR Addr}{us:WR V}{R:WR (WR bB)}(A:j7 H p p1 p2 p3 bs ts L h R zs ws)(B:j7 H q q1 q2 q3 cs us L h R zs ws)(ok:Cg R zs ws)(r:Q (.bl false) H):Oc K (.ref p) (.ref q) H Q:=by
 refine⟨_,_,A.dat ok,B.dat ok,gG ok,gG ok,?_⟩;rw[SeqAt.eqv_refl _ (SeqAt.canLay_of_shaped (gG ok))];exact r
theorem jF{as bs:WN}(p:as.Perm bs)(h1:as.Pairwise (·<·))(h2:bs.Pairwise (·<·)):as=bs:=
 p.eq_of_pairwise (λa b _ _ h g=>absurd (List.lt_trans h g) (List.lt_irrefl a)) h1 h2
theorem Told.one(A:Told kvs ks zs ws)(B:Told kvs ks zs' ws'):zs=zs'/\ws=ws':=by
 refine⟨?_,jF (A.tperm.trans B.tperm.symm) A.tup B.tup⟩;refine(A.perm.trans B.perm.symm).eq_of_pairwise (le:=λa b=>a.1<b.1) (λa b _ _ h g=>absurd (List.lt_trans h g) (List.lt_irrefl a.1)) (pairwise_map.mp A.up) (pairwise_map.mp B.up)
theorem pJ.one{zs zs':WN}(A:pJ kvs ks zs)(B:pJ kvs ks zs'):zs=zs':=by
 refine jF ?_ A.up B.up;have nd:∀{l:WN},l.Pairwise (·<·)->l.Nodup:=λh=>h.imp λg z=>by subst z;exact List.lt_irrefl _ g
 exact(List.perm_ext_iff_of_nodup (nd A.up) (nd B.up)).mpr λm=>by rw[A.mem,B.mem]
theorem Cj(a b:WM):a<b\/a=b\/b<a:=by
 by_cases h:a<b
 .exact .inl h
 by_cases g:b<a
 .exact .inr (.inr g)
 .exact .inr (.inl (List.le_antisymm (List.not_lt.mp g) (List.not_lt.mp h)))
theorem qZ:∀l:WN,∃zs:WN,zs.Pairwise (·<·)/\∀m,m∈zs↔m∈l
 |[]=>⟨[],.nil,λm=>Iff.rfl⟩
 |a::l=>by
  obtain⟨zs,up,mem⟩:=qZ l;refine⟨zs.filter (λz=>decide (z<a))++a::zs.filter (λz=>decide (a<z)),?_,λm=>?_⟩
  .refine List.pairwise_append.mpr ⟨up.filter _,pairwise_cons.mpr ⟨λb hb=>of_decide_eq_true (mem_filter.mp hb).2,up.filter _⟩,λx hx y hy=>?_⟩;have h1:x<a:=of_decide_eq_true (mem_filter.mp hx).2
   rcases mem_cons.mp hy with rfl|hy
   .exact h1
   .exact List.lt_trans h1 (of_decide_eq_true (mem_filter.mp hy).2)
  .rw[mem_append,mem_cons,mem_filter,mem_filter,mem_cons,mem,decide_eq_true_eq,decide_eq_true_eq]
   rcases Cj m a with h|h|h
   .constructor
    .rintro(z|z|z)
     .exact .inr z.1
     .exact .inl z
     .exact .inr z.1
    .rintro(z|z)
     .exact .inr (.inl z)
     .exact .inl ⟨z,h⟩
   .constructor
    .intro _;exact .inl h
    .intro _;exact .inr (.inl h)
   .constructor
    .rintro(z|z|z)
     .exact .inr z.1
     .exact .inl z
     .exact .inr z.1
    .rintro(z|z)
     .exact .inr (.inl z)
     .exact .inr (.inr ⟨z,h⟩)
theorem cO{l:WN}(h:l.Pairwise (·<·)):l.Nodup:=h.imp λg z=>by subst z;exact List.lt_irrefl _ g
theorem Lw{c:Addr}{t:TA}(D:jZ L h j)(ht:∀R:WR V->Hp->Prop,R [.int L,.int h,.int j] H->t Z H R)
  (q:∀H' x dx pr pt pk,aI H H'->jg C H' x dx pr pt pk L h j [] []->H' pr=some (.lst [])->H x=none->H dx=none->H pr=none->H pt=none->H pk=none->Q (.ref x) H'):ET C (ud C c d) [] E0 t Z H Q:=by
 refine ht _ λx dx hx hd ne=>?_;have kp:aI H (upd (upd H dx (.own x)) x (.ins C dx [])):=((aI.refl H).new hd).new (by rw[aH (Ne.symm ne)];exact hx);have d1:=D.l2;have d2:=D.l26;have d3:=D.hj;have d4:=D.hh;have ok:FJ (L:Int) (h:Int):=⟨by omega,by omega,by omega,by omega⟩;refine⟨x,dx,L,h,j,rfl,aq,by rw[aH ne,aq],λ_ _ H' pr pt pk k S hr g1 g2 g3=>⟨rfl,?_⟩,λz=>absurd ok z,λ_ z=>absurd ⟨by omega,by omega⟩ z⟩
 rw[toNat_natCast,toNat_natCast,toNat_natCast] at S;exact q H' x dx pr pt pk (cj kp k λb hb=>by rw[mem_singleton.mp hb];exact hx) S hr hx hd (kp.bO g1) (kp.bO g2) (kp.bO g3)
theorem je{wi:TI}{fs:WM}{tt:TT}{C:TS}{D:Ends}(h:∀c:V->Hp->Prop,(∀x H1,C D (Z.set i (some x)) H1->c x H1)->dw wi fs tt te Z H c):aJ (cX i wi fs tt te) C D Z H:=h _ λ_ _ z=>z
def Ec(C:Addr):Sp:=λvs H Q _=>∃(x dx pr pt pk:Addr) (L h j:Nat) (kvs:WO) (ks:WN) (xs:WR V),vs=[.ref x]/\jg C H x dx pr pt pk L h j kvs ks/\H pr=some (.lst xs)/\Q (.int xs.length) H
theorem IS(cl:gh K C)(hN:N.length=1)(h:Ec C vs H Q E):bA (dj (b5 K) (ah (dU K (ai 0) "renewals") az)) {nx:=λ_ H'=>Q .non H',rt:=Q} (L2.start N vs) H:=by
 obtain⟨x,dx,pr,pt,pk,L,h,j,kvs,ks,xs,rfl,S,hx,q⟩:=h;unfold L2.start;rw[hN];nofun;exact D7 S cl rfl (bG (aZ.of hx) q)
def cG:WO->WM->WM
 |[],_=>[]
 |kv::kvs,m=>if kv.1=m then kv.2 else cG kvs m
theorem Ed(m:WM):∀kvs:WO,m∈kvs.map (·.1)->cV (fH kvs) (Key.inr (txt m))=some (ay (cG kvs m))
 |[],h=>by simp at h
 |kv::kvs,h=>by
  show cV ((Key.inr (txt kv.1),ay kv.2)::fH kvs) _=_;unfold cG
  by_cases e:kv.1=m
  .subst e;rw[cN rfl,if_pos rfl]
  .rw[cy (λz=>e (cJ.mp (by injection z))),if_neg e];exact Ed m kvs (by
    rw[map_cons] at h
    rcases mem_cons.mp h with h|h
    .exact absurd h.symm e
    .exact h)
def rg(C:Addr):Sp:=λvs H Q _=>∃(x dx pr pt pk:Addr) (L h j:Nat) (kvs:WO) (ks:WN),vs=[.ref x]/\jg C H x dx pr pt pk L h j kvs ks/\kvs.length<64/\(kvs.map (·.1)).Nodup/\
 ∀H' p (zs:WN),aI H H'->H p=none->pJ kvs ks zs->H' p=some (.lst ((zs.map (cG kvs)).map ay))->Q (.ref p) H'
def ri(K:W.Frag)(C:Addr):TS:=bA (dw (bV K (cI C "marks" (kT C) [] E0 (ai 0) az)) [0] gO (g9 (dU K (ai 1) "thing_of") (ai 0)))
theorem z4(cl:gh K C)(hN:N.length=1)(h:rg C vs H Q E):ri K C {nx:=λ_ H'=>Q .non H',rt:=Q} (L2.start N vs) H:=by
 obtain⟨x,dx,pr,pt,pk,L,h,j,kvs,ks,rfl,S,h64,hnd,q⟩:=h;unfold ri L2.start;rw[hN];nofun;refine tX λR0 hR0=>?_;simp? [bV]
 refine cE S (λR r=>⟨_,rfl,r⟩) rfl ⟨x,dx,pr,pt,pk,L,h,j,kvs,ks,rfl,S,h64,hnd,λH1 l zs s1 hl up mem=>⟨l,rfl,⟨_,aZ.here⟩,?_⟩⟩;rw[hR0];have a6:pJ kvs ks zs:=⟨up,mem⟩;have s2:=s1.new hl (o:=.lst (zs.map ay));have S2:=S.same s2;have hZ:(upd H1 l (.lst (zs.map ay))) l=some (.lst (zs.map ay)):=aq;have zl:zs.length<=10000:=by
  have:=eZ (cO up) (λm hm=>((mem m).mp hm).1);rw[length_map] at this;omega
 generalize upd H1 l _=H2 at s2 S2 hZ ⊢;refine kD (K:=K) (xs:=zs.map ay) (Z:=[some (.ref x)]) (fs:=[0]) (tt:=gO) (te:=g9 (dU K (ai 1) "thing_of") (ai 0)) (Q:=Q) (λi ys H'=>H'=H2/\ys=((zs.take i).map (cG kvs)).map ay) ⟨rfl,rfl⟩ (λi ys H' _ p=>by
  obtain⟨e,e2⟩:=p;rw[e,e2,length_map,length_map,length_take];exact⟨aZ.of hZ,min_le_left _ _⟩) (by rw[length_map,sizeLine_eq];omega) ?_ ?_
 .rintro i v ys H' hv ⟨rfl,rfl⟩ W hW;rw[getElem?_map] at hv;obtain⟨m,hm,rfl⟩:=map_eq_some_iff.mp hv;simp? [ay,g9]
  have hmk:=((mem m).mp (mem_of_getElem? hm)).1;refine nq S2 cl rfl ⟨pt,rfl,_,by rw[<-Ed m kvs hmk];exact gx.k (k:=Key.inr (txt m)) S2.tho,hW _ _ ⟨rfl,?_⟩⟩
  rw[take_add_one,hm,map_append,map_append];rfl
 .rintro ys H' ⟨rfl,rfl⟩ p hp;rw[length_map,take_length];exact q _ p zs (s2.new hp) (s2.bO hp) a6 aq
def pM(zs ks:WN):WR (WM×Bool):=zs.map λm=>(m,!decide (m∈ks))
def gv(fr:WN):Nat->WR (WM×Bool)->WR bB
 |_,[]=>[]
 |g,(m,true)::ks=>(m,some (fr.getD g []))::gv fr (g+1) ks
 |g,(m,false)::ks=>(m,none)::gv fr g ks
theorem wm(fr:WN):∀(g:Nat) (ks:WR (WM×Bool)),ee fr g ks=(gv fr g ks).map jD
 |_,[]=>rfl
 |g,(m,true)::ks=>by rw[ee,gv,map_cons,wm fr (g+1) ks];rfl
 |g,(m,false)::ks=>by rw[ee,gv,map_cons,wm fr g ks];rfl
theorem fT(fr:WN):∀(g:Nat) (ks:WR (WM×Bool)),(gv fr g ks).map (·.1)=ks.map (·.1)
 |_,[]=>rfl
 |g,(m,true)::ks=>by rw[gv,map_cons,map_cons,fT fr (g+1) ks]
 |g,(m,false)::ks=>by rw[gv,map_cons,map_cons,fT fr g ks]
def eB(kvs:WO)(R:WR bB):WO:=R.filterMap λr=>r.2.map λn=>(n,cG kvs r.1)
theorem lY(kvs:WO):∀R:WR bB,(eB kvs R).map (·.1)=R.filterMap (·.2)
 |[]=>rfl
 |(m,none)::R=>by
  have:=lY kvs R;unfold eB at this ⊢;rw[List.filterMap_cons_none rfl,List.filterMap_cons_none rfl];exact this
 |(m,some y)::R=>by
  have:=lY kvs R;unfold eB at this ⊢;simp only[filterMap_cons,map_some,map_cons,List.cons.injEq,true_and];exact this
theorem nu(fr:WN):∀(g:Nat) (ks:WR (WM×Bool)),g+cU ks=fr.length->(gv fr g ks).filterMap (·.2)=fr.drop g
 |g,[],h=>by
  rw[gv,List.filterMap_nil,List.drop_eq_nil_of_le];have:cU []=0:=rfl;omega
 |g,(m,true)::ks,h=>by
  rw[nc,if_pos rfl] at h;rw[gv];simp only[filterMap_cons];rw[nu fr (g+1) ks (by omega)];have hg:g<fr.length:=by omega
  rw[drop_eq_getElem_cons hg,getD_eq_getElem?_getD,getElem?_eq_getElem hg];rfl
 |g,(m,false)::ks,h=>by
  rw[nc,if_neg (by decide)] at h;rw[gv,List.filterMap_cons_none rfl,nu fr g ks (by omega)]
structure CI(kvs:WO)(zs:WN):Prop where
 up:zs.Pairwise (·<·)
 perm:zs.Perm (kvs.map (·.1))
def cZ(L:Nat)(zs ks:WN)(n:Nat):WR bB:=gv (kM L (cU (pM zs ks)) n) 0 (pM zs ks)
theorem gH:∀(kvs:WO) {m:WM},m∈kvs.map (·.1)->(m,cG kvs m)∈kvs
 |[],m,h=>by simp at h
 |kv::kvs,m,h=>by
  unfold cG
  by_cases e:kv.1=m
  .rw[if_pos e,<-e];exact mem_cons_self
  .rw[if_neg e];rw[map_cons] at h
   rcases mem_cons.mp h with h|h
   .exact absurd h.symm e
   .exact mem_cons_of_mem _ (gH kvs h)
theorem pN{zs:WN}{r:bB}(h:r∈cZ L zs ks n):r.1∈zs:=by
 have h1:r.1∈(cZ L zs ks n).map (·.1):=mem_map.mpr ⟨r,h,rfl⟩;unfold cZ at h1;rw[fT,pM,map_map] at h1;obtain⟨m,h2,h3⟩:=mem_map.mp h1;rw[<-h3];exact h2
theorem rm{zs:WN}:(cZ L zs ks n).filterMap (·.2)=kM L (cU (pM zs ks)) n:=by
 unfold cZ;rw[nu _ _ _ (by rw[vO,Nat.zero_add]),drop_zero]
theorem fF.small{m:Nat}(hL:2<=L)(R:fF L m n):n<=m:=by
 rcases Nat.eq_zero_or_pos n with z|z
 .omega
 .have h1:=R.less (n-1) (by omega);have h2:2^(n-1)<=L^(n-1):=Nat.pow_le_pow_left hL _;have h3:=Nat.lt_two_pow_self (n:=n-1);omega
theorem gi.yG{zs:WN}{k b:Nat}(W:gi L kvs ks k b)(hL:2<=L)(A:CI kvs zs)(R:fF L (cU (pM zs ks)) n):gi L (eB kvs (cZ L zs ks n)) [] k k:=by
 have e:=lY kvs (cZ L zs ks n);rw[rm] at e;have zl:zs.length<=k:=by rw[A.perm.length_eq,length_map];exact W.few
 have sl:cU (pM zs ks)<=k:=by
  have:=vP (pM zs ks);rw[pM,length_map] at this;rw[pM];omega
 have nl:=R.small hL;refine⟨by rw[e];exact cO (FF (by omega) R),λkv hkv=>?_,?_,λ_ h=>(nomatch h),nodup_nil⟩
 .have h1:kv.1∈(eB kvs (cZ L zs ks n)).map (·.1):=mem_map.mpr ⟨kv,hkv,rfl⟩;rw[e] at h1;obtain⟨m1,m2⟩:=B0 (by omega) R kv.1 h1;refine⟨m1,by omega,?_⟩;unfold eB at hkv;obtain⟨r,hr,e2⟩:=mem_filterMap.mp hkv;obtain⟨y,_,e3⟩:=map_eq_some_iff.mp e2;rw[<-e3];have:=gH kvs (m:=r.1) (A.perm.mem_iff.mp (pN hr));exact(W.mar _ this).2.2
 .have:=congrArg List.length e;rw[length_map,vO] at this;omega
structure Jt(H:Hp)(pr:Addr)(as:WR Addr)(R:WR (WR bB)):Prop where
 lst:H pr=some (.lst (as.map V.ref))
 row:bu H as R
 out:¬pr∈as
theorem Jt.same{R:WR (WR bB)}(A:Jt H pr as R)(s:aI H H'):Jt H' pr as R:=⟨s _ _ A.lst,A.row.same s,A.out⟩
theorem bu.keep(k:Keeps F H H')(ht:∀t∈F,∀ys,H t≠some (.tup ys)):∀{as:WR Addr} {R:WR (WR bB)},(∀a∈as,a∉F)->bu H as R->bu H' as R
 |[],[],_,_=>trivial
 |[],_::_,_,h=>h.elim
 |_::_,[],_,h=>h.elim
 |a::_,_::_,n,⟨⟨xs,e,p⟩,r⟩=>⟨⟨xs,k _ _ e (n a mem_cons_self),p.keep λt ys e=>k t _ e λz=>ht t z ys e⟩,bu.keep k ht (λb hb=>n b (mem_cons_of_mem _ hb)) r⟩
def kU(C ch:Addr):Sp:=λvs H Q E=>∃(x dx pr pt pk:Addr) (L h j:Nat) (kvs:WO) (ks:WN) (k b:Nat) (as:WR Addr) (R:WR (WR bB)),vs=[.ref x]/\jg C H x dx pr pt pk L h j kvs ks/\jZ L h j/\gi L kvs ks k b/\k<=62/\Jt H pr as R/\R.length<=1000/\
 (j≠0->E (.ref ch) none H)/\
 (j=0->∀H' zs n pt' pk' r ys q,CI kvs zs->fF L (cU (pM zs ks)) n->Keeps [x,pr] H H'->jg C H' x dx pr pt' pk' L h j (eB kvs (cZ L zs ks n)) []->Jt H' pr (as++[r]) (R++[cZ L zs ks n])->
  H' q=some (.lst ys)->dH H' ys ((cZ L zs ks n).map jD)->H pt'=none->H pk'=none->H r=none->H q=none->q≠r->Q (.ref q) H')
def pO(K:W.Frag)(ch:Addr)(m:WM)(E:XK):TS:=
  aJ (cW (bD (aS Sy (dU K (ai 0) "own_number") (tC (.int 0)))) (iT (.ref ch) E (ah (tC (.str (txt m))) az)) (b8))
   (aJ (cX 1 (bV K (dj oZ (ah (dU K (ai 0) "thing_of") az))) [0] gO (iZ (ah (ai 0) (ah (aS (BJ true) (ai 0) (dU K (ai 1) "taken")) az))))
   (aJ (aY (aF (DV K) [] E0 (ah (dU K (ai 0) "letters") (ah (ai 1) az))) (aG 2))
   (aJ (iP K (ai 0) (dj pe (ah (g5 K (bV K (ai 2)) [0] (tB (iY (ai 1))) (iZ (ah (ai 1) (ah (g9 (dU K (ai 2) "thing_of") (ai 0)) az)))) az)) "thing_of")
   (aJ (iP K (ai 0) gp "taken")
   (aJ (bR (xD K "list" fq (dU K (ai 0) "renewals") (ah (ai 2) az)))
   (bA (dj (oE K) (ah (ai 2) az))))))))
def TU(H:Hp)(zs ks:WN):Nat->WR V->Hp->Prop:=λi ys H'=>aI H H'/\dH H' ys ((pM (zs.take i) ks).map kP)/\ys.length=i
def TV(H:Hp)(kvs:WO)(R:WR bB):Nat->WR V->Hp->Prop:=λi ys H'=>aI H H'/\dH H' ys ((eB kvs (R.take i)).map AN)/\ys.length<=i
theorem ig:∀(ps qs:WR (Key×V)),((qs++ps).map (·.1)).Nodup->ic qs ps=qs++ps
 |[],qs,_=>by rw[append_nil];rfl
 |(k,v)::ps,qs,h=>by
  have h1:cV qs k=none:=by
   cases w:cV qs k with
   |none=>rfl
   |some u=>
    exfalso
    have hk:k∈qs.map (·.1):=by
     refine Classical.byContradiction λnk=>?_;have:cV qs k=none:=by
      clear h w
      induction qs with
      |nil=>exact vh
      |cons q qs ih=>
       rw[cy (λz=>nk (by rw[<-z];exact mem_cons_self))];exact ih λz=>nk (mem_cons_of_mem _ z)
     rw[this] at w;cases w
    rw[map_append,nodup_append] at h;exact h.2.2 k hk k (by simp) rfl
  show ic (putK qs k v) ps=_;rw[oU _ h1,ig ps (qs++[(k,v)]) (by rw[append_assoc];exact h),append_assoc];rfl
theorem dH.TX(p:dH H ys (zs.map AN)):TH H ys (fH zs):=by
 refine⟨by rw[p.len,fH,length_map,length_map],λi k v e=>?_⟩;rw[fH,getElem?_map] at e;obtain⟨z,e1,e2⟩:=map_eq_some_iff.mp e;cases e2;obtain⟨y,hy⟩:=some_at (l:=ys) (i:=i) (by rw[p.len,length_map];exact(List.getElem?_eq_some_iff.mp e1).1);obtain⟨q,t,a,rfl,c⟩:=p.get hy;rw[getElem?_map,e1] at a;cases a;exact⟨t,hy,c⟩
theorem Ck{ch:Addr}{mm:WM}(cl:gh K C)(hN:N.length=3)(h:kU C ch vs H Q E):pO K ch mm E {nx:=λ_ H'=>Q .non H',rt:=Q} (L2.start N vs) H:=by
 obtain⟨x,dx,pr,pt,pk,L,h,j,kvs,ks,k,b,as,R,rfl,S,D,W,hk,A,hRl,qx,q⟩:=h;unfold pO L2.start;rw[hN];refine aT λc hc=>?_;nofun;refine Lu S cl rfl ⟨rfl,?_⟩
 by_cases hj:j=0
 case neg=>
  rw[if_pos (λz=>hj (by have:=V.int.inj z;omega))];exact⟨by decide,qx hj⟩
 rw[if_neg (λz=>z (by rw[hj];rfl))];have q:=q hj;refine hc _ _ ?_;clear hc c;have few:=W.few;refine je λc hc=>?_;refine tX λR0 hR0=>?_;simp? [bV]
 refine nq S cl rfl ⟨pt,kvs.map λkv=>(kv.1,ay kv.2),rfl,by rw[<-Lq];exact S.tho,by rw[length_map];omega,λl zs hl hpm hle=>⟨l,rfl,⟨_,aZ.here⟩,?_⟩⟩
 rw[hR0];have hkk:(kvs.map λkv=>(kv.1,ay kv.2)).map (·.1)=kvs.map (·.1):=by rw[map_map];rfl
 rw[hkk] at hpm;have zlt:=gz hle (hpm.nodup_iff.mpr W.nd);have AK:CI kvs zs:=⟨zlt,hpm⟩;have s1:=aI.up H hl (o:=.lst (zs.map ay));have hZ:(upd H l (.lst (zs.map ay))) l=some (.lst (zs.map ay)):=aq;generalize upd H l _=H1 at s1 hZ ⊢;have zl:zs.length<=62:=by rw[hpm.length_eq,length_map];omega
 refine kD (K:=K) (xs:=zs.map ay) (Z:=[some (.ref x),none,none]) (fs:=[0]) (tt:=gO) (te:=iZ (ah (ai 0) (ah (aS (BJ true) (ai 0) (dU K (ai 1) "taken")) az))) (Q:=c) (TU H1 zs ks) ⟨aI.refl _,trivial,rfl⟩ (λi ys H' _ p=>by
  exact⟨aZ.of (p.1 _ _ hZ),by rw[p.2.2];exact le_refl _⟩) (by rw[length_map,sizeLine_eq];omega) ?_ ?_
 .rintro i v ys H' hv ⟨s',p',rfl⟩ W' hW;rw[getElem?_map] at hv;obtain⟨m,hm,rfl⟩:=map_eq_some_iff.mp hv;have S':=(S.same s1).same s';simp? [ay]
  refine zU S' cl rfl ⟨pk,_,rfl,gx.k (k:=Key.inr (txt m)) S'.tak,by decide,λt ht=>?_⟩;rw[wc,show (decide (m∈ks) !=true) = !decide (m∈ks) by cases decide (m∈ks)<;>rfl]
  have s2:=aI.up H' ht (o:=.tup [.str (txt m),.bl (!decide (m∈ks))]);refine hW _ _ ⟨s'.trans s2,?_,by rw[length_append];rfl⟩;have e:(pM (zs.take (ys.length+1)) ks).map kP=(pM (zs.take ys.length) ks).map kP++[(ay m,.bl (!decide (m∈ks)))]:=by
   rw[take_add_one,hm,pM,map_append,map_append];rfl
  rw[e];exact(p'.same s2).app ⟨⟨t,rfl,aq⟩,trivial⟩
 rintro ys H2 ⟨s2,p2,hyl⟩ p1 hp1;rw[length_map,take_length] at p2;refine hc _ _ ?_;clear hc;have s2:=s1.trans s2;have s3:=s2.new hp1 (o:=.lst ys);have p3:=p2.same (aI.up H2 hp1 (o:=.lst ys));have e3:(upd H2 p1 (.lst ys)) p1=some (.lst ys):=aq;generalize upd H2 p1 _=H3 at s3 p3 e3 ⊢;have S3:=S.same s3;refine aO λc hc=>?_;nofun;refine D6 S3 cl rfl ⟨L,p1,pM zs ks,rfl,D.l2,D.l26,by rw[pM,length_map];omega,⟨ys,aZ.of e3,p3⟩,λH4 r us n IR s4 hr hr4 p4=>hc _ _ ?_⟩
 clear hc c;rw[wm] at p4;have p4:dH H4 us ((cZ L zs ks n).map jD):=p4;have fr:H r=none:=s3.bO hr;have s4:=s3.trans s4;have S4:=S.same s4;have hul:=p4.len;rw[length_map] at hul;have rl:(cZ L zs ks n).length<=62:=by
  have:=congrArg List.length (fT (kM L (cU (pM zs ks)) n) 0 (pM zs ks));rw[length_map,length_map,pM,length_map] at this;unfold cZ;rw[pM,this];omega
 have q:=λH' pt' pk' ys q'=>q H' zs n pt' pk' r ys q' AK IR;have olds:∀y∈cZ L zs ks n,y.1∈kvs.map (·.1):=λy hy=>hpm.mem_iff.mp (pN hy);have nd':=(W.yG D.l2 AK IR).nd;generalize cZ L zs ks n=rw at p4 hul rl q olds nd';simp only[set_cons_zero,set_cons_succ]
 -- the new things
 refine aT λc hc=>?_;unfold iP;nofun;refine lO (a:=r) (xs:=us) (λQ h=>⟨_,rfl,h⟩) (aZ.of hr4) (TV H4 kvs rw) ⟨aI.refl _,trivial,zero_le _⟩ (λi ys H' _ p=>⟨aZ.of (p.1 _ _ hr4),p.2.2⟩) (by rw[hul,sizeLine_eq];omega) ?_ ?_
 .rintro i v ys H' hv ⟨s',p',hle'⟩;obtain⟨pp,t,e1,rfl,ht⟩:=(p4.same s').get hv;rw[getElem?_map] at e1;obtain⟨y,ey,rfl⟩:=map_eq_some_iff.mp e1;refine⟨t,ay y.1,oV y.2,rfl,ff.of ht,λW' hW=>?_⟩;have S':=S4.same s';have etk:rw.take (i+1)=rw.take i++[y]:=by rw[take_add_one,ey];rfl
  have hmk:=olds y (mem_of_getElem? ey);obtain⟨o,w⟩:=y;cases w with
  |none=>
   simp? [ay,oV]
   refine hW _ _ ⟨s',?_,by omega⟩;rw[etk,eB,List.filterMap_append];simpa [eB] using p'
  |some w=>
   simp? [ay,oV,g9]
   refine nq S' cl rfl ⟨pt,rfl,_,by rw[<-Ed o kvs hmk];exact gx.k (k:=Key.inr (txt o)) S'.tho,by decide,λt2 ht2=>?_⟩;have s2:=aI.up H' ht2 (o:=.tup [.str (txt w),ay (cG kvs o)]);refine hW _ _ ⟨s'.trans s2,?_,by rw[length_append];simp only[length_cons,length_nil];omega⟩;have e:(eB kvs (rw.take (i+1))).map AN=(eB kvs (rw.take i)).map AN++[(ay w,ay (cG kvs o))]:=by
    rw[etk,eB,List.filterMap_append,map_append];rfl
   rw[e];exact(p'.same s2).app ⟨⟨t2,rfl,aq⟩,trivial⟩
 rintro ys5 H5 ⟨s5,p5,_⟩ l5 hl5;rw[hul,take_length] at p5;have s45:=s4.trans s5;have s6:=s45.new hl5 (o:=.lst ys5);have p6:=p5.same (aI.up H5 hl5 (o:=.lst ys5));have e6:(upd H5 l5 (.lst ys5)) l5=some (.lst ys5):=aq;have r6:=(aI.up H5 hl5 (o:=.lst ys5)) _ _ (s5 _ _ hr4);have q6:=(p4.same s5).same (aI.up H5 hl5 (o:=.lst ys5));generalize upd H5 l5 _=H6 at s6 p6 e6 r6 q6 ⊢;refine⟨l5,ys5,fH (eB kvs rw),rfl,e6,p6.TX,λpt' wo=>?_⟩;have em:ic [] (fH (eB kvs rw))=fH (eB kvs rw):=by
  rw[ig _ _ (by
   rw[nil_append,fH,map_map];have:=pairwise_map.mpr (List.Pairwise.imp (S:=λa b=>(Key.inr (txt a):Key)≠Key.inr (txt b)) (λn e=>n (cJ.mp (by injection e))) nd');rw[map_map] at this;exact this)]
  rfl
 rw[em];have S6:=S.same s6;have ft:H pt'=none:=s6.bO wo;have nx:x≠pt':=λz=>by subst z;rw[S6.ins] at wo;cases wo
 have ndx:dx≠pt':=λz=>by subst z;rw[S6.own] at wo;cases wo
 have npr:pr≠pt':=λz=>by subst z;rw[s6 _ _ A.lst] at wo;cases wo
 have nr:r≠pt':=λz=>by subst z;rw[r6] at wo;cases wo
 refine⟨C,dx,ck L h j pr pt pk,by rw[aH nx];exact S6.ins,cl.cls,cl.nt,by simp[ck],hc _ _ ?_⟩;clear hc c;have s7:=s6.new wo (o:=.dK (fH (eB kvs rw)));have k7:Keeps [x,pr] H (upd (upd H6 pt' (.dK (fH (eB kvs rw)))) x (.ins C dx (cz "thing_of" (.ref pt') (ck L h j pr pt pk)))):=(s7.keeps _).upd (.inl mem_cons_self);have x7:(upd (upd H6 pt' (.dK (fH (eB kvs rw)))) x (.ins C dx (cz "thing_of" (.ref pt') (ck L h j pr pt pk)))) x=some (.ins C dx (ck L h j pr pt' pk)):=aq;have tt:∀{z:Addr} {o:HO},z≠x->H6 z=some o->(upd (upd H6 pt' (.dK (fH (eB kvs rw)))) x (.ins C dx (cz "thing_of" (.ref pt') (ck L h j pr pt pk)))) z=some o:=λ{z o} n e=>by
  rw[aH n,aH (λw=>by subst w;rw[wo] at e;cases e)];exact e
 have hdx:dx≠x:=λz=>by subst z;have:=S.ins.symm.trans S.own;cases this
 have hpx:pr≠x:=λz=>by subst z;have:=S.ins.symm.trans A.lst;cases this
 have hrx:r≠x:=λz=>by subst z;have:=S6.ins.symm.trans r6;cases this
 have d7:=tt hdx S6.own;have l7:=tt hpx (s6 _ _ A.lst);have r7:=tt hrx r6;have t7:(upd (upd H6 pt' (.dK (fH (eB kvs rw)))) x (.ins C dx (cz "thing_of" (.ref pt') (ck L h j pr pt pk)))) pt'=some (.dK (fH (eB kvs rw))):=by rw[aH (Ne.symm nx),aq]
 have q7:dH (upd (upd H6 pt' (.dK (fH (eB kvs rw)))) x (.ins C dx (cz "thing_of" (.ref pt') (ck L h j pr pt pk)))) us (rw.map jD):=q6.keep λt ys e=>tt (λz=>by subst z;have:=S6.ins.symm.trans e;cases this) e;generalize upd (upd H6 pt' _) x _=H7 at k7 x7 d7 l7 r7 t7 q7 ⊢;clear tt
 -- taken
 refine aT λc hc=>?_;unfold iP gp;nofun;refine λpk' xP=>⟨C,dx,ck L h j pr pt' pk,?_⟩;have nx:x≠pk':=λz=>by subst z;rw[x7] at xP;cases xP
 have nt:pt'≠pk':=λz=>by subst z;rw[t7] at xP;cases xP
 have fk:H pk'=none:=by
  cases w:H pk' with
  |none=>rfl
  |some o=>
   have:=k7 pk' o w (λz=>by
    rcases mem_cons.mp z with z|z
    .exact nx z.symm
    .rw[mem_singleton.mp z,l7] at xP;cases xP)
   rw[this] at xP;cases xP
 refine⟨by rw[aH nx];exact x7,cl.cls,cl.nk,by simp[ck],hc _ _ ?_⟩;clear hc c;have k8:Keeps [x,pr] H (upd (upd H7 pk' (.dK [])) x (.ins C dx (cz "taken" (.ref pk') (ck L h j pr pt' pk)))):=(k7.upd (.inr xP)).upd (.inl mem_cons_self);have x8:(upd (upd H7 pk' (.dK [])) x (.ins C dx (cz "taken" (.ref pk') (ck L h j pr pt' pk)))) x=some (.ins C dx (ck L h j pr pt' pk')):=aq;have tt:∀{z:Addr} {o:HO},z≠x->H7 z=some o->(upd (upd H7 pk' (.dK [])) x (.ins C dx (cz "taken" (.ref pk') (ck L h j pr pt' pk)))) z=some o:=λ{z o} n e=>by
  rw[aH n,aH (λw=>by subst w;rw[xP] at e;cases e)];exact e
 have d8:=tt hdx d7;have l8:=tt hpx l7;have r8:=tt hrx r7;have t8:=tt (λz=>by subst z;have:=x7.symm.trans t7;cases this) t7;have u8:(upd (upd H7 pk' (.dK [])) x (.ins C dx (cz "taken" (.ref pk') (ck L h j pr pt' pk)))) pk'=some (.dK (iX [])):=by rw[aH (Ne.symm nx),aq];rfl
 have q8:dH (upd (upd H7 pk' (.dK [])) x (.ins C dx (cz "taken" (.ref pk') (ck L h j pr pt' pk)))) us (rw.map jD):=q7.keep λt ys e=>tt (λz=>by subst z;have:=x7.symm.trans e;cases this) e;generalize upd (upd H7 pk' _) x _=H8 at k8 x8 d8 l8 r8 t8 u8 q8 ⊢;clear tt;have S8:jg C H8 x dx pr pt' pk' L h j (eB kvs rw) []:=⟨x8,d8,t8,u8,nt⟩
 -- the renewals
 have al:=A.row.len;refine aT λc hc=>?_;nofun;refine D7 S8 cl rfl ⟨.inl ⟨rfl,_,aZ.of l8⟩,fQ l8 (by rw[length_map];omega) (hc _ _ ?_)⟩;clear hc c;have npx:r≠pr:=λz=>by subst z;rw[A.lst] at fr;cases fr
 have k9:Keeps [x,pr] H (upd H8 pr (.lst (as.map V.ref++[.ref r]))):=k8.upd (.inl (mem_cons_of_mem _ mem_cons_self));have nk:∀{z:Addr} {o:HO},z≠pr->H8 z=some o->(upd H8 pr (.lst (as.map V.ref++[.ref r]))) z=some o:=λ{z o} n e=>by rw[aH n];exact e
 have S9:jg C (upd H8 pr (.lst (as.map V.ref++[.ref r]))) x dx pr pt' pk' L h j (eB kvs rw) []:=⟨nk (Ne.symm hpx) x8,nk (λz=>by subst z;have:=d8.symm.trans l8;cases this) d8,nk (λz=>by subst z;have:=t8.symm.trans l8;cases this) t8,nk (λz=>by subst z;have:=u8.symm.trans l8;cases this) u8,nt⟩;have l9:(upd H8 pr (.lst (as.map V.ref++[.ref r]))) pr=some (.lst ((as++[r]).map V.ref)):=by rw[aq,map_append];rfl
 have r9:=nk npx r8;have q9:dH (upd H8 pr (.lst (as.map V.ref++[.ref r]))) us (rw.map jD):=q8.keep λt ys e=>nk (λz=>by subst z;have:=l8.symm.trans e;cases this) e;generalize upd H8 pr _=H9 at k9 S9 l9 r9 q9 ⊢;have TY:bu H9 as R:=A.row.keep k9 (λt ht ys e=>by
  rcases mem_cons.mp ht with z|z
  .rw[z,S.ins] at e;cases e
  .rw[mem_singleton.mp z,A.lst] at e;cases e) λa ha z=>by
  rcases mem_cons.mp z with z|z
  .obtain⟨i,hi⟩:=getElem?_of_mem ha;obtain⟨_,_,_,w,_⟩:=A.row.get hi;rw[z,S.ins] at w;cases w
  .exact A.out (by rw[<-mem_singleton.mp z];exact ha)
 nofun;refine⟨r,us,rfl,.inl (aZ.of r9),λo ho=>?_⟩;have s10:=aI.up H9 ho (o:=.lst us);have no:o≠r:=λz=>by subst z;rw[r9] at ho;cases ho
 have fo:H o=none:=by
  cases w:H o with
  |none=>rfl
  |some u=>
   have:=k9 o u w (λz=>by
    rcases mem_cons.mp z with z|z
    .rw[z,S9.ins] at ho;cases ho
    .rw[mem_singleton.mp z,l9] at ho;cases ho)
   rw[this] at ho;cases ho
 refine q _ pt' pk' us o (k9.upd (.inr ho)) (S9.same s10) ⟨s10 _ _ l9,(TY.app (show bu H9 [r] [rw] from⟨⟨us,r9,q9⟩,trivial⟩)).same s10,λz=>?_⟩ aq (q9.same s10) ft fk fr fo no
 rcases mem_append.mp z with z|z
 .exact A.out z
 .exact npx (mem_singleton.mp z).symm
theorem ON(t:WM)(hm:¬m∈kvs.map (·.1)):putK (fH kvs) (Key.inr (txt m)) (ay t)=fH (kvs++[(m,t)]):=by
 rw[oU _ (zX m kvs hm)];unfold fH;rw[map_append];rfl
def num(n:Nat):WM:=(toString (n:Int):Str).cps.toList
theorem z5(n:Nat):txt (num n)=(toString (n:Int):Str):=txt_codes _
def OO:WM:=[48,49,50,51,52,53,54,55,56,57]
def isNum(l:WM):Bool:=!decide (l=[])&&decide (l.length<=4)&&(if l.head?=some 48 then decide (l=[48]) else l.all λc=>decide (c∈OO))
theorem fJ:∀n,n<64->(num n).contains 32=false/\isNum (num n)=true/\(num n).length<=4:=by decide+kernel
theorem pP(h:n<64):32∉num n:=λz=>by
 have:=(fJ n h).1;rw[List.contains_iff_mem.mpr z] at this;cases this
theorem ue(h:n<64):TM (.int n) (num n):=.inr ⟨n,rfl,by
 have:(n:Int).natAbs=n:=Int.natAbs_natCast n;rw[this];exact Nat.lt_of_le_of_lt (Nat.log2_le_self n) (by omega),z5 n⟩
theorem z6(h:n<64):PySem.intText? (txt (num n))=some (n:Int):=K3 (by omega) (by omega) (z5 n)
def rq:WM:=[114,101,110,101,119,97,108]
def tG(r:bB):WM:=match r.2 with
 |none=>r.1++[32,45]
 |some n=>r.1++[32]++n
def gA(r:WR bB):WN:=(rq++[32]++num r.length)::r.map tG
def CG(ws:WN)(z:WM×WM):WM:=if z.1∈ws then z.1++[32]++z.2++[32,116,97,107,101,110] else z.1++[32]++z.2
def sG(L h g:Nat):WM:=num L++[32]++num h++[32]++num g
def rA(L h:Nat)(R:WR (WR bB))(zs:WO)(ws:WN):WN:=sG L h R.length::(R.flatMap gA++zs.map (CG ws))
structure Cm(L:Nat)(r:WR bB):Prop where
 few:r.length<=60
 old:∀y∈r,Mark L y.1/\y.1.length<=500
 new:∀y∈r,∀z,y.2=some z->Mark L z/\z.length<=500
 oup:(r.map (·.1)).Pairwise (·<·)
 nup:(r.filterMap (·.2)).Pairwise (·<·)
structure pQ(L:Nat)(zs:WO)(ws:WN):Prop where
 few:zs.length<=60
 mar:∀z∈zs,Mark L z.1/\z.1.length<=1000/\Thing z.2
 up:(zs.map (·.1)).Pairwise (·<·)
 tak:ws=(zs.map (·.1)).filter λm=>decide (m∈ws)
structure StateT(L h:Nat)(R:WR (WR bB))(zs:WO)(ws:WN):Prop where
 l2:2<=L
 l26:L<=26
 h1:1<=h
 hL:h<L
 few:R.length<=60
 rows:∀r∈R,Cm L r
 things:pQ L zs ws
def ny(K:W.Frag):Sp:=λvs H Q _=>∃(L:Nat) (p:Addr) (xs:WR V) (r:WR bB),vs=[.ref p]/\H p=some (.lst xs)/\dH H xs (r.map jD)/\Cm L r/\∀o,H o=none->Q (.ref o) (upd H o (.lst ((r.map tG).map ay)))
def nA(K:W.Frag):TS:=
  bA (g5 K (bV K (ai 0)) [] gO (Nu (tB (uI (ai 1))) (vE [.fmt (ai 0),.raw (tC (.str (txt [32,45])))]) (vE [.fmt (ai 0),.raw (tC (.str (txt [32]))),.fmt (ai 1)])))
theorem xQ(hN:N.length=1)(h:ny K vs H Q E):nA K {nx:=λ_ H'=>Q .non H',rt:=Q} (L2.start N vs) H:=by
 obtain⟨L,p,xs,r,rfl,hp,hr,R,q⟩:=h;have few:=R.few;have xl:=hr.len;rw[length_map] at xl;unfold nA L2.start;rw[hN];nofun;refine lO (a:=p) (xs:=xs) (λQ h=>⟨_,rfl,h⟩) (aZ.of hp) (λi ys H'=>H'=H/\ys=((r.take i).map tG).map ay) ⟨rfl,rfl⟩ (λi ys H' _ h=>by
  rw[h.1,h.2,length_map,length_map,length_take];exact⟨aZ.of hp,min_le_left _ _⟩) (by rw[xl,sizeLine_eq];omega) ?_ ?_
 .rintro i x ys H' hx ⟨rfl,rfl⟩;obtain⟨pp,t,e1,rfl,ht⟩:=hr.get hx;rw[getElem?_map] at e1;obtain⟨y,ey,rfl⟩:=map_eq_some_iff.mp e1;refine⟨t,ay y.1,oV y.2,rfl,ff.of ht,λW hW=>?_⟩;have hy:=mem_of_getElem? ey;have o:=(R.old y hy).2;have etk:r.take (i+1)=r.take i++[y]:=by rw[take_add_one,ey];rfl
  have fin:W (((r.take i).map tG).map ay++[ay (tG y)]) H':=hW _ _ ⟨rfl,by rw[etk,map_append,map_append];rfl⟩;cases e2:y.2 with
  |none=>
   have er:tG y=[]++y.1++[32,45]:=by unfold tG;rw[e2];rfl
   rw[er] at fin;simp? [oV]
   exact⟨_,rfl,y.1,.inl rfl,by simp only[length_nil];omega,[32,45],rfl,by simp only[length_append,length_cons,length_nil];omega,by simp only[length_append,length_cons,length_nil];omega,fin⟩
  |some n=>
   have o2:=(R.new y hy n e2).2;have er:tG y=[]++y.1++[32]++n:=by unfold tG;rw[e2];rfl
   rw[er] at fin;simp? [oV]
   exact⟨_,rfl,y.1,.inl rfl,by simp only[length_nil];omega,[32],rfl,by simp only[length_append,length_cons,length_nil];omega,_,rfl,n,.inl rfl,by simp only[length_append,length_cons,length_nil];omega,by simp only[length_append,length_cons,length_nil];omega,fin⟩
 .rintro ys H' ⟨rfl,rfl⟩ o ho;rw[xl,take_length];exact q o ho
def nB(K:W.Frag):Sp:=λvs H Q _=>∃(L:Nat) (p:Addr) (xs:WR V) (r:WR bB),vs=[.ref p]/\H p=some (.lst xs)/\dH H xs (r.map jD)/\Cm L r/\∀H' o,aI H H'->H o=none->H' o=some (.lst ((gA r).map ay))->Q (.ref o) H'
def nC(K:W.Frag):TS:=
  aJ (aY (dj (b5 K) (ah (ai 0) az)) (aG 1))
   (bA (aS yU (mU (ah (vE [.raw (tC (.str (txt [114,101,110,101,119,97,108,32]))),.fmt (ai 1)]) az)) (aF (ny K) [] E0 (ah (ai 0) az))))
theorem xR(hN:N.length=2)(h:nB K vs H Q E):nC K {nx:=λ_ H'=>Q .non H',rt:=Q} (L2.start N vs) H:=by
 obtain⟨L,p,xs,r,rfl,hp,hr,R,q⟩:=h;have few:=R.few;have xl:=hr.len;rw[length_map] at xl;unfold nC L2.start;rw[hN];refine aO λc hc=>?_;nofun;refine bG (aZ.of hp) (hc _ _ ?_);clear hc c;rw[xl];have nl:=(fJ r.length (by omega)).2.2;nofun;refine⟨[114,101,110,101,119,97,108,32],rfl,by decide,_,rfl,num r.length,ue (by omega),by simp only[length_append,length_cons,length_nil];omega,by simp only[length_append,length_cons,length_nil];omega,by decide,λp1 hp1=>?_⟩;have s1:=aI.up H hp1 (o:=.lst [.str (txt ([]++[114,101,110,101,119,97,108,32]++num r.length))]);have e1:(upd H p1 (.lst [.str (txt ([]++[114,101,110,101,119,97,108,32]++num r.length))])) p1=some (.lst [ay (rq++[32]++num r.length)]):=aq;generalize upd H p1 _=H1 at s1 e1 ⊢;refine⟨L,p,xs,r,rfl,s1 _ _ hp,hr.same s1,R,λo ho=>?_⟩;have n1:p1≠o:=λz=>by subst z;rw[e1] at ho;cases ho
 refine zd (a:=p1) (b:=o) (by rw[aH n1];exact e1) aq (by simp only[length_cons,length_nil,length_map];omega) λl hl=>?_;exact q _ l ((s1.new ho).new hl) ((s1.new ho).bO hl) (by rw[aq];rfl)
def rB(K:W.Frag):Sp:=λvs H Q _=>∃(L:Nat) (p p2:Addr) (xs:WR V) (zs:WO) (ws:WN),vs=[.ref p,.ref p2]/\H p=some (.lst xs)/\dH H xs (zs.map AN)/\H p2=some (.lst (ws.map ay))/\pQ L zs ws/\∀H' o,aI H H'->H o=none->H' o=some (.lst ((zs.map (CG ws)).map ay))->Q (.ref o) H'
def rC(K:W.Frag):TS:=
  aJ (aY (dj pe (ah (dw (bV K (ai 1)) [] gO (iZ (ah (ai 0) (ah (tC (.bl true)) az)))) az)) (aG 2))
   (bA (g5 K (bV K (ai 0)) [2] gO (Nu (bD (aS (BJ false) (ai 0) (ai 2))) (vE [.fmt (ai 0),.raw (tC (.str (txt [32]))),.fmt (ai 1),.raw (tC (.str (txt [32,116,97,107,101,110])))]) (vE [.fmt (ai 0),.raw (tC (.str (txt [32]))),.fmt (ai 1)]))))
def TZ(H:Hp)(ws:WN):Nat->WR V->Hp->Prop:=λi ys H'=>aI H H'/\TH H' ys (iX (ws.take i))/\ys.length=i
theorem Lx(nd:ws.Nodup):ic [] (iX ws)=iX ws:=by
 rw[ig _ _ (by
  rw[nil_append,iX,map_map];have:=pairwise_map.mpr (List.Pairwise.imp (S:=λa b=>(Key.inr (txt a):Key)≠Key.inr (txt b)) (λn e=>n (cJ.mp (by injection e))) nd);exact this)]
 rfl
theorem pQ.taken(T:pQ L zs ws):ws.length<=60/\ws.Nodup:=by
 have e:=T.tak;have few:=T.few;constructor
 .rw[e];refine Nat.le_trans (length_filter_le _ _) ?_;rw[length_map];exact few
 .rw[e];exact(cO T.up).filter _
theorem z7(hN:N.length=3)(h:rB K vs H Q E):rC K {nx:=λ_ H'=>Q .non H',rt:=Q} (L2.start N vs) H:=by
 obtain⟨L,p,p2,xs,zs,ws,rfl,hp,hz,hp2,T,q⟩:=h;obtain⟨wl,wnd⟩:=T.taken;have few:=T.few;have xl:=hz.len;rw[length_map] at xl;unfold rC L2.start;rw[hN];refine aO λc hc=>?_;nofun;refine kE (a:=p2) (xs:=ws.map ay) (λQ h=>⟨_,rfl,h⟩) (aZ.of hp2) (TZ H ws) ⟨aI.refl _,⟨rfl,λi k v e=>by simp[iX] at e⟩,rfl⟩ (λi ys H' _ h=>⟨aZ.of (h.1 _ _ hp2),by rw[h.2.2];exact le_refl _⟩) (by rw[length_map,sizeLine_eq];omega) ?_ ?_
 .rintro i v ys H' hv ⟨s',⟨pl,pa⟩,rfl⟩ W hW;rw[getElem?_map] at hv;obtain⟨m,hm,rfl⟩:=map_eq_some_iff.mp hv;simp? [ay]
  refine⟨by decide,λt ht=>?_⟩;have s2:=aI.up H' ht (o:=.tup [.str (txt m),.bl true]);have etk:ws.take (ys.length+1)=ws.take ys.length++[m]:=by rw[take_add_one,hm];rfl
  refine hW _ _ ⟨s'.trans s2,⟨?_,λi k v e=>?_⟩,by rw[length_append];rfl⟩
  .have e1:(iX (ws.take (ys.length+1))).length=(iX (ws.take ys.length)).length+1:=by rw[etk,iX,map_append,length_append];rfl
   rw[length_append,e1,<-pl];rfl
  .rw[etk,iX,map_append] at e
   by_cases hi:i<ys.length
   .rw[getElem?_append_left (by rw[length_map,length_take];rw[iX,length_map,length_take] at pl;omega)] at e;obtain⟨t',h1,h2⟩:=pa i k v e;exact⟨t',by rw[getElem?_append_left hi];exact h1,s2 _ _ h2⟩
   .have hlt:(ws.take ys.length).length=ys.length:=by rw[iX,length_map] at pl;exact pl.symm
    rw[getElem?_append_right (by rw[length_map,hlt];omega),length_map,hlt] at e;have hi2:i-ys.length=0:=by
     rcases Nat.eq_zero_or_pos (i-ys.length) with z|z
     .exact z
     .rw[getElem?_eq_none (by simp;omega)] at e;cases e
    rw[hi2] at e;cases e;exact⟨t,by rw[getElem?_append_right (by omega),hi2];rfl,aq⟩
 rintro ys H1 ⟨s1,pk,hyl⟩ l hl;rw[length_map,take_length] at pk;have s2:=s1.new hl (o:=.lst ys);have u2:=aI.up H1 hl (o:=.lst ys);have e2:(upd H1 l (.lst ys)) l=some (.lst ys):=aq;have pk2:TH (upd H1 l (.lst ys)) ys (iX ws):=⟨pk.1,λi k v e=>by obtain⟨t,a,b⟩:=pk.2 i k v e;exact⟨t,a,u2 _ _ b⟩⟩
 generalize upd H1 l _=H2 at s2 u2 e2 pk2 ⊢;refine⟨l,ys,iX ws,rfl,e2,pk2,λd hd=>hc _ _ ?_⟩;clear hc c;rw[Lx wnd];have s3:=s2.new hd (o:=.dK (iX ws));have e3:(upd H2 d (.dK (iX ws))) d=some (.dK (iX ws)):=aq;generalize upd H2 d _=H3 at s3 e3 ⊢;have hz3:=hz.same s3;nofun;refine lO (a:=p) (xs:=xs) (λQ h=>⟨_,rfl,h⟩) (aZ.of (s3 _ _ hp)) (λi ys H'=>H'=H3/\ys=((zs.take i).map (CG ws)).map ay) ⟨rfl,rfl⟩ (λi ys H' _ h=>by
  rw[h.1,h.2,length_map,length_map,length_take];exact⟨aZ.of (s3 _ _ hp),min_le_left _ _⟩) (by rw[xl,sizeLine_eq];omega) ?_ ?_
 .rintro i x ys H' hx ⟨rfl,rfl⟩;obtain⟨pp,t,e1,rfl,ht⟩:=hz3.get hx;rw[getElem?_map] at e1;obtain⟨z,ez,rfl⟩:=map_eq_some_iff.mp e1;refine⟨t,ay z.1,ay z.2,rfl,ff.of ht,λW hW=>?_⟩;have hzm:=mem_of_getElem? ez;have o:=(T.mar z hzm).2.1;have o2:=(T.mar z hzm).2.2.2.1;have etk:zs.take (i+1)=zs.take i++[z]:=by rw[take_add_one,ez];rfl
  have fin:W (((zs.take i).map (CG ws)).map ay++[ay (CG ws z)]) H':=hW _ _ ⟨rfl,by rw[etk,map_append,map_append];rfl⟩;simp? [ay]
  refine⟨d,_,rfl,gx.k (k:=Key.inr (txt z.1)) e3,_,rfl,?_⟩;rw[wc]
  by_cases y:z.1∈ws
  .rw[if_pos (by simp[y])];have er:CG ws z=[]++z.1++[32]++z.2++[32,116,97,107,101,110]:=by unfold CG;rw[if_pos y];rfl
   rw[er] at fin;exact⟨_,rfl,z.1,.inl rfl,by simp only[length_nil];omega,[32],rfl,by simp only[length_append,length_cons,length_nil];omega,_,rfl,z.2,.inl rfl,by simp only[length_append,length_cons,length_nil];omega,[32,116,97,107,101,110],rfl,by simp only[length_append,length_cons,length_nil];omega,by simp only[length_append,length_cons,length_nil];omega,fin⟩
  .rw[if_neg (by simp[y])];have er:CG ws z=[]++z.1++[32]++z.2:=by unfold CG;rw[if_neg y];rfl
   rw[er] at fin;exact⟨_,rfl,z.1,.inl rfl,by simp only[length_nil];omega,[32],rfl,by simp only[length_append,length_cons,length_nil];omega,_,rfl,z.2,.inl rfl,by simp only[length_append,length_cons,length_nil];omega,by simp only[length_append,length_cons,length_nil];omega,fin⟩
 .rintro ys H' ⟨rfl,rfl⟩ o ho;rw[xl,take_length];exact q _ o (s3.new ho) (s3.bO ho) aq
theorem lZ:∀{R:WR (WR bB)},(∀r∈R,Cm L r)->(R.flatMap gA).length<=61*R.length
 |[],_=>le_refl _
 |r::R,h=>by
  have ih:=lZ (R:=R) λx hx=>h x (mem_cons_of_mem _ hx);have:=(h r mem_cons_self).few;rw[List.flatMap_cons,length_append,gA,length_cons,length_map,length_cons];omega
def fU(K:W.Frag):Sp:=λvs H Q _=>∃(p p1 p2 p3:Addr) (bs:WR Addr) (ts:WR V) (L h:Nat) (R:WR (WR bB)) (zs:WO) (ws:WN),vs=[.ref p]/\j7 H p p1 p2 p3 bs ts L h R zs ws/\StateT L h R zs ws/\∀H' o,aI H H'->H o=none->H' o=some (.lst ((rA L h R zs ws).map ay))->Q (.ref o) H'
def rD(K:W.Frag):TS:=
  aJ (aY (aS (dF K) (ai 0) (tC (.int 0))) (aG 1))
   (aJ (aY (aS (dF K) (ai 0) (tC (.int 1))) (aG 2))
   (aJ (aY (dj (b5 K) (ah (aS (dF K) (ai 0) (tC (.int 2))) az)) (aG 3))
   (aJ (aY (mU (ah (vE [.fmt (ai 1),.raw (tC (.str (txt [32]))),.fmt (ai 2),.raw (tC (.str (txt [32]))),.fmt (ai 3)]) az)) (aG 4))
   (aJ (iy (bV K (aS (dF K) (ai 0) (tC (.int 2)))) (aG 5) (bR (xD K "list" EU (ai 4) (ah (aF (nB K) [] E0 (ah (ai 5) az)) az))))
   (bA (aS yU (ai 4) (aF (rB K) [] E0 (ah (aS (dF K) (ai 0) (tC (.int 3))) (ah (aS (dF K) (ai 0) (tC (.int 4))) az)))))))))
def T4(H:Hp)(p p4:Addr)(L h:Nat)(R:WR (WR bB)):Nat->St->Hp->Prop:=λi Z H'=>∃v5,Keeps [p4] H H'/\H' p4=some (.lst ((sG L h R.length::(R.take i).flatMap gA).map ay))/\Z=[some (.ref p),some (.int L),some (.int h),some (.int R.length),some (.ref p4),v5]
theorem z8(hN:N.length=6)(h:fU K vs H Q E):rD K {nx:=λ_ H'=>Q .non H',rt:=Q} (L2.start N vs) H:=by
 obtain⟨p,p1,p2,p3,bs,ts,L,h,R,zs,ws,rfl,A,T,q⟩:=h;have bl:=A.row.len;have few:=T.few;have Ld:=T.l26;have hhL:=T.hL;unfold rD L2.start;rw[hN];refine aO λc hc=>?_;nofun;refine bH (v:=.int L) (ff.of A.top) (by decide) rfl (hc _ _ ?_);clear hc c;refine aO λc hc=>?_;nofun;refine bH (v:=.int h) (ff.of A.top) (by decide) rfl (hc _ _ ?_);clear hc c;refine aO λc hc=>?_;nofun;refine bH (v:=.ref p1) (ff.of A.top) (by decide) rfl (bG (aZ.of A.ren) (hc _ _ ?_));clear hc c;rw[length_map,bl];have n1:=(fJ L (by omega)).2.2;have n2:=(fJ h (by omega)).2.2;have n3:=(fJ R.length (by omega)).2.2;refine aO λc hc=>?_;and_intros;refine⟨_,rfl,num L,ue (by omega),by simp only[length_nil];omega,[32],rfl,by simp only[length_append,length_cons,length_nil];omega,_,rfl,num h,ue (by omega),by simp only[length_append,length_cons,length_nil];omega,[32],rfl,by simp only[length_append,length_cons,length_nil];omega,_,rfl,num R.length,ue (by omega),by simp only[length_append,length_cons,length_nil];omega,by simp only[length_append,length_cons,length_nil];omega,(show 1<=sizeLine by decide),λp4 hp4=>hc _ _ ?_⟩;clear hc c;have s1:=aI.up H hp4 (o:=.lst [.str (txt ([]++num L++[32]++num h++[32]++num R.length))]);have e1:(upd H p4 (.lst [.str (txt ([]++num L++[32]++num h++[32]++num R.length))])) p4=some (.lst ((sG L h R.length::(R.take 0).flatMap gA).map ay)):=aq;generalize upd H p4 _=H1 at s1 e1 ⊢;have j4:∀b∈[p4],H b=none:=λb hb=>by rw[mem_singleton.mp hb];exact hp4
 refine aT λc hc=>?_;have A1:=A.same s1;refine uY (a:=p1) (xs:=bs.map V.ref) (λQ h=>by nofun;exact bH (v:=.ref p1) (ff.of A1.top) (by decide) rfl h) (aZ.of A1.ren) (T4 H1 p p4 L h R) ⟨none,λb o e _=>e,e1,rfl⟩ (λi Z H' _ h=>?_) ?_ ?_
 .obtain⟨_,k',_⟩:=h;exact aZ.of ((cj s1 k' j4) _ _ A.ren)
 .rintro i y Z H' hy ⟨v5,k',l',rfl⟩;rw[getElem?_map] at hy;obtain⟨b,hb,rfl⟩:=map_eq_some_iff.mp hy;have sH:=cj s1 k' j4;obtain⟨r,xs,er,hx,px⟩:=(A.row.same sH).get hb;have hR:=T.rows r (mem_of_getElem? er);have hil:i<R.length:=(List.getElem?_eq_some_iff.mp er).1;nofun;refine⟨.inl ⟨rfl,_,aZ.of l'⟩,L,b,xs,r,rfl,hx,px,hR,λH2 o s2 ho eo=>?_⟩;have l2:=s2 _ _ l';have Lc:=lZ (R:=R.take i) λr hr=>T.rows r (List.mem_of_mem_take hr);rw[length_take] at Lc;have fr:=hR.few;refine⟨p4,o,_,_,rfl,rfl,l2,eo,by
   rw[length_map,length_map,length_cons,gA,length_cons,length_map,sizeLine_eq];omega,_,k'.trans ((s2.keeps _).upd (.inl mem_cons_self)),?_,rfl⟩
  have etk:R.take (i+1)=R.take i++[r]:=by rw[take_add_one,er];rfl
  rw[aq,etk,List.flatMap_append,<-map_append];simp
 rintro Z H2 ⟨v5,k2,l2,rfl⟩;rw[length_map,bl,take_length] at l2;refine hc _ _ ?_;clear hc c;have s2:=cj s1 k2 j4;have A2:=A.same s2;have Lc:=lZ (R:=R) T.rows;have tf:=T.things.few;nofun;refine bH (v:=.ref p2) (ff.of A2.top) (by decide) rfl (bH (v:=.ref p3) (ff.of A2.top) (by decide) rfl ⟨L,p2,p3,ts,zs,ws,rfl,A2.thi,A2.prs,A2.tak,T.things,λH3 o s3 ho eo=>?_⟩);refine zd (a:=p4) (b:=o) (s3 _ _ l2) eo (by
  rw[length_map,length_map,length_cons,length_map];omega) λl hl=>?_
 have s23:=s2.trans s3;refine q _ l (s23.new hl) (s23.bO hl) ?_;rw[aq,rA,<-map_append];simp
def dQ:Sp:=λvs H Q _=>∃i:Int,vs=[.bl true,.int i]/\Q .non H
def rE:TS:=cW (qi (tB (ai 0))) (qj) (b8)
theorem z9(hN:N.length=2)(h:dQ vs H Q E):rE {nx:=λ_ H'=>Q .non H',rt:=Q} (L2.start N vs) H:=by
 obtain⟨i,rfl,q⟩:=h;unfold rE L2.start;rw[hN];nofun;exact q
def gI(K:W.Frag):Sp:=λvs H Q _=>∃(p:Addr) (ts:WN) (i:Nat) (wds:WN),vs=[.ref p,.int i]/\aZ K H p (ts.map ay)/\ts[i]?=some (gP [32] wds)/\(gP [32] wds).length<=100000/\wds≠[]/\(∀w∈wds,32∉w)/\∀o,H o=none->Q (.ref o) (upd H o (.lst (wds.map ay)))
def rF(K:W.Frag):TS:=
  bA (Nu (bD (aS xF (ai 1) (dj (b5 K) (ah (ai 0) az)))) (xD K "str" KZ (aS (bY K) (ai 0) (ai 1)) (ah (tC (.str (txt [32]))) az)) (mU az))
theorem Aa(hN:N.length=2)(h:gI K vs H Q E):rF K {nx:=λ_ H'=>Q .non H',rt:=Q} (L2.start N vs) H:=by
 obtain⟨p,ts,i,wds,rfl,hp,ht,hl,hne,hf,q⟩:=h;unfold rF L2.start;rw[hN];nofun;refine bG hp ⟨_,rfl,?_⟩;rw[length_map,if_pos (by have:=(List.getElem?_eq_some_iff.mp ht).1;omega)];refine bq (v:=ay (gP [32] wds)) hp (by omega) (by rw[toNat_natCast,getElem?_map,ht];rfl) ⟨rfl,gP [32] wds,32,rfl,rfl,hl,λo ho=>?_⟩;rw[kJ wds hne hf];exact q o ho
def jG:Sp:=λvs H Q _=>∃l:WM,vs=[.str (txt l)]/\l.length<=100000/\∀H',aI H H'->Q (.bl (isNum l)) H'
def nD(K:W.Frag):TS:=
  aJ (cW (AM (bD (aS tV (ai 0) (tC (.str (txt []))))) (bD (aS Bp (dj oB (ah (ai 0) az)) (tC (.int 4))))) (bA (tC (.bl false))) (b8))
   (aJ (cW (tB (xD K "str" Fw (ai 0) (ah (tC (.str (txt [48]))) az))) (bA (aS tV (ai 0) (tC (.str (txt [48]))))) (b8))
   (bA (dj (Br K) (ah (dw (C3 (ai 0)) [] gO (aS QU (ai 0) (tC (.str (txt [48,49,50,51,52,53,54,55,56,57]))))) az))))
theorem xS(hN:N.length=1)(h:jG vs H Q E):nD K {nx:=λ_ H'=>Q .non H',rt:=Q} (L2.start N vs) H:=by
 obtain⟨l,rfl,hz,q⟩:=h;unfold nD L2.start;rw[hN];nofun;refine⟨rfl,?_⟩
 by_cases h1:l=[]
 .rw[if_pos h1];have:isNum l=false:=by rw[h1];rfl
  rw[<-this];exact q _ (aI.refl _)
 rw[if_neg h1];refine iG hz ⟨_,rfl,?_⟩
 by_cases h2:(4:Int)<(l.length:Int)
 .rw[if_pos h2];have:isNum l=false:=by
   unfold isNum;rw[decide_eq_false (show ¬l.length<=4 by omega)];simp
  rw[<-this];exact q _ (aI.refl _)
 rw[if_neg h2];have base:isNum l=(if l.head?=some 48 then decide (l=[48]) else l.all λc=>decide (c∈OO)):=by
  unfold isNum;rw[decide_eq_false h1,decide_eq_true (show l.length<=4 by omega)];rfl
 refine⟨rfl,l,48,rfl,rfl,_,rfl,?_⟩
 by_cases h3:l.head?=some 48
 .rw[if_pos h3] at base;rw[if_pos (decide_eq_true h3)];refine⟨rfl,?_⟩;rw[<-base];exact q _ (aI.refl _)
 .rw[if_neg h3] at base;rw[if_neg (by rw[decide_eq_false h3];decide)];refine zb (l:=l) (λQ h=>⟨_,rfl,h⟩) (Nat.le_trans (show l.length<=100000 by omega) (by decide)) (λi ys H'=>H'=H/\ys=((l.take i).map λc=>decide (c∈OO)).map V.bl) ⟨rfl,rfl⟩
   (λi ys H' _ p=>by rw[p.2,length_map,length_map,length_take];omega) ?_ ?_
  .rintro i c ys H' hc ⟨rfl,rfl⟩ R hR;nofun;refine⟨c,_,rfl,rfl,hR _ _ ⟨rfl,?_⟩⟩;rw[take_succ,hc,map_append,map_append];rfl
  .rintro ys H' ⟨rfl,rfl⟩ p hp;rw[take_length];refine⟨p,_,rfl,aZ.here,?_⟩;have e:(l.map λc=>decide (c∈OO)).all id=isNum l:=by rw[base,List.all_map];rfl
   rw[e];exact q _ (aI.up _ hp)
def jH:Sp:=λvs H Q _=>∃(n m:Nat),vs=[.str (txt (num n)),.int m]/\n<64/\n<=m/\∀H',aI H H'->Q (.bl true) H'
def jI:TS:=bA (iA (aF jG [] E0 (ah (ai 0) az)) (aS Tn (dj Fy (ah (ai 0) az)) (ai 1)))
theorem tH(hN:N.length=2)(h:jH vs H Q E):jI {nx:=λ_ H'=>Q .non H',rt:=Q} (L2.start N vs) H:=by
 obtain⟨n,m,rfl,hn,hm,q⟩:=h;obtain⟨_,i2,i3⟩:=fJ n hn;unfold jI L2.start;rw[hN];nofun;refine⟨num n,rfl,by omega,λH1 s1=>⟨_,rfl,?_⟩⟩
 rw[i2];nofun;refine⟨num n,n,rfl,by omega,z6 hn,_,rfl,?_⟩;rw[decide_eq_true (show (n:Int)<=(m:Int) by omega)];exact q _ s1
def fK:Sp:=λvs H Q _=>∃(L:Nat) (l w:WM),vs=[.int L,.str (txt l),.str (txt w)]/\L<=26/\Mark L w/\w.length<=1000/\l<w/\∀H',aI H H'->Q (.bl true) H'
def jJ:TS:=bA (iA (aF vI [] E0 (ah (ai 0) (ah (ai 2) az))) (aS N3 (ai 1) (ai 2)))
theorem tK(hN:N.length=3)(h:fK vs H Q E):jJ {nx:=λ_ H'=>Q .non H',rt:=Q} (L2.start N vs) H:=by
 obtain⟨L,l,w,rfl,hL,mw,wl,lt,q⟩:=h;unfold jJ L2.start;rw[hN];nofun;refine⟨L,w,rfl,hL,by omega,λH1 s1=>⟨_,rfl,?_⟩⟩
 rw[Iw.mpr mw];nofun;refine⟨_,_,rfl,rfl,?_⟩;rw[decide_eq_true lt];exact q _ s1
theorem yH(L h g:Nat):sG L h g=gP [32] [num L,num h,num g]:=by
 rw[cT,cT];show num L++[32]++num h++[32]++num g=num L++[32]++(num h++[32]++num g);simp only[append_assoc]
theorem rG(h:Mark L m):32∉m:=λz=>by have:=h.ls 32 z;omega
theorem Ef{t:WM}(h:Thing t):32∉t:=λz=>by have:=h.2.2 32 z;revert this;decide
def Eg(y:bB):WN:=match y.2 with
 |none=>[y.1,[45]]
 |some n=>[y.1,n]
theorem Ly(y:bB):tG y=gP [32] (Eg y):=by
 unfold tG Eg;cases y.2 with
 |none=>rw[cT];show y.1++[32,45]=y.1++[32]++[45];simp
 |some n=>rw[cT];rfl
def nE(K:W.Frag):Sp:=λvs H Q _=>∃(p:Addr) (ts:WN) (L h g:Nat),vs=[.ref p]/\aZ K H p (ts.map ay)/\ts[0]?=some (sG L h g)/\2<=L/\L<=26/\1<=h/\h<L/\g<=60/\∀H' o,aI H H'->H o=none->H' o=some (.lst [.int L,.int h,.int g])->Q (.ref o) H'
def nG(K:W.Frag)(c:Addr):TS:=
  aJ (aY (aF (gI K) [] E0 (ah (ai 0) (ah (tC (.int 0)) az))) (aG 1))
   (aJ (bR (aF dQ [] E0 (ah (iA (aS tV (dj (b5 K) (ah (ai 1) az)) (tC (.int 3))) (dj (Br K) (ah (dw (bV K (ai 1)) [] gO (aF jG [] E0 (ah (ai 0) az))) az))) (ah (tC (.int 0)) az))))
   (aJ (cX 2 (bV K (ai 1)) [] gO (dj Fy (ah (ai 0) az)))
   (aJ (N9 K c (λΦ=>bR (zg (zQ c) Φ (ah (aS (bY K) (ai 2) (tC (.int 0))) (ah (aS (bY K) (ai 2) (tC (.int 1))) az)))) (qj))
   (aJ (bR (aF dQ [] E0 (ah (aS Tn (aS (bY K) (ai 2) (tC (.int 2))) (tC (.int 1000))) (ah (tC (.int 0)) az))))
   (bA (ai 2))))))
theorem xT{c0:Addr}(hN:N.length=3)(h:nE K vs H Q E):nG K c0 {nx:=λ_ H'=>Q .non H',rt:=Q} (L2.start N vs) H:=by
 obtain⟨p,ts,L,h,g,rfl,hp,ht,l2,l26,h1,hL,hg,q⟩:=h;rw[yH] at ht;have a1:=fJ L (by omega);have a2:=fJ h (by omega);have a3:=fJ g (by omega);have hns:∀n∈[L,h,g],n<64:=λn hn=>by simp only[mem_cons,not_mem_nil,or_false] at hn;omega
 have ew:[num L,num h,num g]=[L,h,g].map num:=rfl;unfold nG L2.start;rw[hN];refine aO λc hc=>?_;nofun;refine⟨p,ts,0,[num L,num h,num g],rfl,hp,ht,by
  rw[<-yH,sG];simp only[length_append,length_cons,length_nil];omega,by simp,λw hw=>by
  simp only[mem_cons,not_mem_nil,or_false] at hw
  rcases hw with rfl|rfl|rfl
  .exact pP (by omega)
  .exact pP (by omega)
  .exact pP (by omega),λo ho=>hc _ _ ?_⟩
 clear hc c;have s1:=aI.up H ho (o:=.lst ([num L,num h,num g].map ay));have e1:(upd H o (.lst ([num L,num h,num g].map ay))) o=some (.lst (([L,h,g].map num).map ay)):=aq;generalize upd H o _=H1 at s1 e1 ⊢;and_intros;refine aT λc hc=>?_;suffices main:∀H2,aI H1 H2->c [some (.ref p),some (.ref o),none] H2 by
  nofun;refine bG (aZ.of e1) ⟨rfl,?_⟩;rw[if_pos (show V.int (((([L,h,g].map num).map ay).length:Nat):Int)=V.int 3 from rfl)];refine kE (a:=o) (xs:=([L,h,g].map num).map ay) (λQ h=>⟨_,rfl,h⟩) (aZ.of e1) (λi ys H'=>aI H1 H'/\ys=(List.replicate i true).map V.bl) ⟨aI.refl _,rfl⟩ (λi ys H' _ p=>⟨aZ.of (p.1 _ _ e1),by rw[p.2,length_map,List.length_replicate];exact le_refl _⟩) (show 3<=sizeLine by decide) ?_ ?_
  .rintro i v ys H' hv ⟨s',rfl⟩ W hW;rw[getElem?_map,getElem?_map] at hv;obtain⟨w,hw,rfl⟩:=map_eq_some_iff.mp hv;obtain⟨n,hn,rfl⟩:=map_eq_some_iff.mp hw;obtain⟨_,i2,i3⟩:=fJ n (hns n (mem_of_getElem? hn));simp? [ay]
   refine⟨num n,rfl,by omega,λH2 s2=>?_⟩;rw[i2];refine hW _ _ ⟨s'.trans s2,?_⟩;rw[List.replicate_succ',map_append];rfl
  .rintro ys H' ⟨s',rfl⟩ p5 hp5;refine⟨p5,_,rfl,aZ.here,0,?_,main _ (s'.new hp5)⟩;simp
 intro H2 s2;refine hc _ _ ?_;clear hc c;have s12:=s1.trans s2;have e2:=s2 _ _ e1;refine je λc hc=>?_;refine kE (a:=o) (xs:=([L,h,g].map num).map ay) (λQ h=>⟨_,rfl,h⟩) (aZ.of e2) (λi ys H'=>H'=H2/\ys=(([L,h,g].take i).map λn=>.int (n:Nat))) ⟨rfl,rfl⟩ (λi ys H' _ p=>⟨by rw[p.1];exact aZ.of e2,by rw[p.2,length_map,length_take];exact min_le_left _ _⟩) (show 3<=sizeLine by decide) ?_ ?_
 .rintro i v ys H' hv ⟨rfl,rfl⟩ W hW;rw[getElem?_map,getElem?_map] at hv;obtain⟨w,hw,rfl⟩:=map_eq_some_iff.mp hv;obtain⟨n,hn,rfl⟩:=map_eq_some_iff.mp hw;have i3:=(fJ n (hns n (mem_of_getElem? hn))).2.2;simp? [ay]
  refine⟨num n,n,rfl,by omega,z6 (hns n (mem_of_getElem? hn)),hW _ _ ⟨rfl,?_⟩⟩
  rw[take_add_one,hn,map_append];rfl
 rintro ys H3 ⟨rfl,rfl⟩ o2 ho2;refine hc _ _ ?_;clear hc;have s3:=s12.new ho2 (o:=.lst ([L,h,g].map λn=>.int (n:Nat)));have f3:=s12.bO ho2;have e3:(upd H3 o2 (.lst (([L,h,g].take (([L,h,g].map num).map ay).length).map λn=>.int (n:Nat)))) o2=some (.lst [.int L,.int h,.int g]):=aq;have s3:aI H (upd H3 o2 (.lst (([L,h,g].take (([L,h,g].map num).map ay).length).map λn=>.int (n:Nat)))):=s12.new ho2;generalize upd H3 o2 _=H4 at s3 e3 ⊢;simp only[set_cons_zero,set_cons_succ];refine aT λc hc=>?_;simp? [N9,zg]
 refine bq (v:=.int L) (aZ.of e3) (by decide) rfl (bq (v:=.int h) (aZ.of e3) (by decide) rfl ?_);refine⟨L,h,rfl,λ_=>hc _ _ ?_,λz=>absurd ⟨by omega,by omega,by omega,by omega⟩ z⟩;clear hc c;refine aT λc hc=>?_;nofun;refine bq (v:=.int g) (aZ.of e3) (by decide) rfl ⟨_,rfl,0,?_,hc _ _ ?_⟩
 .rw[decide_eq_true (show (g:Int)<=1000 by omega)]
 .nofun;exact q _ o2 s3 f3 e3
def nI(K:W.Frag):Sp:=λvs H Q _=>∃(p:Addr) (ts:WN) (i g:Nat),vs=[.ref p,.int i]/\aZ K H p (ts.map ay)/\ts[i]?=some (rq++[32]++num g)/\g<=60/\∀H',aI H H'->Q (.int g) H'
def nJ(K:W.Frag):TS:=
  aJ (aY (aF (gI K) [] E0 (ah (ai 0) (ah (ai 1) az))) (aG 2))
   (aJ (bR (aF dQ [] E0 (ah (iA (aS tV (dj (b5 K) (ah (ai 2) az)) (tC (.int 2))) (iA (aS tV (aS (bY K) (ai 2) (tC (.int 0))) (tC (.str (txt [114,101,110,101,119,97,108])))) (aF jH [] E0 (ah (aS (bY K) (ai 2) (tC (.int 1))) (ah (tC (.int 1000)) az))))) (ah (ai 1) az))))
   (bA (dj Fy (ah (aS (bY K) (ai 2) (tC (.int 1))) az))))
theorem xU(hN:N.length=3)(h:nI K vs H Q E):nJ K {nx:=λ_ H'=>Q .non H',rt:=Q} (L2.start N vs) H:=by
 obtain⟨p,ts,i,g,rfl,hp,ht,hg,q⟩:=h;have i3:=(fJ g (by omega)).2.2;unfold nJ L2.start;rw[hN];refine aO λc hc=>?_;nofun;refine⟨p,ts,i,[rq,num g],rfl,hp,ht,by
  rw[cT];show (rq++[32]++num g).length<=_;simp only[length_append,length_cons,length_nil,rq];omega,by simp,λw hw=>by
  simp only[mem_cons,not_mem_nil,or_false] at hw
  rcases hw with rfl|rfl
  .decide
  .exact pP (by omega),λo ho=>hc _ _ ?_⟩
 clear hc c;have s1:=aI.up H ho (o:=.lst ([rq,num g].map ay));have e1:(upd H o (.lst ([rq,num g].map ay))) o=some (.lst [ay rq,ay (num g)]):=aq;generalize upd H o _=H1 at s1 e1 ⊢;refine aT λc hc=>?_;nofun;refine bG (aZ.of e1) ⟨rfl,?_⟩;rw[if_pos (show V.int ((([ay rq,ay (num g)].length:Nat)):Int)=V.int 2 from rfl)];refine bq (v:=ay rq) (aZ.of e1) (by decide) rfl ⟨rfl,?_⟩;rw[if_pos (show ay rq=V.str (txt [114,101,110,101,119,97,108]) from rfl)];refine bq (v:=ay (num g)) (aZ.of e1) (by decide) rfl ⟨g,1000,rfl,by omega,by omega,λH2 s2=>⟨i,rfl,hc _ _ ?_⟩⟩
 clear hc c;nofun;exact bq (v:=ay (num g)) (aZ.of (s2 _ _ e1)) (by decide) rfl ⟨num g,g,rfl,by omega,z6 (by omega),q _ (s1.trans s2)⟩
def w2(y:bB):WM:=y.2.getD [45]
theorem uf(y:bB):Eg y=[y.1,w2 y]:=by unfold Eg w2;cases y.2<;>rfl
theorem wu(h:Mark L m):[]<m:=by
 cases m with
 |nil=>exact absurd rfl h.ne
 |cons a m=>exact List.nil_lt_cons a m
def nK(K:W.Frag):Sp:=λvs H Q _=>∃(L:Nat) (p:Addr) (ts:WN) (i0:Nat) (r:WR bB),vs=[.int L,.ref p,.int i0,.int r.length]/\L<=26/\H p=some (.lst (ts.map ay))/\Cm L r/\i0<=100000/\(∀j y,r[j]?=some y->ts[i0+j]?=some (tG y))/\∀H' o xs,aI H H'->H o=none->H' o=some (.lst xs)->dH H' xs (r.map jD)->Q (.ref o) H'
def nL(K:W.Frag):TS:=
  aJ (aY (mU az) (aG 4))
   (aJ (aY (tC (.str (txt []))) (aG 5))
   (aJ (aY (tC (.str (txt []))) (aG 6))
   (aJ (iy (uM (ah (ai 2) (ah (aS bS (ai 2) (ai 3)) az))) (aG 7) (aJ (aY (aF (gI K) [] E0 (ah (ai 1) (ah (ai 7) az))) (aG 8))
   (aJ (bR (aF dQ [] E0 (ah (iA (aS tV (dj (b5 K) (ah (ai 8) az)) (tC (.int 2))) (aF fK [] E0 (ah (ai 0) (ah (ai 5) (ah (aS (bY K) (ai 8) (tC (.int 0))) az))))) (ah (ai 7) az))))
   (aJ (aY (aS (bY K) (ai 8) (tC (.int 0))) (aG 5))
   (cW (bD (aS tV (aS (bY K) (ai 8) (tC (.int 1))) (tC (.str (txt [45]))))) (bR (xD K "list" fq (ai 4) (ah (iZ (ah (aS (bY K) (ai 8) (tC (.int 0))) (ah (tC .non) az))) az))) (aJ (bR (aF dQ [] E0 (ah (aF fK [] E0 (ah (ai 0) (ah (ai 6) (ah (aS (bY K) (ai 8) (tC (.int 1))) az)))) (ah (ai 7) az))))
   (aJ (aY (aS (bY K) (ai 8) (tC (.int 1))) (aG 6))
   (bR (xD K "list" fq (ai 4) (ah (iZ (ah (aS (bY K) (ai 8) (tC (.int 0))) (ah (aS (bY K) (ai 8) (tC (.int 1))) az))) az))))))))))
   (bA (ai 4)))))
def Py(L i0:Nat)(p p4:Addr)(H:Hp)(r:WR bB):Nat->St->Hp->Prop:=λi Z H'=>∃(ys:WR V) (lo ln:WM) (v7 v8:Option V),Keeps [p4] H H'/\H' p4=some (.lst ys)/\ys.length=i/\dH H' ys ((r.take i).map jD)/\(∀y∈r.drop i,lo<y.1/\∀z,y.2=some z->ln<z)/\Z=[some (.int L),some (.ref p),some (.int i0),some (.int r.length),some (.ref p4),some (ay lo),some (ay ln),v7,v8]
theorem xV(hN:N.length=9)(h:nK K vs H Q E):nL K {nx:=λ_ H'=>Q .non H',rt:=Q} (L2.start N vs) H:=by
 obtain⟨L,p,ts,i0,r,rfl,dY,hp,T,h0,ht,q⟩:=h;have few:=T.few;unfold nL L2.start;rw[hN];refine aO λc hc=>?_;nofun;refine⟨by decide,λp4 hp4=>hc _ _ ?_⟩;clear hc c;have s1:=aI.up H hp4 (o:=.lst []);have e1:(upd H p4 (.lst [])) p4=some (.lst []):=aq;generalize upd H p4 _=H1 at s1 e1 ⊢;have j4:∀b∈[p4],H b=none:=λb hb=>by rw[mem_singleton.mp hb];exact hp4
 and_intros;refine aO λc hc=>?_;nofun;refine hc _ _ ?_;clear hc c;refine aO λc hc=>?_;nofun;refine hc _ _ ?_;clear hc c;simp only[set_cons_zero,set_cons_succ];refine aT λc hc=>?_;refine J4 (l:=i0) (j:=(i0:Int)+(r.length:Nat)) (λQ h=>by nofun;exact h) (by omega) (by omega) (by omega) (by omega) (Py L i0 p p4 H1 r) ⟨[],[],[],none,none,λb o e _=>e,e1,rfl,trivial,λy hy=>⟨wu (T.old y (List.mem_of_mem_drop hy)).1,λz hz=>wu (T.new y (List.mem_of_mem_drop hy) z hz).1⟩,rfl⟩ ?_ ?_
 .rintro i Z H' hi ⟨ys,lo,ln,v7,v8,k',l',hl',pr',up,rfl⟩;have hil:i<r.length:=by omega
  obtain⟨y,hy⟩:∃y,r[i]?=some y:=⟨r[i],getElem?_eq_getElem hil⟩;have sH:=cj s1 k' j4;have hym:=mem_of_getElem? hy;have edr:r.drop i=y::r.drop (i+1):=kN hy;have etk:r.take (i+1)=r.take i++[y]:=by rw[take_add_one,hy];rfl
  obtain⟨u1,u2⟩:=up y (by rw[edr];exact mem_cons_self);have om:=T.old y hym;have nm:=T.new y hym;have w2l:(w2 y).length<=1000/\32∉w2 y:=by
   unfold w2;cases e:y.2 with
   |none=>exact⟨by decide,by decide⟩
   |some z=>exact⟨Nat.le_trans (nm z e).2 (by decide),rG (nm z e).1⟩
  have upO:∀y'∈r.drop (i+1),y.1<y'.1:=by
   have:=(List.Pairwise.sublist ((List.drop_sublist i r).map (·.1)) T.oup);rw[edr,map_cons,pairwise_cons] at this;exact λy' hy'=>this.1 _ (mem_map_of_mem hy')
  have app:∀(ln':WM) (Hc:Hp) (t o:Addr),Keeps [p4] H1 Hc->Hc p4=some (.lst ys)->dH Hc ys ((r.take i).map jD)->(∀y'∈r.drop (i+1),∀z,y'.2=some z->ln'<z)->Hc t=none->Py L i0 p p4 H1 r (i+1) [some (.int L),some (.ref p),some (.int i0),some (.int r.length),some (.ref p4),some (ay y.1),some (ay ln'),some (.int ((i0:Int)+i)),some (.ref o)] (upd (upd Hc t (.tup [ay y.1,oV y.2])) p4 (.lst (ys++[.ref t]))):=λln' Hc t o kc lc prc hln ht=>by
   have n6:p4≠t:=λz=>by subst z;rw[lc] at ht;cases ht
   refine⟨_,_,_,_,_,(kc.upd (.inr ht)).upd (.inl mem_cons_self),aq,by rw[length_append,hl'];rfl,?_,λy' hy'=>⟨upO y' hy',hln y' hy'⟩,rfl⟩
   rw[etk,map_append];refine(prc.keep (qT ht lc)).app ⟨⟨t,rfl,?_⟩,trivial⟩;rw[aH (Ne.symm n6),aq];rfl
  refine aO λc1 hc1=>?_;nofun;refine⟨p,ts,i0+i,Eg y,rfl,aZ.of (sH _ _ hp),by rw[ht i y hy,Ly],by
   rw[uf,cT];show (y.1++[32]++w2 y).length<=_;simp only[length_append,length_cons,length_nil];omega,by rw[uf];simp,λw hw=>by
   rw[uf] at hw;simp only[mem_cons,not_mem_nil,or_false] at hw
   rcases hw with rfl|rfl
   .exact rG om.1
   .exact w2l.2,λo ho=>hc1 _ _ ?_⟩
  clear hc1 c1;have sa:=aI.up H' ho (o:=.lst ((Eg y).map ay));have ea:(upd H' o (.lst ((Eg y).map ay))) o=some (.lst [ay y.1,ay (w2 y)]):=by rw[aq,uf];rfl
  generalize upd H' o _=Ha at sa ea ⊢;simp only[set_cons_zero,set_cons_succ];refine aT λc1 hc1=>?_;nofun;refine bG (aZ.of ea) ⟨rfl,?_⟩;rw[if_pos (show V.int ((([ay y.1,ay (w2 y)].length:Nat)):Int)=V.int 2 from rfl)];refine bq (v:=ay y.1) (aZ.of ea) (by decide) rfl ⟨L,lo,y.1,rfl,dY,om.1,by have:=om.2;omega,u1,λHb sb=>⟨_,rfl,hc1 _ _ ?_⟩⟩
  clear hc1 c1;have eb:=sb _ _ ea;have sab:=sa.trans sb;refine aO λc1 hc1=>?_;nofun;refine bq (v:=ay y.1) (aZ.of eb) (by decide) rfl (hc1 _ _ ?_);clear hc1 c1;simp? [set_cons_zero,set_cons_succ]
  refine bq (v:=ay (w2 y)) (aZ.of eb) (by decide) rfl ⟨rfl,?_⟩;cases ey:y.2 with
  |none=>
   rw[if_pos (show ay (w2 y)=V.str (txt [45]) by unfold w2;rw[ey];rfl)];refine⟨.inl ⟨rfl,_,aZ.of (sab _ _ l')⟩,bq (v:=ay y.1) (aZ.of eb) (by decide) rfl ⟨by decide,λt ht=>?_⟩⟩;have:=app ln Hb t o (k'.trans (sab.keeps _)) (sab _ _ l') (pr'.same sab) (λy' hy'=>(up y' (by rw[edr];exact mem_cons_of_mem _ hy')).2) ht;rw[ey] at this;exact fQ (by rw[aH (λz=>by subst z;rw[sab _ _ l'] at ht;cases ht)];exact sab _ _ l') (by omega) this
  |some z=>
   have ew:w2 y=z:=by unfold w2;rw[ey];rfl
   have zm:=nm z ey;rw[ew] at eb;rw[if_neg (show ¬ay (w2 y)=V.str (txt [45]) by
    rw[ew];intro x;have x2:z=[45]:=by simpa [ay,cJ] using x
    rw[x2] at zm;have:=zm.1.ls 45 mem_cons_self;omega)]
   refine bq (v:=ay z) (aZ.of eb) (by decide) rfl ⟨L,ln,z,rfl,dY,zm.1,by have:=zm.2;omega,u2 z ey,λHc sc=>⟨_,rfl,?_⟩⟩
   have ec:=sc _ _ eb;have sac:=sab.trans sc;refine bq (v:=ay z) (aZ.of ec) (by decide) rfl ⟨.inl ⟨rfl,_,aZ.of (sac _ _ l')⟩,bq (v:=ay y.1) (aZ.of ec) (by decide) rfl (bq (v:=ay z) (aZ.of ec) (by decide) rfl ⟨by decide,λt ht=>?_⟩)⟩;have:=app z Hc t o (k'.trans (sac.keeps _)) (sac _ _ l') (pr'.same sac) (by
    have:=(List.Pairwise.sublist ((List.drop_sublist i r).filterMap (·.2)) T.nup);rw[edr,filterMap_cons,ey,pairwise_cons] at this;exact λy' hy' z' hz'=>this.1 _ (mem_filterMap.mpr ⟨y',hy',hz'⟩)) ht
   rw[ey] at this;exact fQ (by rw[aH (λz=>by subst z;rw[sac _ _ l'] at ht;cases ht)];exact sac _ _ l') (by omega) this
 rintro Z H2 ⟨ys,lo,ln,v7,v8,k2,l2,hl2,pr2,-,rfl⟩;refine hc _ _ ?_;clear hc c;have s2:=cj s1 k2 j4;rw[show ((i0:Int)+(r.length:Nat)-i0).toNat=r.length by omega,take_length] at pr2
 nofun;exact q _ p4 ys s2 hp4 l2 pr2
theorem Cn{xs:WN}(h1:H p=some (.lst (xs.map ay)))(h2:H p2=some (.lst (xs.map ay)))(ok:∀y∈xs,PyData.strOk (txt y)=true)(q:Q (.bl true) H):J2 K (.ref p) (.ref p2) H Q:=by
 refine⟨p,p2,xs,xs,rfl,rfl,aZ.of h1,aZ.of h2,ok,ok,?_⟩;rw[show (decide (xs=xs))=true by simp]
 exact q
def Ab:WM:=[116,97,107,101,110]
def mP(ws:WN)(z:WM×WM):WN:=if z.1∈ws then [z.1,z.2,Ab] else [z.1,z.2]
theorem FL(ws:WN)(z:WM×WM):CG ws z=gP [32] (mP ws z):=by
 unfold CG mP
 by_cases h:z.1∈ws
 .rw[if_pos h,if_pos h,cT,cT];show z.1++[32]++z.2++[32,116,97,107,101,110]=z.1++[32]++(z.2++[32]++Ab);simp[Ab]
 .rw[if_neg h,if_neg h,cT];rfl
def Ju(H:Hp)(as:WR Addr)(wl:WR WN):Prop:=as.length=wl.length/\∀(j:Nat) (w:WN),wl[j]?=some w->∃a,as[j]?=some a/\H a=some (.lst (w.map ay))
theorem Ju.same{wl:WR WN}(h:Ju H as wl)(s:aI H H'):Ju H' as wl:=⟨h.1,λj w e=>by
 obtain⟨a,e1,e2⟩:=h.2 j w e;exact⟨a,e1,s _ _ e2⟩⟩
theorem Ju.up{wl:WR WN}{o:HO}(h:Ju H as wl)(n:∀a∈as,a≠p):Ju (upd H p o) as wl:=⟨h.1,λj w e=>by
 obtain⟨a,e1,e2⟩:=h.2 j w e;exact⟨a,e1,by rw[aH (n a (mem_of_getElem? e1))];exact e2⟩⟩
theorem Ju.add{wl:WR WN}{w:WN}(h:Ju H as wl)(e:H b=some (.lst (w.map ay))):Ju H (as++[b]) (wl++[w]):=⟨by rw[length_append,length_append,h.1];rfl,λj w' hj=>by
 by_cases hlt:j<wl.length
 .rw[getElem?_append_left hlt] at hj;obtain⟨a,e1,e2⟩:=h.2 j w' hj;exact⟨a,by rw[getElem?_append_left (by rw[h.1];exact hlt)];exact e1,e2⟩
 .rw[getElem?_append_right (by omega)] at hj;rw[getElem?_append_right (by rw[h.1];omega),h.1];have hj0:j-wl.length=0:=by
   cases hh:j-wl.length with
   |zero=>rfl
   |succ k=>rw[hh] at hj;simp at hj
  rw[hj0] at hj ⊢;simp at hj
  subst hj;exact⟨b,rfl,e⟩⟩
def jK(K:W.Frag):Sp:=λvs H Q _=>∃(L:Nat) (p:Addr) (ts:WN) (i0:Nat) (zs:WO) (ws:WN),vs=[.int L,.ref p,.int i0]/\L<=26/\H p=some (.lst (ts.map ay))/\pQ L zs ws/\i0<=100000/\ts.length=i0+zs.length/\(∀j z,zs[j]?=some z->ts[i0+j]?=some (CG ws z))/\∀H' o as,aI H H'->H o=none->H' o=some (.lst (as.map V.ref))->Ju H' as (zs.map (mP ws))->Q (.ref o) H'
def jL(K:W.Frag):TS:=
  aJ (aY (mU az) (aG 3))
   (aJ (aY (tC (.str (txt []))) (aG 4))
   (aJ (iy (uM (ah (ai 2) (ah (dj (b5 K) (ah (ai 1) az)) az))) (aG 5) (aJ (aY (aF (gI K) [] E0 (ah (ai 1) (ah (ai 5) az))) (aG 6))
   (aJ (bR (aF dQ [] E0 (ah (Jz (aS tV (dj (b5 K) (ah (ai 6) az)) (tC (.int 2))) (aS (J2 K) (Nm (CV K) (ai 6) (mH (tC (.int 2))) fV) (mU (ah (tC (.str (txt [116,97,107,101,110]))) az)))) (ah (ai 5) az))))
   (aJ (bR (aF dQ [] E0 (ah (iA (aF fK [] E0 (ah (ai 0) (ah (ai 4) (ah (aS (bY K) (ai 6) (tC (.int 0))) az)))) (aF lU [] E0 (ah (aS (bY K) (ai 6) (tC (.int 1))) az))) (ah (ai 5) az))))
   (aJ (aY (aS (bY K) (ai 6) (tC (.int 0))) (aG 4))
   (bR (xD K "list" fq (ai 3) (ah (ai 6) az))))))))
   (bA (ai 3))))
def T6(L i0:Nat)(p p3:Addr)(H:Hp)(zs:WO)(ws:WN):Nat->St->Hp->Prop:=λi Z H'=>∃(as:WR Addr) (lo:WM) (v5 v6:Option V),Keeps [p3] H H'/\H' p3=some (.lst (as.map V.ref))/\as.length=i/\Ju H' as ((zs.take i).map (mP ws))/\(∀a∈as,a≠p3)/\(∀z∈zs.drop i,lo<z.1)/\Z=[some (.int L),some (.ref p),some (.int i0),some (.ref p3),some (ay lo),v5,v6]
theorem tL(hN:N.length=7)(h:jK K vs H Q E):jL K {nx:=λ_ H'=>Q .non H',rt:=Q} (L2.start N vs) H:=by
 obtain⟨L,p,ts,i0,zs,ws,rfl,dY,hp,T,h0,htl,ht,q⟩:=h;have few:=T.few;unfold jL L2.start;rw[hN];refine aO λc hc=>?_;nofun;refine⟨by decide,λp3 hp3=>hc _ _ ?_⟩;clear hc c;have s1:=aI.up H hp3 (o:=.lst []);have e1:(upd H p3 (.lst [])) p3=some (.lst []):=aq;generalize upd H p3 _=H1 at s1 e1 ⊢;have j4:∀b∈[p3],H b=none:=λb hb=>by rw[mem_singleton.mp hb];exact hp3
 and_intros;refine aO λc hc=>?_;nofun;refine hc _ _ ?_;clear hc c;simp only[set_cons_zero,set_cons_succ];refine aT λc hc=>?_;refine J4 (l:=i0) (j:=(ts.length:Nat)) (λQ h=>by nofun;exact bG (aZ.of (s1 _ _ hp)) (by rw[length_map];exact h)) (by omega) (by omega) (by omega) (by omega) (T6 L i0 p p3 H1 zs ws) ⟨[],[],none,none,λb o e _=>e,e1,rfl,⟨rfl,λj w e=>by simp at e⟩,λa ha=>(nomatch ha),λz hz=>wu (T.mar z (List.mem_of_mem_drop hz)).1,rfl⟩ ?_ ?_
 .rintro i Z H' hi ⟨as,lo,v5,v6,k',l',hl',wd',na',up,rfl⟩;have hil:i<zs.length:=by omega
  obtain⟨z,hz⟩:∃z,zs[i]?=some z:=⟨zs[i],getElem?_eq_getElem hil⟩;have sH:=cj s1 k' j4;have hzm:=mem_of_getElem? hz;have edr:zs.drop i=z::zs.drop (i+1):=kN hz;have etk:zs.take (i+1)=zs.take i++[z]:=by rw[take_add_one,hz];rfl
  have u1:=up z (by rw[edr];exact mem_cons_self);obtain⟨zm,zl,zt⟩:=T.mar z hzm;have ztl:=zt.2.1;have upO:∀y'∈zs.drop (i+1),z.1<y'.1:=by
   have:=(List.Pairwise.sublist ((List.drop_sublist i zs).map (·.1)) T.up);rw[edr,map_cons,pairwise_cons] at this;exact λy' hy'=>this.1 _ (mem_map_of_mem hy')
  refine aO λc1 hc1=>?_;nofun;refine⟨p,ts,i0+i,mP ws z,rfl,aZ.of (sH _ _ hp),by rw[ht i z hz,FL],by
   rw[<-FL,CG];split<;>simp only[length_append,length_cons,length_nil]<;>omega,by unfold mP;split<;>simp,λw hw=>by
   have:w=z.1\/w=z.2\/w=Ab:=by
    unfold mP at hw;split at hw<;>simp only[mem_cons,not_mem_nil,or_false] at hw
    .exact hw
    .rcases hw with h|h
     .exact .inl h
     .exact .inr (.inl h)
   rcases this with rfl|rfl|rfl
   .exact rG zm
   .exact Ef zt
   .decide,λo ho=>hc1 _ _ ?_⟩
  clear hc1 c1;have no:o≠p3:=λx=>by rw[x,l'] at ho;cases ho
  have sa:=aI.up H' ho (o:=.lst ((mP ws z).map ay));have ea:(upd H' o (.lst ((mP ws z).map ay))) o=some (.lst ((mP ws z).map ay)):=aq;generalize upd H' o _=Ha at sa ea ⊢;simp only[set_cons_zero,set_cons_succ];refine aT λc1 hc1=>?_;suffices main:∀Hb,aI Ha Hb->c1 [some (.int L),some (.ref p),some (.int i0),some (.ref p3),some (ay lo),some (.int ((i0:Int)+i)),some (.ref o)] Hb by
   nofun;refine bG (aZ.of ea) ⟨rfl,?_⟩
   by_cases hw:z.1∈ws
   .have ew:mP ws z=[z.1,z.2,Ab]:=by unfold mP;rw[if_pos hw]
    rw[ew] at ea ⊢;rw[if_neg (show ¬V.int ((([z.1,z.2,Ab].map ay).length:Nat):Int)=V.int 2 from λx=>by injection x with x;exact absurd x (show ¬((3:Nat):Int)=2 by decide))]
    refine vZ (aZ.of ea) λb hb=>⟨by decide,λb2 hb2=>?_⟩;have nb:b≠b2:=λx=>by rw[<-x,aq] at hb2;cases hb2
    refine Cn (xs:=[Ab]) (by rw[aH nb,aq];rfl) (by rw[aq];rfl) (λy hy=>by rw[mem_singleton.mp hy];decide+kernel) ⟨_,rfl,main _ ((aI.up Ha hb).new hb2)⟩
   .have ew:mP ws z=[z.1,z.2]:=by unfold mP;rw[if_neg hw]
    rw[ew] at ea ⊢;rw[if_pos (show V.int ((([z.1,z.2].map ay).length:Nat):Int)=V.int 2 from rfl)];exact⟨_,rfl,main _ (aI.refl _)⟩
  intro Hb sb;refine hc1 _ _ ?_;clear hc1 c1;have eb:=sb _ _ ea;have sab:=sa.trans sb;have g0:((mP ws z).map ay)[0]?=some (ay z.1):=by unfold mP;split<;>rfl
  have g1:((mP ws z).map ay)[1]?=some (ay z.2):=by unfold mP;split<;>rfl
  have gl:2<=((mP ws z).map ay).length:=by unfold mP;split<;>simp only[map_cons,map_nil,length_cons,length_nil]<;>omega
  refine aT λc1 hc1=>?_;nofun;refine bq (v:=ay z.1) (aZ.of eb) (by omega) g0 ⟨L,lo,z.1,rfl,dY,zm,zl,u1,λHc sc=>?_⟩;refine⟨_,rfl,?_⟩;rw[if_pos rfl];have ec:=sc _ _ eb;refine bq (v:=ay z.2) (aZ.of ec) (by omega) g1 ⟨z.2,rfl,by omega,λHd b sd hb=>?_⟩;have hb1:b=true:=hb.mpr zt;subst hb1;refine⟨_,rfl,hc1 _ _ ?_⟩;clear hc1 c1;have ed:=sd _ _ ec;have sad:=(sab.trans sc).trans sd;refine aO λc1 hc1=>?_;nofun;refine bq (v:=ay z.1) (aZ.of ed) (by omega) g0 (hc1 _ _ ?_);clear hc1 c1;simp? [set_cons_zero,set_cons_succ]
  have ld:=sad _ _ l';refine⟨.inl ⟨rfl,_,aZ.of ld⟩,fQ ld (by rw[length_map];omega) ⟨as++[o],_,_,_,(k'.trans (sad.keeps _)).upd (.inl mem_cons_self),by rw[aq,map_append];rfl,by rw[length_append,hl'];rfl,?_,λa ha=>?_,upO,rfl⟩⟩
  .rw[etk,map_append];refine Ju.up ((wd'.same sad).add ed) λa ha=>?_
   rcases mem_append.mp ha with h|h
   .exact na' a h
   .rw[mem_singleton.mp h];exact no
  .rcases mem_append.mp ha with h|h
   .exact na' a h
   .rw[mem_singleton.mp h];exact no
 rintro Z H2 ⟨as,lo,v5,v6,k2,l2,hl2,wd2,-,-,rfl⟩;refine hc _ _ ?_;clear hc c;have s2:=cj s1 k2 j4;rw[show (((ts.length:Nat):Int)-i0).toNat=zs.length by omega,take_length] at wd2
 nofun;exact q _ p3 as s2 hp3 l2 wd2
theorem bu.up{o:HO}(hp:H p=some (.lst ys)):∀{as:WR Addr} {R:WR (WR bB)},bu H as R->(∀a∈as,a≠p)->bu (upd H p o) as R
 |[],[],_,_=>trivial
 |[],_::_,h,_=>h.elim
 |_::_,[],h,_=>h.elim
 |a::as,r::R,⟨⟨xs,e,q⟩,t⟩,n=>⟨⟨xs,by rw[aH (n a mem_cons_self)];exact e,q.keep λu zs hu=>by rw[aH (λz=>by subst z;rw[hp] at hu;cases hu)];exact hu⟩,bu.up hp t λb hb=>n b (mem_cons_of_mem _ hb)⟩
def kW(R:WR (WR bB))(i:Nat):Nat:=((R.take i).flatMap gA).length+1
theorem IT{R:WR (WR bB)}{r:WR bB}(h:R[i]?=some r):kW R (i+1)=kW R i+1+r.length:=by
 unfold kW;rw[show R.take (i+1)=R.take i++[r] by rw[take_add_one,h];rfl,List.flatMap_append,length_append,List.flatMap_cons,List.flatMap_nil,append_nil,gA,length_cons,length_map]
 omega
theorem Pz{R:WR (WR bB)}{r:WR bB}(h:R[i]?=some r)(x:WM)(tl:WN){k:Nat}(hk:k<(gA r).length):(x::(R.flatMap gA++tl))[kW R i+k]?=(gA r)[k]?:=by
 have e:R=R.take i++r::R.drop (i+1):=by rw[<-kN h,take_append_drop]
 have e2:R.flatMap gA=(R.take i).flatMap gA++(gA r++(R.drop (i+1)).flatMap gA):=by
  conv=>lhs;rw[e]
  rw[List.flatMap_append,List.flatMap_cons]
 unfold kW;rw[show ((R.take i).flatMap gA).length+1+k=((R.take i).flatMap gA).length+k+1 by omega,getElem?_cons_succ,e2,append_assoc,getElem?_append_right (by omega),append_assoc,getElem?_append_left (by omega)]
 congr 1
 omega
theorem T7(R:WR (WR bB))(x:WM)(tl:WN)(k:Nat):(x::(R.flatMap gA++tl))[kW R R.length+k]?=tl[k]?:=by
 unfold kW;rw[take_length,show (R.flatMap gA).length+1+k=(R.flatMap gA).length+k+1 by omega,getElem?_cons_succ,getElem?_append_right (by omega)]
 congr 1
 omega
structure Rf(H:Hp)(p1 p2 p3:Addr)(bs:WR Addr):Prop where
 f1:H p1=none
 f2:H p2=none
 f3:H p3=none
 fb:∀b∈bs,H b=none
 b1:∀b∈bs,b≠p1
 b2:∀b∈bs,b≠p2
 b3:∀b∈bs,b≠p3
 n12:p1≠p2
 n13:p1≠p3
 n23:p2≠p3
def kX(K:W.Frag):Sp:=λvs H Q _=>∃(p:Addr) (L h:Nat) (R:WR (WR bB)) (zs:WO) (ws:WN),vs=[.ref p]/\H p=some (.lst ((rA L h R zs ws).map ay))/\StateT L h R zs ws/\∀H' o p1 p2 p3 bs xs,aI H H'->H o=none->Rf H p1 p2 p3 bs->j7 H' o p1 p2 p3 bs xs L h R zs ws->Q (.ref o) H'
def kY(K:W.Frag):TS:=
  aJ (aY (aF (nE K) [] E0 (ah (ai 0) az)) (aG 1))
   (aJ (aY (mU az) (aG 2))
   (aJ (aY (tC (.int 1)) (aG 3))
   (aJ (iy (jW (ah (aS (bY K) (ai 1) (tC (.int 2))) az)) (aG 4) (aJ (aY (aF (nI K) [] E0 (ah (ai 0) (ah (ai 3) az))) (aG 5))
   (aJ (bR (xD K "list" fq (ai 2) (ah (aF (nK K) [] E0 (ah (aS (bY K) (ai 1) (tC (.int 0))) (ah (ai 0) (ah (aS bS (ai 3) (tC (.int 1))) (ah (ai 5) az))))) az)))
   (aY (aS bS (aS bS (ai 3) (tC (.int 1))) (ai 5)) (aG 3)))))
   (aJ (aY (aF (jK K) [] E0 (ah (aS (bY K) (ai 1) (tC (.int 0))) (ah (ai 0) (ah (ai 3) az)))) (aG 6))
   (aJ (cX 7 (bV K (ai 6)) [] gO (iZ (ah (aS (bY K) (ai 0) (tC (.int 0))) (ah (aS (bY K) (ai 0) (tC (.int 1))) az))))
   (aJ (cX 8 (bV K (ai 6)) [] (bD (aS tV (dj (b5 K) (ah (ai 0) az)) (tC (.int 3)))) (aS (bY K) (ai 0) (tC (.int 0))))
   (bA (iZ (ah (aS (bY K) (ai 1) (tC (.int 0))) (ah (aS (bY K) (ai 1) (tC (.int 1))) (ah (ai 2) (ah (ai 7) (ah (ai 8) az)))))))))))))
def T8(p o1 p2:Addr)(H0 H:Hp)(R:WR (WR bB)):Nat->St->Hp->Prop:=λi Z H'=>∃(bs:WR Addr) (v4 v5:Option V),Keeps [p2] H H'/\H' p2=some (.lst (bs.map V.ref))/\bu H' bs (R.take i)/\(∀a∈bs,a≠p2/\H0 a=none)/\Z=[some (.ref p),some (.ref o1),some (.ref p2),some (.int (kW R i:Nat)),v4,v5,none,none,none]
theorem wz(hN:N.length=9)(h:kX K vs H Q E):kY K {nx:=λ_ H'=>Q .non H',rt:=Q} (L2.start N vs) H:=by
 obtain⟨p,L,h,R,zs,ws,rfl,hp,T,q⟩:=h;have few:=T.few;have WK:=T.things.few;have l26:=T.l26;have hrl:=lZ (R:=R) T.rows;unfold kY L2.start;rw[hN];refine aO λc hc=>?_;nofun;refine⟨p,rA L h R zs ws,L,h,R.length,rfl,aZ.of hp,rfl,T.l2,T.l26,T.h1,T.hL,T.few,λH1 o1 s1 f1 e1=>hc _ _ ?_⟩;clear hc c;and_intros;refine aO λc hc=>?_;nofun;refine⟨by decide,λp2 hp2=>hc _ _ ?_⟩;clear hc c;have f2:=s1.bO hp2;have s2:=aI.up H1 hp2 (o:=.lst []);have e2:(upd H1 p2 (.lst [])) p2=some (.lst []):=aq;generalize upd H1 p2 _=H2 at s2 e2 ⊢;have s12:=s1.trans s2;have j4:∀b∈[p2],H1 b=none:=λb hb=>by rw[mem_singleton.mp hb];exact hp2
 refine aO λc hc=>?_;nofun;refine hc _ _ ?_;clear hc c;simp only[set_cons_zero,set_cons_succ];refine aT λc hc=>?_;have o1p:o1≠p2:=λz=>by rw[z,hp2] at e1;cases e1
 refine qw (j:=(R.length:Nat)) (λQ h=>by nofun;exact bq (v:=.int R.length) (aZ.of (s2 _ _ e1)) (by decide) rfl h) (by omega) (by omega) (T8 p o1 p2 H H2 R) ⟨[],none,none,λb o e _=>e,e2,trivial,λa ha=>(nomatch ha),rfl⟩ ?_ ?_
 .rintro i Z H' hi ⟨bs,v4,v5,k',l',rc',na',rfl⟩;have hil:i<R.length:=by omega
  obtain⟨r,hr⟩:∃r,R[i]?=some r:=⟨R[i],getElem?_eq_getElem hil⟩;have sH:=cj s2 k' j4;have hrm:=mem_of_getElem? hr;have rT:=T.rows r hrm;have etk:R.take (i+1)=R.take i++[r]:=by rw[take_add_one,hr];rfl
  have epos:=IT hr;have hpos:kW R i<=4000:=by
   have:=lZ (R:=R.take i) λr hr=>T.rows r (List.mem_of_mem_take hr);rw[length_take] at this;unfold kW;omega
  have hbl:=rc'.len;rw[length_take] at hbl;refine aO λc1 hc1=>?_;nofun;refine⟨p,rA L h R zs ws,kW R i,r.length,rfl,aZ.of (sH _ _ (s1 _ _ hp)),?_,rT.few,λHa sa=>hc1 _ _ ?_⟩
  .have:=Pz hr (sG L h R.length) (zs.map (CG ws)) (k:=0) (by rw[gA];exact Nat.succ_pos _);rw[add_zero] at this;exact this
  clear hc1 c1;have sa1:=sH.trans sa;simp only[set_cons_zero,set_cons_succ];refine aT λc1 hc1=>?_;nofun;refine⟨.inl ⟨rfl,_,aZ.of (sa _ _ l')⟩,bq (v:=.int L) (aZ.of (sa1 _ _ e1)) (by decide) rfl ⟨L,p,rA L h R zs ws,kW R i+1,r,rfl,l26,sa1 _ _ (s1 _ _ hp),rT,by omega,λj y hy=>?_,λHb o xs sb ho eo po=>?_⟩⟩
  .have hj:=(List.getElem?_eq_some_iff.mp hy).1;have:=Pz hr (sG L h R.length) (zs.map (CG ws)) (k:=j+1) (by rw[gA,length_cons,length_map];omega);rw[show kW R i+1+j=kW R i+(j+1) by omega]
   refine this.trans ?_;rw[gA,getElem?_cons_succ,getElem?_map,hy];rfl
  have lb:=sb _ _ (sa _ _ l');have no:o≠p2:=λz=>by rw[z,sa _ _ l'] at ho;cases ho
  refine fQ lb (by rw[length_map];omega) (hc1 _ _ ?_);clear hc1 c1;nofun;refine⟨bs++[o],some (.int (i:Nat)),some (.int (r.length:Nat)),(k'.trans ((sa.trans sb).keeps _)).upd (.inl mem_cons_self),by rw[aq,map_append];rfl,?_,?_,?_⟩
  .rw[etk];refine bu.up lb ((rc'.same (sa.trans sb)).app ⟨⟨xs,eo,po⟩,trivial⟩) λa ha=>?_
   rcases mem_append.mp ha with h|h
   .exact(na' a h).1
   .rw[mem_singleton.mp h];exact no
  .intro a ha
   rcases mem_append.mp ha with h|h
   .exact na' a h
   .rw[mem_singleton.mp h];exact⟨no,(s1.trans sa1).bO ho⟩
  .rw[epos];rfl
 rintro Z H3 ⟨bs,v4,v5,k3,l3,rc3,na3,rfl⟩;refine hc _ _ ?_;clear hc c;rw[show ((R.length:Nat):Int).toNat=R.length from rfl] at rc3 ⊢;rw[take_length] at rc3;have s3:=cj s2 k3 j4;have s13:=s1.trans s3;refine aO λc hc=>?_;nofun;refine bq (v:=.int L) (aZ.of (s3 _ _ e1)) (by decide) rfl ⟨L,p,rA L h R zs ws,kW R R.length,zs,ws,rfl,l26,s13 _ _ hp,T.things,by unfold kW;rw[take_length];omega,by
  unfold kW rA;rw[take_length,length_cons,length_append,length_map];omega,λj z hz=>by
  refine(T7 R _ _ j).trans ?_;rw[getElem?_map,hz];rfl,λH4 o6 as s4 f6 e6 wd=>hc _ _ ?_⟩
 clear hc c;simp only[set_cons_zero,set_cons_succ];have s14:=s13.trans s4;have asl:as.length=zs.length:=by rw[wd.1,length_map]
 refine je λc hc=>?_;refine kE (a:=o6) (xs:=as.map V.ref) (λQ h=>⟨_,rfl,h⟩) (aZ.of e6) (λi ys H'=>aI H4 H'/\ys.length=i/\dH H' ys ((zs.take i).map AN)) ⟨aI.refl _,rfl,trivial⟩ (λi ys H' _ p=>⟨aZ.of (p.1 _ _ e6),by rw[p.2.1];exact le_refl _⟩) (by rw[length_map,sizeLine_eq];omega) ?_ ?_
 .rintro i v ys H' hv ⟨s',yl,pr⟩ W hW;rw[getElem?_map] at hv;obtain⟨a,ha,rfl⟩:=map_eq_some_iff.mp hv;have hia:i<zs.length:=by rw[<-asl];exact(List.getElem?_eq_some_iff.mp ha).1
  obtain⟨z,hz⟩:∃z,zs[i]?=some z:=⟨zs[i],getElem?_eq_getElem hia⟩;obtain⟨a',ha',ea⟩:=wd.2 i (mP ws z) (by rw[getElem?_map,hz];rfl);rw[ha] at ha';cases ha';have ea':=s' _ _ ea;have g0:((mP ws z).map ay)[0]?=some (ay z.1):=by unfold mP;split<;>rfl
  have g1:((mP ws z).map ay)[1]?=some (ay z.2):=by unfold mP;split<;>rfl
  have gl:2<=((mP ws z).map ay).length:=by unfold mP;split<;>simp only[map_cons,map_nil,length_cons,length_nil]<;>omega
  nofun;refine bq (v:=ay z.1) (aZ.of ea') (by omega) g0 (bq (v:=ay z.2) (aZ.of ea') (by omega) g1 ⟨by decide,λt ht=>hW _ _ ⟨s'.new ht,by rw[length_append,yl];rfl,?_⟩⟩);rw[show zs.take (i+1)=zs.take i++[z] by rw[take_add_one,hz];rfl,map_append]
  refine(pr.same (aI.up H' ht)).app ⟨⟨t,rfl,?_⟩,trivial⟩;rw[aq];rfl
 rintro ys H5 ⟨s5,yl,pr5⟩ o7 ho7;rw[length_map,asl,take_length] at pr5;refine hc _ _ ?_;clear hc c;have s6:=s5.new ho7 (o:=.lst ys);have e7:(upd H5 o7 (.lst ys)) o7=some (.lst ys):=aq;have pr6:=pr5.same (aI.up H5 ho7 (o:=.lst ys));generalize upd H5 o7 _=H6 at s6 e7 pr6 ⊢;simp only[set_cons_zero,set_cons_succ];refine je λc hc=>?_;refine kE (a:=o6) (xs:=as.map V.ref) (λQ h=>⟨_,rfl,h⟩) (aZ.of (s6 _ _ e6)) (λi ys H'=>H'=H6/\ys=(((zs.take i).map (·.1)).filter λm=>decide (m∈ws)).map ay) ⟨rfl,rfl⟩ (λi ys H' _ p=>⟨by rw[p.1];exact aZ.of (s6 _ _ e6),by
  rw[p.2,length_map];refine Nat.le_trans (length_filter_le _ _) ?_;rw[length_map,length_take];exact min_le_left _ _⟩) (by rw[length_map,sizeLine_eq];omega) ?_ ?_
 .rintro i v ys2 H' hv ⟨rfl,rfl⟩ W hW;rw[getElem?_map] at hv;obtain⟨a,ha,rfl⟩:=map_eq_some_iff.mp hv;have hia:i<zs.length:=by rw[<-asl];exact(List.getElem?_eq_some_iff.mp ha).1
  obtain⟨z,hz⟩:∃z,zs[i]?=some z:=⟨zs[i],getElem?_eq_getElem hia⟩;obtain⟨a',ha',ea⟩:=wd.2 i (mP ws z) (by rw[getElem?_map,hz];rfl);rw[ha] at ha';cases ha';have ea':=s6 _ _ ea;have etk:zs.take (i+1)=zs.take i++[z]:=by rw[take_add_one,hz];rfl
  have hW:=λys' e=>hW ys' H' ⟨rfl,e⟩;rw[etk,map_append,filter_append] at hW;nofun;refine bG (aZ.of ea') ⟨rfl,?_⟩
  by_cases hw:z.1∈ws
  .have ew:mP ws z=[z.1,z.2,Ab]:=by unfold mP;rw[if_pos hw]
   rw[ew] at ea' ⊢;rw[if_pos (show V.int ((([z.1,z.2,Ab].map ay).length:Nat):Int)=V.int 3 from rfl)];refine bq (v:=ay z.1) (aZ.of ea') (show (0:Int)<=0 by decide) rfl (hW _ ?_);simp[hw]
  .have ew:mP ws z=[z.1,z.2]:=by unfold mP;rw[if_neg hw]
   rw[ew] at ea' ⊢;rw[if_neg (show ¬V.int ((([z.1,z.2].map ay).length:Nat):Int)=V.int 3 from λx=>by injection x with x;exact absurd x (show ¬((2:Nat):Int)=3 by decide))]
   refine hW _ ?_;simp[hw]
 rintro ys2 H7 ⟨rfl,rfl⟩ o8 ho8;rw[length_map,asl,take_length,<-T.things.tak];refine hc _ _ ?_;clear hc c;have s7:=aI.up H7 ho8 (o:=.lst (ws.map ay));have e8:(upd H7 o8 (.lst (ws.map ay))) o8=some (.lst (ws.map ay)):=aq;generalize upd H7 o8 _=H8 at s7 e8 ⊢;have V3:=s6.trans s7;have s38:=s4.trans V3;have s18:=s3.trans s38;simp? [set_cons_zero,set_cons_succ]
 refine bq (v:=.int L) (aZ.of (s18 _ _ e1)) (by decide) rfl (bq (v:=.int h) (aZ.of (s18 _ _ e1)) (by decide) rfl ⟨by decide,λo ho=>?_⟩);have sF:=(s1.trans s18);have sU:=aI.up H8 ho (o:=.tup [.int L,.int h,.ref p2,.ref o7,.ref o8]);have live:∀b∈bs,∃u,H3 b=some u:=λb hb=>by
  obtain⟨i,hi⟩:=List.mem_iff_getElem?.mp hb;obtain⟨r,xs,_,e,_⟩:=rc3.get hi;exact⟨_,e⟩
 have s35:=s4.trans s5;have s37:=s4.trans s6;have dead:∀{X Y:Hp} {a b:Addr} {u:HO},aI X Y->X a=some u->Y b=none->a≠b:=λs e f z=>by rw[<-z,s _ _ e] at f;cases f
 exact q _ o p2 o7 o8 bs ys (sF.trans sU) (sF.bO ho) ⟨f2,((s13.trans s35).bO ho7),((s13.trans s37).bO ho8),λb hb=>(na3 b hb).2,λb hb=>(na3 b hb).1,λb hb=>by
  obtain⟨u,e⟩:=live b hb;exact dead s35 e ho7,λb hb=>by
  obtain⟨u,e⟩:=live b hb;exact dead s37 e ho8,dead s35 l3 ho7,dead s37 l3 ho8,dead (aI.refl _) e7 ho8⟩ ⟨aq,sU _ _ (s38 _ _ l3),(rc3.same s38).same sU,sU _ _ (s7 _ _ e7),(pr6.same s7).same sU,sU _ _ e8⟩
theorem FN{tl:TE}{g:TG}{D:Ends}(h:tl Z H λx H1=>iy (bV K (tC x)) g tb D Z H1):iy (bV K tl) g tb D Z H:=h
theorem OP{k:Nat}(hk:k<64)(q:Q (.str (txt (num k))) H):J1 [.int (k:Int)] H Q:=by
 refine⟨(k:Int),rfl,?_,?_⟩
 .rw[Int.natAbs_natCast];exact Nat.lt_of_le_of_lt (Nat.log2_le_self k) (by omega)
 .rw[<-z5];exact q
def bP(L:Nat):WR (WR bB)->WM->WQ->Prop
 |[],m,v=>v=some m
 |r::R,m,v=>(∃x,yz L r m (some x)/\bP L R x v)\/(yz L r m none/\v=none)
theorem bP.one(hL:2<=L):∀{R:WR (WR bB)} {m:WM} {v v':WQ},(∀r∈R,bw L r)->bP L R m v->bP L R m v'->v=v'
 |[],_,_,_,_,a,b=>a.trans b.symm
 |r::R,m,v,v',O,a,b=>by
  have O1:=O r mem_cons_self
  rcases a with⟨x,a1,a2⟩|⟨a1,rfl⟩<;>rcases b with⟨y,b1,b2⟩|⟨b1,rfl⟩
  .have e:=yz.one O1 hL a1 b1;injection e with e
   subst e;exact bP.one hL (λr h=>O r (mem_cons_of_mem _ h)) a2 b2
  .cases yz.one O1 hL a1 b1
  .cases yz.one O1 hL a1 b1
  .rfl
theorem bP.snoc:∀{R:WR (WR bB)} {r:WR bB} {m x:WM} {v:WQ},bP L R m (some x)->yz L r x v->bP L (R++[r]) m v
 |[],r,m,x,v,a,b=>by
  have e:some x=some m:=a;injection e with e
  subst e;cases v with
  |none=>exact .inr ⟨b,rfl⟩
  |some y=>exact .inl ⟨y,b,rfl⟩
 |q::R,r,m,x,v,a,b=>by
  rcases a with⟨y,a1,a2⟩|⟨a1,a2⟩
  .exact .inl ⟨y,a1,a2.snoc b⟩
  .cases a2
theorem bP.gone:∀{R S:WR (WR bB)} {m:WM},bP L R m none->bP L (R++S) m none
 |[],_,_,a=>by cases a
 |q::R,S,m,a=>by
  rcases a with⟨y,a1,a2⟩|⟨a1,_⟩
  .exact .inl ⟨y,a1,a2.gone⟩
  .exact .inr ⟨a1,rfl⟩
theorem bP.len(hL:2<=L):∀{R:WR (WR bB)} {m x:WM},(∀r∈R,bw L r)->Mark L m->bP L R m (some x)->Mark L x/\x.length<=501*R.length+m.length
 |[],m,x,_,M,a=>by
  have e:some x=some m:=a;injection e with e
  subst e;exact⟨M,by omega⟩
 |r::R,m,x,O,M,a=>by
  rcases a with⟨z,a1,a2⟩|⟨a1,a2⟩
  .obtain⟨M1,l1⟩:=yz.len (O r mem_cons_self) hL M a1;obtain⟨M2,l2⟩:=bP.len hL (λr h=>O r (mem_cons_of_mem _ h)) M1 a2;exact⟨M2,by rw[length_cons];omega⟩
  .cases a2
structure j5(S zs:WO):Prop where
 up:(zs.map (·.1)).Pairwise (·<·)
 mem:∀z∈zs,z∈S
 all:∀q∈S,∃z∈zs,z.1=q.1/\¬q.2<z.2
theorem up_eq(h:(zs.map (·.1)).Pairwise (·<·))(h':(zs'.map (·.1)).Pairwise (·<·))(e:∀z,z∈zs↔z∈zs'):zs=zs':=by
 have nd:∀{l:WO},(l.map (·.1)).Pairwise (·<·)->l.Nodup:=λh=>(pairwise_map.mp h).imp λg z=>by subst z;exact List.lt_irrefl _ g
 exact((List.perm_ext_iff_of_nodup (nd h) (nd h')).mpr e).eq_of_pairwise (le:=λa b=>a.1<b.1) (λa b _ _ h g=>absurd (List.lt_trans h g) (List.lt_irrefl a.1)) (pairwise_map.mp h) (pairwise_map.mp h')
theorem Rg(h:(zs.map (·.1)).Pairwise (·<·)){a b:WM×WM}(ha:a∈zs)(hb:b∈zs)(e:a.1=b.1):a=b:=by
 obtain⟨i,hi,rfl⟩:=mem_iff_getElem.mp ha;obtain⟨j,hj,rfl⟩:=mem_iff_getElem.mp hb;have k:=pairwise_iff_getElem.mp (pairwise_map.mp h)
 rcases lt_trichotomy i j with z|z|z
 .have:=k i j hi hj z;rw[e] at this;exact absurd this (List.lt_irrefl _)
 .subst z;rfl
 .have:=k j i hj hi z;rw[e] at this;exact absurd this (List.lt_irrefl _)
theorem j5.sub{S':WO}(A:j5 S zs)(B:j5 S' zs')(e:∀q,q∈S↔q∈S'):∀z∈zs,z∈zs':=λz hz=>by
 obtain⟨z1,h1,e1,n1⟩:=B.all z ((e z).mp (A.mem z hz));obtain⟨z2,h2,e2,n2⟩:=A.all z1 ((e z1).mpr (B.mem z1 h1));have:z2=z:=Rg A.up h2 hz (e2.trans e1);subst this;have et:z1.2=z2.2:=by
  rcases Cj z1.2 z2.2 with x|x|x
  .exact absurd x n2
  .exact x
  .exact absurd x n1
 have:z1=z2:=Prod.ext e1 et;rw[<-this];exact h1
theorem j5.one{S':WO}(A:j5 S zs)(B:j5 S' zs')(e:∀q,q∈S↔q∈S'):zs=zs':=
 up_eq A.up B.up λz=>⟨A.sub B e z,B.sub A (λq=>(e q).symm) z⟩
theorem Lz(h:ws.Pairwise (·<·))(h':ws'.Pairwise (·<·))(e:∀m,m∈ws↔m∈ws'):ws=ws':=
 jF ((List.perm_ext_iff_of_nodup (cO h) (cO h')).mpr e) h h'
def wA(K:W.Frag):Sp:=λvs H Q _=>∃(L:Nat) (p d:Addr) (cs:WR Addr) (R:WR (WR bB)) (m:WM) (kvs:WR (WR Key×V)),vs=[.int L,.ref p,.str (txt m),.ref d]/\2<=L/\L<=26/\H p=some (.lst (cs.map V.ref))/\bu H cs R/\(∀r∈R,bw L r)/\R.length<=100/\Mark L m/\m.length<=30000/\
 H d=some (.dT kvs)/\fS L kvs/\kvs.length<=90000/\
 ∀H' v kvs',Keeps [d] H H'->H' d=some (.dT kvs')->fS L kvs'->kvs'.length<=kvs.length+R.length->bP L R m v->Q (oV v) H'
def wB(K:W.Frag):TS:=
  aJ (aY (ai 2) (aG 4))
   (aJ (iy (bV K (ai 1)) (aG 5) (aJ (cW (tB (uI (ai 4))) (bA (tC .non)) (b8))
   (aY (aF (D3 K) [] E0 (ah (ai 0) (ah (ai 5) (ah (ai 4) (ah (ai 3) az))))) (aG 4))))
   (bA (ai 4)))
theorem bu.sI(k:Keeps F H H'):∀{as:WR Addr} {R:WR (WR bB)},bu H as R->(∀f∈F,(∀xs,H f≠some (.lst xs))/\∀xs,H f≠some (.tup xs))->bu H' as R
 |[],[],_,_=>trivial
 |[],_::_,h,_=>h.elim
 |_::_,[],h,_=>h.elim
 |_::_,_::_,⟨⟨xs,e,p⟩,r⟩,n=>⟨⟨xs,k _ _ e λz=>(n _ z).1 _ e,p.keep λt ys et=>k _ _ et λz=>(n _ z).2 _ et⟩,bu.sI k r n⟩
def T9(p d:Addr)(H:Hp)(L:Nat)(m:WM)(R:WR (WR bB))(kvs:WR (WR Key×V)):Nat->St->Hp->Prop:=λi Z H'=>∃(v:WQ) (kvs':WR (WR Key×V)) (v5:Option V),Keeps [d] H H'/\H' d=some (.dT kvs')/\fS L kvs'/\kvs'.length<=kvs.length+i/\bP L (R.take i) m v/\Z=[some (.int L),some (.ref p),some (.str (txt m)),some (.ref d),some (oV v),v5]
theorem Co(hN:N.length=6)(h:wA K vs H Q E):wB K {nx:=λ_ H'=>Q .non H',rt:=Q} (L2.start N vs) H:=by
 obtain⟨L,p,d,cs,R,m,kvs,rfl,hL,dY,hp,hR,O,few,M,hm,hd,hst,hkv,q⟩:=h;have cl:=hR.len;unfold wB L2.start;rw[hN];refine aO λc hc=>?_;nofun;refine hc _ _ ?_;clear hc c;refine aT λc hc=>?_;simp? [set_cons_zero,set_cons_succ,replicate_succ,replicate_zero,map_cons,map_nil,cons_append,nil_append]
 have nd:p≠d:=λz=>by subst z;rw[hp] at hd;cases hd
 have nf:∀f∈[d],(∀xs,H f≠some (.lst xs))/\∀xs,H f≠some (.tup xs):=λf hf=>by
  rw[mem_singleton.mp hf,hd];exact⟨λ_ z=>(nomatch z),λ_ z=>(nomatch z)⟩
 refine uY (a:=p) (xs:=cs.map V.ref) (λQ h=>⟨_,rfl,h⟩) (aZ.of hp) (T9 p d H L m R kvs)
  ⟨some m,kvs,none,λ_ _ e _=>e,hd,hst,le_refl _,rfl,rfl⟩ (λi Z H' _ h=>?_) ?_ ?_
 .obtain⟨_,_,_,k,_⟩:=h;exact aZ.of (k _ _ hp (by simpa using nd))
 .rintro i x Z H' hx ⟨v,kvs',v5,k,hd',st',kl,car,rfl⟩;rw[getElem?_map] at hx;obtain⟨b,hb,rfl⟩:=map_eq_some_iff.mp hx;have hR':=hR.sI k nf;obtain⟨r,xs,er,hx,px⟩:=hR'.get hb;have hi:i<R.length:=(List.getElem?_eq_some_iff.mp er).1;have etk:R.take (i+1)=R.take i++[r]:=by rw[take_add_one,er];rfl
  cases v with
  |none=>
   simp? [oV]
   refine q H' none kvs' k hd' st' (by omega) ?_;rw[<-take_append_drop i R];exact car.gone
  |some y=>
   have Oi:∀r∈R.take i,bw L r:=λr h=>O r (List.take_subset _ _ h);obtain⟨My,ly⟩:=car.len hL Oi M;rw[length_take] at ly;refine aT λc1 hc1=>?_;simp? [oV]
   refine hc1 _ _ ?_;nofun;refine⟨L,b,d,r,y,kvs',rfl,hL,dY,⟨xs,aZ.of hx,px⟩,O r (mem_of_getElem? er),My,by omega,hd',st',by omega,λH2 v2 V4 k2 hd2 st2 kl2 c2=>?_⟩
   exact⟨v2,V4,_,Keeps.trans k k2,hd2,st2,by omega,by rw[etk];exact car.snoc c2,rfl⟩
 .rintro Z H' ⟨v,kvs',v5,k,hd',st',kl,car,rfl⟩;refine hc _ _ ?_;rw[length_map,cl] at kl car;rw[take_length] at car;nofun;exact q H' v kvs' k hd' st' kl car
theorem bu.take:∀{as:WR Addr} {R:WR (WR bB)} (n:Nat),bu H as R->bu H (as.take n) (R.take n)
 |[],[],n,_=>by simp[bu]
 |[],_::_,_,h=>h.elim
 |_::_,[],_,h=>h.elim
 |_::_,_::_,0,_=>trivial
 |_::_,_::_,n+1,⟨a,r⟩=>⟨a,bu.take n r⟩
theorem bu.drop:∀{as:WR Addr} {R:WR (WR bB)} (n:Nat),bu H as R->bu H (as.drop n) (R.drop n)
 |[],[],n,_=>by simp[bu]
 |[],_::_,_,h=>h.elim
 |_::_,[],_,h=>h.elim
 |_::_,_::_,0,h=>h
 |_::_,_::_,n+1,⟨_,r⟩=>bu.drop n r
theorem bw.str(hL:L<=26){R:WR (WR bB)}(O:∀r∈R,bw L r):∀r∈R,∀y∈r,PyData.strOk (txt y.1)=true/\∀z,y.2=some z->PyData.strOk (txt z)=true:=λr hr y hy=>
 ⟨jC hL ((O r hr).olds y hy).1.ls,λz hz=>jC hL ((O r hr).marks y hy z hz).1.ls⟩
def Eh(K:W.Frag):Sp:=λvs H Q _=>∃(p q p1 p2 p3 q1 q2 q3:Addr) (bs cs:WR Addr) (ts us:WR V) (L h n:Nat) (R:WR (WR bB)) (zs zs':WO) (ws ws':WN),vs=[.ref p,.ref q]/\j7 H p p1 p2 p3 bs ts L h (R.take n) zs ws/\j7 H q q1 q2 q3 cs us L h R zs' ws'/\n<=R.length/\R.length<=100/\L<=26/\(∀r∈R,bw L r)/\∀H',aI H H'->Q .non H'
def Ei(K:W.Frag):TS:=
  aJ (aY (Nm (CV K) (aS (dF K) (ai 1) (tC (.int 2))) fV (mH (dj (b5 K) (ah (aS (dF K) (ai 0) (tC (.int 2))) az)))) (aG 2))
   (cW (AM (bD (aS Sy (aS (dF K) (ai 0) (tC (.int 0))) (aS (dF K) (ai 1) (tC (.int 0))))) (AM (bD (aS Sy (aS (dF K) (ai 0) (tC (.int 1))) (aS (dF K) (ai 1) (tC (.int 1))))) (bD (aS (Oc K) (aS (dF K) (ai 0) (tC (.int 2))) (ai 2))))) (qj) (b8))
theorem kZ{R:WR (WR bB)}(ok:∀r∈R,∀y∈r,PyData.strOk (txt y.1)=true/\∀z,y.2=some z->PyData.strOk (txt z)=true):SeqAt.shaped (.list (pL R))=true:=by
 obtain⟨a,b⟩:=wk ok;unfold SeqAt.shaped;rw[and_eq_true];refine⟨by simp[PyData.canLay0,a],?_⟩;rw[decide_eq_true_eq];simp only[PyData.depth];omega
theorem IU(hN:N.length=3)(h:Eh K vs H Q E):Ei K {nx:=λ_ H'=>Q .non H',rt:=Q} (L2.start N vs) H:=by
 obtain⟨p,q,p1,p2,p3,q1,q2,q3,bs,cs,ts,us,L,h,n,R,zs,zs',ws,ws',rfl,A,B,hn,few,dY,O,k⟩:=h;have bl:=A.row.len;have cl:=B.row.len;rw[length_take,min_eq_left hn] at bl;unfold Ei L2.start;rw[hN];refine aO λc hc=>?_;nofun;refine bH (v:=.ref q1) (ff.of B.top) (by decide) rfl (bH (v:=.ref p1) (ff.of A.top) (by decide) rfl (bG (aZ.of A.ren) ?_));rw[length_map,bl];refine⟨_,rfl,vZ (aZ.of B.ren) λs hs=>hc _ _ ?_⟩;clear hc c;rw[FH (by rw[length_map];omega),<-List.map_take];have s1:=aI.up H hs (o:=.lst ((cs.take n).map V.ref));have e1:(upd H s (.lst ((cs.take n).map V.ref))) s=some (.lst ((cs.take n).map V.ref)):=aq;generalize upd H s _=H1 at s1 e1 ⊢;have A1:=A.same s1;have B1:=B.same s1;have ok:=bw.str dY (R:=R.take n) λr hr=>O r (List.take_subset _ _ hr);simp? [set_cons_zero,set_cons_succ,replicate_succ,replicate_zero,map_cons,map_nil,cons_append,nil_append]
 refine bH (v:=.int L) (ff.of A1.top) (by decide) rfl (bH (v:=.int L) (ff.of B1.top) (by decide) rfl ⟨rfl,?_⟩);rw[if_neg (λz=>z rfl)];refine bH (v:=.int h) (ff.of A1.top) (by decide) rfl (bH (v:=.int h) (ff.of B1.top) (by decide) rfl ⟨rfl,?_⟩);rw[if_neg (λz=>z rfl)];refine bH (v:=.ref p1) (ff.of A1.top) (by decide) rfl ⟨_,_,.lst (aZ.of A1.ren) (A1.row.dat ok),.lst (aZ.of e1) ((B1.row.take n).dat ok),kZ ok,kZ ok,_,rfl,?_⟩;rw[SeqAt.eqv_refl _ (SeqAt.canLay_of_shaped (kZ ok))];rw[if_neg (by decide)];exact k H1 s1
structure jM(S kvs:WO):Prop where
 nd:(kvs.map (·.1)).Nodup
 mem:∀z∈kvs,z∈S
 all:∀q∈S,∃z∈kvs,z.1=q.1/\¬q.2<z.2
 len:kvs.length<=S.length
theorem Ej(h:(kvs.map (·.1)).Nodup){a b:WM×WM}(ha:a∈kvs)(hb:b∈kvs)(e:a.1=b.1):a=b:=by
 obtain⟨i,hi,rfl⟩:=mem_iff_getElem.mp ha;obtain⟨j,hj,rfl⟩:=mem_iff_getElem.mp hb;have k:=pairwise_iff_getElem.mp (pairwise_map.mp h)
 rcases lt_trichotomy i j with z|z|z
 .exact absurd e (k i j hi hj z)
 .subst z;rfl
 .exact absurd e.symm (k j i hj hi z)
def Ek(kvs:WO)(m t:WM):WO:=kvs.map λkv=>if kv.1=m then(kv.1,t) else kv
theorem IV(kvs:WO)(m t:WM):(Ek kvs m t).map (·.1)=kvs.map (·.1):=by
 unfold Ek;rw[map_map];refine List.map_congr_left λkv _=>?_;show (if kv.1=m then(kv.1,t) else kv).1=kv.1;split<;>rfl
theorem wC:∀{kvs:WO},m∈kvs.map (·.1)->∃t,(m,t)∈kvs/\cV (fH kvs) (Key.inr (txt m))=some (ay t)
 |[],h=>(nomatch h)
 |k::kvs,h=>by
  show ∃t,_/\cV ((Key.inr (txt k.1),ay k.2)::fH kvs) _=_
  by_cases e:k.1=m
  .exact⟨k.2,by rw[<-e];exact mem_cons_self,cN (by rw[e])⟩
  .have h2:m∈kvs.map (·.1):=by
    rcases mem_cons.mp h with z|z
    .exact absurd z.symm e
    .exact z
   obtain⟨t,a,b⟩:=wC h2;exact⟨t,mem_cons_of_mem _ a,by rw[cy (λz=>e (cJ.mp (by injection z)))];exact b⟩
theorem OQ(t:WM)(h:m∈kvs.map (·.1)):putK (fH kvs) (Key.inr (txt m)) (ay t)=fH (Ek kvs m t):=by
 obtain⟨t0,_,e⟩:=wC h;unfold putK;rw[i8,e];rw[if_pos (show (some (ay t0)).isSome=true from rfl)];unfold fH Ek;rw[map_map,map_map];refine List.map_congr_left λkv _=>?_;show (if Key.inr (txt kv.1)=Key.inr (txt m) then(Key.inr (txt kv.1),ay t) else(Key.inr (txt kv.1),ay kv.2))=_
 by_cases z:kv.1=m
 .rw[if_pos (by rw[z])];show _=(Key.inr (txt (if kv.1=m then(kv.1,t) else kv).1),ay (if kv.1=m then(kv.1,t) else kv).2);rw[if_pos z]
 .rw[if_neg (λy=>z (cJ.mp (by injection y)))];show _=(Key.inr (txt (if kv.1=m then(kv.1,t) else kv).1),ay (if kv.1=m then(kv.1,t) else kv).2);rw[if_neg z]
theorem jM.nil:jM [] []:=⟨nodup_nil,λ_ h=>(nomatch h),λ_ h=>(nomatch h),le_refl _⟩
theorem jM.put(A:jM S kvs)(m t:WM):
  ∃u kvs',(cV (fH kvs) (Key.inr (txt m))).getD (ay t)=ay u/\putK (fH kvs) (Key.inr (txt m)) (ay (if u<t then u else t))=fH kvs'/\jM (S++[(m,t)]) kvs':=by
 by_cases h:m∈kvs.map (·.1)
 .obtain⟨t0,hm,e⟩:=wC h;refine⟨t0,Ek kvs m (if t0<t then t0 else t),by rw[e];rfl,OQ _ h,?_⟩;generalize ew:(if t0<t then t0 else t)=w;have hw:(w=t0\/w=t)/\¬t<w/\∀q:WM,¬q<t0->¬q<w:=by
   by_cases z:t0<t
   .rw[if_pos z] at ew;subst ew;exact⟨.inl rfl,λy=>List.lt_irrefl _ (List.lt_trans z y),λq h=>h⟩
   .rw[if_neg z] at ew;subst ew;exact⟨.inr rfl,List.lt_irrefl _,λq h y=>h (vS y z)⟩
  refine⟨by rw[IV];exact A.nd,λz hz=>?_,λq hq=>?_,by unfold Ek;rw[length_map,length_append];have:=A.len;omega⟩
  .obtain⟨kv,hkv,rfl⟩:=mem_map.mp hz
   by_cases y:kv.1=m
   .rw[if_pos y,y]
    rcases hw.1 with x|x
    .rw[x];exact mem_append_left _ (A.mem _ hm)
    .rw[x];exact mem_append_right _ (by simp)
   .rw[if_neg y];exact mem_append_left _ (A.mem _ hkv)
  .have inm:(m,w)∈Ek kvs m w:=mem_map.mpr ⟨(m,t0),hm,by rw[if_pos rfl]⟩
   rcases mem_append.mp hq with hq|hq
   .obtain⟨z,hz,e1,n1⟩:=A.all q hq
    by_cases y:z.1=m
    .have:z=(m,t0):=Ej A.nd hz hm y;subst this;exact⟨_,inm,e1,hw.2.2 _ n1⟩
    .exact⟨z,mem_map.mpr ⟨z,hz,by rw[if_neg y]⟩,e1,n1⟩
   .rw[mem_singleton.mp hq];exact⟨_,inm,rfl,hw.2.1⟩
 .refine⟨t,kvs++[(m,t)],by rw[zX m kvs h];rfl,by rw[if_neg (List.lt_irrefl _)];exact ON t h,?_⟩;refine⟨?_,λz hz=>?_,λq hq=>?_,by rw[length_append,length_append];have:=A.len;simp;omega⟩
  .rw[map_append,nodup_append];exact⟨A.nd,by simp,λa ha b hb z=>by
    subst z;have:a=m:=by simpa using hb
    rw[this] at ha;exact h ha⟩
  .rcases mem_append.mp hz with hz|hz
   .exact mem_append_left _ (A.mem z hz)
   .exact mem_append_right _ hz
  .rcases mem_append.mp hq with hq|hq
   .obtain⟨z,hz,e1,n1⟩:=A.all q hq;exact⟨z,mem_append_left _ hz,e1,n1⟩
   .rw[mem_singleton.mp hq];exact⟨(m,t),mem_append_right _ (by simp),rfl,List.lt_irrefl _⟩
theorem jM.min(A:jM S kvs)(p:zs.Perm kvs)(up:(zs.map (·.1)).Pairwise (·<·)):j5 S zs:=
 ⟨up,λz hz=>A.mem z (p.mem_iff.mp hz),λq hq=>by obtain⟨z,hz,e⟩:=A.all q hq;exact⟨z,p.mem_iff.mpr hz,e⟩⟩
def lg(K:W.Frag):Sp:=λvs H Q _=>∃(a b:Addr) (xs ys:WR V) (S1 S2:WO),vs=[.ref a,.ref b]/\H a=some (.lst xs)/\dH H xs (S1.map AN)/\H b=some (.lst ys)/\dH H ys (S2.map AN)/\S1.length+S2.length<64/\
 ∀H' o ts zs,aI H H'->H o=none->H' o=some (.lst ts)->dH H' ts (zs.map AN)->j5 (S1++S2) zs->Q (.ref o) H'
def lq(K:W.Frag):TS:=
  aJ (aY gp (aG 2))
   (aJ (iy (bV K (aS yU (ai 0) (ai 1))) (AX K 2 (kh (aG 3) (kh (aG 4) AW))) (jY (ai 2) (ai 3) (dj Kh (ah (ai 4) (ah (zv (ai 2) (ai 3) (ai 4)) az)))))
   (bA (dj vD (ah (Hz K "dict" DA (ai 2)) az))))
def Ua(a b d:Addr)(H:Hp)(S:WO):Nat->St->Hp->Prop:=λi Z H'=>∃(kvs:WO) (v3 v4:Option V),Keeps [d] H H'/\H' d=some (.dK (fH kvs))/\jM (S.take i) kvs/\Z=[some (.ref a),some (.ref b),some (.ref d),v3,v4]
theorem wD(hN:N.length=5)(h:lg K vs H Q E):lq K {nx:=λ_ H'=>Q .non H',rt:=Q} (L2.start N vs) H:=by
 obtain⟨a,b,xs,ys,S1,S2,rfl,ha,pa,hb,pb,h64,q⟩:=h;have xl:=pa.len;have yl:=pb.len;rw[length_map] at xl yl;unfold lq L2.start;rw[hN];refine aO λc hc=>?_;simp? [gp]
 refine λd hd=>hc _ _ ?_;clear hc c;have s1:=aI.up H hd (o:=.dK []);have ed:(upd H d (.dK [])) d=some (.dK (fH [])):=aq;generalize upd H d _=H1 at s1 ed ⊢;and_intros;refine aT λc hc=>?_;refine FN ?_;nofun;refine⟨a,b,xs,ys,rfl,rfl,s1 _ _ ha,s1 _ _ hb,by rw[sizeLine_eq];omega,λl hl=>?_⟩;have nd:l≠d:=λz=>by subst z;rw[ed] at hl;cases hl
 have s2:=aI.up H1 hl (o:=.lst (xs++ys));have el:(upd H1 l (.lst (xs++ys))) l=some (.lst (xs++ys)):=aq;generalize upd H1 l _=H2 at s2 el ⊢;have s12:=s1.trans s2;have ps:dH H2 (xs++ys) ((S1++S2).map AN):=by rw[map_append];exact(pa.same s12).app (pb.same s12)
 refine uY (a:=l) (xs:=xs++ys) (λQ h=>h) (aZ.of el) (Ua a b d H2 (S1++S2)) ⟨[],none,none,λ_ _ e _=>e,s2 _ _ ed,jM.nil,rfl⟩ (λi Z H' _ h=>?_) ?_ ?_
 .obtain⟨_,_,_,k,_⟩:=h;exact aZ.of (k _ _ el (by simpa using nd))
 .rintro i x Z H' hx ⟨kvs,v3,v4,k,hd',A,rfl⟩;obtain⟨kv,t,ek,rfl,ht⟩:=ps.get hx;rw[getElem?_map] at ek;obtain⟨⟨m,th⟩,ek2,rfl⟩:=map_eq_some_iff.mp ek;have etk:(S1++S2).take (i+1)=(S1++S2).take i++[(m,th)]:=by rw[take_add_one,ek2];rfl
  have ht':=k _ _ ht (λz=>by rw[mem_singleton.mp z,s2 _ _ ed] at ht;cases ht);obtain⟨u,kvs',e1,e2,A'⟩:=A.put m th;have kl:=A.len;rw[length_take] at kl;simp? [AX,kh,AW,AN,jY,zv]
  refine⟨[ay m,ay th],ff.of ht',rfl,ay m,[ay th],rfl,ay th,[],rfl,rfl,?_⟩;refine⟨.inl ⟨_,.inl hd'⟩,_,gx.k (k:=.inr (txt m)) hd',?_⟩;rw[e1];refine⟨th,u,rfl,_,vq.k (k:=.inr (txt m)) hd' (by unfold fH;rw[length_map,sizeLine_eq];rw[length_append] at kl;omega),kvs',_,_,k.upd (.inl mem_cons_self),?_,by rw[etk];exact A',rfl⟩;rw[aq,<-e2];rfl
 .rintro Z H' ⟨kvs,v3,v4,k,hd',A,rfl⟩;refine hc _ _ ?_;clear hc c;rw[length_append,xl,yl,<-length_append,take_length] at A;have kl:=A.len;rw[length_append] at kl;have sH:=cj s12 k λb hb=>by rw[mem_singleton.mp hb];exact hd
  nofun;refine⟨.inr (.inr (.inl ⟨rfl,.inl ⟨_,hd'⟩⟩)),d,_,rfl,rfl,hd',λv hv=>?_⟩;have s3:=sH.new hv (o:=kH v d);have eV:(upd H' v (kH v d)) v=some (kH v d):=aq;have nv:d≠v:=λz=>by subst z;rw[hd'] at hv;cases hv
  have ed3:(upd H' v (kH v d)) d=some (.dK (fH kvs)):=by rw[aH nv];exact hd'
  generalize upd H' v _=H3 at s3 eV ed3 ⊢;refine⟨v,d,kvs,rfl,eV,ed3,by omega,A.nd,λH4 l ys zs s4 hl0 hl4 hp hup hlen hat=>?_⟩;exact q H4 l ys zs (s3.trans s4) (s3.bO hl0) hl4 (Eb hlen λi kv e=>by obtain⟨t,a,b,_⟩:=hat i kv e;exact⟨t,a,b⟩) (A.min hp hup)
def nM(K:W.Frag):Sp:=λvs H Q _=>∃(p p1 p2 p3 pr:Addr) (bs cs:WR Addr) (ts:WR V) (L h:Nat) (R0 R:WR (WR bB)) (zs:WO) (ws:WN),vs=[.ref p,.ref pr]/\j7 H p p1 p2 p3 bs ts L h R0 zs ws/\H pr=some (.lst (cs.map V.ref))/\bu H cs R/\(∀r∈R,bw L r)/\R.length<=100/\2<=L/\L<=26/\(∀m∈zs.map (·.1)++ws,Mark L m/\m.length<=30000)/\zs.length+ws.length<64/\
 ∀H' d kvs,aI H H'->H d=none->H' d=some (.dK kvs)->(∀m∈zs.map (·.1)++ws,∃v,cV kvs (Key.inr (txt m))=some (oV v)/\bP L R m v)->Q (.ref d) H'
def nN(K:W.Frag):TS:=
  aJ (aY zq (aG 2))
   (aJ (aY gp (aG 3))
   (aJ (aY (aS yU (g5 K (bV K (aS (dF K) (ai 0) (tC (.int 3)))) [] gO (ai 0)) (aS (dF K) (ai 0) (tC (.int 4)))) (aG 4))
   (aJ (iy (bV K (dj (fG K) (ah (ai 4) az))) (aG 5) (jY (ai 3) (ai 5) (aF (wA K) [] E0 (ah (aS (dF K) (ai 0) (tC (.int 0))) (ah (ai 1) (ah (ai 5) (ah (ai 2) az)))))))
   (bA (ai 3)))))
def Ub(p pr d1 d2 pm:Addr)(H:Hp)(L:Nat)(R:WR (WR bB))(ms:WN):Nat->St->Hp->Prop:=λi Z H'=>∃(kv1:WR (WR Key×V)) (kv2:WR (Key×V)) (v5:Option V),Keeps [d1,d2] H H'/\H' d1=some (.dT kv1)/\fS L kv1/\kv1.length<=i*100/\H' d2=some (.dK kv2)/\kv2.length<=i/\(∀m∈ms.take i,∃v,cV kv2 (Key.inr (txt m))=some (oV v)/\bP L R m v)/\Z=[some (.ref p),some (.ref pr),some (.ref d1),some (.ref d2),some (.ref pm),v5]
theorem xW(hN:N.length=6)(h:nM K vs H Q E):nN K {nx:=λ_ H'=>Q .non H',rt:=Q} (L2.start N vs) H:=by
 obtain⟨p,p1,p2,p3,pr,bs,cs,ts,L,h,R0,R,zs,ws,rfl,A,hp,hR,O,few,hL,dY,hM,h64,q⟩:=h;have tl:=A.prs.len;rw[length_map] at tl;unfold nN L2.start;rw[hN];refine aO λc hc=>?_;simp? [zq]
 refine λd1 hd1=>hc _ _ ?_;clear hc c;have s1:=aI.up H hd1 (o:=.dT []);have e1:(upd H d1 (.dT [])) d1=some (.dT []):=aq;generalize upd H d1 _=H1 at s1 e1 ⊢;and_intros;refine aO λc hc=>?_;simp? [gp]
 refine λd2 hd2=>hc _ _ ?_;clear hc c;have f2:=s1.bO hd2;have n12:d1≠d2:=λz=>by subst z;rw[e1] at hd2;cases hd2
 have s2:=s1.new hd2 (o:=.dK []);have e12:(upd H1 d2 (.dK [])) d1=some (.dT []):=by rw[aH n12];exact e1
 have e2:(upd H1 d2 (.dK [])) d2=some (.dK []):=aq;generalize upd H1 d2 _=H2 at s2 e12 e2 ⊢;simp only[set_cons_zero,set_cons_succ];refine aO λc hc=>?_;suffices main:∀H3 pm,aI H2 H3->H3 pm=some (.lst ((zs.map (·.1)++ws).map ay))->c (.ref pm) H3 by
  nofun;refine lO (a:=p2) (xs:=ts) (λQ h=>by nofun;exact bH (v:=.ref p2) (ff.of (s2 _ _ A.top)) (by decide) rfl h) (aZ.of (s2 _ _ A.thi)) (λi ys H'=>H'=H2/\ys=((zs.map (·.1)).take i).map ay) ⟨rfl,rfl⟩ (λi ys H' _ p=>⟨by rw[p.1];exact aZ.of (s2 _ _ A.thi),by rw[p.2,length_map,length_take];omega⟩) (by rw[sizeLine_eq];omega) ?_ ?_
  .rintro i x ys H' hx ⟨rfl,rfl⟩;obtain⟨kv,t,ek,rfl,ht⟩:=(A.prs.same s2).get hx;rw[getElem?_map] at ek;obtain⟨⟨m,th⟩,ek2,rfl⟩:=map_eq_some_iff.mp ek;refine⟨t,ay m,ay th,rfl,ff.of ht,λW hW=>?_⟩;nofun;refine hW _ _ ⟨rfl,?_⟩;rw[take_add_one,getElem?_map,ek2,map_append];rfl
  .rintro ys H' ⟨rfl,rfl⟩ l hl;have s3:=aI.up H' hl (o:=.lst (((zs.map (·.1)).take ts.length).map ay));have el:(upd H' l (.lst (((zs.map (·.1)).take ts.length).map ay))) l=some (.lst (((zs.map (·.1)).take ts.length).map ay)):=aq;generalize upd H' l _=H3 at s3 el ⊢;rw[List.take_of_length_le (by rw[length_map];omega)] at el;refine bH (v:=.ref p3) (ff.of (s3 _ _ (s2 _ _ A.top))) (by decide) rfl ⟨l,p3,_,_,rfl,rfl,el,s3 _ _ (s2 _ _ A.tak),by rw[length_map,length_map,length_map,sizeLine_eq];omega,λo ho=>main _ o (s3.new ho) ?_⟩;rw[aq,map_append]
 intro H3 pm s23 em;refine hc _ _ ?_;clear hc c;have s3:=s2.trans s23;simp only[set_cons_zero,set_cons_succ];refine aT λc hc=>?_;refine FN ?_;nofun;refine⟨pm,_,rfl,aZ.of em,by rw[length_append,length_map];omega,λH4 l ms s34 hl0 hl nd mem _=>?_⟩;have s24:=s23.trans s34;have s4:=s3.trans s34;have ml:ms.length<64:=by
  have:=eZ nd λm hm=>(mem m).mp hm;rw[length_append,length_map] at this;omega
 have nl:¬l∈[d1,d2]:=λz=>by
  simp only[mem_cons,not_mem_nil,or_false] at z
  rcases z with rfl|rfl
  .rw[s24 _ _ e12] at hl;cases hl
  .rw[s24 _ _ e2] at hl;cases hl
 have npr:¬pr∈[d1,d2]:=λz=>by
  simp only[mem_cons,not_mem_nil,or_false] at z
  rcases z with rfl|rfl
  .rw[hp] at hd1;cases hd1
  .rw[hp] at f2;cases f2
 have np:¬p∈[d1,d2]:=λz=>by
  simp only[mem_cons,not_mem_nil,or_false] at z
  rcases z with rfl|rfl
  .rw[A.top] at hd1;cases hd1
  .rw[A.top] at f2;cases f2
 have nf:∀f∈[d1,d2],(∀xs,H4 f≠some (.lst xs))/\∀xs,H4 f≠some (.tup xs):=λf hf=>by
  simp only[mem_cons,not_mem_nil,or_false] at hf
  rcases hf with rfl|rfl
  .rw[s24 _ _ e12];exact⟨λ_ z=>(nomatch z),λ_ z=>(nomatch z)⟩
  .rw[s24 _ _ e2];exact⟨λ_ z=>(nomatch z),λ_ z=>(nomatch z)⟩
 refine uY (a:=l) (xs:=ms.map ay) (λQ h=>h) (aZ.of hl) (Ub p pr d1 d2 pm H4 L R ms) ⟨[],[],none,λ_ _ e _=>e,s24 _ _ e12,fS.nil L,zero_le _,s24 _ _ e2,zero_le _,λm h=>(nomatch h),rfl⟩ (λi Z H' _ h=>?_) ?_ ?_
 .obtain⟨_,_,_,k,_⟩:=h;exact aZ.of (k _ _ hl nl)
 .rintro i x Z H' hx ⟨kv1,kv2,v5,k,hd1',st,l1,hd2',l2,all,rfl⟩;rw[getElem?_map] at hx;obtain⟨m,hm,rfl⟩:=map_eq_some_iff.mp hx;have hi:i<ms.length:=(List.getElem?_eq_some_iff.mp hm).1;have etk:ms.take (i+1)=ms.take i++[m]:=by rw[take_add_one,hm];rfl
  have Mm:=hM m ((mem m).mp (mem_of_getElem? hm));have hR':=(hR.same s4).sI k nf;simp? [jY]
  refine bH (v:=.int L) (ff.of (k _ _ (s4 _ _ A.top) np)) (by decide) rfl ⟨L,pr,d1,cs,R,m,kv1,rfl,hL,dY,k _ _ (s4 _ _ hp) npr,hR',O,few,Mm.1,Mm.2,hd1',st,by omega,λH5 v V5 k5 hd5 st5 l5 car=>?_⟩;have V6:=k5 _ _ hd2' (by simpa using Ne.symm n12);refine⟨_,vq.k (k:=.inr (txt m)) V6 (by rw[sizeLine_eq];omega),V5,putK kv2 (.inr (txt m)) (oV v),_,?_,by rw[aH n12];exact hd5,st5,by omega,aq,by have:=gg kv2 (Key.inr (txt m)) (oV v);omega,λy hy=>?_,rfl⟩
  .exact(Keeps.trans k (λb o e n=>k5 b o e λz=>n (by rw[mem_singleton.mp z];exact mem_cons_self))).upd (.inl (by simp))
  .rw[etk] at hy;rw[vm]
   by_cases e:y=m
   .subst e;exact⟨v,by rw[if_pos rfl],car⟩
   .rw[if_neg (λz=>e (cJ.mp (by injection z)))]
    rcases mem_append.mp hy with hy|hy
    .exact all y hy
    .exact absurd (mem_singleton.mp hy) e
 .rintro Z H' ⟨kv1,kv2,v5,k,hd1',st,l1,hd2',l2,all,rfl⟩;refine hc _ _ ?_;rw[length_map,take_length] at all;nofun;refine q H' d2 kv2 (cj s4 k λb hb=>?_) f2 hd2' λm hm=>all m ((mem m).mpr hm);simp only[mem_cons,not_mem_nil,or_false] at hb
  rcases hb with rfl|rfl
  .exact hd1
  .exact f2
structure Laid(L:Nat)(D:WR (WR bB))(zs:WO)(ws:WN)(zs':WO)(ws':WN)(xs:WO)(ks:WN):Prop where
 th:∃S,j5 S xs/\∀q,q∈S↔(∃z∈zs,bP L D z.1 (some q.1)/\z.2=q.2)\/q∈zs'
 kup:ks.Pairwise (·<·)
 tk:∀m,m∈ks↔(∃w∈ws,bP L D w (some m))\/m∈ws'
 xlen:xs.length<=zs.length+zs'.length
 klen:ks.length<=ws.length+ws'.length
structure FO(L n:Nat)(R:WR (WR bB))(zs:WO)(ws:WN)(zs':WO)(ws':WN):Prop where
 l2:2<=L
 l26:L<=26
 ren:n<=R.length
 few:R.length<=100
 rows:∀r∈R,bw L r
 marks:∀m∈zs.map (·.1)++ws,Mark L m/\m.length<=30000
 z64:zs.length+ws.length<64
 t64:zs.length+zs'.length<64
 k64:ws.length+ws'.length<64
def FQ(p q:Addr)(H:Hp)(Q:VK)(n:Nat)(R:WR (WR bB)):Prop:=∃(p1 p2 p3 q1 q2 q3:Addr) (bs cs:WR Addr) (ts us:WR V) (L h:Nat) (zs zs':WO) (ws ws':WN),j7 H p p1 p2 p3 bs ts L h (R.take n) zs ws/\j7 H q q1 q2 q3 cs us L h R zs' ws'/\FO L n R zs ws zs' ws'/\
 ∀H' o o1 o2 o3 ds vs xs ks,aI H H'->j7 H' o o1 o2 o3 ds vs L h R xs ks->(o::o1::o2::o3::ds).Nodup->(∀b∈o::o1::o2::o3::ds,H b=none)->Laid L (R.drop n) zs ws zs' ws' xs ks->Q (.ref o) H'
def Ac(K:W.Frag):Sp:=λvs H Q _=>∃(p q:Addr) (n:Nat) (R:WR (WR bB)),vs=[.ref p,.ref q]/\FQ p q H Q n R
def fL(K:W.Frag):Sp:=λvs H Q _=>∃(p q:Addr) (n:Nat) (R:WR (WR bB)),vs=[.ref p,.ref q]/\(FQ p q H Q n R\/(n<R.length/\FQ q p H Q n R))
def ug (K : PySem.W.Frag) : TS := aJ (bR (aF (Eh K) [] E0 (ah (ai 0) (ah (ai 1) az))))
      (aJ (aY (aF (nM K) [] E0 (ah (ai 0) (ah (Nm (CV K) (aS (dF K) (ai 1) (tC (.int 2))) (mH (dj (b5 K) (ah (aS (dF K) (ai 0) (tC (.int 2))) az))) fV) az))) (aG 2))
      (aJ (lM K 3 (bV K (aS (dF K) (ai 0) (tC (.int 3)))) [2] (tB (iY (g9 (ai 2) (ai 0)))) (iZ (ah (g9 (ai 2) (ai 0)) (ah (ai 1) az))))
      (aJ (cX 4 (bV K (aS (dF K) (ai 0) (tC (.int 4)))) [2] (tB (iY (g9 (ai 1) (ai 0)))) (g9 (ai 1) (ai 0)))
      (bA (aF lW [] E0 (ah (aS (dF K) (ai 1) (tC (.int 0))) (ah (aS (dF K) (ai 1) (tC (.int 1))) (ah (aS (dF K) (ai 1) (tC (.int 2))) (ah (aF (lg K) [] E0 (ah (ai 3) (ah (aS (dF K) (ai 1) (tC (.int 3))) az))) (ah (dj (fG K) (ah (aS yU (ai 4) (aS (dF K) (ai 1) (tC (.int 4)))) az)) az))))))))))
def uh(K:W.Frag):TT:=bD (aS Bp (dj (b5 K) (ah (aS (dF K) (ai 0) (tC (.int 2))) az)) (dj (b5 K) (ah (aS (dF K) (ai 1) (tC (.int 2))) az)))
def Ae(K:W.Frag):TS:=aJ (cW (uh K) (qj) (b8)) (ug K)
def El(K:W.Frag):TS:=aJ (cW (uh K) (bA (aF (Ac K) [] E0 (ah (ai 1) (ah (ai 0) az)))) (b8)) (ug K)
def Carried(L:Nat)(D:WR (WR bB))(zs S:WO):Prop:=(∀q,q∈S↔∃z∈zs,bP L D z.1 (some q.1)/\z.2=q.2)/\S.length<=zs.length
def ir(L:Nat)(D:WR (WR bB))(ws ks:WN):Prop:=(∀m,m∈ks↔∃w∈ws,bP L D w (some m))/\ks.length<=ws.length
theorem Carried.add{D:WR (WR bB)}(C:Carried L D zs S){y t:WM}(hL:2<=L)(O:∀r∈D,bw L r)(c:bP L D m (some y)):Carried L D (zs++[(m,t)]) (S++[(y,t)]):=by
 refine⟨λq=>?_,by rw[length_append,length_append];have:=C.2;simp;omega⟩;rw[mem_append,C.1 q];constructor
 .rintro(⟨z,hz,e⟩|h)
  .exact⟨z,mem_append_left _ hz,e⟩
  .rw[mem_singleton.mp h];exact⟨(m,t),mem_append_right _ (by simp),c,rfl⟩
 .rintro⟨z,hz,e1,e2⟩
  rcases mem_append.mp hz with hz|hz
  .exact .inl ⟨z,hz,e1,e2⟩
  .rw[mem_singleton.mp hz] at e1 e2;have e3:=bP.one hL O e1 c;injection e3 with e3
   refine .inr (mem_singleton.mpr (Prod.ext e3 e2.symm))
theorem Carried.skip{D:WR (WR bB)}(C:Carried L D zs S){t:WM}(hL:2<=L)(O:∀r∈D,bw L r)(c:bP L D m none):Carried L D (zs++[(m,t)]) S:=by
 refine⟨λq=>?_,by rw[length_append];have:=C.2;omega⟩;rw[C.1 q];constructor
 .rintro⟨z,hz,e⟩;exact⟨z,mem_append_left _ hz,e⟩
 .rintro⟨z,hz,e1,e2⟩
  rcases mem_append.mp hz with hz|hz
  .exact⟨z,hz,e1,e2⟩
  .rw[mem_singleton.mp hz] at e1;cases bP.one hL O e1 c
theorem ir.add{D:WR (WR bB)}{zs S:WN}(C:ir L D zs S){y:WM}(hL:2<=L)(O:∀r∈D,bw L r)(c:bP L D m (some y)):ir L D (zs++[m]) (S++[y]):=by
 refine⟨λq=>?_,by rw[length_append,length_append];have:=C.2;simp;omega⟩;rw[mem_append,C.1 q];constructor
 .rintro(⟨z,hz,e⟩|h)
  .exact⟨z,mem_append_left _ hz,e⟩
  .rw[mem_singleton.mp h];exact⟨m,mem_append_right _ (by simp),c⟩
 .rintro⟨z,hz,e1⟩
  rcases mem_append.mp hz with hz|hz
  .exact .inl ⟨z,hz,e1⟩
  .rw[mem_singleton.mp hz] at e1;have e3:=bP.one hL O e1 c;injection e3 with e3
   exact .inr (mem_singleton.mpr e3)
theorem ir.skip{D:WR (WR bB)}{zs S:WN}(C:ir L D zs S)(hL:2<=L)(O:∀r∈D,bw L r)(c:bP L D m none):ir L D (zs++[m]) S:=by
 refine⟨λq=>?_,by rw[length_append];have:=C.2;omega⟩;rw[C.1 q];constructor
 .rintro⟨z,hz,e⟩;exact⟨z,mem_append_left _ hz,e⟩
 .rintro⟨z,hz,e1⟩
  rcases mem_append.mp hz with hz|hz
  .exact⟨z,hz,e1⟩
  .rw[mem_singleton.mp hz] at e1;cases bP.one hL O e1 c
theorem j5.len(M:j5 S zs):zs.length<=S.length:=by
 have:=eZ (cO M.up) λm hm=>by
  obtain⟨z,hz,rfl⟩:=mem_map.mp hm;exact mem_map_of_mem (f:=(·.1)) (M.mem z hz)
 rw[length_map,length_map] at this;exact this
def Uc(H:Hp)(L:Nat)(D:WR (WR bB))(zs:WO):Nat->WR V->Hp->Prop:=λi ys H'=>∃S,aI H H'/\dH H' ys (S.map AN)/\Carried L D (zs.take i) S
def Ud(H:Hp)(L:Nat)(D:WR (WR bB))(ws:WN):Nat->WR V->Hp->Prop:=λi ys H'=>∃ks,H'=H/\ys=ks.map ay/\ir L D (ws.take i) ks
theorem IW{wi:TI}{fs:WM}{tt:TT}{C:TS}{D:Ends}(h:∀c:V->Hp->Prop,(∀x H1,C D (Z.set i (some x)) H1->c x H1)->g5 K wi fs tt te Z H c):aJ (lM K i wi fs tt te) C D Z H:=h _ λ_ _ z=>z
theorem wF{R:WR (WR bB)}{v2 v3 v4:Option V}{nx:St->Hp->Prop}(h:FQ p q H Q n R):ug K {nx:=nx,rt:=Q} [some (.ref p),some (.ref q),v2,v3,v4] H:=by
 obtain⟨p1,p2,p3,q1,q2,q3,bs,cs,ts,us,L,h,zs,zs',ws,ws',A,B,O,k⟩:=h;have hL:=O.l2;have OD:∀r∈R.drop n,bw L r:=λr hr=>O.rows r (drop_subset _ _ hr);have bl:=A.row.len;have cl:=B.row.len;have tl:=A.prs.len;rw[length_map] at tl;have hn:=O.ren;have few:=O.few;have z64:=O.z64;have t64:=O.t64;have k64:=O.k64;rw[length_take,min_eq_left hn] at bl;unfold ug;refine aT λc hc=>?_;nofun;refine⟨p,q,p1,p2,p3,q1,q2,q3,bs,cs,ts,us,L,h,n,R,zs,zs',ws,ws',rfl,A,B,hn,few,O.l26,O.rows,λH1 s1=>hc _ _ ?_⟩;clear hc c;have A1:=A.same s1;have B1:=B.same s1;refine aO λc hc=>?_;nofun;refine bH (v:=.ref q1) (ff.of B1.top) (by decide) rfl (bH (v:=.ref p1) (ff.of A1.top) (by decide) rfl (bG (aZ.of A1.ren) ?_));rw[length_map,bl];refine⟨_,rfl,vZ (aZ.of B1.ren) λs hs=>?_⟩;rw[yy (by rw[length_map];omega),<-List.map_drop];have s12:=aI.up H1 hs (o:=.lst ((cs.drop n).map V.ref));have es:(upd H1 s (.lst ((cs.drop n).map V.ref))) s=some (.lst ((cs.drop n).map V.ref)):=aq;generalize upd H1 s _=H2 at s12 es ⊢;have s2:=s1.trans s12;refine⟨p,p1,p2,p3,s,bs,cs.drop n,ts,L,h,R.take n,R.drop n,zs,ws,rfl,A.same s2,es,(B.row.same s2).drop n,OD,by rw[length_drop];omega,hL,O.l26,O.marks,z64,λH3 d kvs s23 hd0 hd all=>hc _ _ ?_⟩;clear hc c;have s3:=s2.trans s23;have A3:=A.same s3;simp only[set_cons_zero,set_cons_succ];refine IW λc hc=>?_;refine lO (a:=p2) (xs:=ts) (λQ h=>by nofun;exact bH (v:=.ref p2) (ff.of A3.top) (by decide) rfl h) (aZ.of A3.thi) (Uc H3 L (R.drop n) zs) ⟨[],aI.refl _,trivial,⟨λq=>⟨λh=>(nomatch h),λ⟨z,h,_⟩=>(nomatch h)⟩,zero_le _⟩⟩ (λi ys H' hi p=>?_) (by rw[sizeLine_eq];omega) ?_ ?_
 .obtain⟨S,s',pr,C⟩:=p;have:=pr.len;have c2:=C.2;rw[length_take] at c2;rw[length_map] at this;exact⟨aZ.of (s' _ _ A3.thi),by omega⟩
 .rintro i x ys H' hx ⟨S,s',pr,C⟩;obtain⟨kv,t,ek,rfl,ht⟩:=A3.prs.get hx;rw[getElem?_map] at ek;obtain⟨⟨m,th⟩,ek2,rfl⟩:=map_eq_some_iff.mp ek;have etk:zs.take (i+1)=zs.take i++[(m,th)]:=by rw[take_add_one,ek2];rfl
  refine⟨t,ay m,ay th,rfl,ff.of (s' _ _ ht),λW hW=>?_⟩;obtain⟨v,ev,cv⟩:=all m (mem_append_left _ (mem_map_of_mem (f:=(·.1)) (mem_of_getElem? ek2)));have g:gx H' d (ay m) (some (oV v)):=by rw[<-ev];exact gx.k (k:=.inr (txt m)) (s' _ _ hd)
  simp? [g9]
  refine⟨oV v,g,?_⟩;cases v with
  |none=>
   simp? [oV]
   exact hW _ _ ⟨S,s',pr,by rw[etk];exact C.skip hL OD cv⟩
  |some y=>
   simp? [oV]
   refine⟨ay y,g,by decide,λo ho=>hW _ _ ⟨S++[(y,th)],s'.new ho,?_,by rw[etk];exact C.add hL OD cv⟩⟩
   rw[map_append];refine(pr.same (aI.up H' ho)).app ⟨⟨o,rfl,?_⟩,trivial⟩;rw[aq];rfl
 rintro ys H4a ⟨S,s34a,prS,C⟩ l3 hl3;refine hc _ _ ?_;clear hc c;rw[tl,take_length] at C;have s34:=s34a.new hl3 (o:=.lst ys);have e3:(upd H4a l3 (.lst ys)) l3=some (.lst ys):=aq;have Ue:=prS.same (aI.up H4a hl3 (o:=.lst ys));generalize upd H4a l3 _=H4 at s34 e3 Ue ⊢;have s4:=s3.trans s34;have A4:=A.same s4;simp only[set_cons_zero,set_cons_succ];refine je λc hc=>?_;refine kE (a:=p3) (xs:=ws.map ay) (λQ h=>by nofun;exact bH (v:=.ref p3) (ff.of A4.top) (by decide) rfl h) (aZ.of A4.tak) (Ud H4 L (R.drop n) ws) ⟨[],rfl,rfl,⟨λq=>⟨λh=>(nomatch h),λ⟨z,h,_⟩=>(nomatch h)⟩,zero_le _⟩⟩ (λi ys H' hi p=>?_) (by rw[length_map,sizeLine_eq];omega) ?_ ?_
 .obtain⟨ks,rfl,rfl,C⟩:=p;have c2:=C.2;rw[length_take] at c2;exact⟨aZ.of A4.tak,by rw[length_map];omega⟩
 .rintro i x ys H' hx ⟨ks,rfl,rfl,CK⟩ W hW;rw[getElem?_map] at hx;obtain⟨m,hm,rfl⟩:=map_eq_some_iff.mp hx;have etk:ws.take (i+1)=ws.take i++[m]:=by rw[take_add_one,hm];rfl
  obtain⟨v,ev,cv⟩:=all m (mem_append_right _ (mem_of_getElem? hm));have g:gx H' d (ay m) (some (oV v)):=by rw[<-ev];exact gx.k (k:=.inr (txt m)) (s34 _ _ hd)
  simp? [g9]
  refine⟨oV v,g,?_⟩;cases v with
  |none=>
   simp? [oV]
   exact hW _ _ ⟨ks,rfl,rfl,by rw[etk];exact CK.skip hL OD cv⟩
  |some y=>
   simp? [oV]
   exact⟨ay y,g,hW _ _ ⟨ks++[y],rfl,by rw[map_append];rfl,by rw[etk];exact CK.add hL OD cv⟩⟩
 rintro ys4 H' ⟨ks,rfl,rfl,CK⟩ l4 hl4;refine hc _ _ ?_;clear hc c;rw[length_map,take_length] at CK;have s45:=aI.up H' hl4 (o:=.lst (ks.map ay));have e4:(upd H' l4 (.lst (ks.map ay))) l4=some (.lst (ks.map ay)):=aq;generalize upd H' l4 _=H5 at s45 e4 ⊢;have s5:=s4.trans s45;have B5:=B.same s5;have cS:=C.2;have cK:=CK.2;simp? [set_cons_zero,set_cons_succ]
 refine bH (v:=.int L) (ff.of B5.top) (by decide) rfl (bH (v:=.int h) (ff.of B5.top) (by decide) rfl (bH (v:=.ref q1) (ff.of B5.top) (by decide) rfl (bH (v:=.ref q2) (ff.of B5.top) (by decide) rfl ?_)));refine⟨l3,q2,ys,us,S,zs',rfl,s45 _ _ e3,Ue.same s45,B5.thi,B5.prs,by omega,λH6 o6 vs6 xs6 s56 ho6 eo6 pr6 M6=>?_⟩;have s6:=s5.trans s56;have B6:=B.same s6;refine bH (v:=.ref q3) (ff.of B6.top) (by decide) rfl ⟨l4,q3,_,_,rfl,rfl,s56 _ _ e4,B6.tak,by rw[length_map,length_map,sizeLine_eq];omega,λl7 hl7=>?_⟩;have s67:=aI.up H6 hl7 (o:=.lst (ks.map ay++ws'.map ay));have e7:(upd H6 l7 (.lst (ks.map ay++ws'.map ay))) l7=some (.lst ((ks++ws').map ay)):=by rw[aq,map_append]
 generalize upd H6 l7 _=H7 at s67 e7 ⊢;refine⟨l7,ks++ws',rfl,aZ.of e7,by rw[length_append];omega,λH8 l8 js s78 WL hl8 nd mem le=>?_⟩;have s68:=s67.trans s78;have s8:=s6.trans s68;have B8:=B.same s8;refine⟨L,h,q1,o6,l8,cs,R,vs6,xs6,js,rfl,B8.ren,B8.row,s68 _ _ eo6,pr6.same s68,hl8,by omega,λH9 o o1 o2 o3 ds s89 SA ndo fr=>?_⟩;refine k H9 o o1 o2 o3 ds vs6 xs6 js (s8.trans s89) SA ndo (λb hb=>s8.bO (fr b hb)) ⟨⟨_,M6,λx=>?_⟩,gz le nd,λm=>?_,?_,?_⟩
 .rw[mem_append,C.1 x]
 .rw[mem,mem_append,CK.1 m]
 .have:=M6.len;rw[length_append] at this;omega
 .have:=eZ nd λm hm=>(mem m).mp hm;rw[length_append] at this;omega
theorem longer{q1 q2 q3:Addr}{bs cs:WR Addr}{us:WR V}{R R':WR (WR bB)}{v2 v3 v4:Option V}{Q:Bool->Hp->Prop}(A:j7 H p p1 p2 p3 bs ts L h R zs ws)(B:j7 H q q1 q2 q3 cs us L h R' zs' ws')(k:Q (decide (R'.length<R.length)) H):uh K [some (.ref p),some (.ref q),v2,v3,v4] H Q:=by
 have bl:=A.row.len;have cl:=B.row.len;unfold uh;nofun;refine bH (v:=.ref p1) (ff.of A.top) (by decide) rfl (bG (aZ.of A.ren) (bH (v:=.ref q1) (ff.of B.top) (by decide) rfl (bG (aZ.of B.ren) ?_)));rw[length_map,length_map,bl,cl];refine⟨_,rfl,_,rfl,?_⟩;rw[show decide ((R'.length:Int)<(R.length:Int))=decide (R'.length<R.length) by simp]
 exact k
theorem Em(hN:N.length=5)(h:Ac K vs H Q E):Ae K {nx:=λ_ H'=>Q .non H',rt:=Q} (L2.start N vs) H:=by
 obtain⟨p,q,n,R,rfl,P⟩:=h;unfold Ae L2.start;rw[hN];obtain⟨p1,p2,p3,q1,q2,q3,bs,cs,ts,us,L,h,zs,zs',ws,ws',A,B,O,_⟩:=id P;refine aT λc hc=>?_;refine longer A B ?_;rw[decide_eq_false (by rw[length_take];omega)];exact hc _ _ (wF P)
theorem IX(hN:N.length=5)(h:fL K vs H Q E):El K {nx:=λ_ H'=>Q .non H',rt:=Q} (L2.start N vs) H:=by
 obtain⟨p,q,n,R,rfl,P⟩:=h;unfold El L2.start;rw[hN];refine aT λc hc=>?_
 rcases P with P|⟨lt,P⟩
 .obtain⟨p1,p2,p3,q1,q2,q3,bs,cs,ts,us,L,h,zs,zs',ws,ws',A,B,O,_⟩:=id P;refine longer A B ?_;rw[decide_eq_false (by rw[length_take];omega)];exact hc _ _ (wF P)
 .obtain⟨p1,p2,p3,q1,q2,q3,bs,cs,ts,us,L,h,zs,zs',ws,ws',A,B,O,_⟩:=id P;refine longer B A ?_;rw[decide_eq_true (by rw[length_take];omega)];nofun;exact⟨q,p,n,R,rfl,P⟩
theorem j7.sI{bs:WR Addr}{R:WR (WR bB)}(A:j7 H p p1 p2 p3 bs ts L h R zs ws)(k:Keeps F H H')(n:∀f∈F,(∀xs,H f≠some (.lst xs))/\∀xs,H f≠some (.tup xs)):j7 H' p p1 p2 p3 bs ts L h R zs ws:=
 ⟨k _ _ A.top λz=>(n _ z).2 _ A.top,k _ _ A.ren λz=>(n _ z).1 _ A.ren,A.row.sI k n,k _ _ A.thi λz=>(n _ z).1 _ A.thi,A.prs.keep λt ys et=>k _ _ et λz=>(n _ z).2 _ et,k _ _ A.tak λz=>(n _ z).1 _ A.tak⟩
theorem IY{a b c:WM}(h:a<b)(g:¬a<c):c<b:=by
 by_cases z:c<b
 .exact z
 .exact absurd (vS h z) g
theorem bP.app:∀{A B:WR (WR bB)} {m:WM} {y:WM},bP L (A++B) m (some y)↔∃x,bP L A m (some x)/\bP L B x (some y)
 |[],B,m,y=>by
  constructor
  .intro h;exact⟨m,rfl,h⟩
  .rintro⟨x,e,h⟩;have e:some x=some m:=e;injection e with e
   rw[<-e];exact h
 |r::A,B,m,y=>by
  constructor
  .rintro(⟨z,c,h⟩|⟨_,e⟩)
   .obtain⟨x,a,b⟩:=bP.app.mp h;exact⟨x,.inl ⟨z,c,a⟩,b⟩
   .cases e
  .rintro⟨x,(⟨z,c,h⟩|⟨_,e⟩),b⟩
   .exact .inl ⟨z,c,bP.app.mpr ⟨x,h,b⟩⟩
   .cases e
abbrev rH:=Nat×WM×WM
abbrev rJ:=Nat×WM
structure NF(L:Nat)(R:WR (WR bB))(Bs:WR rH)(Ts:WR rJ)(kn tk:Nat->Prop)(xs:WO)(ks:WN):Prop where
 th:∃S,j5 S xs/\∀q,q∈S↔∃k b,kn k/\Bs[k]?=some b/\bP L (R.drop b.1) b.2.1 (some q.1)/\b.2.2=q.2
 kup:ks.Pairwise (·<·)
 tks:∀m,m∈ks↔∃k b,tk k/\Ts[k]?=some b/\bP L (R.drop b.1) b.2 (some m)
 bag:∀k b,kn k->Bs[k]?=some b->b.1<=R.length
 tag:∀k b,tk k->Ts[k]?=some b->b.1<=R.length
theorem NF.up{R:WR (WR bB)}{Bs:WR rH}{Ts:WR rJ}{kn tk:Nat->Prop}{xs:WO}(A:NF L R Bs Ts kn tk xs ks):(xs.map (·.1)).Pairwise (·<·):=by
 obtain⟨S,M,_⟩:=A.th;exact M.up
theorem NF.one{R:WR (WR bB)}{Bs:WR rH}{Ts:WR rJ}{kn tk kn' tk':Nat->Prop}{xs ys:WO}{js:WN}(A:NF L R Bs Ts kn tk xs ks)(B:NF L R Bs Ts kn' tk' ys js)(e:∀k,kn k↔kn' k)(f:∀k,tk k↔tk' k):xs=ys/\ks=js:=by
 obtain⟨S,M,h⟩:=A.th;obtain⟨S',M',h'⟩:=B.th;refine⟨M.one M' λq=>?_,Lz A.kup B.kup λm=>?_⟩
 .rw[h,h'];constructor
  .rintro⟨k,b,a,c⟩;exact⟨k,b,(e k).mp a,c⟩
  .rintro⟨k,b,a,c⟩;exact⟨k,b,(e k).mpr a,c⟩
 .rw[A.tks,B.tks];constructor
  .rintro⟨k,b,a,c⟩;exact⟨k,b,(f k).mp a,c⟩
  .rintro⟨k,b,a,c⟩;exact⟨k,b,(f k).mpr a,c⟩
theorem nO(hL:2<=L){D:WR (WR bB)}(O:∀r∈D,bw L r):∀S:WO,∃S':WO,∀q:WM×WM,q∈S'↔∃z∈S,bP L D z.1 (some q.1)/\z.2=q.2
 |[]=>⟨[],λq=>⟨λh=>(nomatch h),λ⟨_,h,_⟩=>(nomatch h)⟩⟩
 |a::S=>by
  obtain⟨S',h⟩:=nO hL O S
  by_cases e:∃x,bP L D a.1 (some x)
  .obtain⟨x,c⟩:=e;refine⟨(x,a.2)::S',λq=>?_⟩;rw[mem_cons,h];constructor
   .rintro(rfl|⟨z,hz,k⟩)
    .exact⟨a,mem_cons_self,c,rfl⟩
    .exact⟨z,mem_cons_of_mem _ hz,k⟩
   .rintro⟨z,hz,k1,k2⟩
    rcases mem_cons.mp hz with rfl|hz
    .have:=bP.one hL O k1 c;injection this with this
     exact .inl (Prod.ext this k2.symm)
    .exact .inr ⟨z,hz,k1,k2⟩
  .refine⟨S',λq=>?_⟩;rw[h];constructor
   .rintro⟨z,hz,k⟩;exact⟨z,mem_cons_of_mem _ hz,k⟩
   .rintro⟨z,hz,k1,k2⟩
    rcases mem_cons.mp hz with rfl|hz
    .exact absurd ⟨_,k1⟩ e
    .exact⟨z,hz,k1,k2⟩
theorem fY{α:Type}(R:WR α)(h:i<=n)(hn:n<=R.length):(R.take n).drop i++R.drop n=R.drop i:=by
 have e:R.drop i=((R.take n)++(R.drop n)).drop i:=by rw[take_append_drop]
 rw[e,List.drop_append_of_le_length (by rw[length_take];omega)]
section
variable{L n:Nat}{R:WR (WR bB)}{Bs:WR rH}{Ts:WR rJ}{kn tk kn' tk':Nat->Prop}{zs zs' xs:WO}{ws ws' ks:WN}
theorem NF.join(hL:2<=L)(O:∀r∈R,bw L r)(hn:n<=R.length)(A:NF L (R.take n) Bs Ts kn tk zs ws)(B:NF L R Bs Ts kn' tk' zs' ws')(l:Laid L (R.drop n) zs ws zs' ws' xs ks):NF L R Bs Ts (λk=>kn k\/kn' k) (λk=>tk k\/tk' k) xs ks:=by
 have OD:∀r∈R.drop n,bw L r:=λr hr=>O r (drop_subset _ _ hr);obtain⟨S1,M1,h1⟩:=A.th;obtain⟨S2,M2,h2⟩:=B.th;obtain⟨S0,M0,h0⟩:=l.th;obtain⟨S3,h3⟩:=nO hL OD S1;have lt:(R.take n).length=n:=by rw[length_take,min_eq_left hn]
 refine⟨⟨S3++S2,⟨M0.up,λz hz=>?_,λq hq=>?_⟩,λq=>?_⟩,l.kup,λm=>?_,λk b hk e=>?_,λk b hk e=>?_⟩
 .rcases (h0 z).mp (M0.mem z hz) with⟨z0,hz0,c⟩|hz0
  .exact mem_append_left _ ((h3 z).mpr ⟨z0,M1.mem z0 hz0,c⟩)
  .exact mem_append_right _ (M2.mem z hz0)
 .have step:∀z:WM×WM,z∈S0->z.1=q.1->¬q.2<z.2->∃x∈xs,x.1=q.1/\¬q.2<x.2:=λz hz e1 n1=>by
   obtain⟨x,hx,e2,n2⟩:=M0.all z hz;refine⟨x,hx,e2.trans e1,λw=>?_⟩;exact n2 (IY w n1)
  rcases mem_append.mp hq with hq|hq
  .obtain⟨s,hs,c,e⟩:=(h3 q).mp hq;obtain⟨z,hz,e1,n1⟩:=M1.all s hs;refine step (q.1,z.2) ((h0 _).mpr (.inl ⟨z,hz,by rw[e1];exact c,rfl⟩)) rfl ?_;rw[<-e];exact n1
  .obtain⟨z,hz,e1,n1⟩:=M2.all q hq;exact step z ((h0 z).mpr (.inr hz)) e1 n1
 .rw[mem_append,h3,h2];constructor
  .rintro(⟨s,hs,c,e⟩|⟨k,b,hk,c⟩)
   .obtain⟨k,b,hk,eb,c1,e1⟩:=(h1 s).mp hs;have:=A.bag k b hk eb;refine⟨k,b,.inl hk,eb,?_,e1.trans e⟩;rw[<-fY R (n:=n) (i:=b.1) (by omega) hn];exact bP.app.mpr ⟨s.1,c1,c⟩
   .exact⟨k,b,.inr hk,c⟩
  .rintro⟨k,b,hk|hk,eb,c,e⟩
   .have:=A.bag k b hk eb;rw[<-fY R (n:=n) (i:=b.1) (by omega) hn] at c;obtain⟨x,c1,c2⟩:=bP.app.mp c;exact .inl ⟨(x,q.2),(h1 _).mpr ⟨k,b,hk,eb,c1,e⟩,c2,rfl⟩
   .exact .inr ⟨k,b,hk,eb,c,e⟩
 .rw[l.tk,B.tks];constructor
  .rintro(⟨s,hs,c⟩|⟨k,b,hk,c⟩)
   .obtain⟨k,b,hk,eb,c1⟩:=(A.tks s).mp hs;have:=A.tag k b hk eb;refine⟨k,b,.inl hk,eb,?_⟩;rw[<-fY R (n:=n) (i:=b.1) (by omega) hn];exact bP.app.mpr ⟨s,c1,c⟩
   .exact⟨k,b,.inr hk,c⟩
  .rintro⟨k,b,hk|hk,eb,c⟩
   .have:=A.tag k b hk eb;rw[<-fY R (n:=n) (i:=b.1) (by omega) hn] at c;obtain⟨x,c1,c2⟩:=bP.app.mp c;exact .inl ⟨x,(A.tks _).mpr ⟨k,b,hk,eb,c1⟩,c2⟩
   .exact .inr ⟨k,b,hk,eb,c⟩
 .rcases hk with hk|hk
  .have:=A.bag k b hk e;omega
  .exact B.bag k b hk e
 .rcases hk with hk|hk
  .have:=A.tag k b hk e;omega
  .exact B.tag k b hk e
theorem En(hL:2<=L){R:WR (WR bB)}(O:∀r∈R,bw L r):∀l:WR (Nat×WM),∃M:WN,M.length<=l.length/\∀b∈l,∀m,bP L (R.drop b.1) b.2 (some m)->m∈M
 |[]=>⟨[],le_refl _,λb h=>(nomatch h)⟩
 |a::l=>by
  obtain⟨M,h1,h2⟩:=En hL O l
  by_cases e:∃x,bP L (R.drop a.1) a.2 (some x)
  .obtain⟨x,c⟩:=e;refine⟨x::M,by rw[length_cons,length_cons];omega,λb hb m hm=>?_⟩
   rcases mem_cons.mp hb with rfl|hb
   .have:=bP.one hL (λr hr=>O r (drop_subset _ _ hr)) hm c;injection this with this
    rw[this];exact mem_cons_self
   .exact mem_cons_of_mem _ (h2 b hb m hm)
  .refine⟨M,by rw[length_cons];omega,λb hb m hm=>?_⟩
   rcases mem_cons.mp hb with rfl|hb
   .exact absurd ⟨m,hm⟩ e
   .exact h2 b hb m hm
theorem NF.len(hL:2<=L)(O:∀r∈R,bw L r)(A:NF L R Bs Ts kn tk xs ks):xs.length<=Bs.length/\ks.length<=Ts.length:=by
 constructor
 .obtain⟨M,h1,h2⟩:=En hL O (Bs.map λb=>(b.1,b.2.1));obtain⟨S,MO,h⟩:=A.th;have:=eZ (cO MO.up) λm hm=>by
   obtain⟨z,hz,rfl⟩:=mem_map.mp hm;obtain⟨k,b,_,eb,c,_⟩:=(h z).mp (MO.mem z hz);exact h2 (b.1,b.2.1) (mem_map.mpr ⟨b,mem_of_getElem? eb,rfl⟩) _ c
  rw[length_map] at this h1;omega
 .obtain⟨M,h1,h2⟩:=En hL O Ts;have:=eZ (cO A.kup) λm hm=>by
   obtain⟨k,b,_,eb,c⟩:=(A.tks m).mp hm;exact h2 b (mem_of_getElem? eb) _ c
  omega
end
def rK(K:W.Frag)(C:Addr):Sp:=λvs H Q _=>∃(x dx pr pt pk p p1 p2 p3:Addr) (L h j:Nat) (kvs:WO) (ks:WN) (as bs:WR Addr) (ts:WR V) (R1 R2:WR (WR bB)) (zs':WO) (ws':WN),vs=[.ref x,.ref p]/\jg C H x dx pr pt pk L h j kvs ks/\kvs.length<64/\(kvs.map (·.1)).Nodup/\ks.length<64/\ks.Nodup/\Jt H pr as R1/\R1.length<=100/\j7 H p p1 p2 p3 bs ts L h R2 zs' ws'/\
 ((∃n,R1=R2.take n/\∀zs ws,Told kvs ks zs ws->FO L n R2 zs ws zs' ws')\/(∃n,n<R1.length/\R2=R1.take n/\∀zs ws,Told kvs ks zs ws->FO L n R1 zs' ws' zs ws))/\
 ∀H' zs ws R n pr' pt' pk' as' xs js,Told kvs ks zs ws->Keeps [x] H H'->jg C H' x dx pr' pt' pk' L h j xs js->Jt H' pr' as' R->H pr'=none->H pt'=none->H pk'=none->(∀b∈as',H b=none)->(xs.map (·.1)).Pairwise (·<·)->js.Pairwise (·<·)->
  ((R=R2/\R1=R2.take n/\n<=R2.length/\Laid L (R2.drop n) zs ws zs' ws' xs js)\/(R=R1/\R2=R1.take n/\n<=R1.length/\Laid L (R1.drop n) zs' ws' zs ws xs js))->Q .non H'
def Eo(K:W.Frag)(C:Addr):TS:=
  aJ (aY (aF (fL K) [] E0 (ah (cI C "state" (dJ C) [] E0 (ai 0) az) (ah (ai 1) az))) (aG 2))
   (aJ (iP K (ai 0) (aS (dF K) (ai 2) (tC (.int 2))) "renewals")
   (aJ (iP K (ai 0) (dj pe (ah (aS (dF K) (ai 2) (tC (.int 3))) az)) "thing_of")
   (iP K (ai 0) (dj pe (ah (dw (bV K (aS (dF K) (ai 2) (tC (.int 4)))) [] gO (iZ (ah (ai 0) (ah (tC (.bl true)) az)))) az)) "taken")))
theorem IZ{xs:WO}(h:(xs.map (·.1)).Pairwise (·<·)):ic [] (fH xs)=fH xs:=by
 rw[ig _ _ (by
  rw[nil_append,fH,map_map];have:=pairwise_map.mpr (List.Pairwise.imp (S:=λa b=>(Key.inr (txt a):Key)≠Key.inr (txt b)) (λn e=>n (cJ.mp (by injection e))) (cO h));rw[map_map] at this;exact this)]
 rfl
theorem I9(h:ks.Pairwise (·<·)):ic [] (iX ks)=iX ks:=by
 rw[ig _ _ (by
  rw[nil_append,iX,map_map];exact pairwise_map.mpr (List.Pairwise.imp (S:=λa b=>(Key.inr (txt a):Key)≠Key.inr (txt b)) (λn e=>n (cJ.mp (by injection e))) (cO h)))]
 rfl
def WA(m:WM):V×V:=(ay m,.bl true)
theorem dH.V7{js:WN}(p:dH H ys (js.map WA)):TH H ys (iX js):=by
 refine⟨by rw[p.len,iX,length_map,length_map],λi k v e=>?_⟩;rw[iX,getElem?_map] at e;obtain⟨m,e1,e2⟩:=map_eq_some_iff.mp e;cases e2;obtain⟨y,hy⟩:=some_at (l:=ys) (i:=i) (by rw[p.len,length_map];exact(List.getElem?_eq_some_iff.mp e1).1);obtain⟨q,t,a,rfl,c⟩:=p.get hy;rw[getElem?_map,e1] at a;cases a;exact⟨t,hy,c⟩
def Ug(H:Hp)(ks:WN):Nat->WR V->Hp->Prop:=λi ys H'=>aI H H'/\dH H' ys ((ks.take i).map WA)
theorem Ja(cl:gh K C)(hN:N.length=3)(h:rK K C vs H Q E):Eo K C {nx:=λ_ H'=>Q .non H',rt:=Q} (L2.start N vs) H:=by
 obtain⟨x,dx,pr,pt,pk,p,p1,p2,p3,L,h,j,kvs,ks,as,bs,ts,R1,R2,zs',ws',rfl,S,k64,knd,t64,tnd,A,few,B,way,q⟩:=h;unfold Eo L2.start;rw[hN];refine aO λc hc=>?_;suffices main:∀H2 o o1 o2 o3 ds vs zs ws R n xs js,Told kvs ks zs ws->aI H H2->j7 H2 o o1 o2 o3 ds vs L h R xs js->(o::o1::o2::o3::ds).Nodup->(∀b∈o::o1::o2::o3::ds,H b=none)->js.length<64->
   ((R=R2/\R1=R2.take n/\n<=R2.length/\Laid L (R2.drop n) zs ws zs' ws' xs js)\/(R=R1/\R2=R1.take n/\n<=R1.length/\Laid L (R1.drop n) zs' ws' zs ws xs js))->c (.ref o) H2 by
  nofun;refine cE S (λR r=>⟨_,rfl,r⟩) rfl ⟨x,dx,pr,pt,pk,L,h,j,kvs,ks,as,R1,rfl,S,k64,knd,t64,tnd,A.lst,A.row,by omega,λH1 s s1 s2 s3 cs us zs ws sH T SB ndS frS=>?_⟩;have B1:=B.same sH
  rcases way with⟨n,e,ok⟩|⟨n,lt,e,ok⟩
  .exact⟨s,p,n,R2,rfl,.inl ⟨s1,s2,s3,p1,p2,p3,cs,bs,us,ts,L,h,zs,zs',ws,ws',by rw[<-e];exact SB,B1,ok zs ws T,λH2 o o1 o2 o3 ds vs xs js s12 SA nd fr l=>main H2 o o1 o2 o3 ds vs zs ws R2 n xs js T (sH.trans s12) SA nd (λb hb=>sH.bO (fr b hb)) (by have:=(ok zs ws T).k64;have:=l.klen;omega) (.inl ⟨rfl,e,(ok zs ws T).ren,l⟩)⟩⟩
  .exact⟨s,p,n,R1,rfl,.inr ⟨lt,p1,p2,p3,s1,s2,s3,bs,cs,ts,us,L,h,zs',zs,ws',ws,by rw[<-e];exact B1,SB,ok zs ws T,λH2 o o1 o2 o3 ds vs xs js s12 SA nd fr l=>main H2 o o1 o2 o3 ds vs zs ws R1 n xs js T (sH.trans s12) SA nd (λb hb=>sH.bO (fr b hb)) (by have:=(ok zs ws T).k64;have:=l.klen;omega) (.inr ⟨rfl,e,(ok zs ws T).ren,l⟩)⟩⟩
 intro H2 o o1 o2 o3 ds vs zs ws R n xs js T s2 SA nd fr j64 lay;refine hc _ _ ?_;clear hc c;have S2:=S.same s2;and_intros;refine aT λc hc=>?_;unfold iP;nofun;have hdx:dx≠x:=λz=>by subst z;have:=S.ins.symm.trans S.own;cases this
 have ups:(xs.map (·.1)).Pairwise (·<·)/\js.Pairwise (·<·):=by
  rcases lay with⟨_,_,_,l⟩|⟨_,_,_,l⟩
  .obtain⟨_,M,_⟩:=l.th;exact⟨M.up,l.kup⟩
  .obtain⟨_,M,_⟩:=l.th;exact⟨M.up,l.kup⟩
 have nds:o≠x/\o1≠x/\o2≠x/\o3≠x:=by
  have f:∀b∈o::o1::o2::o3::ds,b≠x:=λb hb z=>by have:=fr b hb;rw[z,S.ins] at this;cases this
  exact⟨f o (by simp),f o1 (by simp),f o2 (by simp),f o3 (by simp)⟩
 have ndx:o1≠dx:=λz=>by subst z;have:=fr o1 (by simp);rw[S.own] at this;cases this
 refine bH (v:=.ref o1) (ff.of SA.top) (by decide) rfl ⟨C,dx,_,S2.ins,cl.cls,cl.nr,by simp[ck],hc _ _ ?_⟩;clear hc c;have k3:Keeps [x] H (upd H2 x (.ins C dx (cz "renewals" (.ref o1) (ck L h j pr pt pk)))):=(s2.keeps _).upd (.inl mem_cons_self);have x3:(upd H2 x (.ins C dx (cz "renewals" (.ref o1) (ck L h j pr pt pk)))) x=some (.ins C dx (ck L h j o1 pt pk)):=aq;have kx:Keeps [x] H2 (upd H2 x (.ins C dx (cz "renewals" (.ref o1) (ck L h j pr pt pk)))):=Keeps.upd (λ_ _ e _=>e) (.inl mem_cons_self);generalize upd H2 x _=H3 at k3 x3 kx ⊢;have nf:∀f∈[x],(∀xs,H2 f≠some (.lst xs))/\∀xs,H2 f≠some (.tup xs):=λf hf=>by
  rw[mem_singleton.mp hf,S2.ins];exact⟨λ_ z=>(nomatch z),λ_ z=>(nomatch z)⟩
 have SA3:=SA.sI kx nf;have d3:=kx _ _ S2.own (by simpa using hdx);refine aT λc hc=>?_;unfold iP;nofun;refine bH (v:=.ref o2) (ff.of SA3.top) (by decide) rfl ⟨o2,vs,fH xs,rfl,SA3.thi,SA3.prs.TX,λpt' hpt=>?_⟩;rw[IZ ups.1];have nx:x≠pt':=λz=>by subst z;rw[x3] at hpt;cases hpt
 have n1:dx≠pt':=λz=>by subst z;rw[d3] at hpt;cases hpt
 have ft:H pt'=none:=by
  cases w:H pt' with
  |none=>rfl
  |some u=>rw[k3 pt' u w (by simpa using Ne.symm nx)] at hpt;cases hpt
 refine⟨C,dx,_,by rw[aH nx];exact x3,cl.cls,cl.nt,by simp[ck],hc _ _ ?_⟩;clear hc c;have k4:Keeps [x] H3 (upd (upd H3 pt' (.dK (fH xs))) x (.ins C dx (cz "thing_of" (.ref pt') (ck L h j o1 pt pk)))):=(Keeps.upd (λ_ _ e _=>e) (.inr hpt)).upd (.inl mem_cons_self);have x4:(upd (upd H3 pt' (.dK (fH xs))) x (.ins C dx (cz "thing_of" (.ref pt') (ck L h j o1 pt pk)))) x=some (.ins C dx (ck L h j o1 pt' pk)):=aq;have t4:(upd (upd H3 pt' (.dK (fH xs))) x (.ins C dx (cz "thing_of" (.ref pt') (ck L h j o1 pt pk)))) pt'=some (.dK (fH xs)):=by rw[aH (Ne.symm nx),aq]
 generalize upd (upd H3 pt' _) x _=H4 at k4 x4 t4 ⊢;have nf3:∀f∈[x],(∀xs,H3 f≠some (.lst xs))/\∀xs,H3 f≠some (.tup xs):=λf hf=>by
  rw[mem_singleton.mp hf,x3];exact⟨λ_ z=>(nomatch z),λ_ z=>(nomatch z)⟩
 have SA4:=SA3.sI k4 nf3;have d4:=k4 _ _ d3 (by simpa using hdx);have k04:Keeps [x] H H4:=Keeps.trans k3 k4;unfold iP;nofun;refine kE (a:=o3) (xs:=js.map ay) (λQ h=>by nofun;exact bH (v:=.ref o3) (ff.of SA4.top) (by decide) rfl h) (aZ.of SA4.tak) (Ug H4 js) ⟨aI.refl _,trivial⟩ (λi ys H' hi p=>⟨aZ.of (p.1 _ _ SA4.tak),by have:=p.2.len;rw[length_map,length_take] at this;omega⟩) ?_ ?_ ?_
 .rw[length_map,sizeLine_eq];omega
 .rintro i v ys H' hv ⟨s',pr'⟩ W hW;rw[getElem?_map] at hv;obtain⟨m,hm,rfl⟩:=map_eq_some_iff.mp hv;have etk:js.take (i+1)=js.take i++[m]:=by rw[take_add_one,hm];rfl
  nofun;refine⟨by decide,λt ht=>hW _ _ ⟨s'.new ht,?_⟩⟩
  rw[etk,map_append];refine(pr'.same (aI.up H' ht)).app ⟨⟨t,rfl,?_⟩,trivial⟩;rw[aq];rfl
 rintro ys H5a ⟨s5a,TX⟩ l5 hl5;rw[length_map,take_length] at TX;have s45:=s5a.new hl5 (o:=.lst ys);have e5:(upd H5a l5 (.lst ys)) l5=some (.lst ys):=aq;have Uh:=TX.same (aI.up H5a hl5 (o:=.lst ys));generalize upd H5a l5 _=H5 at s45 e5 Uh ⊢;refine⟨l5,ys,iX js,rfl,e5,Uh.V7,λpk' hpk=>?_⟩;rw[I9 ups.2];have x5:=s45 _ _ x4;have d5:=s45 _ _ d4;have t5:=s45 _ _ t4;have nxk:x≠pk':=λz=>by subst z;rw[x5] at hpk;cases hpk
 have ntk:pt'≠pk':=λz=>by subst z;rw[t5] at hpk;cases hpk
 have ndk:dx≠pk':=λz=>by subst z;rw[d5] at hpk;cases hpk
 have k05:Keeps [x] H H5:=Keeps.trans k04 (s45.keeps _);have fk:H pk'=none:=by
  cases w:H pk' with
  |none=>rfl
  |some u=>rw[k05 pk' u w (by simpa using Ne.symm nxk)] at hpk;cases hpk
 refine⟨C,dx,_,by rw[aH nxk];exact x5,cl.cls,cl.nk,by simp[ck],?_⟩;have k6:Keeps [x] H5 (upd (upd H5 pk' (.dK (iX js))) x (.ins C dx (cz "taken" (.ref pk') (ck L h j o1 pt' pk)))):=(Keeps.upd (λ_ _ e _=>e) (.inr hpk)).upd (.inl mem_cons_self);have x6:(upd (upd H5 pk' (.dK (iX js))) x (.ins C dx (cz "taken" (.ref pk') (ck L h j o1 pt' pk)))) x=some (.ins C dx (ck L h j o1 pt' pk')):=aq;have u6:(upd (upd H5 pk' (.dK (iX js))) x (.ins C dx (cz "taken" (.ref pk') (ck L h j o1 pt' pk)))) pk'=some (.dK (iX js)):=by rw[aH (Ne.symm nxk),aq]
 generalize upd (upd H5 pk' _) x _=H6 at k6 x6 u6 ⊢;have nf5:∀f∈[x],(∀xs,H5 f≠some (.lst xs))/\∀xs,H5 f≠some (.tup xs):=λf hf=>by
  rw[mem_singleton.mp hf,x5];exact⟨λ_ z=>(nomatch z),λ_ z=>(nomatch z)⟩
 have SA6:=(SA4.same s45).sI k6 nf5;have nd1:¬o1∈ds:=λz=>by
  simp only[nodup_cons,mem_cons,not_or] at nd;exact nd.2.1.2.2 z
 exact q H6 zs ws R n o1 pt' pk' ds xs js T (Keeps.trans k05 k6) ⟨x6,k6 _ _ d5 (by simpa using hdx),k6 _ _ t5 (by simpa using Ne.symm nx),u6,ntk⟩ ⟨SA6.ren,SA6.row,nd1⟩ (fr o1 (by simp)) ft fk (λb hb=>fr b (by simp[hb])) ups.1 ups.2 lay
def Short(r:WR bB):Prop:=r.length<=60/\∀y∈r,∀z,y.2=some z->z.length<=7
theorem yz.OR{R:WR bB}(O:bw L R)(hS:Short R)(hL:2<=L){x:WM}(M:Mark L m)(A:yz L R m (some x)):Mark L x/\x.length<=8+m.length:=by
 refine⟨(yz.len O hL M A).1,?_⟩
 rcases A with⟨r,hr,e,h⟩|⟨h1,n,w,s,S,h⟩
 .have:=hS.2 r hr x h.symm;omega
 .injection h with h
  subst h;obtain⟨a1,a2,a3,a4,_⟩:=S.all hL (O.zT m) (O.Rb m);have l1:cY (vR R m)<=7:=by
   cases h:vR R m with
   |none=>exact zero_le _
   |some x=>obtain⟨r,hr,_,e⟩:=pH h;exact hS.2 r hr x e
  have l2:cY (kR R m)<=7:=by
   cases h:kR R m with
   |none=>exact zero_le _
   |some x=>obtain⟨r,hr,_,e⟩:=lV h;exact hS.2 r hr x e
  rw[length_append];omega
theorem bP.OR(hL:2<=L):∀{R:WR (WR bB)} {m x:WM},(∀r∈R,bw L r/\Short r)->Mark L m->bP L R m (some x)->Mark L x/\x.length<=8*R.length+m.length
 |[],m,x,_,M,a=>by
  have e:some x=some m:=a;injection e with e
  subst e;exact⟨M,by omega⟩
 |r::R,m,x,O,M,a=>by
  rcases a with⟨z,a1,a2⟩|⟨a1,a2⟩
  .obtain⟨o1,o2⟩:=O r mem_cons_self;obtain⟨M1,l1⟩:=yz.OR o1 o2 hL M a1;obtain⟨M2,l2⟩:=bP.OR hL (λr h=>O r (mem_cons_of_mem _ h)) M1 a2;exact⟨M2,by rw[length_cons];omega⟩
  .cases a2
theorem rL(fr:WN):∀(g:Nat) (l:WR (WM×Bool)) (r:bB),r∈gv fr g l->(r.1,r.2.isSome)∈l
 |g,[],r,h=>(nomatch h)
 |g,(m,true)::l,r,h=>by
  rw[gv] at h
  rcases mem_cons.mp h with rfl|h
  .exact mem_cons_self
  .exact mem_cons_of_mem _ (rL fr _ l r h)
 |g,(m,false)::l,r,h=>by
  rw[gv] at h
  rcases mem_cons.mp h with rfl|h
  .exact mem_cons_self
  .exact mem_cons_of_mem _ (rL fr _ l r h)
theorem Jb{zs:WN}{r:bB}(h:r∈cZ L zs ks n):r.2.isSome = !decide (r.1∈ks):=by
 have:=rL _ _ _ _ h;obtain⟨m,_,e⟩:=mem_map.mp this;injection e with e1 e2
 rw[<-e1,e2]
theorem LA{zs:WN}(h:m∈zs):∃r∈cZ L zs ks n,r.1=m:=by
 have:m∈(cZ L zs ks n).map (·.1):=by
  unfold cZ;rw[fT,pM,map_map];exact mem_map.mpr ⟨m,h,rfl⟩
 obtain⟨r,hr,e⟩:=mem_map.mp this;exact⟨r,hr,e⟩
theorem fF.few{m:Nat}(hL:2<=L)(R:fF L m n)(hm:m<=62):n<=6:=by
 rcases lt_or_ge 6 n with z|z
 .have h1:=R.less 6 z;have h2:2^6<=L^6:=Nat.pow_le_pow_left hL _;have h3:(2:Nat)^6=64:=by decide
  omega
 .exact z
theorem OS{k b:Nat}{zs:WN}(W:gi L kvs ks k b)(hL:2<=L)(hk:k<=60)(hb:b<=500)(A:CI kvs zs)(R:fF L (cU (pM zs ks)) n):bw L (cZ L zs ks n)/\Short (cZ L zs ks n):=by
 have zl:zs.length<=k:=by rw[A.perm.length_eq,length_map];exact W.few
 have sl:cU (pM zs ks)<=62:=by
  have:=vP (pM zs ks);rw[pM,length_map] at this;rw[pM];omega
 have n6:=R.few hL sl;have ol:(cZ L zs ks n).map (·.1)=zs:=by
  unfold cZ;rw[fT,pM,map_map];exact map_id _
 have nw:∀y∈cZ L zs ks n,∀z,y.2=some z->Mark L z/\z.length<=7:=λy hy z hz=>by
  have:z∈(cZ L zs ks n).filterMap (·.2):=mem_filterMap.mpr ⟨y,hy,hz⟩;rw[rm] at this;obtain⟨m1,m2⟩:=B0 (by omega) R z this;exact⟨m1,by omega⟩
 refine⟨⟨?_,λr hr=>?_,?_,λr hr z hz=>?_,?_⟩,⟨by have:=congrArg List.length ol;rw[length_map] at this;omega,λy hy z hz=>(nw y hy z hz).2⟩⟩
 .have:=A.up;rw[<-ol] at this;exact pairwise_map.mp this
 .have:=W.mark (A.perm.mem_iff.mp (pN hr));exact⟨this.1,by omega⟩
 .have:=FF (by omega) R;rw[<-rm (zs:=zs) (ks:=ks)] at this;exact(List.pairwise_filterMap.mp this).imp λh x y hx hy=>h x hx y hy
 .have:=nw r hr z hz;exact⟨this.1,by omega⟩
 .have:=congrArg List.length ol;rw[length_map] at this;omega
structure HK(L c:Nat)(Bs:WR rH)(Ts:WR rJ)(kn tk:Nat->Prop)(R:WR (WR bB))(kvs:WO)(ks:WN):Prop where
 nf:∃zs ws,Told kvs ks zs ws/\NF L R Bs Ts kn tk zs ws
 kw:gi L kvs ks Bs.length (c+8*R.length)
 ro:∀r∈R,bw L r/\Short r
theorem Af(kvs:WO)(ks:WN)(h:(kvs.map (·.1)).Nodup)(h':ks.Nodup):∃zs ws,Told kvs ks zs ws:=by
 obtain⟨ws,u,m⟩:=qZ ks;obtain⟨ms,u2,m2⟩:=qZ (kvs.map (·.1));have e:(ms.map λm=>(m,cG kvs m)).map (·.1)=ms:=by rw[map_map];exact map_id _
 refine⟨ms.map λm=>(m,cG kvs m),ws,⟨?_,by rw[e];exact u2,(List.perm_ext_iff_of_nodup (cO u) h').mpr m,u⟩⟩;have n1:(ms.map λm=>(m,cG kvs m)).Nodup:=by
  have:=cO u2;rw[<-e] at this;exact(pairwise_map.mp this).imp λh z=>h (by rw[z])
 have n2:kvs.Nodup:=(pairwise_map.mp h).imp λh z=>h (by rw[z]);refine(List.perm_ext_iff_of_nodup n1 n2).mpr λz=>?_;constructor
 .intro hz;obtain⟨m,hm,rfl⟩:=mem_map.mp hz;exact gH kvs ((m2 m).mp hm)
 .intro hz;refine mem_map.mpr ⟨z.1,(m2 _).mpr (mem_map_of_mem (f:=(·.1)) hz),?_⟩;exact Ej h (gH kvs (mem_map_of_mem (f:=(·.1)) hz)) hz rfl
section
variable{L c:Nat}{Bs:WR rH}{Ts:WR rJ}{kn tk:Nat->Prop}{R:WR (WR bB)}{kvs zs:WO}{ks ws:WN}
theorem NF.grow(A:NF L R Bs Ts kn tk zs ws)(hk:∀k,kn k->k<Bs.length)(ht:∀k,tk k->k<Ts.length)(Bx:WR rH)(Tx:WR rJ):NF L R (Bs++Bx) (Ts++Tx) kn tk zs ws:=by
 have e1:∀k,kn k->(Bs++Bx)[k]?=Bs[k]?:=λk h=>getElem?_append_left (hk k h);have e2:∀k,tk k->(Ts++Tx)[k]?=Ts[k]?:=λk h=>getElem?_append_left (ht k h);obtain⟨S,M,h⟩:=A.th;refine⟨⟨S,M,λq=>?_⟩,A.kup,λm=>?_,λk b hk e=>A.bag k b hk (by rw[<-e1 k hk];exact e),λk b hk e=>A.tag k b hk (by rw[<-e2 k hk];exact e)⟩
 .rw[h];constructor
  .rintro⟨k,b,a,e,x⟩;exact⟨k,b,a,by rw[e1 k a];exact e,x⟩
  .rintro⟨k,b,a,e,x⟩;exact⟨k,b,a,by rw[<-e1 k a];exact e,x⟩
 .rw[A.tks];constructor
  .rintro⟨k,b,a,e,x⟩;exact⟨k,b,a,by rw[e2 k a];exact e,x⟩
  .rintro⟨k,b,a,e,x⟩;exact⟨k,b,a,by rw[<-e2 k a];exact e,x⟩
theorem l6{x:WM}:bP L [] m (some x)↔x=m:=by
 show some x=some m↔_;simp
theorem HK.put(A:HK L c Bs Ts kn tk R kvs ks)(hk:∀k,kn k->k<Bs.length)(ht:∀k,tk k->k<Ts.length){t:WM}(hm:Mark L m)(hl:m.length<=c+8*R.length+1)(th:Thing t)(hn:¬m∈kvs.map (·.1)):
  HK L (c+1) (Bs++[(R.length,m,t)]) Ts (λk=>kn k\/k=Bs.length) tk R (kvs++[(m,t)]) ks:=by
 obtain⟨zs,ws,T,N⟩:=A.nf;have kw:=A.kw.put hm hl th hn;obtain⟨zs2,ws2,T2⟩:=Af (kvs++[(m,t)]) ks kw.nd kw.tnd;have ew:ws2=ws:=jF (T2.tperm.trans T.tperm.symm) T2.tup T.tup;subst ew;have N':=N.grow hk ht [(R.length,m,t)] [];rw[append_nil] at N';obtain⟨S,M,h⟩:=N'.th;refine⟨⟨zs2,ws2,T2,⟨S++[(m,t)],⟨T2.up,λz hz=>?_,λq hq=>?_⟩,λq=>?_⟩,N'.kup,N'.tks,λk b hk' e=>?_,N'.tag⟩,⟨kw.nd,λkv h=>by have:=kw.mar kv h;exact⟨this.1,by omega,this.2.2⟩,by have:=kw.few;rw[length_append];simpa using this,kw.sub,kw.tnd⟩,A.ro⟩
 .rcases mem_append.mp (T2.perm.mem_iff.mp hz) with hz|hz
  .exact mem_append_left _ (M.mem z (T.perm.mem_iff.mpr hz))
  .exact mem_append_right _ hz
 .rcases mem_append.mp hq with hq|hq
  .obtain⟨z,hz,e⟩:=M.all q hq;exact⟨z,T2.perm.mem_iff.mpr (mem_append_left _ (T.perm.mem_iff.mp hz)),e⟩
  .exact⟨q,T2.perm.mem_iff.mpr (mem_append_right _ hq),rfl,List.lt_irrefl _⟩
 .rw[mem_append,h];constructor
  .rintro(⟨k,b,a,x⟩|hq)
   .exact⟨k,b,.inl a,x⟩
   .rw[mem_singleton.mp hq];refine⟨Bs.length,(R.length,m,t),.inr rfl,by rw[getElem?_append_right (le_refl _),sub_self];rfl,?_,rfl⟩;show bP L (R.drop R.length) m (some m);rw[drop_length];exact l6.mpr rfl
  .rintro⟨k,b,a|rfl,e,x1,x2⟩
   .exact .inl ⟨k,b,a,e,x1,x2⟩
   .rw[getElem?_append_right (le_refl _),sub_self] at e;injection e with e
    subst e;have x1:bP L (R.drop R.length) m (some q.1):=x1;rw[drop_length,l6] at x1;exact .inr (mem_singleton.mpr (Prod.ext x1 x2.symm))
 .rcases hk' with a|rfl
  .exact N'.bag k b a e
  .rw[getElem?_append_right (le_refl _),sub_self] at e;injection e with e
   subst e;exact le_refl _
theorem HK.take(A:HK L c Bs Ts kn tk R kvs ks)(hk:∀k,kn k->k<Bs.length)(ht:∀k,tk k->k<Ts.length)(hm:m∈kvs.map (·.1))(hn:¬m∈ks):
  HK L c Bs (Ts++[(R.length,m)]) kn (λk=>tk k\/k=Ts.length) R kvs (ks++[m]):=by
 obtain⟨zs,ws,T,N⟩:=A.nf;have kw:=A.kw.take hm hn;obtain⟨zs2,ws2,T2⟩:=Af kvs (ks++[m]) kw.nd kw.tnd;have ez:zs2=zs:=up_eq T2.up T.up λz=>(T2.perm.mem_iff).trans T.perm.mem_iff.symm;subst ez;have N':=N.grow hk ht [] [(R.length,m)];rw[append_nil] at N';refine⟨⟨zs2,ws2,T2,N'.th,T2.tup,λy=>?_,N'.bag,λk b hk' e=>?_⟩,kw,A.ro⟩
 .rw[T2.tperm.mem_iff,mem_append,<-T.tperm.mem_iff,N'.tks];constructor
  .rintro(⟨k,b,a,x⟩|hq)
   .exact⟨k,b,.inl a,x⟩
   .rw[mem_singleton.mp hq];refine⟨Ts.length,(R.length,m),.inr rfl,by rw[getElem?_append_right (le_refl _),sub_self];rfl,?_⟩;show bP L (R.drop R.length) m (some m);rw[drop_length];exact l6.mpr rfl
  .rintro⟨k,b,a|rfl,e,x1⟩
   .exact .inl ⟨k,b,a,e,x1⟩
   .rw[getElem?_append_right (le_refl _),sub_self] at e;injection e with e
    subst e;have x1:bP L (R.drop R.length) m (some y):=x1;rw[drop_length,l6] at x1;exact .inr (mem_singleton.mpr x1)
 .rcases hk' with a|rfl
  .exact N'.tag k b a e
  .rw[getElem?_append_right (le_refl _),sub_self] at e;injection e with e
   subst e;exact le_refl _
end
section
variable{L c:Nat}{Bs:WR rH}{Ts:WR rJ}{kn tk kn' tk':Nat->Prop}{R:WR (WR bB)}{kvs zs zs' xs:WO}{ks ws ws' js:WN}
theorem rM{α:Type}{R:WR α}{r:α}(h:i<=R.length):(R++[r]).drop i=R.drop i++[r]:=List.drop_append_of_le_length h
theorem rN{r:WR bB}{x:WM}:bP L [r] m (some x)↔yz L r m (some x):=by
 constructor
 .rintro(⟨y,c,e⟩|⟨_,e⟩)
  .have e:some x=some y:=e;injection e with e
   rw[e];exact c
  .cases e
 .intro h;exact .inl ⟨x,h,rfl⟩
theorem HK.yG{ms:WN}(A:HK L c Bs Ts kn tk R kvs ks)(hL:2<=L)(hB:Bs.length<=60)(hc:c+8*R.length<=500)(AK:CI kvs ms)(IR:fF L (cU (pM ms ks)) n):HK L c Bs Ts kn tk (R++[cZ L ms ks n]) (eB kvs (cZ L ms ks n)) []:=by
 obtain⟨zs,ws,T,N⟩:=A.nf;obtain⟨O,Sh⟩:=OS A.kw hL hB hc AK IR;have kw:=A.kw.yG hL AK IR;have row:∀m∈kvs.map (·.1),∃r∈cZ L ms ks n,r.1=m:=λm hm=>LA (AK.perm.mem_iff.mpr hm);have PB:∀r∈cZ L ms ks n,r.2.isSome = !decide (r.1∈ks):=λr hr=>Jb hr;have old:∀r∈cZ L ms ks n,r.1∈kvs.map (·.1):=λr hr=>AK.perm.mem_iff.mp (pN hr);generalize cZ L ms ks n=rw at O Sh kw row PB old;obtain⟨zs2,ws2,T2⟩:=Af (eB kvs rw) [] kw.nd nodup_nil;have ew:ws2=[]:=List.perm_nil.mp T2.tperm;subst ew;obtain⟨S,M,h⟩:=N.th;obtain⟨S',h'⟩:=nO hL (D:=[rw]) (λr hr=>by rw[mem_singleton.mp hr];exact O) S;have mk:∀z,z∈zs2↔∃r∈rw,r.2=some z.1/\z.2=cG kvs r.1:=λz=>by
  rw[T2.perm.mem_iff];unfold eB;rw[mem_filterMap];constructor
  .rintro⟨r,hr,e⟩;obtain⟨y,e1,e2⟩:=map_eq_some_iff.mp e;subst e2;exact⟨r,hr,e1,rfl⟩
  .rintro⟨r,hr,e1,e2⟩;exact⟨r,hr,by rw[e1];show some (z.1,cG kvs r.1)=some z;rw[<-e2]⟩
 refine⟨⟨zs2,[],T2,⟨S',⟨T2.up,λz hz=>?_,λq hq=>?_⟩,λq=>?_⟩,T2.tup,λm=>⟨λz=>(nomatch z),?_⟩,λk b hk e=>?_,λk b hk e=>?_⟩,⟨kw.nd,λkv hkv=>?_,kw.few,kw.sub,kw.tnd⟩,λr hr=>?_⟩
 .obtain⟨r,hr,e1,e2⟩:=(mk z).mp hz;refine(h' z).mpr ⟨(r.1,cG kvs r.1),M.mem _ (T.perm.mem_iff.mpr (gH kvs (old r hr))),rN.mpr (.inl ⟨r,hr,rfl,e1.symm⟩),e2.symm⟩
 .obtain⟨s,hs,cs,es⟩:=(h' q).mp hq;obtain⟨z,hz,e1,n1⟩:=M.all s hs;have zk:=T.perm.mem_iff.mp hz;have zm:s.1∈kvs.map (·.1):=by rw[<-e1];exact mem_map_of_mem (f:=(·.1)) zk
  obtain⟨r,hr,er⟩:=row _ zm;have e2:=yz.one O hL (rN.mp cs) (.inl ⟨r,hr,er,rfl⟩);have e3:(s.1,cG kvs s.1)=z:=Ej A.kw.nd (gH kvs zm) zk e1.symm;refine⟨(q.1,cG kvs s.1),(mk _).mpr ⟨r,hr,e2.symm,by rw[er]⟩,rfl,?_⟩;rw[<-es];rw[<-e3] at n1;exact n1
 .rw[h'];constructor
  .rintro⟨s,hs,cs,es⟩;obtain⟨k,b,a,e,x1,x2⟩:=(h s).mp hs;exact⟨k,b,a,e,by rw[rM (N.bag k b a e)];exact bP.app.mpr ⟨s.1,x1,cs⟩,x2.trans es⟩
  .rintro⟨k,b,a,e,x1,x2⟩;rw[rM (N.bag k b a e)] at x1;obtain⟨y,y1,y2⟩:=bP.app.mp x1;exact⟨(y,q.2),(h _).mpr ⟨k,b,a,e,y1,x2⟩,y2,rfl⟩
 .rintro⟨k,b,a,e,x1⟩;rw[rM (N.tag k b a e)] at x1;obtain⟨y,y1,y2⟩:=bP.app.mp x1;have yk:y∈ks:=T.tperm.mem_iff.mp ((N.tks y).mpr ⟨k,b,a,e,y1⟩);obtain⟨r,hr,er⟩:=row y (A.kw.sub y yk);have e2:=yz.one O hL (rN.mp y2) (.inl ⟨r,hr,er,rfl⟩);have e3:=PB r hr;rw[<-e2,er,decide_eq_true yk] at e3;cases e3
 .rw[length_append];have:=N.bag k b hk e;omega
 .rw[length_append];have:=N.tag k b hk e;omega
 .have:=kw.mar kv hkv;have h1:kv.1∈(eB kvs rw).map (·.1):=mem_map_of_mem (f:=(·.1)) hkv;rw[lY] at h1;obtain⟨r,hr,e⟩:=mem_filterMap.mp h1;have:=Sh.2 r hr _ e;refine⟨(kw.mar kv hkv).1,?_,(kw.mar kv hkv).2.2⟩;rw[length_append];simp only[length_cons,length_nil];omega
 .rcases mem_append.mp hr with hr|hr
  .exact A.ro r hr
  .rw[mem_singleton.mp hr];exact⟨O,Sh⟩
structure SK(L c:Nat)(Bs:WR rH)(Ts:WR rJ)(kn tk:Nat->Prop)(R:WR (WR bB))(zs:WO)(ws:WN):Prop where
 nf:NF L R Bs Ts kn tk zs ws
 mar:∀z∈zs,Mark L z.1/\z.1.length<=c+8*R.length/\Thing z.2
 sub:∀m∈ws,m∈zs.map (·.1)
 ro:∀r∈R,bw L r/\Short r
theorem HK.told(A:HK L c Bs Ts kn tk R kvs ks)(T:Told kvs ks zs ws):SK L c Bs Ts kn tk R zs ws:=by
 obtain⟨zs0,ws0,T0,N⟩:=A.nf;obtain⟨rfl,rfl⟩:=T.one T0;exact⟨N,λz hz=>A.kw.mar z (T.perm.mem_iff.mp hz),λm hm=>(T.perm.map _).mem_iff.mpr (A.kw.sub m (T.tperm.mem_iff.mp hm)),A.ro⟩
theorem SK.hk(A:SK L c Bs Ts kn tk R zs ws)(hL:2<=L):HK L c Bs Ts kn tk R zs ws:=
 ⟨⟨zs,ws,⟨.refl _,A.nf.up,.refl _,A.nf.kup⟩,A.nf⟩,⟨cO A.nf.up,A.mar,(A.nf.len hL λr hr=>(A.ro r hr).1).1,A.sub,cO A.nf.kup⟩,A.ro⟩
theorem SK.grow(A:SK L c Bs Ts kn tk R zs ws)(hk:∀k,kn k->k<Bs.length)(ht:∀k,tk k->k<Ts.length)(Bx:WR rH)(Tx:WR rJ)(hc:c<=c'):SK L c' (Bs++Bx) (Ts++Tx) kn tk R zs ws:=
 ⟨A.nf.grow hk ht Bx Tx,λz hz=>by have:=A.mar z hz;exact⟨this.1,by omega,this.2.2⟩,A.sub,A.ro⟩
theorem HK.grow(A:HK L c Bs Ts kn tk R kvs ks)(hk:∀k,kn k->k<Bs.length)(ht:∀k,tk k->k<Ts.length)(Bx:WR rH)(Tx:WR rJ)(hc:c<=c'):HK L c' (Bs++Bx) (Ts++Tx) kn tk R kvs ks:=by
 obtain⟨zs,ws,T,N⟩:=A.nf;exact⟨⟨zs,ws,T,N.grow hk ht Bx Tx⟩,⟨A.kw.nd,λz hz=>by have:=A.kw.mar z hz;exact⟨this.1,by omega,this.2.2⟩,by have:=A.kw.few;rw[length_append];omega,A.kw.sub,A.kw.tnd⟩,A.ro⟩
theorem SK.join(A:SK L c Bs Ts kn tk (R.take n) zs ws)(B:SK L c Bs Ts kn' tk' R zs' ws')(hL:2<=L)(hn:n<=R.length)(l:Laid L (R.drop n) zs ws zs' ws' xs js):SK L c Bs Ts (λk=>kn k\/kn' k) (λk=>tk k\/tk' k) R xs js:=by
 have O:∀r∈R,bw L r:=λr hr=>(B.ro r hr).1;have OD:∀r∈R.drop n,bw L r/\Short r:=λr hr=>B.ro r (drop_subset _ _ hr);obtain⟨S,M,h⟩:=l.th;refine⟨A.nf.join hL O hn B.nf l,λz hz=>?_,λm hm=>?_,B.ro⟩
 .rcases (h z).mp (M.mem z hz) with⟨z0,h0,c0,e0⟩|h0
  .obtain⟨m1,m2,m3⟩:=A.mar z0 h0;obtain⟨a,b⟩:=c0.OR hL OD m1;rw[length_take,min_eq_left hn] at m2;rw[length_drop] at b;exact⟨a,by omega,by rw[<-e0];exact m3⟩
  .exact B.mar z h0
 .have put:∀q:WM×WM,q∈S->q.1∈xs.map (·.1):=λq hq=>by
   obtain⟨z,hz,e,_⟩:=M.all q hq;rw[<-e];exact mem_map_of_mem (f:=(·.1)) hz
  rcases (l.tk m).mp hm with⟨w,hw,cw⟩|hw
  .obtain⟨z,hz,e⟩:=mem_map.mp (A.sub w hw);exact put (m,z.2) ((h _).mpr (.inl ⟨z,hz,by rw[e];exact cw,rfl⟩))
  .obtain⟨z,hz,e⟩:=mem_map.mp (B.sub m hw);have:=put z ((h _).mpr (.inr hz));rw[e] at this;exact this
theorem SK.Cp(A:SK L c Bs Ts kn tk (R.take n) zs ws)(B:SK L c Bs Ts kn' tk' R zs' ws')(hL:2<=L)(dY:L<=26)(hn:n<=R.length)(few:R.length<=100)(hB:Bs.length<=31)(hT:Ts.length<=31)(hc:c<=1000):FO L n R zs ws zs' ws':=by
 have O:∀r∈R,bw L r:=λr hr=>(B.ro r hr).1;have a:=A.nf.len hL λr hr=>(A.ro r hr).1;have b:=B.nf.len hL O;have zm:∀m∈zs.map (·.1),Mark L m/\m.length<=30000:=λm hm=>by
  obtain⟨z,hz,rfl⟩:=mem_map.mp hm;obtain⟨m1,m2,_⟩:=A.mar z hz;rw[length_take] at m2;exact⟨m1,by omega⟩
 refine⟨hL,dY,hn,few,O,λm hm=>?_,by omega,by omega,by omega⟩
 rcases mem_append.mp hm with h|h
 .exact zm m h
 .exact zm m (A.sub m h)
end
theorem jg.keep{x pt:Addr}(S:jg C H x dx pr pt pk L h j kvs ks)(k:Keeps F H H')(n1:x∉F)(n2:dx∉F)(n3:pt∉F)(n4:pk∉F):jg C H' x dx pr pt pk L h j kvs ks:=
 ⟨k _ _ S.ins n1,k _ _ S.own n2,k _ _ S.tho n3,k _ _ S.tak n4,S.apart⟩
theorem Jt.keep{R:WR (WR bB)}(A:Jt H pr as R)(k:Keeps F H H')(ht:∀t∈F,∀ys,H t≠some (.tup ys))(n1:pr∉F)(n2:∀a∈as,a∉F):Jt H' pr as R:=
 ⟨k _ _ A.lst n1,A.row.keep k ht n2,A.out⟩
theorem bu.mem{R:WR (WR bB)}(h:bu H as R)(ha:a∈as):∃xs,H a=some (.lst xs):=by
 obtain⟨i,hi,e⟩:=mem_iff_getElem.mp ha;obtain⟨r,xs,_,e2,_⟩:=h.get (i:=i) (a:=a) (by rw[getElem?_eq_getElem hi,e]);exact⟨xs,e2⟩
structure HR where
 (x dx pr pt pk:Addr) (as:WR Addr) (j n:Nat) (kvs:WO) (ks:WN) (kn tk:Nat->Prop)
def yJ(f:Nat->HR)(i:Nat)(r:HR):Nat->HR:=λk=>if k=i then r else f k
theorem aN{f:Nat->HR}{r:HR}:yJ f i r i=r:=if_pos rfl
theorem aV{f:Nat->HR}{k:Nat}{r:HR}(h:k≠i):yJ f i r k=f k:=if_neg h
structure iN(C:Addr)(H0 H:Hp)(L h c:Nat)(Bs:WR rH)(Ts:WR rJ)(RR:WR (WR bB))(N:Nat)(f:Nat->HR):Prop where
 hnd:∀i,i<N->jg C H (f i).x (f i).dx (f i).pr (f i).pt (f i).pk L h (f i).j (f i).kvs (f i).ks
 ren:∀i,i<N->Jt H (f i).pr (f i).as (RR.take (f i).n)
 hk:∀i,i<N->HK L c Bs Ts (f i).kn (f i).tk (RR.take (f i).n) (f i).kvs (f i).ks
 kb:∀i,i<N->∀k,(f i).kn k->k<Bs.length
 tb:∀i,i<N->∀k,(f i).tk k->k<Ts.length
 nl:∀i,i<N->(f i).n<=RR.length
 n0:(f 0).n=RR.length
 hs:∀i,i<N->jZ L h (f i).j
 j0:(f 0).j=0
 pos:0<N
 ax:∀i,i<N->∀k,k<N->i≠k->(f i).x≠(f k).x
 at_:∀i,i<N->∀k,k<N->i≠k->(f i).pt≠(f k).pt
 ak:∀i,i<N->∀k,k<N->i≠k->(f i).pk≠(f k).pk
 atk:∀i,i<N->∀k,k<N->(f i).pt≠(f k).pk
 ar:∀i,i<N->i≠0->(f i).pr≠(f 0).pr
 aa:∀i,i<N->¬(f 0).pr∈(f i).as
 bs:aI H0 H
 f0:∀i,i<N->H0 (f i).x=none/\H0 (f i).pt=none/\H0 (f i).pk=none/\H0 (f i).pr=none
section
variable{C:Addr}{H0 H H':Hp}{L h c c':Nat}{Bs Bx:WR rH}{Ts Tx:WR rJ}{RR Rx:WR (WR bB)}{N i0:Nat}{f:Nat->HR}{F:WR Addr}{r:HR}
theorem nV{o u:HO}(e:H a=some o)(g:H b=some u)(n:o≠u):a≠b:=λz=>by
 subst z;rw[e] at g;exact n (Option.some.inj g)
theorem iN.same(T:iN C H0 H L h c Bs Ts RR N f)(s:aI H H'):iN C H0 H' L h c Bs Ts RR N f:=
 {T with hnd:=λi hi=>(T.hnd i hi).same s,ren:=λi hi=>(T.ren i hi).same s,bs:=T.bs.trans s}
def Wr(f:Nat->HR)(i0:Nat)(F:WR Addr):Prop:=∀t∈F,t=(f i0).x\/t=(f i0).pt\/t=(f i0).pk\/(t=(f i0).pr/\i0=0)
theorem iN.FT(T:iN C H0 H L h c Bs Ts RR N f)(hi0:i0<N)(hF:Wr f i0 F):∀t∈F,∀ys,H t≠some (.tup ys):=λt ht ys e=>by
 have S:=T.hnd i0 hi0
 rcases hF t ht with z|z|z|⟨z,_⟩
 .exact nV e S.ins (λq=>by cases q) z
 .exact nV e S.tho (λq=>by cases q) z
 .exact nV e S.tak (λq=>by cases q) z
 .exact nV e (T.ren i0 hi0).lst (λq=>by cases q) z
theorem iN.out(T:iN C H0 H L h c Bs Ts RR N f)(hi0:i0<N)(hF:Wr f i0 F)(hi:i<N)(ne:i≠i0):
  (f i).x∉F/\(f i).dx∉F/\(f i).pt∉F/\(f i).pk∉F/\(f i).pr∉F/\∀a∈(f i).as,a∉F:=by
 have S:=T.hnd i0 hi0;have S':=T.hnd i hi;have A:=T.ren i0 hi0;have A':=T.ren i hi;refine⟨λz=>?_,λz=>?_,λz=>?_,λz=>?_,λz=>?_,λa ha z=>?_⟩
 .rcases hF _ z with z|z|z|⟨z,_⟩
  .exact T.ax i hi i0 hi0 ne z
  .exact nV S'.ins S.tho (λq=>by cases q) z
  .exact nV S'.ins S.tak (λq=>by cases q) z
  .exact nV S'.ins A.lst (λq=>by cases q) z
 .rcases hF _ z with z|z|z|⟨z,_⟩
  .exact nV S'.own S.ins (λq=>by cases q) z
  .exact nV S'.own S.tho (λq=>by cases q) z
  .exact nV S'.own S.tak (λq=>by cases q) z
  .exact nV S'.own A.lst (λq=>by cases q) z
 .rcases hF _ z with z|z|z|⟨z,_⟩
  .exact nV S'.tho S.ins (λq=>by cases q) z
  .exact T.at_ i hi i0 hi0 ne z
  .exact T.atk i hi i0 hi0 z
  .exact nV S'.tho A.lst (λq=>by cases q) z
 .rcases hF _ z with z|z|z|⟨z,_⟩
  .exact nV S'.tak S.ins (λq=>by cases q) z
  .exact T.atk i0 hi0 i hi z.symm
  .exact T.ak i hi i0 hi0 ne z
  .exact nV S'.tak A.lst (λq=>by cases q) z
 .rcases hF _ z with z|z|z|⟨z,e⟩
  .exact nV A'.lst S.ins (λq=>by cases q) z
  .exact nV A'.lst S.tho (λq=>by cases q) z
  .exact nV A'.lst S.tak (λq=>by cases q) z
  .subst e;exact T.ar i hi ne z
 .obtain⟨xs,e⟩:=A'.row.mem ha
  rcases hF _ z with z|z|z|⟨z,e0⟩
  .exact nV e S.ins (λq=>by cases q) z
  .exact nV e S.tho (λq=>by cases q) z
  .exact nV e S.tak (λq=>by cases q) z
  .subst e0;exact T.aa i hi (by rw[<-z];exact ha)
theorem fresh_ne{o:HO}(e:H a=some o)(g:H b=none):a≠b:=λz=>by subst z;rw[e] at g;cases g
theorem iN.move(T:iN C H0 H L h c Bs Ts RR N f)(hi0:i0<N)(k:Keeps F H H')(hF:Wr f i0 F)(rx:r.x=(f i0).x)(rj:r.j=(f i0).j)
  (S:jg C H' r.x r.dx r.pr r.pt r.pk L h r.j r.kvs r.ks) (A:Jt H' r.pr r.as ((RR++Rx).take r.n)) (W:HK L c' (Bs++Bx) (Ts++Tx) r.kn r.tk ((RR++Rx).take r.n) r.kvs r.ks) (hc:c<=c')
  (kb:∀k,r.kn k->k<(Bs++Bx).length) (tb:∀k,r.tk k->k<(Ts++Tx).length) (rn:r.n<=(RR++Rx).length) (n0:i0=0->r.n=(RR++Rx).length) (r0:i0≠0->Rx=[])
  (fpt:r.pt=(f i0).pt\/H r.pt=none) (fpk:r.pk=(f i0).pk\/H r.pk=none) (fpr:r.pr=(f i0).pr\/H r.pr=none) (fas:∀a∈r.as,a∈(f i0).as\/H a=none):
  iN C H0 H' L h c' (Bs++Bx) (Ts++Tx) (RR++Rx) N (yJ f i0 r):=by
 have tk:∀i,i<N->(RR++Rx).take (f i).n=RR.take (f i).n:=λi hi=>List.take_append_of_le_length (T.nl i hi);have S0:=T.hnd i0 hi0;have g0:=T.f0 i0 hi0;have upt:∀i,i<N->i≠i0->(f i).pt≠r.pt/\(f i).pk≠r.pt:=λi hi ne=>by
  rcases fpt with e|e
  .rw[e];exact⟨T.at_ i hi i0 hi0 ne,λz=>T.atk i0 hi0 i hi z.symm⟩
  .exact⟨fresh_ne (T.hnd i hi).tho e,fresh_ne (T.hnd i hi).tak e⟩
 have upk:∀i,i<N->i≠i0->(f i).pk≠r.pk/\(f i).pt≠r.pk:=λi hi ne=>by
  rcases fpk with e|e
  .rw[e];exact⟨T.ak i hi i0 hi0 ne,T.atk i hi i0 hi0⟩
  .exact⟨fresh_ne (T.hnd i hi).tak e,fresh_ne (T.hnd i hi).tho e⟩
 have free:∀{b:Addr},H b=none->H0 b=none:=λe=>T.bs.bO e;have f0':H0 r.x=none/\H0 r.pt=none/\H0 r.pk=none/\H0 r.pr=none:=by
  refine⟨by rw[rx];exact g0.1,?_,?_,?_⟩
  .rcases fpt with e|e
   .rw[e];exact g0.2.1
   .exact free e
  .rcases fpk with e|e
   .rw[e];exact g0.2.2.1
   .exact free e
  .rcases fpr with e|e
   .rw[e];exact g0.2.2.2
   .exact free e
 have hF0:∀t∈F,H0 t=none:=λt ht=>by
  rcases hF t ht with z|z|z|⟨z,_⟩<;>rw[z]
  .exact g0.1
  .exact g0.2.1
  .exact g0.2.2.1
  .exact g0.2.2.2
 refine {hnd:=λi hi=>?_,ren:=λi hi=>?_,hk:=λi hi=>?_,kb:=λi hi=>?_,tb:=λi hi=>?_,nl:=λi hi=>?_,n0:=?_,hs:=λi hi=>?_,j0:=?_,pos:=T.pos,ax:=λi hi k hk ne=>?_,at_:=λi hi k hk ne=>?_,ak:=λi hi k hk ne=>?_,atk:=λi hi k hk=>?_,ar:=λi hi ne=>?_,aa:=λi hi=>?_,bs:=cj T.bs k hF0,f0:=λi hi=>?_}
 .by_cases e:i=i0
  .subst e;rw[aN];exact S
  .rw[aV e];obtain⟨o1,o2,o3,o4,_,_⟩:=T.out hi0 hF hi e;exact(T.hnd i hi).keep k o1 o2 o3 o4
 .by_cases e:i=i0
  .subst e;rw[aN];exact A
  .rw[aV e,tk i hi];obtain⟨_,_,_,_,o5,o6⟩:=T.out hi0 hF hi e;exact(T.ren i hi).keep k (T.FT hi0 hF) o5 o6
 .by_cases e:i=i0
  .subst e;rw[aN];exact W
  .rw[aV e,tk i hi];exact(T.hk i hi).grow (T.kb i hi) (T.tb i hi) Bx Tx hc
 .by_cases e:i=i0
  .subst e;rw[aN];exact kb
  .rw[aV e,length_append];intro k hk;have:=T.kb i hi k hk;omega
 .by_cases e:i=i0
  .subst e;rw[aN];exact tb
  .rw[aV e,length_append];intro k hk;have:=T.tb i hi k hk;omega
 .by_cases e:i=i0
  .subst e;rw[aN];exact rn
  .rw[aV e,length_append];have:=T.nl i hi;omega
 .by_cases e:(0:Nat)=i0
  .subst e;rw[aN];exact n0 rfl
  .rw[aV e,r0 (λz=>e z.symm),append_nil];exact T.n0
 .by_cases e:i=i0
  .subst e;rw[aN,rj];exact T.hs i hi
  .rw[aV e];exact T.hs i hi
 .by_cases e:(0:Nat)=i0
  .subst e;rw[aN,rj];exact T.j0
  .rw[aV e];exact T.j0
 .by_cases e:i=i0
  .subst e;rw[aN,aV (Ne.symm ne),rx];exact T.ax i hi k hk ne
  .rw[aV e]
   by_cases e2:k=i0
   .subst e2;rw[aN,rx];exact T.ax i hi k hk ne
   .rw[aV e2];exact T.ax i hi k hk ne
 .by_cases e:i=i0
  .subst e;rw[aN,aV (Ne.symm ne)];exact Ne.symm (upt k hk (Ne.symm ne)).1
  .rw[aV e]
   by_cases e2:k=i0
   .subst e2;rw[aN];exact(upt i hi e).1
   .rw[aV e2];exact T.at_ i hi k hk ne
 .by_cases e:i=i0
  .subst e;rw[aN,aV (Ne.symm ne)];exact Ne.symm (upk k hk (Ne.symm ne)).1
  .rw[aV e]
   by_cases e2:k=i0
   .subst e2;rw[aN];exact(upk i hi e).1
   .rw[aV e2];exact T.ak i hi k hk ne
 .by_cases e:i=i0
  .subst e;rw[aN]
   by_cases e2:k=i
   .subst e2;rw[aN];exact S.apart
   .rw[aV e2];exact Ne.symm (upt k hk e2).2
  .rw[aV e]
   by_cases e2:k=i0
   .subst e2;rw[aN];exact(upk i hi e).2
   .rw[aV e2];exact T.atk i hi k hk
 .by_cases e:i=i0
  .subst e;rw[aN,aV (Ne.symm ne)]
   rcases fpr with z|z
   .rw[z];exact T.ar i hi ne
   .exact Ne.symm (fresh_ne (T.ren 0 T.pos).lst z)
  .rw[aV e]
   by_cases e2:(0:Nat)=i0
   .subst e2;rw[aN]
    rcases fpr with z|z
    .rw[z];exact T.ar i hi ne
    .exact fresh_ne (T.ren i hi).lst z
   .rw[aV e2];exact T.ar i hi ne
 .by_cases e2:(0:Nat)=i0
  .subst e2;rw[aN]
   by_cases e:i=0
   .subst e;rw[aN];exact A.out
   .rw[aV e]
    rcases fpr with z|z
    .rw[z];exact T.aa i hi
    .intro y;obtain⟨xs,w⟩:=(T.ren i hi).row.mem y;rw[z] at w;cases w
  .rw[aV e2]
   by_cases e:i=i0
   .subst e;rw[aN];intro y
    rcases fas _ y with z|z
    .exact T.aa i hi z
    .rw[(T.ren 0 T.pos).lst] at z;cases z
   .rw[aV e];exact T.aa i hi
 .by_cases e:i=i0
  .subst e;rw[aN];exact f0'
  .rw[aV e];exact T.f0 i hi
def xB(pr:Addr)(H H':Hp):Prop:=∀b,b≠pr->(∀xs,H b=some (.lst xs)->H' b=some (.lst xs))/\∀xs,H b=some (.tup xs)->H' b=some (.tup xs)
theorem iN.klt(T:iN C H0 H L h c Bs Ts RR N f)(hi0:i0<N)(k:Keeps F H H')(hF:Wr f i0 F):xB (f 0).pr H H':=λb ne=>by
 have S:=T.hnd i0 hi0;refine⟨λxs e=>k _ _ e λz=>?_,λxs e=>k _ _ e λz=>T.FT hi0 hF b z xs e⟩
 rcases hF _ z with z|z|z|⟨z,e0⟩
 .exact nV e S.ins (λq=>by cases q) z
 .exact nV e S.tho (λq=>by cases q) z
 .exact nV e S.tak (λq=>by cases q) z
 .subst e0;exact ne z
theorem xB.of_same(s:aI H H'):xB pr H H':=λb _=>⟨λ_ e=>s _ _ e,λ_ e=>s _ _ e⟩
theorem xB.trans{H1:Hp}(a:xB pr H H1)(b:xB pr H1 H'):xB pr H H':=λx ne=>⟨λxs e=>(b x ne).1 xs ((a x ne).1 xs e),λxs e=>(b x ne).2 xs ((a x ne).2 xs e)⟩
theorem bu.klt(k:xB pr H H')(hp:∃xs,H pr=some (.lst xs)):∀{as:WR Addr} {R:WR (WR bB)},¬pr∈as->bu H as R->bu H' as R
 |[],[],_,_=>trivial
 |[],_::_,_,h=>h.elim
 |_::_,[],_,h=>h.elim
 |a::_,_::_,n,⟨⟨xs,e,p⟩,r⟩=>⟨⟨xs,(k a λz=>n (by rw[z];exact mem_cons_self)).1 _ e,p.keep λt ys e=>(k t (by obtain⟨xs,g⟩:=hp;exact nV e g λq=>by cases q)).2 _ e⟩,bu.klt k hp (λz=>n (mem_cons_of_mem _ z)) r⟩
theorem j7.klt{bs:WR Addr}{R:WR (WR bB)}(A:j7 H p p1 p2 p3 bs ts L h R zs ws)(k:xB pr H H')(hp:∃xs,H pr=some (.lst xs))(n:¬pr∈p1::p2::p3::bs):j7 H' p p1 p2 p3 bs ts L h R zs ws:=by
 have tt:∀t ys,H t=some (.tup ys)->H' t=some (.tup ys):=λt ys e=>(k t (by obtain⟨xs,g⟩:=hp;exact nV e g λq=>by cases q)).2 _ e;simp only[mem_cons,not_or] at n;exact⟨tt _ _ A.top,(k _ (Ne.symm n.1)).1 _ A.ren,A.row.klt k hp n.2.2.2,(k _ (Ne.symm n.2.1)).1 _ A.thi,A.prs.keep tt,(k _ (Ne.symm n.2.2.1)).1 _ A.tak⟩
end
section
variable{C:Addr}{H0 H H':Hp}{L h c c':Nat}{Bs:WR rH}{Ts:WR rJ}{RR:WR (WR bB)}{N i:Nat}{f:Nat->HR}{Q:VK}{E:XK}
theorem iN.rl(T:iN C H0 H L h c Bs Ts RR N f)(hi:i<N):(RR.take (f i).n).length=(f i).n:=by rw[length_take,min_eq_left (T.nl i hi)]
theorem iN.put{ct cp:Addr}{t:WM}{p:Int}(T:iN C H0 H L h c Bs Ts RR N f)(hi:i<N)(hB:Bs.length<=62)(hb:c+8*RR.length<=998)(th:Thing t)
  (q:∀zs,pJ (f i).kvs (f i).ks zs->(0<=p/\p<=zs.length)/\∀H' v n w m,jE (f i).kvs (gu zs p.toNat) v->Found L (bC L h (f i).j) (gu zs p.toNat) v n w m->
   iN C H0 H' L h (c+1) (Bs++[((f i).n,m,t)]) Ts RR N (yJ f i {f i with kvs:=(f i).kvs++[(m,t)],kn:=λk=>(f i).kn k\/k=Bs.length})->xB (f 0).pr H H'->Q (.str (txt m)) H'):
  wg C ct cp [.ref (f i).x,.int p,.str (txt t)] H Q E:=by
 have W:=T.hk i hi;have rl:=T.rl hi;have nl:=T.nl i hi;refine⟨(f i).x,(f i).dx,(f i).pr,(f i).pt,(f i).pk,L,h,(f i).j,(f i).kvs,(f i).ks,Bs.length,c+8*(RR.take (f i).n).length,p,t,rfl,T.hnd i hi,T.hs i hi,W.kw,hB,by omega,Nat.le_trans th.2.1 (by decide),λz=>absurd th z,λzs sh=>⟨λ_ _ H' v n w m k F1 F2 S K=>?_,λ_ z=>absurd (q zs sh).1 z⟩⟩
 have mm:=K.mar (m,t) (mem_append_right _ mem_cons_self);have nm:¬m∈(f i).kvs.map (·.1):=λz=>by
  have:=K.nd;rw[map_append,nodup_append] at this;exact this.2.2 m z m mem_cons_self rfl
 have W2:=W.put (T.kb i hi) (T.tb i hi) mm.1 mm.2.1 th nm;rw[rl] at W2;have hF:Wr f i [(f i).pt]:=λt ht=>.inr (.inl (mem_singleton.mp ht));have rk:=(T.ren i hi).keep k (T.FT hi hF) (λz=>nV (T.ren i hi).lst (T.hnd i hi).tho (λq=>by cases q) (mem_singleton.mp z)) λa ha z=>by
  obtain⟨xs,e⟩:=(T.ren i hi).row.mem ha;exact nV e (T.hnd i hi).tho (λq=>by cases q) (mem_singleton.mp z)
 have M:=T.move (Bx:=[((f i).n,m,t)]) (Tx:=[]) (Rx:=[]) (c':=c+1) (r:={f i with kvs:=(f i).kvs++[(m,t)],kn:=λk=>(f i).kn k\/k=Bs.length}) hi k hF rfl rfl S (by rw[append_nil];exact rk) (by rw[append_nil,append_nil];exact W2) (le_succ c)
  (λk hk=>by
   rw[length_append]
   rcases hk with hk|hk
   .have:=T.kb i hi k hk;omega
   .rw[hk];simp) (by rw[append_nil];exact T.tb i hi) (by rw[append_nil];exact nl) (λz=>by subst z;rw[append_nil];exact T.n0) (λ_=>rfl) (.inl rfl) (.inl rfl) (.inl rfl) λa ha=>.inl ha
 rw[append_nil,append_nil] at M;exact(q zs sh).2 H' v n w m F1 F2 M (T.klt hi k hF)
theorem HK.tl{Bs:WR rH}{Ts:WR rJ}{kn tk:Nat->Prop}{R:WR (WR bB)}(W:HK L c Bs Ts kn tk R kvs ks):kvs.length<=Bs.length/\ks.length<=Bs.length:=by
 have:=eZ W.kw.tnd W.kw.sub;rw[length_map] at this;have:=W.kw.few;omega
theorem iN.take{cp:Addr}{p:Int}(T:iN C H0 H L h c Bs Ts RR N f)(hi:i<N)(hB:Bs.length<=62)
  (q:∀zs,pJ (f i).kvs (f i).ks zs->(0<=p/\p<zs.length)/\∀H' m,zs[p.toNat]?=some m->
   iN C H0 H' L h c Bs (Ts++[((f i).n,m)]) RR N (yJ f i {f i with ks:=(f i).ks++[m],tk:=λk=>(f i).tk k\/k=Ts.length})->xB (f 0).pr H H'->Q (.str (txt m)) H'):
  pK C cp [.ref (f i).x,.int p] H Q E:=by
 have W:=T.hk i hi;have rl:=T.rl hi;have nl:=T.nl i hi;have tl:=W.tl;refine⟨(f i).x,(f i).dx,(f i).pr,(f i).pt,(f i).pk,L,h,(f i).j,(f i).kvs,(f i).ks,p,rfl,T.hnd i hi,by omega,W.kw.nd,by omega,λzs sh=>⟨λ_ H' m em k S=>?_,λz=>absurd (q zs sh).1 z⟩⟩
 have mm:=(sh.mem m).mp (mem_of_getElem? em);have W2:=W.take (T.kb i hi) (T.tb i hi) mm.1 mm.2;rw[rl] at W2;have hF:Wr f i [(f i).pk]:=λt ht=>.inr (.inr (.inl (mem_singleton.mp ht)));have rk:=(T.ren i hi).keep k (T.FT hi hF) (λz=>nV (T.ren i hi).lst (T.hnd i hi).tak (λq=>by cases q) (mem_singleton.mp z)) λa ha z=>by
  obtain⟨xs,e⟩:=(T.ren i hi).row.mem ha;exact nV e (T.hnd i hi).tak (λq=>by cases q) (mem_singleton.mp z)
 have M:=T.move (Bx:=[]) (Tx:=[((f i).n,m)]) (Rx:=[]) (c':=c) (r:={f i with ks:=(f i).ks++[m],tk:=λk=>(f i).tk k\/k=Ts.length}) hi k hF rfl rfl S (by rw[append_nil];exact rk) (by rw[append_nil,append_nil];exact W2) (le_refl c)
  (by rw[append_nil];exact T.kb i hi) (λk hk=>by
   rw[length_append]
   rcases hk with hk|hk
   .have:=T.tb i hi k hk;omega
   .rw[hk];simp) (by rw[append_nil];exact nl) (λz=>by subst z;rw[append_nil];exact T.n0) (λ_=>rfl) (.inl rfl) (.inl rfl) (.inl rfl) λa ha=>.inl ha
 rw[append_nil,append_nil] at M;exact(q zs sh).2 H' m em M (T.klt hi k hF)
theorem iN.yG{ch:Addr}(T:iN C H0 H L h c Bs Ts RR N f)(hB:Bs.length<=60)(hb:c+8*RR.length<=500)(hR:RR.length<=1000)
  (q:∀H' zs n pt' pk' r ys a,CI (f 0).kvs zs->fF L (cU (pM zs (f 0).ks)) n->
   iN C H0 H' L h c Bs Ts (RR++[cZ L zs (f 0).ks n]) N (yJ f 0 {f 0 with pt:=pt',pk:=pk',as:=(f 0).as++[r],n:=RR.length+1,kvs:=eB (f 0).kvs (cZ L zs (f 0).ks n),ks:=[] })->xB (f 0).pr H H'->
   H' a=some (.lst ys)->dH H' ys ((cZ L zs (f 0).ks n).map jD)->H a=none->a≠r->H r=none->Q (.ref a) H'):
  kU C ch [.ref (f 0).x] H Q E:=by
 have hi:=T.pos;have W:=T.hk 0 hi;have rl:=T.rl hi;have e0:RR.take (f 0).n=RR:=by rw[T.n0,take_length]
 have d:=(T.hs 0 hi).l2;have A:=T.ren 0 hi;rw[e0] at W A;refine⟨(f 0).x,(f 0).dx,(f 0).pr,(f 0).pt,(f 0).pk,L,h,(f 0).j,(f 0).kvs,(f 0).ks,Bs.length,c+8*RR.length,(f 0).as,RR,rfl,T.hnd 0 hi,T.hs 0 hi,W.kw,by omega,A,hR,λz=>absurd T.j0 z,λ_ H' zs n pt' pk' r ys a AK IR k S A' e1 e2 g1 g2 g3 g4 ne=>?_⟩;have W2:=W.yG d hB hb AK IR;have hF:Wr f 0 [(f 0).x,(f 0).pr]:=λt ht=>by
  rcases mem_cons.mp ht with e|e
  .exact .inl e
  .exact .inr (.inr (.inr ⟨mem_singleton.mp e,rfl⟩))
 have tl:(RR++[cZ L zs (f 0).ks n]).take (RR.length+1)=RR++[cZ L zs (f 0).ks n]:=List.take_of_length_le (by simp);have M:=T.move (Bx:=[]) (Tx:=[]) (Rx:=[cZ L zs (f 0).ks n]) (c':=c) (r:={f 0 with pt:=pt',pk:=pk',as:=(f 0).as++[r],n:=RR.length+1,kvs:=eB (f 0).kvs (cZ L zs (f 0).ks n),ks:=[] }) hi k hF rfl rfl S (by rw[tl];exact A') (by rw[tl,append_nil,append_nil];exact W2) (le_refl c)
  (by rw[append_nil];exact T.kb 0 hi) (by rw[append_nil];exact T.tb 0 hi) (by simp) (λ_=>by simp) (λz=>absurd rfl z) (.inr g1) (.inr g2) (.inl rfl) λa ha=>by
   rcases mem_append.mp ha with h|h
   .exact .inl h
   .rw[mem_singleton.mp h];exact .inr g3
 rw[append_nil,append_nil] at M;exact q H' zs n pt' pk' r ys a AK IR M (T.klt hi k hF) e1 e2 g4 ne g3
theorem iN.state(T:iN C H0 H L h c Bs Ts RR N f)(hi:i<N)(hB:Bs.length<=62)(hR:RR.length<=10000)
  (q:∀H' p p1 p2 p3 bs ts zs ws,aI H H'->Told (f i).kvs (f i).ks zs ws->j7 H' p p1 p2 p3 bs ts L h (RR.take (f i).n) zs ws->(p::p1::p2::p3::bs).Nodup->(∀b∈p::p1::p2::p3::bs,H b=none)->
   SK L c Bs Ts (f i).kn (f i).tk (RR.take (f i).n) zs ws->Q (.ref p) H'):
  dJ C [.ref (f i).x] H Q E:=by
 have W:=T.hk i hi;have rl:=T.rl hi;have nl:=T.nl i hi;have tl:=W.tl;exact⟨(f i).x,(f i).dx,(f i).pr,(f i).pt,(f i).pk,L,h,(f i).j,(f i).kvs,(f i).ks,(f i).as,RR.take (f i).n,rfl,T.hnd i hi,by omega,W.kw.nd,by omega,W.kw.tnd,(T.ren i hi).lst,(T.ren i hi).row,by omega,λH' p p1 p2 p3 bs ts zs ws s TD A nd fr=>q H' p p1 p2 p3 bs ts zs ws s TD A nd fr (W.told TD)⟩
theorem SK.iff{kn tk kn' tk':Nat->Prop}{R:WR (WR bB)}(A:SK L c Bs Ts kn tk R zs ws)(e:∀k,kn k↔kn' k)(g:∀k,tk k↔tk' k):SK L c Bs Ts kn' tk' R zs ws:=by
 rw[<-show kn=kn' from funext λk=>propext (e k),<-show tk=tk' from funext λk=>propext (g k)];exact A
theorem wG{α:Type}{R:WR α}{a b:Nat}(h:a<=b):R.take (max a b)=R.take b:=by rw[Nat.max_eq_right h]
theorem rO{α:Type}{R:WR α}{a b:Nat}(h:b<=a):R.take (max a b)=R.take a:=by rw[Nat.max_eq_left h]
theorem iN.lay{bs:WR Addr}{m:Nat}{kn' tk':Nat->Prop}(T:iN C H0 H L h c Bs Ts RR N f)(hi:i<N)
  (A:j7 H p p1 p2 p3 bs ts L h (RR.take m) zs' ws') (B:SK L c Bs Ts kn' tk' (RR.take m) zs' ws') (hm:m<=RR.length) (kb:∀k,kn' k->k<Bs.length) (tb:∀k,tk' k->k<Ts.length)
  (hB:Bs.length<=31) (hT:Ts.length<=31) (hR:RR.length<=100) (hc:c<=1000)
  (q:∀H' r,r.x=(f i).x->r.j=(f i).j->r.n=max (f i).n m->(r.kn=λk=>(f i).kn k\/kn' k)->(r.tk=λk=>(f i).tk k\/tk' k)->(r.kvs.map (·.1)).Pairwise (·<·)->r.ks.Pairwise (·<·)->H r.pr=none->(∀a∈r.as,H a=none)->iN C H0 H' L h c Bs Ts RR N (yJ f i r)->xB (f 0).pr H H'->Q .non H'):
  rK K C [.ref (f i).x,.ref p] H Q E:=by
 have W:=T.hk i hi;have rl:=T.rl hi;have nl:=T.nl i hi;have tl:=W.tl;have d:=(T.hs i hi).l2;have d':=(T.hs i hi).l26;have ml:(RR.take m).length=m:=by rw[length_take,min_eq_left hm]
 refine⟨(f i).x,(f i).dx,(f i).pr,(f i).pt,(f i).pk,p,p1,p2,p3,L,h,(f i).j,(f i).kvs,(f i).ks,(f i).as,bs,ts,RR.take (f i).n,RR.take m,zs',ws',rfl,T.hnd i hi,by omega,W.kw.nd,by omega,W.kw.tnd,T.ren i hi,by omega,A,?_,λH' zs ws R n pr' pt' pk' as' xs js TD k S A' g1 g2 g3 g4 up1 up2 way=>?_⟩
 .rcases Nat.le_total (f i).n m with z|z
  .refine .inl ⟨(f i).n,by rw[take_take,min_eq_left z],λzs ws TD=>?_⟩;have S1:=W.told TD;rw[show RR.take (f i).n=(RR.take m).take (f i).n by rw[take_take,min_eq_left z]] at S1
   exact S1.Cp B d d' (by omega) (by omega) hB hT hc
  .rcases lt_or_ge m (f i).n with y|y
   .refine .inr ⟨m,by omega,by rw[take_take,min_eq_left z],λzs ws TD=>?_⟩;have S1:=W.told TD;rw[show RR.take m=(RR.take (f i).n).take m by rw[take_take,min_eq_left z]] at B
    exact B.Cp S1 d d' (by omega) (by omega) hB hT hc
   .have e:m=(f i).n:=by omega
    subst e;refine .inl ⟨(f i).n,by rw[take_take,Nat.min_self],λzs ws TD=>?_⟩;have S1:=W.told TD;rw[show RR.take (f i).n=(RR.take (f i).n).take (f i).n by rw[take_take,Nat.min_self]] at S1
    exact S1.Cp B d d' (by omega) (by omega) hB hT hc
 .have fin:R=RR.take (max (f i).n m)/\SK L c Bs Ts (λk=>(f i).kn k\/kn' k) (λk=>(f i).tk k\/tk' k) R xs js:=by
   have S1:=W.told TD
   rcases way with⟨e,e1,ln,la⟩|⟨e,e1,ln,la⟩
   .have en:=congrArg List.length e1;rw[rl,length_take,ml,min_eq_left (by omega)] at en;subst en;rw[ml] at ln;rw[e1] at S1;refine⟨by rw[e,wG ln],?_⟩;rw[e];exact S1.join B d (by omega) la
   .have en:=congrArg List.length e1;rw[ml,length_take,rl,min_eq_left (by omega)] at en;subst en;rw[rl] at ln;rw[e1] at B;refine⟨by rw[e,rO ln],?_⟩;rw[e];exact(B.join S1 d (by omega) la).iff (λk=>Or.comm) λk=>Or.comm
  obtain⟨eR,SJ⟩:=fin;have mx:max (f i).n m<=RR.length:=by omega
  have hF:Wr f i [(f i).x]:=λt ht=>.inl (mem_singleton.mp ht);rw[eR] at SJ A';have M:=T.move (Bx:=[]) (Tx:=[]) (Rx:=[]) (c':=c) (r:={f i with pr:=pr',pt:=pt',pk:=pk',as:=as',n:=max (f i).n m,kvs:=xs,ks:=js,kn:=λk=>(f i).kn k\/kn' k,tk:=λk=>(f i).tk k\/tk' k}) hi k hF rfl rfl S (by rw[append_nil];exact A') (by rw[append_nil,append_nil,append_nil];exact SJ.hk d) (le_refl c)
   (λk hk=>by
    rw[append_nil]
    rcases hk with hk|hk
    .exact T.kb i hi k hk
    .exact kb k hk)
   (λk hk=>by
    rw[append_nil]
    rcases hk with hk|hk
    .exact T.tb i hi k hk
    .exact tb k hk) (by rw[append_nil];exact mx) (λz=>by
    rw[append_nil];show max (f i).n m=_;have:=T.n0;subst z;omega) (λ_=>rfl) (.inr g2) (.inr g3) (.inr g1) λa ha=>.inr (g4 a ha)
  rw[append_nil,append_nil,append_nil] at M;exact q H' {f i with pr:=pr',pt:=pt',pk:=pk',as:=as',n:=max (f i).n m,kvs:=xs,ks:=js,kn:=λk=>(f i).kn k\/kn' k,tk:=λk=>(f i).tk k\/tk' k} rfl rfl rfl rfl rfl up1 up2 g1 g4 M (T.klt hi k hF)
end
structure lz(H:Hp)(L h c:Nat)(Bs:WR rH)(Ts:WR rJ)(RR:WR (WR bB))(p:Addr)(os:WR Addr)(kn tk:Nat->Prop)(n:Nat):Prop where
 ex:∃p1 p2 p3 bs ts zs ws,os=p1::p2::p3::bs/\j7 H p p1 p2 p3 bs ts L h (RR.take n) zs ws/\SK L c Bs Ts kn tk (RR.take n) zs ws
 nl:n<=RR.length
 kb:∀k,kn k->k<Bs.length
 tb:∀k,tk k->k<Ts.length
structure PD(L h c:Nat)(Bs:WR rH)(Ts:WR rJ)(RR:WR (WR bB)):Prop where
 l2:2<=L
 l26:L<=26
 h1:1<=h
 hL:h+1<=L
 hB:Bs.length<=31
 hT:Ts.length<=31
 hR:RR.length<=31
 hc:c<=31
section
variable{C:Addr}{H0 H H':Hp}{L h c:Nat}{Bs:WR rH}{Ts:WR rJ}{RR:WR (WR bB)}{N i:Nat}{f:Nat->HR}{Q:VK}{E:XK}{p q:Addr}{os us:WR Addr}{kn tk kn' tk':Nat->Prop}{n n':Nat}
theorem lz.same(A:lz H L h c Bs Ts RR p os kn tk n)(s:aI H H'):lz H' L h c Bs Ts RR p os kn tk n:=by
 obtain⟨⟨p1,p2,p3,bs,ts,zs,ws,e,S,K⟩,a,b,d⟩:=A;exact⟨⟨p1,p2,p3,bs,ts,zs,ws,e,S.same s,K⟩,a,b,d⟩
theorem lz.grow{Bx:WR rH}{Tx:WR rJ}{Rx:WR (WR bB)}(A:lz H L h c Bs Ts RR p os kn tk n)(hc:c<=c'):lz H L h c' (Bs++Bx) (Ts++Tx) (RR++Rx) p os kn tk n:=by
 obtain⟨⟨p1,p2,p3,bs,ts,zs,ws,e,S,K⟩,a,b,d⟩:=A;have et:(RR++Rx).take n=RR.take n:=List.take_append_of_le_length a;refine⟨⟨p1,p2,p3,bs,ts,zs,ws,e,by rw[et];exact S,by rw[et];exact K.grow b d Bx Tx hc⟩,by rw[length_append];omega,λk hk=>?_,λk hk=>?_⟩
 .rw[length_append];have:=b k hk;omega
 .rw[length_append];have:=d k hk;omega
theorem lz.klt(A:lz H L h c Bs Ts RR p os kn tk n)(k:xB pr H H')(hp:∃xs,H pr=some (.lst xs))(no:¬pr∈os):lz H' L h c Bs Ts RR p os kn tk n:=by
 obtain⟨⟨p1,p2,p3,bs,ts,zs,ws,e,S,K⟩,a,b,d⟩:=A;exact⟨⟨p1,p2,p3,bs,ts,zs,ws,e,S.klt k hp (by rw[<-e];exact no),K⟩,a,b,d⟩
theorem lz.mem(A:lz H L h c Bs Ts RR p os kn tk n)(hb:b∈os):H b≠none:=by
 obtain⟨⟨p1,p2,p3,bs,ts,zs,ws,rfl,S,K⟩,_,_,_⟩:=A;simp only[mem_cons] at hb
 rcases hb with rfl|rfl|rfl|hb
 .rw[S.ren];exact λz=>by cases z
 .rw[S.thi];exact λz=>by cases z
 .rw[S.tak];exact λz=>by cases z
 .obtain⟨xs,e⟩:=S.row.mem hb;rw[e];exact λz=>by cases z
theorem iN.told(T:iN C H0 H L h c Bs Ts RR N f)(hi:i<N)(M:PD L h c Bs Ts RR)
  (q:∀H' p os,aI H H'->lz H' L h c Bs Ts RR p os (f i).kn (f i).tk (f i).n->(∀b∈p::os,H b=none)->Q (.ref p) H'):dJ C [.ref (f i).x] H Q E:=by
 have:=M.hB;have:=M.hR;exact T.state hi (by omega) (by omega) λH' p p1 p2 p3 bs ts zs ws s _ S _ fr K=>q H' p _ s ⟨⟨p1,p2,p3,bs,ts,zs,ws,rfl,S,K⟩,T.nl i hi,T.kb i hi,T.tb i hi⟩ fr
theorem lz.Ui(A:lz H L h c Bs Ts RR p os kn tk n)(B:lz H L h c Bs Ts RR q us kn' tk' n')(M:PD L h c Bs Ts RR)
  (r:∀H' o vs,aI H H'->lz H' L h c Bs Ts RR o vs (λk=>kn k\/kn' k) (λk=>tk k\/tk' k) (max n n')->(o::vs).Nodup->(∀b∈o::vs,H b=none)->Q (.ref o) H'):fL K [.ref p,.ref q] H Q E:=by
 obtain⟨⟨p1,p2,p3,bs,ts,zs,ws,rfl,S,K1⟩,a1,b1,d1⟩:=A;obtain⟨⟨q1,q2,q3,cs,vs,zs',ws',rfl,S',K2⟩,a2,b2,d2⟩:=B;have l2:=M.l2;have l26:=M.l26;have hB:=M.hB;have hT:=M.hT;have hR:=M.hR;have hc:=M.hc;have e1:(RR.take n).length=n:=by rw[length_take,min_eq_left a1]
 have e2:(RR.take n').length=n':=by rw[length_take,min_eq_left a2]
 have kk:∀k,(kn k\/kn' k)->k<Bs.length:=λk h=>h.elim (b1 k) (b2 k);have tt:∀k,(tk k\/tk' k)->k<Ts.length:=λk h=>h.elim (d1 k) (d2 k)
 rcases lt_or_ge n' n with z|z
 .have ez:RR.take n'=(RR.take n).take n':=by rw[take_take,min_eq_left (by omega)]
  rw[ez] at S' K2;refine⟨p,q,n',RR.take n,rfl,.inr ⟨by omega,q1,q2,q3,p1,p2,p3,cs,bs,vs,ts,L,h,zs',zs,ws',ws,S',S,K2.Cp K1 l2 l26 (by omega) (by omega) hB hT (by omega),λH' o o1 o2 o3 ds us xs js s SA nd fr la=>r H' o _ s ⟨⟨o1,o2,o3,ds,us,xs,js,rfl,?_,?_⟩,by omega,kk,tt⟩ nd fr⟩⟩
  .rw[rO (by omega)];exact SA
  .rw[rO (by omega)];exact(K2.join K1 l2 (by omega) la).iff (λk=>Or.comm) λk=>Or.comm
 .have ez:RR.take n=(RR.take n').take n:=by rw[take_take,min_eq_left z]
  rw[ez] at S K1;refine⟨p,q,n,RR.take n',rfl,.inl ⟨p1,p2,p3,q1,q2,q3,bs,cs,ts,vs,L,h,zs,zs',ws,ws',S,S',K1.Cp K2 l2 l26 (by omega) (by omega) hB hT (by omega),λH' o o1 o2 o3 ds us xs js s SA nd fr la=>r H' o _ s ⟨⟨o1,o2,o3,ds,us,xs,js,rfl,?_,?_⟩,by omega,kk,tt⟩ nd fr⟩⟩
  .rw[wG z];exact SA
  .rw[wG z];exact K1.join K2 l2 (by omega) la
theorem lz.laid(A:lz H L h c Bs Ts RR p os kn tk n)(B:lz H L h c Bs Ts RR q us kn' tk' n')(M:PD L h c Bs Ts RR)
  (r:∀H' o vs,aI H H'->lz H' L h c Bs Ts RR o vs (λk=>kn k\/kn' k) (λk=>tk k\/tk' k) (max n n')->(∀b∈o::vs,H b=none)->Q (.ref o) H'):fL K [.ref p,.ref q] H Q E:=A.Ui B M λH' o vs s G _ fr=>r H' o vs s G fr
theorem SK.ok{R:WR (WR bB)}(A:SK L c Bs Ts kn tk R zs ws)(dY:L<=26):Cg R zs ws:=
 ⟨bw.str dY λr hr=>(A.ro r hr).1,λz hz=>⟨jC dY (A.mar z hz).1.ls,B9 (A.mar z hz).2.2⟩,λw hw=>by
  obtain⟨z,hz,e⟩:=mem_map.mp (A.sub w hw);rw[<-e];exact jC dY (A.mar z hz).1.ls⟩
theorem lz.two(A:lz H L h c Bs Ts RR p os kn tk n)(B:lz H L h c Bs Ts RR q us kn' tk' n')(e:∀k,kn k↔kn' k)(g:∀k,tk k↔tk' k)(en:n=n')(l26:L<=26):
  ∃p1 p2 p3 bs ts q1 q2 q3 cs vs zs ws,j7 H p p1 p2 p3 bs ts L h (RR.take n) zs ws/\j7 H q q1 q2 q3 cs vs L h (RR.take n) zs ws/\Cg (RR.take n) zs ws:=by
 subst en;obtain⟨⟨p1,p2,p3,bs,ts,zs,ws,rfl,S,K1⟩,a1,b1,d1⟩:=A;obtain⟨⟨q1,q2,q3,cs,vs,zs',ws',rfl,S',K2⟩,a2,b2,d2⟩:=B;obtain⟨rfl,rfl⟩:=K1.nf.one K2.nf e g;exact⟨p1,p2,p3,bs,ts,q1,q2,q3,cs,vs,_,_,S,S',K1.ok l26⟩
theorem SK.stateT{R:WR (WR bB)}(A:SK L c Bs Ts kn tk R zs ws)(M:PD L h c Bs Ts RR)(hR:R.length<=31):StateT L h R zs ws:=by
 have l:=A.nf.len M.l2 λr hr=>(A.ro r hr).1;have hB:=M.hB;have hL:=M.hL;have hc:=M.hc;have zu:=A.nf.up;refine⟨M.l2,M.l26,M.h1,by omega,by omega,λr hr=>?_,⟨by omega,λz hz=>?_,zu,?_⟩⟩
 .obtain⟨O,Sh⟩:=A.ro r hr;exact⟨Sh.1,O.olds,O.marks,pairwise_map.mpr O.up,List.pairwise_filterMap.mpr (O.news.imp λh x hx y hy=>h x y hx hy)⟩
 .obtain⟨a,b,d⟩:=A.mar z hz;exact⟨a,by omega,d⟩
 .refine Lz A.nf.kup (zu.sublist List.filter_sublist) λm=>?_;rw[mem_filter];constructor
  .intro hm;exact⟨A.sub m hm,decide_eq_true hm⟩
  .intro hm;exact of_decide_eq_true hm.2
theorem lz.st(A:lz H L h c Bs Ts RR p os kn tk n)(M:PD L h c Bs Ts RR):∃p1 p2 p3 bs ts R zs ws,j7 H p p1 p2 p3 bs ts L h R zs ws/\StateT L h R zs ws/\Cg R zs ws:=by
 obtain⟨⟨p1,p2,p3,bs,ts,zs,ws,rfl,S,K1⟩,a1,b1,d1⟩:=A;exact⟨p1,p2,p3,bs,ts,_,zs,ws,S,K1.stateT (h:=h) M (by rw[length_take];have:=M.hR;omega),K1.ok M.l26⟩
end
theorem OT(h:H a=some (.tup xs))(q:Q (.bl true) H):Bt K "tuple" (.ref a) H Q:=⟨_,_,.tup h,qA,q⟩
theorem Jc:∀n,n<64->(num n).all (λc=>decide (c<128))=true:=by decide+kernel
def Sm(l:WM):Prop:=∀c∈l,c<128
instance (l:WM):Decidable (Sm l):=inferInstanceAs (Decidable (∀c∈l,c<128))
theorem LB:∀c∈yx,c<128:=by decide
theorem Sm.app{l:WM}(a:Sm l)(b:Sm m):Sm (l++m):=λc hc=>by
 rcases mem_append.mp hc with h|h
 .exact a c h
 .exact b c h
theorem Ag(h:n<64):Sm (num n):=λc hc=>by
 have:=all_eq_true.mp (Jc n h) c hc;simpa using this
theorem Ah(hL:L<=26)(h:Mark L m):Sm m:=λc hc=>by have:=h.ls c hc;omega
theorem LD{t:WM}(h:Thing t):Sm t:=λc hc=>LB c (h.2.2 c hc)
theorem Cq:Sm [32]:=by decide
theorem LF{R:WR (WR bB)}(T:StateT L h R zs ws):∀y∈rA L h R zs ws,Sm y:=by
 have l26:=T.l26;have few:=T.few;have hL:=T.hL;intro y hy
 rcases mem_cons.mp hy with rfl|hy
 .exact((((Ag (by omega)).app Cq).app (Ag (by omega))).app Cq).app (Ag (by omega))
 rcases mem_append.mp hy with hy|hy
 .obtain⟨r,hr,hy⟩:=List.mem_flatMap.mp hy;have rT:=T.rows r hr;have rf:=rT.few
  rcases mem_cons.mp hy with rfl|hy
  .exact((show Sm rq by decide).app Cq).app (Ag (by omega))
  .obtain⟨w,hw,rfl⟩:=mem_map.mp hy;have o:=Ah l26 (rT.old w hw).1;have n:=rT.new w hw;obtain⟨w1,w2⟩:=w;cases w2 with
   |none=>exact o.app (show Sm [32,45] by decide)
   |some z=>exact(o.app Cq).app (Ah l26 (n z rfl).1)
 .obtain⟨z,hz,rfl⟩:=mem_map.mp hy;obtain⟨zm,_,zt⟩:=T.things.mar z hz;have b:=((Ah l26 zm).app Cq).app (LD zt);unfold CG;split
  .exact b.app (show Sm [32,116,97,107,101,110] by decide)
  .exact b
theorem PF{R:WR (WR bB)}(T:StateT L h R zs ws):∀y∈rA L h R zs ws,PyData.strOk (txt y)=true:=λy hy=>kQ λc hc=>by have:=LF T y hy c hc;omega
theorem Ai{R:WR (WR bB)}(T:StateT L h R zs ws):((rA L h R zs ws).map ay).length<4000:=by
 have:=lZ (R:=R) T.rows;have:=T.few;have:=T.things.few;unfold rA;rw[length_map,length_cons,length_append,length_map];omega
theorem Jd:∀n,n<64->(num n).all (λc=>decide (c∈yx))=true:=by decide+kernel
theorem OU(hS:H a=some (.tup xs))(q:Q (.int xs.length) H):b5 K [.ref a] H Q:=⟨a,xs,rfl,.inr (ff.of hS),q⟩
theorem OV{k:Nat}(h:k<64):Thing (116::num k):=by
 have e:=(fJ k h).2.2;refine⟨cons_ne_nil _ _,by rw[length_cons];omega,λc hc=>?_⟩;have:=all_eq_true.mp (Jd k h) c
 rcases mem_cons.mp hc with rfl|hc
 .decide
 .exact of_decide_eq_true (this hc)
def Nw(N:Nat)(H:Hp)(f f':Nat->HR):Prop:=∀i,i<N->((f' i).pr=(f i).pr\/H (f' i).pr=none)/\∀a∈(f' i).as,a∈(f i).as\/H a=none
theorem Nw.refl{N:Nat}{f:Nat->HR}:Nw N H f f:=λi _=>⟨.inl rfl,λ_ h=>.inl h⟩
theorem Nw.up{N:Nat}{f:Nat->HR}{r:HR}(h:r.pr=(f i).pr\/H r.pr=none)(g:∀a∈r.as,a∈(f i).as\/H a=none):Nw N H f (yJ f i r):=λk _=>by
 by_cases z:k=i
 .subst z;rw[aN];exact⟨h,g⟩
 .rw[aV z];exact⟨.inl rfl,λ_ h=>.inl h⟩
theorem Nw.ne{N:Nat}{f f':Nat->HR}{o:HO}(w:Nw N H f f')(e:H p=some o)(n:∀i,i<N->p≠(f i).pr/\¬p∈(f i).as):∀i,i<N->p≠(f' i).pr/\¬p∈(f' i).as:=λi hi=>by
 obtain⟨a,b⟩:=w i hi;refine⟨?_,λz=>?_⟩
 .rcases a with a|a
  .rw[a];exact(n i hi).1
  .exact fresh_ne e a
 .rcases b p z with y|y
  .exact(n i hi).2 y
  .rw[e] at y;cases y
section
variable{C:Addr}{H0 H H':Hp}{L h c:Nat}{Bs:WR rH}{Ts:WR rJ}{RR:WR (WR bB)}{N:Nat}{f:Nat->HR}
theorem iN.FU(T:iN C H0 H L h c Bs Ts RR N f)(e:H p=some (.lst xs))(h0:H0 p=none)(n:∀i,i<N->p≠(f i).pr/\¬p∈(f i).as):iN C H0 (upd H p (.lst ys)) L h c Bs Ts RR N f:=by
 have k:Keeps [p] H (upd H p (.lst ys)):=Keeps.upd (λ_ _ e _=>e) (.inl mem_cons_self);have ot:∀{b:Addr} {o:HO},H b=some o->(∀zs,o≠.lst zs)->b∉[p]:=λg q z=>q xs (by rw[mem_singleton.mp z,e] at g;exact(Option.some.inj g).symm);refine {T with hnd:=λi hi=>?_,ren:=λi hi=>?_,bs:=cj T.bs k λa ha=>by rw[mem_singleton.mp ha];exact h0}
 .have S:=T.hnd i hi;exact S.keep k (ot S.ins λ_ z=>by cases z) (ot S.own λ_ z=>by cases z) (ot S.tho λ_ z=>by cases z) (ot S.tak λ_ z=>by cases z)
 .refine(T.ren i hi).keep k (λt ht ys z=>by rw[mem_singleton.mp ht,e] at z;cases z) (λz=>(n i hi).1 (mem_singleton.mp z).symm) λa ha z=>(n i hi).2 (by rw[<-mem_singleton.mp z];exact ha)
theorem lz.FU{os:WR Addr}{kn tk:Nat->Prop}(A:lz H L h c Bs Ts RR q os kn tk n)(e:H p=some (.lst xs))(no:¬p∈os):lz (upd H p (.lst ys)) L h c Bs Ts RR q os kn tk n:=
 A.klt (λb ne=>⟨λ_ g=>by rw[aH ne];exact g,λ_ g=>by rw[aH ne];exact g⟩) ⟨xs,e⟩ no
theorem HK.nil:HK L 0 [] [] (λ_=>False) (λ_=>False) [] [] []:=by
 refine⟨⟨[],[],⟨.refl _,.nil,.refl _,.nil⟩,⟨⟨[],⟨.nil,λz h=>(nomatch h),λq h=>(nomatch h)⟩,λq=>⟨λh=>(nomatch h),λ⟨_,_,h,_⟩=>h.elim⟩⟩,.nil,λm=>⟨λh=>(nomatch h),λ⟨_,_,h,_⟩=>h.elim⟩,λ_ _ h=>h.elim,λ_ _ h=>h.elim⟩⟩,⟨.nil,λ_ h=>(nomatch h),le_refl _,λ_ h=>(nomatch h),.nil⟩,λr h=>(nomatch h)⟩
def Je(x dx pr pt pk:Addr)(j:Nat):HR:=⟨x,dx,pr,pt,pk,[],j,0,[],[],λ_=>False,λ_=>False⟩
theorem iN.first{x pt:Addr}(D:jZ L h 0)(s:aI H0 H)(S:jg C H x dx pr pt pk L h 0 [] [])(e:H pr=some (.lst []))(g:H0 x=none)(g1:H0 pr=none)(g2:H0 pt=none)(g3:H0 pk=none)(ef:f 0=Je x dx pr pt pk 0):iN C H0 H L h 0 [] [] [] 1 f:=by
 have z:∀{i},i<1->f i=Je x dx pr pt pk 0:=λhi=>by rw[<-ef];congr 1;omega
 refine {hnd:=λi hi=>?_,ren:=λi hi=>?_,hk:=λi hi=>?_,kb:=λi hi=>?_,tb:=λi hi=>?_,nl:=λi hi=>?_,n0:=?_,hs:=λi hi=>?_,j0:=?_,pos:=Nat.one_pos,ax:=λi hi k hk ne=>by omega,at_:=λi hi k hk ne=>by omega,ak:=λi hi k hk ne=>by omega,atk:=λi hi k hk=>?_,ar:=λi hi ne=>by omega,aa:=λi hi=>?_,bs:=s,f0:=λi hi=>?_}
 .rw[z hi];exact S
 .rw[z hi];exact⟨e,trivial,λz=>(nomatch z)⟩
 .rw[z hi];exact HK.nil
 .rw[z hi];exact λ_ h=>h.elim
 .rw[z hi];exact λ_ h=>h.elim
 .rw[z hi];exact le_refl _
 .rw[ef];rfl
 .rw[z hi];exact D
 .rw[ef];rfl
 .rw[z hi,z hk];exact S.apart
 .rw[z hi];exact λz=>(nomatch z)
 .rw[z hi];exact⟨g,g2,g3,g1⟩
theorem iN.add{x pt:Addr}(T:iN C H0 H L h 0 [] [] [] N f)(s:aI H H')(D:jZ L h j)(S:jg C H' x dx pr pt pk L h j [] [])(e:H' pr=some (.lst []))(g:H x=none)(g1:H pr=none)(g2:H pt=none)(g3:H pk=none):iN C H0 H' L h 0 [] [] [] (N+1) (yJ f N (Je x dx pr pt pk j)):=by
 have T':=T.same s;have z0:(0:Nat)≠N:=λz=>by have:=T.pos;omega
 have lt:∀{i},i<N+1->i≠N->i<N:=λa b=>by omega
 refine {hnd:=λi hi=>?_,ren:=λi hi=>?_,hk:=λi hi=>?_,kb:=λi hi=>?_,tb:=λi hi=>?_,nl:=λi hi=>?_,n0:=?_,hs:=λi hi=>?_,j0:=?_,pos:=by omega,ax:=λi hi k hk ne=>?_,at_:=λi hi k hk ne=>?_,ak:=λi hi k hk ne=>?_,atk:=λi hi k hk=>?_,ar:=λi hi ne=>?_,aa:=λi hi=>?_,bs:=T.bs.trans s,f0:=λi hi=>?_}
 .by_cases z:i=N
  .rw[z,aN];exact S
  .rw[aV z];exact T'.hnd i (lt hi z)
 .by_cases z:i=N
  .rw[z,aN];exact⟨e,trivial,λz=>(nomatch z)⟩
  .rw[aV z];exact T'.ren i (lt hi z)
 .by_cases z:i=N
  .rw[z,aN];exact HK.nil
  .rw[aV z];exact T'.hk i (lt hi z)
 .by_cases z:i=N
  .rw[z,aN];exact λ_ h=>h.elim
  .rw[aV z];exact T'.kb i (lt hi z)
 .by_cases z:i=N
  .rw[z,aN];exact λ_ h=>h.elim
  .rw[aV z];exact T'.tb i (lt hi z)
 .by_cases z:i=N
  .rw[z,aN];exact le_refl _
  .rw[aV z];exact T'.nl i (lt hi z)
 .rw[aV z0];exact T.n0
 .by_cases z:i=N
  .rw[z,aN];exact D
  .rw[aV z];exact T'.hs i (lt hi z)
 .rw[aV z0];exact T.j0
 .by_cases z:i=N
  .rw[z,aN,aV (λy=>ne (z.trans y.symm))];exact Ne.symm (fresh_ne (T.hnd k (lt hk λy=>ne (z.trans y.symm))).ins g)
  .rw[aV z]
   by_cases y:k=N
   .rw[y,aN];exact fresh_ne (T.hnd i (lt hi z)).ins g
   .rw[aV y];exact T.ax i (lt hi z) k (lt hk y) ne
 .by_cases z:i=N
  .rw[z,aN,aV (λy=>ne (z.trans y.symm))];exact Ne.symm (fresh_ne (T.hnd k (lt hk λy=>ne (z.trans y.symm))).tho g2)
  .rw[aV z]
   by_cases y:k=N
   .rw[y,aN];exact fresh_ne (T.hnd i (lt hi z)).tho g2
   .rw[aV y];exact T.at_ i (lt hi z) k (lt hk y) ne
 .by_cases z:i=N
  .rw[z,aN,aV (λy=>ne (z.trans y.symm))];exact Ne.symm (fresh_ne (T.hnd k (lt hk λy=>ne (z.trans y.symm))).tak g3)
  .rw[aV z]
   by_cases y:k=N
   .rw[y,aN];exact fresh_ne (T.hnd i (lt hi z)).tak g3
   .rw[aV y];exact T.ak i (lt hi z) k (lt hk y) ne
 .by_cases z:i=N
  .rw[z,aN]
   by_cases y:k=N
   .rw[y,aN];exact S.apart
   .rw[aV y];exact Ne.symm (fresh_ne (T.hnd k (lt hk y)).tak g2)
  .rw[aV z]
   by_cases y:k=N
   .rw[y,aN];exact fresh_ne (T.hnd i (lt hi z)).tho g3
   .rw[aV y];exact T.atk i (lt hi z) k (lt hk y)
 .rw[aV z0]
  by_cases z:i=N
  .rw[z,aN];exact Ne.symm (fresh_ne (T.ren 0 T.pos).lst g1)
  .rw[aV z];exact T.ar i (lt hi z) ne
 .rw[aV z0]
  by_cases z:i=N
  .rw[z,aN];exact λz=>(nomatch z)
  .rw[aV z];exact T.aa i (lt hi z)
 .by_cases z:i=N
  .rw[z,aN];exact⟨T.bs.bO g,T.bs.bO g2,T.bs.bO g3,T.bs.bO g1⟩
  .rw[aV z];exact T.f0 i (lt hi z)
end
end L2
namespace K92
open PySem PySem.Spec PyProof.Rows L2 MM
def top(i:Nat):Stmt:=PySem.Challenge.pw_shelfmark_k92_whole_laying.main.body.getD i (.Pass ⟨0,0,0,0⟩)
abbrev LG:Stmt:=top 10
abbrev LH:Stmt:=top 11
abbrev LI:Stmt:=top 12
abbrev LJ:Stmt:=top 13
abbrev LK:Stmt:=top 14
abbrev LL:Stmt:=top 15
abbrev LM:Stmt:=top 17
abbrev LO:Stmt:=top 18
abbrev LP:Stmt:=top 19
abbrev LQ:Stmt:=top 20
abbrev LR:Stmt:=top 21
abbrev LS:Stmt:=top 22
abbrev LU:Stmt:=top 23
abbrev LV:Stmt:=top 24
abbrev LW:Stmt:=top 25
abbrev LX:Stmt:=top 27
abbrev LY:Stmt:=top 28
abbrev LZ:Stmt:=top 29
abbrev L0:Stmt:=top 30
abbrev L1:Stmt:=top 32
abbrev L3:Stmt:=top 33
abbrev L4:Stmt:=top 34
abbrev L5:Stmt:=top 36
abbrev L6:Stmt:=top 37
abbrev L7:Stmt:=top 38
abbrev L8:Stmt:=top 39
abbrev Ma:Stmt:=top 40
abbrev Mb:Stmt:=top 47
abbrev Mc:Stmt:=top 49
abbrev Me:Stmt:=top 50
abbrev Mf:Stmt:=top 51
abbrev Mg:Stmt:=top 52
abbrev Mh:Stmt:=top 53
abbrev Mi:Stmt:=top 57
abbrev Mj:Stmt:=top 58
abbrev Ml:Stmt:=top 59
abbrev Mn:Stmt:=top 61
abbrev Rh:Stmt:=inClass (top 62) 0
abbrev Ri:Stmt:=inClass (top 62) 4
abbrev Rj:Stmt:=inClass (top 62) 10
abbrev Rk:Stmt:=inClass (top 62) 1
abbrev Rn:Stmt:=inClass (top 62) 2
abbrev Ro:Stmt:=inClass (top 62) 3
abbrev Mp:Stmt:=inClass (top 62) 5
abbrev Rp:Stmt:=inClass (top 62) 6
abbrev Uj:Stmt:=inClass (top 62) 7
abbrev Rq:Stmt:=inClass (top 62) 8
abbrev Rr:Stmt:=inClass (top 62) 9
abbrev Mr:Stmt:=top 66
abbrev Ms:Stmt:=top 70
abbrev Mt:Stmt:=top 71
abbrev Mu:Stmt:=top 72
abbrev Mv:Stmt:=top 73
abbrev Mw:Stmt:=top 74
abbrev Mz:Stmt:=top 75
abbrev MA:Stmt:=top 76
abbrev MB:Stmt:=top 77
abbrev MC:Stmt:=top 78
abbrev MD:Stmt:=top 79
abbrev ME:Stmt:=top 80
abbrev MF:Stmt:=top 81
abbrev MG:Stmt:=top 82
abbrev Ep:Stmt:=top 84
abbrev Es:Stmt:=top 85
abbrev s_same:Stmt:=top 86
abbrev Et:Stmt:=top 87
abbrev MH:Stmt:=top 88
structure Ad where
 (aD cP cB cu c5 c6:Addr)
 (mQ wH sJ pR pS sL mR mS sM pT pU sN sO wI sP sQ wJ wK wL wM wN wO wQ wR wU sR wV pV sS wW sV sW fM sX wX sY wY Cr tM Cs Ct Cu Cv sZ Cw OW j8 xX tu wZ w5 w6 lA jf mT w9 pW xg xh xj xm xo c7 nP iu nQ tw:Addr×FuncData)
structure Tx(K:W.Frag)(mg:Str->Option Value)(a:Ad):Prop where
 FW:mg "all" =none
 Aj:mg "dict" =none
 MI:mg "int" =none
 pX:mg "isinstance" =none
 bL:mg "len" =none
 nR:mg "list" =none
 PJ:mg "min" =none
 fN:mg "range" =none
 Eu:mg "reversed" =none
 MJ:mg "set" =none
 gj:mg "sorted" =none
 Uk:mg "str" =none
 OX:mg "tuple" =none
 jN:∃t,mg "SMALL" =some (.str "abcdefghijklmnopqrstuvwxyz" t)
 gJ:∃t,mg "LETTERS" =some (.int 0 t)
 pY:∃t,mg "HANDS" =some (.int 1 t)
 bJ:∃t,mg "RENEWALS" =some (.int 2 t)
 iw:∃t,mg "THINGS" =some (.int 3 t)
 jO:∃t,mg "TAKEN" =some (.int 4 t)
 xY:∃t,mg "THING_SIGNS" =some (.str "abcdefghijklmnopqrstuvwxyz0123456789" t)
 tN:∃t,mg "LONGEST_THING" =some (.int 12 t)
 Jf:∃t,mg "FIGURES" =some (.str "0123456789" t)
 xq:∃t,mg "MOST_FIGURES" =some (.int 4 t)
 tO:∃t,mg "MOST_RENEWALS" =some (.int 1000 t)
 Cy:∃t,mg "MOST_ROWS" =some (.int 1000 t)
 OY:mg "Hand" =some (.ref a.aD)
 dm:ES K a.aD
 Rt:Mk K a.aD a.Cr.1
 xr:di K a.aD "letters"
 Ak:di K a.aD "hands"
 pZ:di K a.aD "own_number"
 tP:di K a.aD "renewals"
 tQ:di K a.aD "thing_of"
 Al:di K a.aD "taken"
 Cz:mg "NoHand" =some (.ref a.cP)
 CA:Xc K a.cP
 lB:mg "NoLetters" =some (.ref a.cB)
 tD:Xc K a.cB
 Jg:mg "NoPlace" =some (.ref a.cu)
 Jh:Xc K a.cu
 MK:mg "NoRoom" =some (.ref a.c5)
 ML:Xc K a.c5
 Ji:mg "NoThing" =some (.ref a.c6)
 Jj:Xc K a.c6
 mQ:Fx K mg "ask_letters" LG ["letters", "hands"] a.mQ
 wH:Fx K mg "is_mark" LH ["letters", "text"] a.wH
 sJ:Fx K mg "power" LI ["letters", "long"] a.sJ
 pR:Fx K mg "figure_at" LJ ["mark", "place"] a.pR
 pS:Fx K mg "whole_of" LK ["letters", "mark", "long"] a.pS
 sL:Fx K mg "mark_of" LL ["letters", "number", "long"] a.sL
 mR:Fx K mg "ends_of" LM ["letters", "hands", "hand"] a.mR
 mS:Fx K mg "ask_room" LO ["low", "high"] a.mS
 sM:Fx K mg "high_whole_of" LP ["letters", "high", "long"] a.sM
 pT:Fx K mg "owned_below" LQ ["letters", "ends", "number"] a.pT
 pU:Fx K mg "owned_up_to_low" LR ["letters", "ends", "low_whole"] a.pU
 sN:Fx K mg "owned_ahead_of_high" LS ["letters", "ends", "high", "high_whole", "long", "beginnings"] a.sN
 sO:Fx K mg "counted_at" LU ["letters", "ends", "low", "high", "long", "beginnings"] a.sO
 wI:Fx K mg "room_at" LV ["letters", "hands", "hand", "low", "high", "long"] a.wI
 sP:Fx K mg "nth_mark" LW ["letters", "hands", "hand", "low", "high", "long", "number"] a.sP
 sQ:Fx K mg "least_counted" LX ["letters", "ends", "low", "high", "many", "beginnings"] a.sQ
 wJ:Fx K mg "least_long" LY ["letters", "hands", "hand", "low", "high", "many"] a.wJ
 wK:Fx K mg "told_number" LZ ["low", "high", "many"] a.wK
 wL:Fx K mg "mark_between" L0 ["letters", "hands", "hand", "low", "high"] a.wL
 wM:Fx K mg "spread" L1 ["many", "whole"] a.wM
 wN:Fx K mg "renewed_long" L3 ["letters", "many"] a.wN
 wO:Fx K mg "renewed" L4 ["letters", "many"] a.wO
 wQ:Fx K mg "renewal_rows" L5 ["letters", "known"] a.wQ
 wR:Fx K mg "stem_between" L6 ["letters", "low", "high"] a.wR
 wU:Fx K mg "rows_ahead" L7 ["rows", "mark"] a.wU
 sR:Fx K mg "first_new" L8 ["rows"] a.sR
 wV:Fx K mg "carried_knowing" Ma ["letters", "rows", "mark", "stems"] a.wV
 pV:Fx K mg "state_of" Mb ["letters", "hands", "renewals", "things", "taken"] a.pV
 sS:Fx K mg "ask_meeting" Mc ["fewer", "more"] a.sS
 wW:Fx K mg "carried_by_all" Me ["letters", "renewals", "mark", "stems"] a.wW
 sV:Fx K mg "carried_marks" Mf ["state", "renewals"] a.sV
 sW:Fx K mg "all_things" Mg ["one", "other"] a.sW
 fM:Fx K mg "laid" Mh ["one", "other"] a.fM
 sX:Fx K mg "is_thing" Mi ["text"] a.sX
 wX:Fx K mg "ask_thing" Mj ["text"] a.wX
 sY:Fx K mg "ask_place" Ml ["place", "many"] a.sY
 wY:Fx K mg "ask_hand" Mn ["number", "hands"] a.wY
 Cr:Mx K a.aD "__init__" "Hand.__init__" Rh ["self", "letters", "hands", "number"] a.Cr
 tM:Mx K a.aD "marks" "Hand.marks" Ri ["self"] a.tM
 Cs:Mx K a.aD "first_behind" "Hand.first_behind" Rj ["self", "low"] a.Cs
 Ct:Mx K a.aD "put" "Hand.put" Rk ["self", "place", "thing"] a.Ct
 Cu:Mx K a.aD "take" "Hand.take" Rn ["self", "place"] a.Cu
 Cv:Mx K a.aD "renew" "Hand.renew" Ro ["self"] a.Cv
 sZ:Mx K a.aD "things" "Hand.things" Mp ["self"] a.sZ
 Cw:Mx K a.aD "age" "Hand.age" Rp ["self"] a.Cw
 OW:Mx K a.aD "number" "Hand.number" Uj ["self"] a.OW
 j8:Mx K a.aD "state" "Hand.state" Rq ["self"] a.j8
 xX:Mx K a.aD "lay" "Hand.lay" Rr ["self", "state"] a.xX
 tu:Fx K mg "is_number" Mr ["word"] a.tu
 wZ:Fx K mg "row_texts" Ms ["rows"] a.wZ
 w5:Fx K mg "renewal_texts" Mt ["rows"] a.w5
 w6:Fx K mg "thing_texts" Mu ["things", "taken"] a.w6
 lA:Fx K mg "state_texts" Mv ["state"] a.lA
 jf:Fx K mg "ask_text" Mw ["good", "place"] a.jf
 mT:Fx K mg "words_at" Mz ["texts", "place"] a.mT
 w9:Fx K mg "is_number_to" MA ["word", "most"] a.w9
 pW:Fx K mg "is_mark_behind" MB ["letters", "last", "word"] a.pW
 xg:Fx K mg "read_head" MC ["texts"] a.xg
 xh:Fx K mg "read_many" MD ["texts", "place"] a.xh
 xj:Fx K mg "read_rows" ME ["letters", "texts", "place", "many"] a.xj
 xm:Fx K mg "read_things" MF ["letters", "texts", "place"] a.xm
 xo:Fx K mg "read_state" MG ["texts"] a.xo
 c7:Fx K mg "_law_draw" Ep ["_law_script", "_law_k", "_law_many"] a.c7
 nP:Fx K mg "_law_step" Es ["_law_script", "_law_k", "_law_hands"] a.nP
 iu:Fx K mg "_law_same" s_same ["_law_one", "_law_other"] a.iu
 nQ:Fx K mg "_law_good" Et ["_law_one", "_law_other", "_law_third"] a.nQ
 tw:Fx K mg "law" MH ["_law_script"] a.tw
end K92
namespace K92
open PySem PySem.Spec PyProof.Rows L2 MM
def FY(K:W.Frag):Sp:=λvs H Q _=>∃(a:Addr) (ns:WR Int),vs=[.ref a]/\aZ K H a (ns.map V.int)/\ns.length<=63/\∀H',Q (.bl true) H'
def lC(K:W.Frag):Sp:=λvs H Q _=>∃(p q p1 p2 p3:Addr) (bs:WR Addr) (ts:WR V) (q1 q2 q3:Addr) (cs:WR Addr) (us:WR V) (L h:Nat) (R:WR (WR bB)) (zs:WO) (ws:WN),vs=[.ref p,.ref q]/\j7 H p p1 p2 p3 bs ts L h R zs ws/\j7 H q q1 q2 q3 cs us L h R zs ws/\Cg R zs ws/\Q (.bl true) H
def Ew(K:W.Frag):Sp:=λvs H Q _=>∃(p q r:Addr) (os us ts:WR Addr) (L h c:Nat) (Bs:WR rH) (Ts:WR rJ) (RR:WR (WR bB)) (k1 t1 k2 t2 k3 t3:Nat->Prop) (n1 n2 n3:Nat),vs=[.ref p,.ref q,.ref r]/\lz H L h c Bs Ts RR p os k1 t1 n1/\lz H L h c Bs Ts RR q us k2 t2 n2/\lz H L h c Bs Ts RR r ts k3 t3 n3/\PD L h c Bs Ts RR/\∀H',aI H H'->Q (.bl true) H'
def CH(f:Nat->HR):WR V:=[.ref (f 0).x,.ref (f 1).x,.ref (f 2).x]
def Ex(K:W.Frag)(C:Addr):Sp:=λvs H Q _=>∃(a ph:Addr) (ns:WR Int) (k:Nat) (H0:Hp) (L c:Nat) (Bs:WR rH) (Ts:WR rJ) (RR:WR (WR bB)) (f:Nat->HR),vs=[.ref a,.int k,.ref ph]/\aZ K H0 a (ns.map V.int)/\ns.length<=63/\k<31/\iN C H0 H L 3 c Bs Ts RR 3 f/\H ph=some (.lst (CH f))/\ph≠(f 0).pr/\c<=k/\Bs.length+Ts.length+RR.length<=k/\
 ∀H' c' Bx Tx Rx f',iN C H0 H' L 3 c' (Bs++Bx) (Ts++Tx) (RR++Rx) 3 f'->CH f'=CH f->c<=c'->c'<=k+1->(Bs++Bx).length+(Ts++Tx).length+(RR++Rx).length<=k+1->xB (f 0).pr H H'->Nw 3 H f f'->Q .non H'
def PL(K:W.Frag)(a:Ad):TS:=
  bA (dj (b5 K) (ah (dU K (ai 0) "renewals") az))
def um(K:W.Frag)(a:Ad):TS:=
  aJ (aY (aF (c9 K) [] E0 (ah (ai 0) (ah (aS bS (tC (.int 20)) (ai 1)) (ah (tC (.int 3)) az)))) (aG 3))
   (aJ (aY (aS (bY K) (ai 2) (ai 3)) (aG 4))
   (aJ (aY (dj (b5 K) (ah (cI a.aD "things" (rg a.aD) [] E0 (ai 4) az) az)) (aG 5))
   (aJ (aY (aF (c9 K) [] E0 (ah (ai 0) (ah (aS bS (tC (.int 60)) (ai 1)) (ah (tC (.int 7)) az)))) (aG 6))
   (cW (AM (bD (aS xF (ai 6) (tC (.int 3)))) (bD (aS tV (ai 5) (tC (.int 0))))) (bR (cI a.aD "put" (wg a.aD a.c6 a.cu) [] E0 (ai 4) (ah (aF (c9 K) [] E0 (ah (ai 0) (ah (aS bS (tC (.int 100)) (ai 1)) (ah (aS bS (ai 5) (tC (.int 1))) az)))) (ah (aS Bq (tC (.str (txt [116]))) (dj J1 (ah (ai 1) az))) az)))) (cW (bD (aS tV (ai 6) (tC (.int 3)))) (bR (cI a.aD "take" (pK a.aD a.cu) [] E0 (ai 4) (ah (aF (c9 K) [] E0 (ah (ai 0) (ah (aS bS (tC (.int 140)) (ai 1)) (ah (ai 5) az)))) az))) (cW (qh (bD (aS tV (ai 6) (tC (.int 4)))) (bD (aS tV (aF (c9 K) [] E0 (ah (ai 0) (ah (tC (.int 3)) (ah (tC (.int 2)) az)))) (tC (.int 1))))) (bR (cI a.aD "renew" (kU a.aD a.cP) [] E0 (aS (bY K) (ai 2) (tC (.int 0))) az)) (cW (bD (aS Bp (ai 6) (tC (.int 4)))) (bR (cI a.aD "lay" (rK K a.aD) [] E0 (ai 4) (ah (cI a.aD "state" (dJ a.aD) [] E0 (aS (bY K) (ai 2) (aF (c9 K) [] E0 (ah (ai 0) (ah (aS bS (tC (.int 180)) (ai 1)) (ah (tC (.int 3)) az))))) az) az))) (b8))))))))
def uo(K:W.Frag)(a:Ad):TS:=
  bA (iA (J7 K "tuple" (ai 0)) (iA (aS tV (dj (b5 K) (ah (ai 0) az)) (tC (.int 5))) (aS (Ob K) (ai 0) (ai 1))))
def uq(K:W.Frag)(a:Ad):TS:=
  aJ (aY (aS yU (aF (fU K) [] E0 (ah (ai 0) az)) (aF (fU K) [] E0 (ah (ai 1) az))) (aG 3))
   (aJ (aY (aF (fL K) [] E0 (ah (ai 0) (ah (ai 1) az))) (aG 4))
   (aJ (cW (AM (qi (tB (aF (lC K) [] E0 (ah (ai 4) (ah (aF (fL K) [] E0 (ah (ai 1) (ah (ai 0) az))) az))))) (qi (tB (aF (lC K) [] E0 (ah (aF (fL K) [] E0 (ah (ai 0) (ah (ai 0) az))) (ah (ai 0) az)))))) (bA (tC (.bl false))) (b8))
   (aJ (cW (qi (tB (aF (lC K) [] E0 (ah (aF (fL K) [] E0 (ah (ai 4) (ah (ai 2) az))) (ah (aF (fL K) [] E0 (ah (ai 0) (ah (aF (fL K) [] E0 (ah (ai 1) (ah (ai 2) az))) az))) az))))) (bA (tC (.bl false))) (b8))
   (aJ (cW (AM (qi (tB (aF (lC K) [] E0 (ah (aF (fL K) [] E0 (ah (ai 4) (ah (ai 0) az))) (ah (ai 4) az))))) (qi (tB (aF (lC K) [] E0 (ah (aF (fL K) [] E0 (ah (ai 1) (ah (ai 4) az))) (ah (ai 4) az)))))) (bA (tC (.bl false))) (b8))
   (bA (aS (J2 K) (aS yU (aF (fU K) [] E0 (ah (ai 0) az)) (aF (fU K) [] E0 (ah (ai 1) az))) (ai 3)))))))
def Am(K:W.Frag)(a:Ad):TS:=
  aJ (aY (aS (bY K) (mU (ah (tC (.int 4)) (ah (tC (.int 5)) (ah (tC (.int 10)) (ah (tC (.int 26)) az))))) (aF (c9 K) [] E0 (ah (ai 0) (ah (tC (.int 0)) (ah (tC (.int 4)) az))))) (aG 1))
   (aJ (cX 2 (jW (ah (tC (.int 3)) az)) [1] gO (ET a.aD (ud a.aD a.cB a.cP) [] E0 (ah (ai 1) (ah (tC (.int 3)) (ah (ai 0) az)))))
   (aJ (aY (mU az) (aG 3))
   (aJ (aY (aS bS (tC (.int 6)) (aF (c9 K) [] E0 (ah (ai 0) (ah (tC (.int 1)) (ah (tC (.int 25)) az))))) (aG 4))
   (aJ (iy (jW (ah (ai 4) az)) (aG 5) (aJ (bR (aF (Ex K a.aD) [] E0 (ah (ai 0) (ah (ai 5) (ah (ai 2) az)))))
   (cW (bD (aS tV (ai 5) (aF (c9 K) [] E0 (ah (ai 0) (ah (tC (.int 2)) (ah (ai 4) az)))))) (bR (xD K "list" fq (ai 3) (ah (cI a.aD "state" (dJ a.aD) [] E0 (aS (bY K) (ai 2) (aF (c9 K) [] E0 (ah (ai 0) (ah (tC (.int 4)) (ah (tC (.int 3)) az))))) az) az))) (b8))))
   (aJ (iy (bV K (ai 2)) (aG 6) (bR (xD K "list" fq (ai 3) (ah (cI a.aD "state" (dJ a.aD) [] E0 (ai 6) az) az))))
   (aJ (iy (jW (ah (tC (.int 3)) az)) (aG 5) (aJ (aY (aS (bY K) (ai 3) (aS iE (aS bS (ai 5) (aF (c9 K) [] E0 (ah (ai 0) (ah (tC (.int 5)) (ah (dj (b5 K) (ah (ai 3) az)) az))))) (dj (b5 K) (ah (ai 3) az)))) (aG 7))
   (aJ (aY (aS (bY K) (ai 3) (aS iE (aS bS (aS bS (ai 5) (tC (.int 1))) (aF (c9 K) [] E0 (ah (ai 0) (ah (tC (.int 6)) (ah (dj (b5 K) (ah (ai 3) az)) az))))) (dj (b5 K) (ah (ai 3) az)))) (aG 8))
   (aJ (aY (aS (bY K) (ai 3) (aF (c9 K) [] E0 (ah (ai 0) (ah (aS bS (tC (.int 7)) (ai 5)) (ah (dj (b5 K) (ah (ai 3) az)) az))))) (aG 9))
   (aJ (cW (qi (tB (aF (Ew K) [] E0 (ah (ai 7) (ah (ai 8) (ah (ai 9) az)))))) (bA (tC (.bl false))) (b8))
   (aJ (aY (aF (fU K) [] E0 (ah (ai 7) az)) (aG 10))
   (cW (AM (qi (tB (J7 K "list" (ai 10)))) (bD (aS (Oc K) (aF (kX K) [] E0 (ah (dj (oE K) (ah (ai 10) az)) az)) (ai 7)))) (bA (tC (.bl false))) (b8))))))))
   (aJ (aY (aF (c9 K) [] E0 (ah (ai 0) (ah (tC (.int 11)) (ah (tC (.int 3)) az)))) (aG 11))
   (aJ (aY (cI a.aD "state" (dJ a.aD) [] E0 (aS (bY K) (ai 2) (ai 11)) az) (aG 12))
   (aJ (aY (aF (fL K) [] E0 (ah (ai 12) (ah (aS (bY K) (ai 3) (tC (.int 0))) az))) (aG 13))
   (aJ (bR (cI a.aD "lay" (rK K a.aD) [] E0 (aS (bY K) (ai 2) (ai 11)) (ah (aS (bY K) (ai 3) (tC (.int 0))) az)))
   (bA (iA (aS (Ob K) (cI a.aD "state" (dJ a.aD) [] E0 (aS (bY K) (ai 2) (ai 11)) az) (ai 13)) (aS tV (cI a.aD "age" (Ec a.aD) [] E0 (aS (bY K) (ai 2) (ai 11)) az) (dj (b5 K) (ah (aS (dF K) (ai 13) (tC (.int 2))) az)))))))))))))))
end K92
namespace K92
open PySem PySem.Spec PyProof.Rows L2 MM
theorem Jk{K:W.Frag}{a:Ad}{N:WR Str}{vs:WR V}{H:Hp}{Q:VK}{E:XK}(hN:N.length=2)(h:lC K vs H Q E):uo K a {nx:=λ_ H'=>Q .non H',rt:=Q} (L2.start N vs) H:=by
 obtain⟨p,q,p1,p2,p3,bs,ts,q1,q2,q3,cs,us,L,h,R,zs,ws,rfl,A,B,ok,r⟩:=h;unfold uo L2.start;rw[hN];nofun;refine OT A.top ⟨_,rfl,?_⟩;rw[if_pos rfl];refine OU A.top ⟨rfl,?_⟩;rw[if_pos (show V.int ((([V.int L,V.int h,V.ref p1,V.ref p2,V.ref p3]:WR V).length:Nat):Int)=V.int 5 from rfl)];exact yE A B ok r
theorem qa{K:W.Frag}{H:Hp}{L h c:Nat}{Bs:WR rH}{Ts:WR rJ}{RR:WR (WR bB)}{p q:Addr}{os us:WR Addr}{kn tk kn' tk':Nat->Prop}{n n':Nat}{Q:VK}{E:XK}(A:lz H L h c Bs Ts RR p os kn tk n)(B:lz H L h c Bs Ts RR q us kn' tk' n')(e:∀k,kn k↔kn' k)(g:∀k,tk k↔tk' k)(en:n=n')(l26:L<=26)(r:Q (.bl true) H):lC K [.ref p,.ref q] H Q E:=by
 obtain⟨p1,p2,p3,bs,ts,q1,q2,q3,cs,vs,zs,ws,S,S',ok⟩:=A.two B e g en l26;exact⟨p,q,p1,p2,p3,bs,ts,q1,q2,q3,cs,vs,L,h,_,zs,ws,rfl,S,S',ok,r⟩
theorem Jl{K:W.Frag}{a:Ad}{N:WR Str}{vs:WR V}{H:Hp}{Q:VK}{E:XK}(hN:N.length=5)(h:Ew K vs H Q E):uq K a {nx:=λ_ H'=>Q .non H',rt:=Q} (L2.start N vs) H:=by
 obtain⟨p,q,r,os,us,ts,L,h,c,Bs,Ts,RR,k1,t1,k2,t2,k3,t3,n1,n2,n3,rfl,A,B,D,M,fin⟩:=h;have l26:=M.l26;obtain⟨a1,a2,a3,as,av,R1,zs1,ws1,SA,T1,O1⟩:=A.st M;obtain⟨b1,b2,b3,bs,bv,R2,zs2,ws2,SB,T2,O2⟩:=B.st M;unfold uq L2.start;rw[hN];refine aO λc hc=>?_;nofun;refine⟨p,a1,a2,a3,as,av,L,h,R1,zs1,ws1,rfl,SA,T1,λH1 o1 s1 f1 e1=>?_⟩;refine⟨q,b1,b2,b3,bs,bv,L,h,R2,zs2,ws2,rfl,SB.same s1,T2,λH2 o2 s2 f2 e2=>?_⟩;refine zd (s2 _ _ e1) e2 (by have:=Ai T1;have:=Ai T2;omega) λo3 f3=>hc _ _ ?_;clear hc c;have s23:=aI.up H2 f3 (o:=.lst ((rA L h R1 zs1 ws1).map ay++(rA L h R2 zs2 ws2).map ay));have e3:(upd H2 o3 (.lst ((rA L h R1 zs1 ws1).map ay++(rA L h R2 zs2 ws2).map ay))) o3=some (.lst ((rA L h R1 zs1 ws1++rA L h R2 zs2 ws2).map ay)):=by rw[aq,map_append]
 generalize upd H2 o3 _=H3 at s23 e3 ⊢;have s3:=(s1.trans s2).trans s23;refine aO λc hc=>?_;nofun;refine(A.same s3).laid (B.same s3) M λH4 b bo s4 G4 fb=>hc _ _ ?_;clear hc c;have s34:=s3.trans s4;refine aT λc hc=>?_;nofun;refine(B.same s34).laid (A.same s34) M λH5 d5 u5 s5 G5 _=>?_;refine qa (G4.same s5) G5 (λk=>Or.comm) (λk=>Or.comm) (Nat.max_comm _ _) l26 ⟨_,rfl,?_⟩;nofun;have s35:=s34.trans s5;refine(A.same s35).laid (A.same s35) M λH6 d6 u6 s6 G6 _=>?_;have s36:=s35.trans s6;refine qa G6 (A.same s36) (λk=>or_self_iff) (λk=>or_self_iff) (Nat.max_self _) l26 ⟨_,rfl,?_⟩;nofun;refine hc _ _ ?_;clear hc c;have s46:=s5.trans s6;refine aT λc hc=>?_;nofun;refine(G4.same s46).laid (D.same s36) M λH7 d7 u7 s7 G7 _=>?_;have s37:=s36.trans s7;refine(B.same s37).laid (D.same s37) M λH8 d8 u8 s8 G8 _=>?_;have s38:=s37.trans s8;refine(A.same s38).laid G8 M λH9 d9 u9 s9 G9 _=>?_;have s39:=s38.trans s9;refine qa (G7.same (s8.trans s9)) G9 (λk=>or_assoc) (λk=>or_assoc) (Nat.max_assoc _ _ _) l26 ⟨_,rfl,?_⟩;nofun;refine hc _ _ ?_;clear hc c;have s49:=s46.trans (s7.trans (s8.trans s9));refine aT λc hc=>?_;nofun;refine(G4.same s49).laid (A.same s39) M λHA dA uA sA GA _=>?_;have s3A:=s39.trans sA;have s4A:=s49.trans sA;refine qa GA (G4.same s4A) (λk=>⟨λh=>h.elim id .inl,.inl⟩) (λk=>⟨λh=>h.elim id .inl,.inl⟩) (by omega) l26 ⟨_,rfl,?_⟩;nofun;refine(B.same s3A).laid (G4.same s4A) M λHB dB uB sB GB _=>?_;have s3B:=s3A.trans sB;have s4B:=s4A.trans sB;refine qa GB (G4.same s4B) (λk=>⟨λh=>h.elim .inr id,.inr⟩) (λk=>⟨λh=>h.elim .inr id,.inr⟩) (by omega) l26 ⟨_,rfl,?_⟩;nofun;refine hc _ _ ?_;clear hc c;nofun;refine⟨p,a1,a2,a3,as,av,L,h,R1,zs1,ws1,rfl,SA.same s3B,T1,λHC o4 sC f4 e4=>?_⟩;refine⟨q,b1,b2,b3,bs,bv,L,h,R2,zs2,ws2,rfl,SB.same (s3B.trans sC),T2,λHD o5 sD f5 e5=>?_⟩;refine zd (sD _ _ e4) e5 (by have:=Ai T1;have:=Ai T2;omega) λo6 f6=>?_;have sE:=aI.up HD f6 (o:=.lst ((rA L h R1 zs1 ws1).map ay++(rA L h R2 zs2 ws2).map ay));have e6:(upd HD o6 (.lst ((rA L h R1 zs1 ws1).map ay++(rA L h R2 zs2 ws2).map ay))) o6=some (.lst ((rA L h R1 zs1 ws1++rA L h R2 zs2 ws2).map ay)):=by rw[aq,map_append]
 generalize upd HD o6 _=HE at sE e6 ⊢;have sF:=(s4.trans s4B).trans ((sC.trans sD).trans sE);refine Cn e6 (sF _ _ e3) (λy hy=>?_) (fin _ (s3.trans sF))
 rcases mem_append.mp hy with h|h
 .exact PF T1 y h
 .exact PF T2 y h
end K92
namespace K92
open PySem PySem.Spec PyProof.Rows L2 MM
theorem rP{f:Nat->HR}{i:Nat}(h:i<3):(CH f)[i]?=some (.ref (f i).x):=by
 rcases i with _|_|_|i
 .rfl
 .rfl
 .rfl
 .omega
theorem An{f:Nat->HR}{i:Nat}{r:HR}(h:r.x=(f i).x):CH (yJ f i r)=CH f:=by
 have e:∀k,(yJ f i r k).x=(f k).x:=λk=>by
  by_cases z:k=i
  .rw[z,aN,h]
  .rw[aV z]
 unfold CH;rw[e,e,e]
theorem Jm{K:PySem.W.Frag}{a:Ad}{N:WR Str}{vs:WR V}{H:Hp}{Q:VK}{E:XK}(hN:N.length=7)(h:Ex K a.aD vs H Q E):um K a {nx:=λ_ H'=>Q .non H',rt:=Q} (L2.start N vs) H:=by
 obtain⟨sc,ph,ns,k,H0,L,c0,Bs,Ts,RR,f,rfl,hS0,hl,hk,T,eph,nph,hc0,hsum,q⟩:=h;have hS:=T.bs.seq hS0;unfold um L2.start;rw[hN];refine aO λc hc=>?_;nofun;refine⟨sc,ns,_,_,rfl,hS,hl,by omega,by omega,by decide,λr h0 h1=>hc _ _ ?_⟩;clear hc c;obtain⟨i,rfl⟩:=eq_ofNat_of_zero_le h0;have hi:i<3:=by omega
 have W:=T.hk i hi;have tl:=W.tl;and_intros;refine aO λc hc=>?_;nofun;refine bq (v:=.ref (f i).x) (aZ.of eph) (by omega) (rP hi) (hc _ _ ?_);clear hc c;refine aO λc hc=>?_;nofun;refine cE (T.hnd i hi) (λR r=>⟨_,rfl,r⟩) rfl ⟨(f i).x,(f i).dx,(f i).pr,(f i).pt,(f i).pk,L,3,(f i).j,(f i).kvs,(f i).ks,rfl,T.hnd i hi,by omega,W.kw.nd,λH1 p zs s1 fp a6 l1=>bG (aZ.of l1) (hc _ _ ?_)⟩;clear hc c;rw[length_map,length_map];have T1:=T.same s1;have hS1:=s1.seq hS;refine aO λc hc=>?_;nofun;refine⟨sc,ns,_,_,rfl,hS1,hl,by omega,by omega,by decide,λw w0 w1=>hc _ _ ?_⟩;clear hc c;simp only[set_cons_zero,set_cons_succ];have n0:=T1.nl i hi;have D:=T1.hs i hi;have lim:PD L 3 c0 Bs Ts RR:=⟨D.l2,D.l26,by omega,D.hh,by omega,by omega,by omega,by omega⟩;have Ul:cI a.aD "put" (wg a.aD a.c6 a.cu) [] E0 (ai 4) (ah (aF (c9 K) [] E0 (ah (ai 0) (ah (aS bS (tC (.int 100)) (ai 1)) (ah (aS bS (ai 5) (tC (.int 1))) az)))) (ah (aS Bq (tC (.str (txt [116]))) (dj J1 (ah (ai 1) az))) az)) [some (.ref sc),some (.int k),some (.ref ph),some (.int i),some (.ref (f i).x),some (.int zs.length),some (.int w)] H1 λ_ H1=>Q .non H1:=by
  refine cE (T1.hnd i hi) (λR r=>⟨_,rfl,r⟩) rfl ?_;nofun;refine⟨sc,ns,_,_,rfl,hS1,hl,by omega,by omega,by omega,λr r0 r1=>?_⟩;refine OP (by omega) (zc (by have:=(fJ k (by omega)).2.2;simp only[length_cons,length_nil];omega) ?_)
  refine T1.put hi (by omega) (by omega) (OV (k:=k) (by omega)) λzs' Z'=>?_;cases a6.one Z';refine⟨⟨r0,by omega⟩,λH' v n w m _ _ T2 k2=>?_⟩;exact q H' (c0+1) [((f i).n,m,116::num k)] [] [] (yJ f i {f i with kvs:=(f i).kvs++[(m,116::num k)],kn:=λk=>(f i).kn k\/k=Bs.length}) (by rw[append_nil,append_nil];exact T2) (An rfl) (by omega) (by omega) (by rw[append_nil,append_nil,length_append];simp only[length_cons,length_nil];omega) ((xB.of_same s1).trans k2) (.up (.inl rfl) λ_ h=>.inl h)
 have V8:cI a.aD "lay" (rK K a.aD) [] E0 (ai 4) (ah (cI a.aD "state" (dJ a.aD) [] E0 (aS (bY K) (ai 2) (aF (c9 K) [] E0 (ah (ai 0) (ah (aS bS (tC (.int 180)) (ai 1)) (ah (tC (.int 3)) az))))) az) az) [some (.ref sc),some (.int k),some (.ref ph),some (.int i),some (.ref (f i).x),some (.int zs.length),some (.int w)] H1 λ_ H1=>Q .non H1:=by
  refine cE (T1.hnd i hi) (λR r=>⟨_,rfl,r⟩) rfl ?_;unfold ah cI;nofun;refine⟨sc,ns,_,_,rfl,hS1,hl,by omega,by omega,by decide,λr r0 r1=>?_⟩;obtain⟨i2,rfl⟩:=eq_ofNat_of_zero_le r0;have hi2:i2<3:=by omega
  refine bq (v:=.ref (f i2).x) (aZ.of (s1 _ _ eph)) (by omega) (rP hi2) ⟨_,rfl,_,_,(T1.hnd i2 hi2).ins,rfl,?_⟩;refine T1.told hi2 lim λH2 p os s2 A fr=>?_;obtain⟨⟨p1,p2,p3,bs,ts,zs2,ws2,rfl,S,K1⟩,a1,b1,d1⟩:=A;refine(T1.same s2).lay hi S K1 a1 b1 d1 lim.hB lim.hT (by have:=lim.hR;omega) (by have:=lim.hc;omega) λH' r rx _ rn rk rt _ _ rp ra T2 k2=>?_;exact q H' c0 [] [] [] (yJ f i r) (by rw[append_nil,append_nil,append_nil];exact T2) (An rx) (le_refl _) (by omega) (by rw[append_nil,append_nil,append_nil];omega) (((xB.of_same s1).trans (xB.of_same s2)).trans k2) (.up (.inr (s1.bO (s2.bO rp))) λb hb=>.inr (s1.bO (s2.bO (ra b hb))))
 have V9:zs.length≠0->cI a.aD "take" (pK a.aD a.cu) [] E0 (ai 4) (ah (aF (c9 K) [] E0 (ah (ai 0) (ah (aS bS (tC (.int 140)) (ai 1)) (ah (ai 5) az)))) az) [some (.ref sc),some (.int k),some (.ref ph),some (.int i),some (.ref (f i).x),some (.int zs.length),some (.int w)] H1 λ_ H1=>Q .non H1:=λnz=>by
  refine cE (T1.hnd i hi) (λR r=>⟨_,rfl,r⟩) rfl ?_;nofun;refine⟨sc,ns,_,_,rfl,hS1,hl,by omega,by omega,by omega,λr r0 r1=>?_⟩;refine T1.take hi (by omega) λzs' Z'=>?_;cases a6.one Z';refine⟨⟨r0,by omega⟩,λH' m _ T2 k2=>?_⟩;exact q H' c0 [] [((f i).n,m)] [] (yJ f i {f i with ks:=(f i).ks++[m],tk:=λk=>(f i).tk k\/k=Ts.length}) (by rw[append_nil,append_nil];exact T2) (An rfl) (by omega) (by omega) (by rw[append_nil,append_nil,length_append];simp only[length_cons,length_nil];omega) ((xB.of_same s1).trans k2) (.up (.inl rfl) λ_ h=>.inl h)
 have Wa:cI a.aD "renew" (kU a.aD a.cP) [] E0 (aS (bY K) (ai 2) (tC (.int 0))) az [some (.ref sc),some (.int k),some (.ref ph),some (.int i),some (.ref (f i).x),some (.int zs.length),some (.int w)] H1 λ_ H1=>Q .non H1:=by
  refine cE (T1.hnd 0 T1.pos) (λR r=>by nofun;exact bq (v:=.ref (f 0).x) (aZ.of (s1 _ _ eph)) (by omega) (rP (by omega)) r) rfl ?_
  nofun;refine T1.yG (by omega) (by omega) (by omega) λH' zs' n pt' pk' r ys b AK IR T2 k2 _ _ _ _ fr=>?_;exact q H' c0 [] [] [cZ L zs' (f 0).ks n] (yJ f 0 {f 0 with pt:=pt',pk:=pk',as:=(f 0).as++[r],n:=RR.length+1,kvs:=eB (f 0).kvs (cZ L zs' (f 0).ks n),ks:=[] }) (by rw[append_nil,append_nil];exact T2) (An rfl) (by omega) (by omega) (by rw[append_nil,append_nil,length_append];simp only[length_cons,length_nil];omega) ((xB.of_same s1).trans k2) (.up (.inl rfl) λb hb=>by
   rcases mem_append.mp hb with h|h
   .exact .inl h
   .rw[mem_singleton.mp h];exact .inr (s1.bO fr))
 have stay:Q .non H1:=q H1 c0 [] [] [] f (by rw[append_nil,append_nil,append_nil];exact T1) rfl (le_refl _) (by omega) (by rw[append_nil,append_nil,append_nil];omega) (xB.of_same s1) Nw.refl;nofun
 by_cases w3:w<3
 .rw[if_pos w3];exact Ul
 rw[if_neg w3];refine⟨rfl,?_⟩
 by_cases z0:(zs.length:Int)=0
 .rw[if_pos z0];exact Ul
 rw[if_neg z0];refine⟨rfl,?_⟩
 by_cases e3:w=3
 .rw[if_pos e3];exact V9 (by omega)
 rw[if_neg e3];refine⟨rfl,?_⟩
 by_cases e4:w=4
 .rw[if_pos e4];refine⟨sc,ns,_,_,rfl,hS1,hl,by decide,by decide,by decide,λr _ _=>⟨rfl,?_⟩⟩
  by_cases r1:V.int r=V.int 1
  .rw[if_pos r1];exact Wa
  .rw[if_neg r1,if_neg (by omega)];exact stay
 rw[if_neg e4]
 by_cases g4:4<w
 .rw[if_pos g4];exact V8
 .rw[if_neg g4];exact stay
end K92
namespace K92
open PySem PySem.Spec PyProof.Rows L2 MM
structure Wd(C:Addr)(H0 H:Hp)(L:Nat)(ph pst:Addr)(X:WR V)(i c:Nat)(Bs:WR rH)(Ts:WR rJ)(RR:WR (WR bB))(f:Nat->HR)(ss:WR Addr):Prop where
 T:iN C H0 H L 3 c Bs Ts RR 3 f
 eX:CH f=X
 eph:H ph=some (.lst X)
 nph:ph≠(f 0).pr
 est:H pst=some (.lst (ss.map V.ref))
 nst:∀i,i<3->pst≠(f i).pr/\¬pst∈(f i).as
 np:ph≠pst
 z0:H0 pst=none
 hc:c<=i
 hs:Bs.length+Ts.length+RR.length<=i
 st:∀s∈ss,∃os kn tk n,lz H L 3 c Bs Ts RR s os kn tk n/\¬(f 0).pr∈os/\¬pst∈os
section
variable{C:Addr}{H0 H H':Hp}{L:Nat}{ph pst:Addr}{X:WR V}{i c:Nat}{Bs:WR rH}{Ts:WR rJ}{RR:WR (WR bB)}{f:Nat->HR}{ss:WR Addr}
theorem Wd.lim(W:Wd C H0 H L ph pst X i c Bs Ts RR f ss)(hi:i<=31):PD L 3 c Bs Ts RR:=by
 have D:=W.T.hs 0 (by omega);have:=W.hc;have:=W.hs;exact⟨D.l2,D.l26,by omega,D.hh,by omega,by omega,by omega,by omega⟩
theorem Wd.same(W:Wd C H0 H L ph pst X i c Bs Ts RR f ss)(s:aI H H'):Wd C H0 H' L ph pst X i c Bs Ts RR f ss:=by
 refine {W with T:=W.T.same s,eph:=s _ _ W.eph,est:=s _ _ W.est,st:=λx hx=>?_}
 obtain⟨os,kn,tk,n,A,a,b⟩:=W.st x hx;exact⟨os,kn,tk,n,A.same s,a,b⟩
theorem Wd.app{p:Addr}{os:WR Addr}{kn tk:Nat->Prop}{n:Nat}(W:Wd C H0 H L ph pst X i c Bs Ts RR f ss)(s:aI H H')(A:lz H' L 3 c Bs Ts RR p os kn tk n)(fr:∀b∈p::os,H b=none):Wd C H0 (upd H' pst (.lst ((ss++[p]).map V.ref))) L ph pst X i c Bs Ts RR f (ss++[p]):=by
 have W':=W.same s;have no:∀{b:Addr} {o:HO},H b=some o->¬b∈os:=λe z=>by rw[fr _ (mem_cons_of_mem _ z)] at e;cases e
 refine {W with T:=W'.T.FU W'.est W.z0 W.nst,eph:=by rw[aH W.np];exact W'.eph,est:=aq,st:=λx hx=>?_}
 rcases mem_append.mp hx with h|h
 .obtain⟨os,kn,tk,n,A,a,b⟩:=W'.st x h;exact⟨os,kn,tk,n,A.FU W'.est b,a,b⟩
 .rw[mem_singleton.mp h];exact⟨os,kn,tk,n,A.FU W'.est (no W.est),no (W.T.ren 0 (by omega)).lst,no W.est⟩
theorem Wd.mono{i':Nat}(W:Wd C H0 H L ph pst X i c Bs Ts RR f ss)(h:i<=i'):Wd C H0 H L ph pst X i' c Bs Ts RR f ss:=
 {W with hc:=Nat.le_trans W.hc h,hs:=Nat.le_trans W.hs h}
theorem Wd.step{c':Nat}{Bx:WR rH}{Tx:WR rJ}{Rx:WR (WR bB)}{f':Nat->HR}(W:Wd C H0 H L ph pst X i c Bs Ts RR f ss)(T':iN C H0 H' L 3 c' (Bs++Bx) (Ts++Tx) (RR++Rx) 3 f')(e:CH f'=CH f)(hc:c<=c')(hc':c'<=i+1)(hs:(Bs++Bx).length+(Ts++Tx).length+(RR++Rx).length<=i+1)(k:xB (f 0).pr H H')(w:Nw 3 H f f'):Wd C H0 H' L ph pst X (i+1) c' (Bs++Bx) (Ts++Tx) (RR++Rx) f' ss:=by
 have pp:=(W.T.ren 0 (by omega)).lst;refine {T:=T',eX:=e.trans W.eX,eph:=(k ph W.nph).1 _ W.eph,nph:=?_,est:=(k pst (W.nst 0 (by omega)).1).1 _ W.est,nst:=w.ne W.est W.nst,np:=W.np,z0:=W.z0,hc:=hc',hs:=hs,st:=λx hx=>?_}
 .rcases (w 0 (by omega)).1 with z|z
  .rw[z];exact W.nph
  .exact fresh_ne W.eph z
 .obtain⟨os,kn,tk,n,A,a,b⟩:=W.st x hx;refine⟨os,kn,tk,n,(A.klt k ⟨_,pp⟩ a).grow hc,?_,b⟩
  rcases (w 0 (by omega)).1 with z|z
  .rw[z];exact a
  .exact λy=>A.mem y z
end
def Wb(C:Addr)(H0:Hp)(L:Nat)(ph pst:Addr)(X:WR V)(σ0:WR (Option V)):Nat->L2.St->Hp->Prop:=λi Z H=>∃c Bs Ts RR f ss v5,Wd C H0 H L ph pst X i c Bs Ts RR f ss/\ss.length<=i/\Z=σ0++[v5,none,none,none,none,none,none,none,none]
def Wc(C:Addr)(H0:Hp)(L:Nat)(ph pst:Addr)(X:WR V)(c:Nat)(Bs:WR rH)(Ts:WR rJ)(RR:WR (WR bB))(f:Nat->HR)(σ0:WR (Option V)):Nat->L2.St->Hp->Prop:=λi Z H=>∃ss v6,Wd C H0 H L ph pst X 30 c Bs Ts RR f ss/\i<=ss.length/\ss.length<=30+i/\Z=σ0++[v6,none,none,none,none,none,none,none]
def We(H:Hp)(σ0:WR (Option V))(v6:Option V):Nat->L2.St->Hp->Prop:=λi Z H'=>∃v5 v7 v8 v9 v10,aI H H'/\Z=σ0++[v5,v6,v7,v8,v9,v10,none,none,none]
theorem lQ{K:W.Frag}{H:Hp}{p:Addr}{ss:WR Addr}{j:Int}{Q:VK}(e:H p=some (.lst (ss.map V.ref)))(h0:0<=j)(h1:j<ss.length)(q:∀s∈ss,Q (.ref s) H):bY K (.ref p) (.int j) H Q:=by
 obtain⟨s,hs⟩:=some_at (l:=ss) (i:=j.toNat) (by omega);exact bq (v:=.ref s) (aZ.of e) h0 (by rw[getElem?_map,hs];rfl) (q s (mem_of_getElem? hs))
def Wf(C:Addr)(H0:Hp)(L:Nat):Nat->WR V->Hp->Prop:=λi ys H=>aI H0 H/\∃f,ys=(List.range i).map (λk=>V.ref (f k).x)/\(0<i->iN C H0 H L 3 0 [] [] [] i f)/\∀k,k<i->(f k).j=k
theorem MN{K:PySem.W.Frag}{a:Ad}{N:WR Str}{vs:WR V}{H:Hp}{Q:VK}{E:XK}(hN:N.length=14)(h:FY K vs H Q E):Am K a {nx:=λ_ H'=>Q .non H',rt:=Q} (L2.start N vs) H:=by
 obtain⟨sc,ns,rfl,hS,hl,fin⟩:=h;unfold Am L2.start;rw[hN];refine aO λc hc=>?_;nofun;refine⟨by decide,λp hp=>?_⟩;have s1:=aI.up (o:=HO.lst [V.int 4,V.int 5,V.int 10,V.int 26]) H hp;refine⟨sc,ns,_,_,rfl,s1.seq hS,hl,by decide,by decide,by decide,λr h0 h1=>?_⟩;refine C4 (ns:=[4,5,10,26]) aZ.here h0 (by simp only[length_cons,length_nil];omega) λL hL _=>hc _ _ ?_;clear hc c;generalize upd H p _=H1 at s1 ⊢;have hS1:=s1.seq hS;have hL2:4<=L/\L<=26:=by
  simp only[mem_cons,not_mem_nil,or_false] at hL;omega
 obtain⟨L,rfl⟩:=eq_ofNat_of_zero_le (a:=L) (by omega);and_intros;refine je λc hc=>?_;refine E4 (j:=3) (λQ h=>by nofun;exact h) (by decide) (by decide) (by decide) (Wf a.aD H1 L) ⟨aI.refl _,λ_=>Je 0 0 0 0 0 0,rfl,λz=>absurd z (Nat.lt_irrefl _),λk z=>absurd z (Nat.not_lt_zero _)⟩ (λi ys H' _ p=>by obtain⟨_,f,e,_⟩:=p;rw[e,length_map,length_range];exact le_refl _) ?_ ?_
 .rintro i ys H' hi ⟨s',f,rfl,T,jn⟩ W hW;nofun;have D:jZ L 3 i:=⟨by omega,by omega,by omega,by omega⟩;refine Lw D (λR h=>by nofun;exact h) λH2 x dx pr pt pk s2 S e g0 g1 g2 g3 g4=>hW _ _ ⟨s'.trans s2,yJ f i (Je x dx pr pt pk i),?_,λ_=>?_,λk hk=>?_⟩
  .rw[range_succ,map_append];congr 1
   .refine List.map_congr_left λk hk=>?_;rw[aV (ne_of_lt (mem_range.mp hk))]
   .show [V.ref x]=[V.ref (yJ f i (Je x dx pr pt pk i) i).x];rw[aN];rfl
  .rcases Nat.eq_zero_or_pos i with z|z
   .subst z;exact iN.first D (s'.trans s2) S e (s'.bO g0) (s'.bO g2) (s'.bO g3) (s'.bO g4) aN
   .exact(T z).add s2 D S e g0 g2 g3 g4
  .by_cases z:k=i
   .rw[z,aN];rfl
   .rw[aV z];exact jn k (by omega)
 rintro ys H2 ⟨s12,f,rfl,T,jn⟩ ph hph;refine hc _ _ ?_;clear hc c;have T2:=T (by decide);clear T;have s23:=aI.up H2 hph (o:=.lst (CH f));have eph:(upd H2 ph (.lst (CH f))) ph=some (.lst (CH f)):=aq;have nph:ph≠(f 0).pr:=Ne.symm (fresh_ne (T2.ren 0 (by omega)).lst hph);show aJ _ _ _ _ (upd H2 ph (.lst (CH f)));generalize upd H2 ph _=H3 at s23 eph ⊢;have T3:=T2.same s23;clear T2;simp only[set_cons_zero,set_cons_succ];refine aO λc hc=>?_;nofun;refine⟨by decide,λpst MP=>hc _ _ ?_⟩;clear hc c;have s34:=aI.up H3 MP (o:=.lst []);have est:(upd H3 pst (.lst [])) pst=some (.lst (([]:WR Addr).map V.ref)):=aq;have W4:Wd a.aD H1 (upd H3 pst (.lst [])) L ph pst (CH f) 0 0 [] [] [] f []:=by
  refine {T:=T3.same s34,eX:=rfl,eph:=s34 _ _ eph,nph:=nph,est:=est,nst:=λi hi=>⟨Ne.symm (fresh_ne (T3.ren i hi).lst MP),λz=>?_⟩,np:=fresh_ne eph MP,z0:=T3.bs.bO MP,hc:=le_refl _,hs:=le_refl _,st:=λs h=>(nomatch h)};obtain⟨xs,w⟩:=(T3.ren i hi).row.mem z;rw[MP] at w;cases w
 generalize upd H3 pst _=H4 at s34 est W4 ⊢;generalize CH f=X at eph W4;refine aO λc hc=>?_;nofun;refine⟨sc,ns,_,_,rfl,W4.T.bs.seq hS1,hl,by decide,by decide,by decide,λm m0 m1=>⟨_,rfl,hc _ _ ?_⟩⟩
 clear hc c;have hm:6<=6+m/\6+m<=30:=by omega
 generalize 6+m=m at hm ⊢;simp only[set_cons_zero,set_cons_succ];refine aT λc hc=>?_;refine qw (j:=m) (λQ h=>by nofun;exact h) (by omega) (by omega) (Wb a.aD H1 L ph pst X [some (.ref sc),some (.int L),some (.ref ph),some (.ref pst),some (.int m)]) ⟨0,[],[],[],f,[],none,W4,le_refl _,rfl⟩ ?_ ?_
 .rintro i Z H' hi ⟨c1,Bs,Ts,RR,g,ss,v5,W,lss,rfl⟩;nofun;refine⟨sc,ph,ns,i,H1,L,c1,Bs,Ts,RR,g,rfl,hS1,hl,by omega,W.T,by rw[W.eX];exact W.eph,W.nph,W.hc,W.hs,λH5 c2 Bx Tx Rx g' T5 eg hc1 hc2 hs2 k5 nw=>?_⟩;have W5:=W.step T5 eg hc1 hc2 hs2 k5 nw;have hS5:=W5.T.bs.seq hS1;refine⟨sc,ns,_,_,rfl,hS5,hl,by decide,by decide,by omega,λr r0 r1=>⟨rfl,?_⟩⟩
  by_cases z:V.int (i:Int)=V.int r
  .rw[if_pos z];refine⟨.inl ⟨rfl,_,aZ.of W5.est⟩,?_⟩;unfold cI;nofun;refine⟨sc,ns,_,_,rfl,hS5,hl,by decide,by decide,by decide,λr2 r20 r21=>?_⟩;obtain⟨i2,rfl⟩:=eq_ofNat_of_zero_le r20;have hi2:i2<3:=by omega
   refine bq (v:=.ref (g' i2).x) (aZ.of W5.eph) (by omega) (by rw[<-W5.eX];exact rP hi2) ⟨_,rfl,_,_,(W5.T.hnd i2 hi2).ins,rfl,?_⟩;refine W5.T.told hi2 (W5.lim (by omega)) λH6 p os s6 A fr=>?_;have:=W5.app s6 A fr;rw[map_append] at this;exact fQ (s6 _ _ W5.est) (by rw[length_map];omega) ⟨c2,_,_,_,g',ss++[p],_,this,by rw[length_append];simp only[length_cons,length_nil];omega,rfl⟩
  .rw[if_neg z];exact⟨c2,_,_,_,g',ss,_,W5,by omega,rfl⟩
 rintro Z H5 ⟨c1',Bs,Ts,RR,g,ss,v5,W,lss,rfl⟩;refine hc _ _ ?_;clear hc c;have W5:=W.mono (i':=30) (by omega);clear W W4;simp only[cons_append,nil_append];refine aT λc hc=>?_;refine uY (a:=ph) (xs:=X) (λQ h=>by nofun;exact h) (aZ.of W5.eph) (Wc a.aD H1 L ph pst X c1' Bs Ts RR g [some (.ref sc),some (.int L),some (.ref ph),some (.ref pst),some (.int m),v5]) ⟨ss,none,W5,zero_le _,by omega,rfl⟩ (λi Z H' _ h=>by obtain⟨ss,v6,W,_⟩:=h;exact aZ.of W.eph) ?_ ?_
 .rintro i x Z H' hx ⟨ss,v6,W,l1,l2,rfl⟩;nofun;have hi3:i<3:=by
   have:=(List.getElem?_eq_some_iff.mp hx).1;rw[<-W.eX] at this;exact this
  rw[<-W.eX,rP hi3] at hx;cases hx;refine⟨.inl ⟨rfl,_,aZ.of W.est⟩,cE (W.T.hnd i hi3) (λR r=>⟨_,rfl,r⟩) rfl ?_⟩;nofun;refine W.T.told hi3 (W.lim (by omega)) λH6 p os s6 A fr=>?_;have:=W.app s6 A fr;rw[map_append] at this;exact fQ (s6 _ _ W.est) (by rw[length_map];omega) ⟨ss++[p],_,this,by rw[length_append];simp only[length_cons,length_nil];omega,by rw[length_append];simp only[length_cons,length_nil];omega,rfl⟩
 rintro Z H6 ⟨ss,v6,W6,l1,l2,rfl⟩;refine hc _ _ ?_;clear hc c;clear W5;have lX:X.length=3:=by rw[<-W6.eX];rfl
 rw[lX] at l1 l2;have M:=W6.lim (by omega);have hS6:=W6.T.bs.seq hS1;simp only[cons_append,nil_append];refine aT λc hc=>?_;refine qw (j:=3) (λQ h=>by nofun;exact h) (by decide) (by decide) (We H6 [some (.ref sc),some (.int L),some (.ref ph),some (.ref pst),some (.int m)] v6) ⟨v5,none,none,none,none,aI.refl _,rfl⟩ ?_ ?_
 .rintro i Z H' hi ⟨v5,v7,v8,v9,v10,s',rfl⟩;have hS':=s'.seq hS6;have CB:=s' _ _ W6.est;simp only[cons_append,nil_append,aG,set_cons_zero,set_cons_succ];refine aO λc1 hc1=>?_;nofun;refine bG (aZ.of CB) ⟨sc,ns,_,_,rfl,hS',hl,by decide,by decide,by rw[length_map];omega,λr r0 r1=>⟨_,rfl,bG (aZ.of CB) ⟨_,rfl,by rw[length_map];omega,?_⟩⟩⟩
  rw[length_map];refine lQ CB (emod_nonneg _ (by omega)) (Int.emod_lt_of_pos _ (by omega)) λs7 m7=>hc1 _ _ ?_;clear hc1 c1;obtain⟨o7,k7,t7,n7,A7,p7,q7⟩:=W6.st s7 m7;simp only[set_cons_zero,set_cons_succ];refine aO λc1 hc1=>?_;nofun;refine bG (aZ.of CB) ⟨sc,ns,_,_,rfl,hS',hl,by decide,by decide,by rw[length_map];omega,λr r0 r1=>⟨_,rfl,bG (aZ.of CB) ⟨_,rfl,by rw[length_map];omega,?_⟩⟩⟩
  rw[length_map];refine lQ CB (emod_nonneg _ (by omega)) (Int.emod_lt_of_pos _ (by omega)) λs8 m8=>hc1 _ _ ?_;clear hc1 c1;obtain⟨o8,k8,t8,n8,A8,p8,q8⟩:=W6.st s8 m8;simp only[set_cons_zero,set_cons_succ];refine aO λc1 hc1=>?_;nofun;refine bG (aZ.of CB) ⟨sc,ns,_,_,rfl,hS',hl,by omega,by omega,by rw[length_map];omega,λr r0 r1=>?_⟩;rw[length_map] at r1;refine lQ CB r0 (by omega) λs9 m9=>hc1 _ _ ?_;clear hc1 c1;obtain⟨o9,k9,t9,n9,A9,p9,q9⟩:=W6.st s9 m9;simp only[set_cons_zero,set_cons_succ];have A7':=A7.same s';refine aT λc1 hc1=>?_;nofun;refine⟨s7,s8,s9,o7,o8,o9,L,3,c1',Bs,Ts,RR,k7,t7,k8,t8,k9,t9,n7,n8,n9,rfl,A7',A8.same s',A9.same s',M,λH7 s67=>⟨_,rfl,?_⟩⟩;nofun;refine hc1 _ _ ?_;clear hc1 c1;refine aO λc1 hc1=>?_;nofun;obtain⟨a1,a2,a3,as,av,R1,zs1,ws1,SA,T1,O1⟩:=(A7'.same s67).st M;refine⟨s7,a1,a2,a3,as,av,L,3,R1,zs1,ws1,rfl,SA,T1,λH8 o8 s8 f8 e8=>hc1 _ _ ?_⟩;clear hc1 c1;simp only[set_cons_zero,set_cons_succ];nofun;refine N8 e8 ⟨_,rfl,?_⟩;rw[if_neg (by decide)];refine⟨o8,_,rfl,.inl (aZ.of e8),λp9 f9=>?_⟩;have s89:=aI.up H8 f9 (o:=.lst ((rA L 3 R1 zs1 ws1).map ay));have e9:(upd H8 p9 (.lst ((rA L 3 R1 zs1 ws1).map ay))) p9=some (.lst ((rA L 3 R1 zs1 ws1).map ay)):=aq;generalize upd H8 p9 _=H9 at s89 e9 ⊢;refine⟨p9,L,3,R1,zs1,ws1,rfl,e9,T1,λHA oA b1 b2 b3 bs xs sA fo fr3 SB=>?_⟩;refine IQ SB (SA.same ((s8.trans s89).trans sA)) O1 ⟨_,rfl,?_⟩;rw[if_neg (by decide)];exact⟨_,_,_,_,_,s'.trans (s67.trans ((s8.trans s89).trans sA)),rfl⟩
 rintro Z H7 ⟨v5,v7,v8,v9,v10,s67,rfl⟩;refine hc _ _ ?_;clear hc c;have W7:=W6.same s67;have hS7:=s67.seq hS6;clear W6;simp only[cons_append,nil_append];refine aO λc hc=>?_;nofun;refine⟨sc,ns,_,_,rfl,hS7,hl,by decide,by decide,by decide,λr r0 r1=>hc _ _ ?_⟩;clear hc c;obtain⟨i,rfl⟩:=eq_ofNat_of_zero_le r0;have hi:i<3:=by omega
 have exi:X[((i:Nat):Int).toNat]?=some (.ref (g i).x):=by rw[<-W7.eX];exact rP hi
 simp only[set_cons_zero,set_cons_succ];refine aO λc hc=>?_;refine cE (W7.T.hnd i hi) (λR r=>by nofun;exact bq (v:=.ref (g i).x) (aZ.of W7.eph) (by omega) exi r) rfl ?_
 nofun;refine W7.T.told hi M λH8 mi mo s8 A8 f8=>hc _ _ ?_;clear hc c;have W8:=W7.same s8;have prl:=(W7.T.ren 0 (by omega)).lst;simp only[set_cons_zero,set_cons_succ];obtain⟨s0,hs0⟩:=some_at (l:=ss) (i:=0) (by omega);obtain⟨o0,k0,t0,n0,A0,p0,q0⟩:=W8.st s0 (mem_of_getElem? hs0);have es0:(ss.map V.ref)[(0:Int).toNat]?=some (.ref s0):=by rw[getElem?_map];show ss[0]?.map V.ref=_;rw[hs0];rfl
 refine aO λc hc=>?_;nofun;refine bq (v:=.ref s0) (aZ.of W8.est) (by decide) es0 ?_;refine A8.laid A0 M λH9 d dos s9 G9 f9=>hc _ _ ?_;clear hc c;have W9:=W8.same s9;have Wg:=s9 _ _ (s8 _ _ prl);refine aT λc hc=>?_;nofun;refine cE (W9.T.hnd i hi) (λR r=>by nofun;exact bq (v:=.ref (g i).x) (aZ.of W9.eph) (by omega) exi r) rfl ?_
 nofun;refine bq (v:=.ref s0) (aZ.of W9.est) (by decide) es0 ?_;obtain⟨⟨p1,p2,p3,bs,ts,zs2,ws2,rfl,S,K1⟩,a1,b1,d1⟩:=A0.same s9;refine W9.T.lay hi S K1 a1 b1 d1 M.hB M.hT (by have:=M.hR;omega) (by have:=M.hc;omega) λHA r rx _ rn rk rt _ _ rp ra TA kA=>hc _ _ ?_;clear hc c;have npr:¬(g 0).pr∈dos:=λz=>by have:=f9 _ (mem_cons_of_mem _ z);rw[s8 _ _ prl] at this;cases this
 have GA:=G9.klt kA ⟨_,Wg⟩ npr;have Um:=(kA ph W9.nph).1 _ W9.eph;have exA:X[((i:Nat):Int).toNat]?=some (.ref (yJ g i r i).x):=by rw[exi,aN,rx]
 nofun;refine cE (TA.hnd i hi) (λR z=>by nofun;exact bq (v:=.ref (yJ g i r i).x) (aZ.of Um) (by omega) exA z) rfl ?_
 nofun;refine TA.told hi M λHB e eos sB AB fB=>?_;obtain⟨e1,e2,e3,es,et,q1,q2,q3,cs,vs,zs,ws,SE,SD,ok⟩:=AB.two (GA.same sB) (λk=>by rw[aN,rk]) (λk=>by rw[aN,rt]) (by rw[aN,rn]) M.l26;refine yE SE SD ok ⟨_,rfl,?_⟩;rw[if_pos rfl];have TB:=TA.same sB;refine cE (TB.hnd i hi) (λR z=>by nofun;exact bq (v:=.ref (yJ g i r i).x) (aZ.of (sB _ _ Um)) (by omega) exA z) rfl ?_
 nofun;refine⟨_,_,_,_,_,L,3,_,_,_,_,rfl,TB.hnd i hi,(TB.ren i hi).lst,?_⟩;refine bH (v:=.ref q1) (ff.of SD.top) (by decide) rfl (bG (aZ.of SD.ren) ⟨rfl,?_⟩);rw[length_map,length_map,(TB.ren i hi).row.len,SD.row.len,decide_eq_true rfl];exact fin _
end K92
local macro_rules | `(tactic| left)=>`(tactic| exact L2.b6.mono (by assumption) (by decide))
local macro_rules | `(tactic| right)=>`(tactic| exact ⟨rfl,rfl,rfl,by decide +kernel,rfl,by decide +kernel,by decide +kernel⟩)
local macro_rules | `(tactic| symm)=>`(tactic| (intro _ _ _ _ h; (repeat obtain ⟨_,h⟩:=h) <;> (subst_vars; rfl)))
local macro_rules | `(tactic| exfalso)=>`(tactic| (intro _ _ _ _ _ _; repeat (first | exact L2.Wy rfl | refine L2.Wz fun _=>?_)))
namespace K92
open PySem PySem.Spec PyProof.Rows L2 MM
theorem Js{K:W.Frag}{mg:Str->Option Value}{a:Ad}(T:Tx K mg a):gh K a.aD:=⟨T.dm,T.xr,T.Ak,T.pZ,T.tP,T.tQ,T.Al⟩
section
variable{P:Program}{w:World}{K:W.Frag}{mg:Str->Option Value}{base:Heap}{a:Ad}
theorem Ru:aK ["letters", "hands"] ["letters", "hands"] (aB LG):=by right
theorem MQ(T:Tx K mg a):T.mQ.Ok P w base (oJ P w) 1 (zQ a.cB):=
 T.mQ.F.E9 Ru (rd:=λE=>zR a.cB E [108,101,116,116,101,114,115,32,109,117,115,116,32,98,101,32,102,114,111,109,32,50,32,116,111,32,50,54] [104,97,110,100,115,32,109,117,115,116,32,98,101,32,102,114,111,109,32,49,32,116,111,32,111,110,101,32,108,101,115,115,32,116,104,97,110,32,108,101,116,116,101,114,115]) (by symm) (λ_ _ _ _ _ _ hr=>by delta zR;exact aj (bT (iS (gX (bf kj (kv 0) aA) (fC (bf nY (kv 0) (aM eW T.bL PyProof.Rows.Boot.«len» (af (gw T.jN gS) ao)))))) (au (gZ PySem.F.excBase_ValueError T.tD T.lB (af (bK (by rfl')) ao) (λ_ _ _ _ _ _ _ I m q=>gY I m q))) (bz)) (au (bT (iS (gX (bf kj (kv 1) aA) (fC (bf ER (kv 1) (kv 0))))) (au (gZ PySem.F.excBase_ValueError T.tD T.lB (af (bK (by rfl')) ao) (λ_ _ _ _ _ _ _ I m q=>gY I m q))) (bz)))) λ_ _ _ _ h=>IG rfl h
theorem Rv:aK ["letters", "text"] ["letters", "text"] (aB LH):=by right
theorem Rw(T:Tx K mg a):T.wH.Ok P w base fc 1 vI:=
 T.wH.F.gf Rv (by symm) (λ_ _ _ _ _ _ hr=>by delta vJ;exact aj (bT (iS (gX (bf dZ (kv 1) (bK (by rfl'))) (fC (fy (gc PySem.F.plainAttrs_str PySem.F.slot_str_endswith PySem.F.type_str_endswith Bk (kv 1) (af (bK (by rfl')) ao)))))) (au (aP gT)) (bz)) (au (aP (aM (lK (by rfl')) T.FW PyProof.Rows.Boot.«all» (af (dO [("letters",0)] (ze (kv 1)) (λ_ _ _ _ _=>⟨cL,c8 C2 (kv 0) (gW QD (gw T.jN gS) jm (jo (jk 1)))⟩)) ao))))) λ_ _ _ _ h=>BU rfl h
theorem Ao:aK ["letters", "long", "product", "step"] ["letters", "long"] (aB LI):=by right
theorem MR(T:Tx K mg a):T.sJ.Ok P w base fc 1 ua:=
 T.sJ.F.gf Ao (by symm) (λ_ _ _ _ _ _ hr=>by delta zD;exact aj (aE (i:=2) Ao.nd aA) (aj (eS (eY T.fN (af (kv 1) ao)) (cF (i:=3) Ao.nd) (au (aE (i:=2) Ao.nd (aR dN (kv 2) (kv 0))))) (au (aP (kv 2))))) λ_ _ _ _ h=>DG rfl h
theorem Ry:aK ["mark", "place"] ["mark", "place"] (aB LJ):=by right
theorem Ey(T:Tx K mg a):T.pR.Ok P w base fc 1 BR:=
 T.pR.F.gf Ry (by symm) (λ_ _ _ _ _ _ hr=>by delta K6;exact aj (bT (iS (gX (m6 (kv 0)) (fC (bf ER (kv 1) (aM eW T.bL PyProof.Rows.Boot.«len» (af (kv 0) ao)))))) (au (aP aA)) (bz)) (au (aP (gc PySem.F.plainAttrs_str PySem.F.slot_str_index PySem.F.type_str_index Bl (gw T.jN gS) (af (aQ oq (kv 0) (kv 1)) ao))))) λ_ _ _ _ h=>K7 rfl h
theorem Aq:aK ["letters", "mark", "long", "whole", "place"] ["letters", "mark", "long"] (aB LK):=by right
theorem Ez(T:Tx K mg a):T.pS.Ok P w base fc 2 pB:=
 T.pS.F.gf Aq (by symm) (λ_ _ _ _ _ _ hr=>by delta zC;exact aj (aE (i:=3) Aq.nd aA) (aj (eS (eY T.fN (af (kv 2) ao)) (cF (i:=4) Aq.nd) (au (aE (i:=3) Aq.nd (aR bE (aR dN (kv 3) (kv 0)) (bX T.pR (Ey T) (af (kv 1) (af (kv 4) ao))))))) (au (aP (kv 3))))) λ_ _ _ _ h=>DF rfl h
theorem rQ:aK ["letters", "number", "long", "text", "rest", "step"] ["letters", "number", "long"] (aB LL):=by right
theorem MS(T:Tx K mg a):T.sL.Ok P w base fc 1 pC:=
 T.sL.F.gf rQ (by symm) (λ_ _ _ _ _ _ hr=>by delta vH;exact aj (aE (i:=3) rQ.nd (bK (by rfl'))) (aj (aE (i:=4) rQ.nd (kv 1)) (aj (eS (eY T.fN (af (kv 2) ao)) (cF (i:=5) rQ.nd) (aj (aE (i:=3) rQ.nd (aR za (aQ oq (gw T.jN gS) (aR fj (kv 4) (kv 0))) (kv 3))) (au (aE (i:=4) rQ.nd (aR iB (kv 4) (kv 0)))))) (au (aP (gc PySem.F.plainAttrs_str PySem.F.slot_str_rstrip PySem.F.type_str_rstrip HQ (kv 3) (af (bK (by rfl')) ao))))))) λ_ _ _ _ h=>BS rfl h
theorem Rz:aK ["letters", "hands", "hand"] ["letters", "hands", "hand"] (aB LM):=by right
theorem As(T:Tx K mg a):T.mR.Ok P w base fc 1 qK:=
 T.mR.F.gf Rz (by symm) (λ_ _ _ _ _ _ hr=>by delta DE;exact au (aP (gc PySem.F.plainAttrs_str PySem.F.slot_str_join PySem.F.type_str_join N2 (bK (by rfl')) (af (dO [("hand", 2),("hands", 1)] (qz T.fN (af aA (af (kv 0) ao))) (λ_ _ _ _ _=>⟨fD (bf dZ (aR fj (aR ki (kv 0) aA) (jk 2)) (jk 1)),aQ oq (gw T.jN gS) (kv 0)⟩)) ao)))) λ_ _ _ _ h=>Iv rfl h
theorem RA:aK ["low", "high"] ["low", "high"] (aB LO):=by right
theorem Au(T:Tx K mg a):T.mS.Ok P w base (oJ P w) 1 (gF a.c5):=
 T.mS.F.E9 RA (rd:=λE=>lS a.c5 E [108,111,119,32,100,111,101,115,32,110,111,116,32,99,111,109,101,32,97,104,101,97,100,32,111,102,32,104,105,103,104]) (by symm) (λ_ _ _ _ _ _ hr=>by delta lS;exact au (bT (iS (jt (fz (kv 0)) (jt (fz (kv 1)) (jr (bf QH (kv 0) (kv 1)))))) (au (gZ PySem.F.excBase_ValueError T.ML T.MK (af (bK (by rfl')) ao) (λ_ _ _ _ _ _ _ I m q=>gY I m q))) (bz))) λ_ _ _ _ h=>zI rfl h
theorem RB:aK ["letters", "high", "long"] ["letters", "high", "long"] (aB LP):=by right
theorem MT(T:Tx K mg a):T.sM.Ok P w base fc 3 zE:=
 T.sM.F.gf RB (by symm) (λ_ _ _ _ _ _ hr=>by delta DH;exact aj (bT (m6 (kv 1)) (au (aP (bX T.sJ (MR T) (af (kv 0) (af (kv 2) ao))))) (bz)) (au (aP (bX T.pS (Ez T) (af (kv 0) (af (kv 1) (af (kv 2) ao))))))) λ_ _ _ _ h=>Iz rfl h
theorem MU:aK ["letters", "ends", "number", "lesser"] ["letters", "ends", "number"] (aB LQ):=by right
theorem EA(T:Tx K mg a):T.pT.Ok P w base fc 1 pD:=
 T.pT.F.gf MU (by symm) (λ_ _ _ _ _ _ hr=>by delta zF;exact aj (iH (i := 3) [("number", 2),("letters", 0)] MU.nd (ze (kv 1)) (λ_ _ _ _ _=>⟨fD (bf y9 (kv 0) (aQ oq (gw T.jN gS) (aR fj (jk 1) (jk 2)))),kv 0⟩)) (au (aP (aR bE (aR dN (aR iB (jk 2) (jk 0)) (aM eW T.bL PyProof.Rows.Boot.«len» (af (kv 1) ao))) (aM aL T.bL PyProof.Rows.Boot.«len» (af (kv 3) ao)))))) λ_ _ _ _ h=>DI rfl h
theorem RC:aK ["letters", "ends", "low_whole"] ["letters", "ends", "low_whole"] (aB LR):=by right
theorem EB(T:Tx K mg a):T.pU.Ok P w base fc 2 pF:=
 T.pU.F.gf RC (by symm) (λ_ _ _ _ _ _ hr=>by delta zG;exact au (aP (bX T.pT (EA T) (af (kv 0) (af (kv 1) (af (aR bE (kv 2) aA) ao)))))) λ_ _ _ _ h=>DJ rfl h
theorem RD:aK ["letters", "ends", "high", "high_whole", "long", "beginnings"] ["letters", "ends", "high", "high_whole", "long", "beginnings"] (aB LS):=by right
theorem MV(T:Tx K mg a):T.sN.Ok P w base fc 2 uc:=
 T.sN.F.gf RD (by symm) (λ_ _ _ _ _ _ hr=>by delta zH;exact aj (bT (iS (jt (fy (kv 5)) (jt (fz (kv 2)) (jr (bf kj (kv 4) (aM eW T.bL PyProof.Rows.Boot.«len» (af (kv 2) ao))))))) (au (aP (bX T.pT (EA T) (af (kv 0) (af (kv 1) (af (aR bE (kv 3) aA) ao)))))) (bz)) (au (aP (bX T.pT (EA T) (af (kv 0) (af (kv 1) (af (kv 3) ao))))))) λ_ _ _ _ h=>DK rfl h
theorem Av:aK ["letters", "ends", "low", "high", "long", "beginnings", "low_whole", "high_whole", "ahead"] ["letters", "ends", "low", "high", "long", "beginnings"] (aB LU):=by right
theorem MW(T:Tx K mg a):T.sO.Ok P w base fc 4 lT:=
 T.sO.F.gf Av (by symm) (λ_ _ _ _ _ _ hr=>by delta qL;exact aj (aE (i:=6) Av.nd (bX T.pS (Ez T) (af (kv 0) (af (kv 2) (af (kv 4) ao))))) (aj (aE (i:=7) Av.nd (bX T.sM (MT T) (af (kv 0) (af (kv 3) (af (kv 4) ao))))) (aj (aE (i:=8) Av.nd (bX T.sN (MV T) (af (kv 0) (af (kv 1) (af (kv 3) (af (kv 7) (af (kv 4) (af (kv 5) ao)))))))) (au (aP (aR ki (kv 8) (bX T.pU (EB T) (af (kv 0) (af (kv 1) (af (kv 6) ao)))))))))) λ_ _ _ _ h=>zJ rfl h
theorem RE:aK ["letters", "hands", "hand", "low", "high", "long"] ["letters", "hands", "hand", "low", "high", "long"] (aB LV):=by right
theorem RG(T:Tx K mg a):T.wI.Ok P w base (oJ P w) 5 (DN a.c5):=
 T.wI.F.E9 RE (by symm) (λ_ _ _ _ _ _ hr=>by delta DO;exact aj (br (kc T.mS (Au T) cM (af (kv 3) (af (kv 4) ao)))) (au (bQ (aP (bX T.sO (MW T) (af (kv 0) (af (bX T.mR (As T) (af (kv 0) (af (kv 1) (af (kv 2) ao)))) (af (kv 3) (af (kv 4) (af (kv 5) (af gT ao))))))))))) λ_ _ _ _ h=>IA rfl h
theorem xu:aK ["letters", "hands", "hand", "low", "high", "long", "number", "ends", "low_whole", "place", "last"] ["letters", "hands", "hand", "low", "high", "long", "number"] (aB LW):=by right
theorem MX(T:Tx K mg a):T.sP.Ok P w base (oJ P w) 3 (Fz a.c5):=
 T.sP.F.E9 xu (by symm) (λ_ _ _ _ _ _ hr=>by delta K9;exact aj (br (kc T.mS (Au T) cM (af (kv 3) (af (kv 4) ao)))) (aj (bQ (aE (i:=7) xu.nd (bX T.mR (As T) (af (kv 0) (af (kv 1) (af (kv 2) ao)))))) (aj (bQ (aE (i:=8) xu.nd (bX T.pS (Ez T) (af (kv 0) (af (kv 3) (af (kv 5) ao)))))) (aj (bQ (aE (i:=9) xu.nd (aR bE (bX T.pU (EB T) (af (kv 0) (af (kv 7) (af (kv 8) ao)))) (kv 6)))) (aj (bQ (aE (i:=10) xu.nd (gc PySem.F.plainAttrs_str PySem.F.slot_str_index PySem.F.type_str_index Bl (gw T.jN gS) (af (aQ oq (kv 7) (aR fj (kv 9) (aM eW T.bL PyProof.Rows.Boot.«len» (af (kv 7) ao)))) ao)))) (au (bQ (aP (bX T.sL (MS T) (af (kv 0) (af (aR bE (aR dN (aR iB (kv 9) (aM eW T.bL PyProof.Rows.Boot.«len» (af (kv 7) ao))) (kv 0)) (kv 10)) (af (kv 5) ao)))))))))))) λ_ _ _ _ h=>La rfl h
theorem iU:aK ["letters", "ends", "low", "high", "many", "beginnings", "long", "room", "low_whole", "high_whole", "ahead"] ["letters", "ends", "low", "high", "many", "beginnings"] (aB LX):=by right
theorem MY(T:Tx K mg a):T.sQ.Ok P w base fc 4 pG:=
 T.sQ.F.gf iU (by symm) (λ_ _ _ _ _ _ hr=>by delta vL;exact aj (aE (i:=6) iU.nd aA) (aj (aE (i:=7) iU.nd aA) (aj (aE (i:=8) iU.nd aA) (aj (aE (i:=9) iU.nd (bX T.sM (MT T) (af (kv 0) (af (kv 3) (af aA ao))))) (aj (vc (bf kj (kv 7) (kv 4)) (aj (aE (i:=8) iU.nd (aR bE (aR dN (kv 8) (kv 0)) (bX T.pR (Ey T) (af (kv 2) (af (kv 6) ao))))) (aj (aE (i:=9) iU.nd (aR bE (aR dN (kv 9) (kv 0)) (bX T.pR (Ey T) (af (kv 3) (af (kv 6) ao))))) (aj (aE (i:=6) iU.nd (aR bE (kv 6) aA)) (aj (aE (i:=10) iU.nd (bX T.sN (MV T) (af (kv 0) (af (kv 1) (af (kv 3) (af (kv 9) (af (kv 6) (af (kv 5) ao)))))))) (au (aE (i:=7) iU.nd (aR ki (kv 10) (bX T.pU (EB T) (af (kv 0) (af (kv 1) (af (kv 8) ao)))))))))))) (au (aP (kv 6)))))))) λ_ _ _ _ h=>BX rfl h
theorem RH:aK ["letters", "hands", "hand", "low", "high", "many"] ["letters", "hands", "hand", "low", "high", "many"] (aB LY):=by right
theorem RI(T:Tx K mg a):T.wJ.Ok P w base (oJ P w) 5 (zK a.c5):=
 T.wJ.F.E9 RH (by symm) (λ_ _ _ _ _ _ hr=>by delta zL;exact aj (br (kc T.mS (Au T) cM (af (kv 3) (af (kv 4) ao)))) (au (bQ (aP (bX T.sQ (MY T) (af (kv 0) (af (bX T.mR (As T) (af (kv 0) (af (kv 1) (af (kv 2) ao)))) (af (kv 3) (af (kv 4) (af (kv 5) (af gT ao))))))))))) λ_ _ _ _ h=>DQ rfl h
theorem RJ:aK ["low", "high", "many"] ["low", "high", "many"] (aB LZ):=by right
theorem RK(T:Tx K mg a):T.wK.Ok P w base fc 1 DR:=
 T.wK.F.gf RJ (by symm) (λ_ _ _ _ _ _ hr=>by delta DS;exact aj (bT (iS (jt (m6 (kv 1)) (jr (fz (kv 0))))) (au (aP aA)) (bz)) (aj (bT (iS (jt (m6 (kv 0)) (jr (fz (kv 1))))) (au (aP (aR ki (kv 2) aA))) (bz)) (au (aP (aR iB (aR ki (kv 2) aA) aA))))) λ_ _ _ _ h=>IC rfl h
theorem EC:aK ["letters", "hands", "hand", "low", "high", "long", "many"] ["letters", "hands", "hand", "low", "high"] (aB L0):=by right
theorem RL(T:Tx K mg a):T.wL.Ok P w base (oJ P w) 6 (qM a.c5):=
 T.wL.F.E9 EC (by symm) (λ_ _ _ _ _ _ hr=>by delta qN;exact aj (aE (i:=5) EC.nd (kc T.wJ (RI T) cM (af (kv 0) (af (kv 1) (af (kv 2) (af (kv 3) (af (kv 4) (af aA ao)))))))) (aj (aE (i:=6) EC.nd (kc T.wI (RG T) cM (af (kv 0) (af (kv 1) (af (kv 2) (af (kv 3) (af (kv 4) (af (kv 5) ao)))))))) (au (aP (kc T.sP (MX T) cM (af (kv 0) (af (kv 1) (af (kv 2) (af (kv 3) (af (kv 4) (af (kv 5) (af (bX T.wK (RK T) (af (kv 3) (af (kv 4) (af (kv 6) ao)))) ao)))))))))))) λ_ _ _ _ h=>zM rfl h
theorem RM:aK ["many", "whole"] ["many", "whole"] (aB L1):=by right
theorem RN(T:Tx K mg a):T.wM.Ok P w base fc 1 vM:=
 T.wM.F.gf RM (by symm) (λ_ _ _ _ _ _ hr=>by delta vN;exact au (aP (dO [("whole", 1),("many", 0)] (eY T.fN (af (jk 0) ao)) (λ_ _ _ _ _=>⟨cL,aR iB (aR dN (aR bE (kv 0) aA) (jk 1)) (aR bE (jk 2) aA)⟩)))) λ_ _ _ _ h=>BZ rfl h
theorem xw:aK ["letters", "many", "long", "texts"] ["letters", "many"] (aB L3):=by right
theorem RO(T:Tx K mg a):T.wN.Ok P w base fc 1 qO:=
 T.wN.F.gf xw (by symm) (λ_ _ _ _ _ _ hr=>by delta qP;exact aj (aE (i:=2) xw.nd aA) (aj (aE (i:=3) xw.nd aA) (aj (vc (bf kj (aR ki (kv 3) aA) (kv 1)) (aj (aE (i:=3) xw.nd (aR dN (kv 3) (kv 0))) (au (aE (i:=2) xw.nd (aR bE (kv 2) aA))))) (au (aP (kv 2)))))) λ_ _ _ _ h=>zN rfl h
theorem MZ:aK ["letters", "many", "long"] ["letters", "many"] (aB L4):=by right
theorem RP(T:Tx K mg a):T.wO.Ok P w base fc 2 qQ:=
 T.wO.F.gf MZ (by symm) (λ_ _ _ _ _ _ hr=>by delta qR;exact aj (oG (i := 2) MZ.nd (bX T.wN (RO T) (af (jk 0) (af (kv 1) ao)))) (au (aP (dO [("letters", 0),("long", 2)] (bI (bX T.wM (RN T) (af (kv 1) (af (bX T.sJ (MR T) (af (jk 0) (af (jk 2) ao))) ao)))) (λ_ _ _ _ _=>⟨cL,bX T.sL (MS T) (af (jk 1) (af (kv 0) (af (jk 2) ao)))⟩))))) λ_ _ _ _ h=>zP rfl h
theorem nS:aK ["letters", "known", "fresh", "rows", "given", "mark", "stands"] ["letters", "known"] (aB L5):=by right
theorem RQ(T:Tx K mg a):T.wQ.Ok P w base fc 3 (DV K):=
 T.wQ.F.gf nS (by symm) (λ_ _ _ _ _ _ hr=>by delta DW;exact aj (aE (i:=2) nS.nd (bX T.wO (RP T) (af (kv 0) (af (aM aL T.bL PyProof.Rows.Boot.«len» (af (kF [] (bI (kv 1)) (λ_ _ _ _ _=>⟨fD (fy (kv 1)),kv 0⟩)) ao)) ao)))) (aj (aE (i:=3) nS.nd (gU ao)) (aj (aE (i:=4) nS.nd aA) (aj (eS (bI (kv 1)) (C7 (i6 (cF (i:=5) nS.nd) (i6 (cF (i:=6) nS.nd) zf))) (au (bT (fy (kv 6)) (aj (br (gc PySem.F.plainAttrs_list PySem.F.slot_list_append PySem.F.type_list_append dM (kv 3) (af (dX (af (kv 5) (af (aQ aU (kv 2) (kv 4)) ao))) ao))) (au (aE (i:=4) nS.nd (aR bE (kv 4) aA)))) (au (br (gc PySem.F.plainAttrs_list PySem.F.slot_list_append PySem.F.type_list_append dM (kv 3) (af (dX (af (kv 5) (af qy ao))) ao))))))) (au (aP (kv 3))))))) λ_ _ _ _ h=>IF rfl h
theorem Aw:aK ["letters", "low", "high", "ends", "long", "many"] ["letters", "low", "high"] (aB L6):=by right
theorem RS(T:Tx K mg a):T.wR.Ok P w base (oJ P w) 5 (DZ a.c5):=
 T.wR.F.E9 Aw (by symm) (λ_ _ _ _ _ _ hr=>by delta D0;exact aj (br (kc T.mS (Au T) cM (af (kv 1) (af (kv 2) ao)))) (aj (bQ (aE (i:=3) Aw.nd (bX T.mR (As T) (af (kv 0) (af aA (af aA ao)))))) (aj (bQ (aE (i:=4) Aw.nd (bX T.sQ (MY T) (af (kv 0) (af (kv 3) (af (kv 1) (af (kv 2) (af aA (af gT ao))))))))) (aj (bQ (aE (i:=5) Aw.nd (bX T.sO (MW T) (af (kv 0) (af (kv 3) (af (kv 1) (af (kv 2) (af (kv 4) (af gT ao))))))))) (au (aP (kc T.sP (MX T) cM (af (kv 0) (af aA (af aA (af (kv 1) (af (kv 2) (af (kv 4) (af (aR iB (aR ki (kv 5) aA) aA) ao)))))))))))))) λ_ _ _ _ h=>IK rfl h
theorem rR:aK ["rows", "mark", "first", "last", "middle"] ["rows", "mark"] (aB L7):=by right
theorem RT(T:Tx K mg a):T.wU.Ok P w base fc 1 (vW K):=
 T.wU.F.gf rR (by symm) (λ_ _ _ _ _ _ hr=>by delta vX;exact aj (aE (i:=2) rR.nd aA) (aj (aE (i:=3) rR.nd (aM aL T.bL PyProof.Rows.Boot.«len» (af (kv 0) ao))) (aj (vc (bf kj (kv 2) (kv 3)) (aj (aE (i:=4) rR.nd (aR iB (aR bE (kv 2) (kv 3)) aA)) (au (bT (bf y9 (aQ bh (aQ aU (kv 0) (kv 4)) aA) (kv 1)) (au (aE (i:=2) rR.nd (aR bE (kv 4) aA))) (au (aE (i:=3) rR.nd (kv 4))))))) (au (aP (kv 2)))))) λ_ _ _ _ h=>Cb rfl h
theorem ED:aK ["rows", "old", "new"] ["rows"] (aB L8):=by right
theorem M3(T:Tx K mg a):T.sR.Ok P w base fc 1 (pI K):=
 T.sR.F.gf ED (by symm) (λ_ _ _ _ _ _ hr=>by delta vY;exact aj (eS (bI (kv 0)) (C7 (i6 (cF (i:=1) ED.nd) (i6 (cF (i:=2) ED.nd) zf))) (au (bT (fz (kv 2)) (au (aP (kv 2))) (bz)))) (au (aP qy))) λ_ _ _ _ h=>Cd rfl h
theorem Ax:aK ["letters", "rows", "mark", "stems", "place", "low", "high"] ["letters", "rows", "mark", "stems"] (aB Ma):=by right
theorem RU(T:Tx K mg a):T.wV.Ok P w base fc 6 (D3 K):=
 T.wV.F.gf Ax (by symm) (λ_ _ _ _ _ _ hr=>by have hu:=b6.units hr;delta D4;exact aj (aE (i:=4) Ax.nd (bX T.wU (RT T) (af (kv 1) (af (kv 2) ao)))) (aj (bT (iS (jt (bf kj (kv 4) (aM aL T.bL PyProof.Rows.Boot.«len» (af (kv 1) ao))) (jr (bf dZ (aQ bh (aQ aU (kv 1) (kv 4)) aA) (kv 2))))) (au (aP (aQ bh (aQ aU (kv 1) (kv 4)) aA))) (bz)) (aj (aE (i:=5) Ax.nd (bX T.sR (M3 T) (af (Dv (by rfl') T.nR T.Eu (af (gW lH (kv 1) jm (jo (kv 4))) ao)) ao))) (aj (aE (i:=6) Ax.nd (bX T.sR (M3 T) (af (gW lH (kv 1) (jo (kv 4)) jm) ao))) (aj (bT (bf (qG hu) (dX (af (kv 5) (af (kv 6) ao))) (kv 3)) (au (oY hu (kv 3) (dX (af (kv 5) (af (kv 6) ao))) (kc T.wR (RS T) Bv (af (kv 0) (af (kv 5) (af (kv 6) ao)))))) (bz)) (au (aP (aR za (fE hu (kv 3) (dX (af (kv 5) (af (kv 6) ao)))) (kv 2))))))))) λ_ _ _ _ h=>IM rfl h
theorem RV:aK ["letters", "hands", "renewals", "things", "taken"] ["letters", "hands", "renewals", "things", "taken"] (aB Mb):=by right
theorem EE(T:Tx K mg a):T.pV.Ok P w base fc 1 lW:=
 T.pV.F.gf RV (by symm) (λ_ _ _ _ _ _ hr=>by delta qY;exact au (aP (dX (af (kv 0) (af (kv 1) (af (dO [] (bI (kv 2)) (λ_ _ _ _ _=>⟨cL,cC fm T.nR PyProof.Rows.Boot.«list» (af (kv 0) ao)⟩)) (af (cC fm T.nR PyProof.Rows.Boot.«list» (af (kv 3) ao)) (af (cC fm T.nR PyProof.Rows.Boot.«list» (af (kv 4) ao)) ao)))))))) λ_ _ _ _ h=>z3 rfl h
theorem M4:aK ["fewer", "more", "shared"] ["fewer", "more"] (aB Mc):=by right
theorem M5(T:Tx K mg a):T.sS.Ok P w base fc 1 (Eh K):=
 T.sS.F.gf M4 (by symm) (λ_ _ _ _ _ _ hr=>by have hu:=b6.units hr;delta Ei;exact aj (aE (i:=2) M4.nd (gW lH (aQ bh (kv 1) (aX T.bJ)) jm (jo (aM aL T.bL PyProof.Rows.Boot.«len» (af (aQ bh (kv 0) (aX T.bJ)) ao))))) (au (bT (iS (gX (bf JJ (aQ bh (kv 0) (aX T.gJ)) (aQ bh (kv 1) (aX T.gJ))) (gX (bf JJ (aQ bh (kv 0) (aX T.pY)) (aQ bh (kv 1) (aX T.pY))) (fC (bf (Kf hu) (aQ bh (kv 0) (aX T.bJ)) (kv 2)))))) (au oH) (bz)))) λ_ _ _ _ h=>IU rfl h
theorem Ay:aK ["letters", "renewals", "mark", "stems", "reached", "rows"] ["letters", "renewals", "mark", "stems"] (aB Me):=by right
theorem RW(T:Tx K mg a):T.wW.Ok P w base fc 7 (wA K):=
 T.wW.F.gf Ay (by symm) (λ_ _ _ _ _ _ hr=>by delta wB;exact aj (aE (i:=4) Ay.nd (kv 2)) (aj (eS (bI (kv 1)) (cF (i:=5) Ay.nd) (aj (bT (m6 (kv 4)) (au (aP qy)) (bz)) (au (aE (i:=4) Ay.nd (bX T.wV (RU T) (af (kv 0) (af (kv 5) (af (kv 4) (af (kv 3) ao))))))))) (au (aP (kv 4))))) λ_ _ _ _ h=>Co rfl h
theorem xx:aK ["state", "renewals", "stems", "reached", "marks", "mark"] ["state", "renewals"] (aB Mf):=by right
theorem M7(T:Tx K mg a):T.sV.Ok P w base fc 8 (nM K):=
 T.sV.F.gf xx (by symm) (λ_ _ _ _ _ _ hr=>by have hu:=b6.units hr;delta nN;exact aj (aE (i:=2) xx.nd KN) (aj (aE (i:=3) xx.nd kG) (aj (aE (i:=4) xx.nd (aR ko (kF [] (bI (aQ bh (kv 0) (aX T.iw))) (λ_ _ _ _ _=>⟨cL,kv 0⟩)) (aQ bh (kv 0) (aX T.jO)))) (aj (eS (bI (nj (by rfl') T.gj T.MJ (af (kv 4) ao) PyProof.Rows.Boot.«sorted» PyProof.Rows.Boot.«set»)) (cF (i:=5) xx.nd) (au (oY hu (kv 3) (kv 5) (bX T.wW (RW T) (af (aQ bh (kv 0) (aX T.gJ)) (af (kv 1) (af (kv 5) (af (kv 2) ao)))))))) (au (aP (kv 3))))))) λ_ _ _ _ h=>xW rfl h
theorem Az:aK ["one", "other", "thing_of", "mark", "thing"] ["one", "other"] (aB Mg):=by right
theorem M8(T:Tx K mg a):T.sW.Ok P w base fc 1 (lg K):=
 T.sW.F.gf Az (by symm) (λ_ _ _ _ _ _ hr=>by have hu:=b6.units hr;delta lq;exact aj (aE (i:=2) Az.nd kG) (aj (eS (bI (aR ko (kv 0) (kv 1))) (C7 (i6 (cF (i:=3) Az.nd) (i6 (cF (i:=4) Az.nd) zf))) (au (oY hu (kv 2) (kv 3) (aM (C9 (by rfl')) T.PJ PyProof.Rows.Boot.«min» (af (kv 4) (af (Lj hu (kv 2) (kv 3) (kv 4)) ao)))))) (au (aP (aM (pA (by rfl')) T.gj PyProof.Rows.Boot.«sorted» (af (J5 PySem.F.plainAttrs_dict PySem.F.slot_dict_items PySem.F.type_dict_items BO (kv 2)) ao)))))) λ_ _ _ _ h=>wD rfl h
theorem lD:aK ["one", "other", "reached", "things", "taken"] ["one", "other"] (aB Mh):=by right
theorem OZ(T:Tx K mg a):T.fM.Ok P w base fc 9 (Ac K):=
 T.fM.F.gf lD (by symm) (λ_ _ _ _ _ _ hr=>by have hu:=b6.units hr;delta Ae;exact aj (bT (bf nY (aM aL T.bL PyProof.Rows.Boot.«len» (af (aQ bh (kv 0) (aX T.bJ)) ao)) (aM aL T.bL PyProof.Rows.Boot.«len» (af (aQ bh (kv 1) (aX T.bJ)) ao))) (au oH) (bz)) (aj (br (bX T.sS (M5 T) (af (kv 0) (af (kv 1) ao)))) (aj (oG (i := 2) lD.nd (bX T.sV (M7 T) (af (kv 0) (af (gW lH (aQ bh (kv 1) (aX T.bJ)) (jo (aM aL T.bL PyProof.Rows.Boot.«len» (af (aQ bh (kv 0) (aX T.bJ)) ao))) jm) ao)))) (aj (Bw (i := 3) [("reached", 2)] lD.nd (bI (aQ bh (kv 0) (aX T.iw))) (λ_ _ _ _ _=>⟨fD (fz (fE hu (jk 2) (kv 0))),dX (af (fE hu (jk 2) (kv 0)) (af (kv 1) ao))⟩)) (aj (iH (i := 4) [("reached", 2)] lD.nd (bI (aQ bh (kv 0) (aX T.jO))) (λ_ _ _ _ _=>⟨fD (fz (fE hu (jk 1) (kv 0))),fE hu (jk 1) (kv 0)⟩)) (au (aP (bX T.pV (EE T) (af (aQ bh (kv 1) (aX T.gJ)) (af (aQ bh (kv 1) (aX T.pY)) (af (aQ bh (kv 1) (aX T.bJ)) (af (bX T.sW (M8 T) (af (kv 3) (af (aQ bh (kv 1) (aX T.iw)) ao))) (af (nj (by rfl') T.gj T.MJ (af (aR ko (kv 4) (aQ bh (kv 1) (aX T.jO))) ao) PyProof.Rows.Boot.«sorted» PyProof.Rows.Boot.«set») ao))))))))))))) λ_ _ _ _ h=>Em rfl h
theorem iV(T:Tx K mg a):T.fM.Ok P w base fc 10 (fL K):=
 T.fM.F.gf lD (by symm) (λ_ _ _ _ _ _ hr=>by have hu:=b6.units hr;delta El;exact aj (bT (bf nY (aM aL T.bL PyProof.Rows.Boot.«len» (af (aQ bh (kv 0) (aX T.bJ)) ao)) (aM aL T.bL PyProof.Rows.Boot.«len» (af (aQ bh (kv 1) (aX T.bJ)) ao))) (au (aP (bX T.fM (OZ T) (af (kv 1) (af (kv 0) ao))))) (bz)) (aj (br (bX T.sS (M5 T) (af (kv 0) (af (kv 1) ao)))) (aj (oG (i := 2) lD.nd (bX T.sV (M7 T) (af (kv 0) (af (gW lH (aQ bh (kv 1) (aX T.bJ)) (jo (aM aL T.bL PyProof.Rows.Boot.«len» (af (aQ bh (kv 0) (aX T.bJ)) ao))) jm) ao)))) (aj (Bw (i := 3) [("reached", 2)] lD.nd (bI (aQ bh (kv 0) (aX T.iw))) (λ_ _ _ _ _=>⟨fD (fz (fE hu (jk 2) (kv 0))),dX (af (fE hu (jk 2) (kv 0)) (af (kv 1) ao))⟩)) (aj (iH (i := 4) [("reached", 2)] lD.nd (bI (aQ bh (kv 0) (aX T.jO))) (λ_ _ _ _ _=>⟨fD (fz (fE hu (jk 1) (kv 0))),fE hu (jk 1) (kv 0)⟩)) (au (aP (bX T.pV (EE T) (af (aQ bh (kv 1) (aX T.gJ)) (af (aQ bh (kv 1) (aX T.pY)) (af (aQ bh (kv 1) (aX T.bJ)) (af (bX T.sW (M8 T) (af (kv 3) (af (aQ bh (kv 1) (aX T.iw)) ao))) (af (nj (by rfl') T.gj T.MJ (af (aR ko (kv 4) (aQ bh (kv 1) (aX T.jO))) ao) PyProof.Rows.Boot.«sorted» PyProof.Rows.Boot.«set») ao))))))))))))) λ_ _ _ _ h=>IX rfl h
theorem RX:aK ["text"] ["text"] (aB Mi):=by right
theorem M9(T:Tx K mg a):T.sX.Ok P w base fc 1 lU:=
 T.sX.F.gf RX (by symm) (λ_ _ _ _ _ _ hr=>by delta qU;exact aj (bT (iS (gX (bf dZ (kv 0) (bK (by rfl'))) (fC (bf nY (aM eW T.bL PyProof.Rows.Boot.«len» (af (kv 0) ao)) (aX T.tN))))) (au (aP gT)) (bz)) (au (aP (aM (lK (by rfl')) T.FW PyProof.Rows.Boot.«all» (af (dO [] (ze (kv 0)) (λ_ _ _ _ _=>⟨cL,c8 C2 (kv 0) (gw T.xY (by rfl'))⟩)) ao))))) λ_ _ _ _ h=>zS rfl h
theorem RY:aK ["text"] ["text"] (aB Mj):=by right
theorem RZ(T:Tx K mg a):T.wX.Ok P w base (oJ P w) 2 (ng a.c6):=
 T.wX.F.E9 RY (rd:=λE=>jA a.c6 E [97,32,116,104,105,110,103,32,104,97,115,32,49,32,116,111,32,49,50,32,115,105,103,110,115,44,32,101,97,99,104,32,97,32,115,109,97,108,108,32,108,101,116,116,101,114,32,111,114,32,97,32,102,105,103,117,114,101]) (by symm) (λ_ _ _ _ _ _ hr=>by delta jA;exact au (bT (jq (fy (bX T.sX (M9 T) (af (kv 0) ao)))) (au (gZ PySem.F.excBase_ValueError T.Jj T.Ji (af (bK (by rfl')) ao) (λ_ _ _ _ _ _ _ I m q=>gY I m q))) (bz))) λ_ _ _ _ h=>xN rfl h
theorem R3:aK ["place", "many"] ["place", "many"] (aB Ml):=by right
theorem Nb(T:Tx K mg a):T.sY.Ok P w base (oJ P w) 1 (jB a.cu):=
 T.sY.F.E9 R3 (rd:=λE=>eT a.cu E [116,104,101,114,101,32,105,115,32,110,111,32,115,117,99,104,32,112,108,97,99,101]) (by symm) (λ_ _ _ _ _ _ hr=>by delta eT;exact au (bT (iS (gX (bf kj (kv 0) aA) (fC (bf ER (kv 0) (kv 1))))) (au (gZ PySem.F.excBase_ValueError T.Jh T.Jg (af (bK (by rfl')) ao) (λ_ _ _ _ _ _ _ I m q=>gY I m q))) (bz))) λ_ _ _ _ h=>mO rfl h
theorem R4:aK ["number", "hands"] ["number", "hands"] (aB Mn):=by right
theorem R5(T:Tx K mg a):T.wY.Ok P w base (oJ P w) 1 (qX a.cP):=
 T.wY.F.E9 R4 (rd:=λE=>eT a.cP E [116,104,101,114,101,32,105,115,32,110,111,32,115,117,99,104,32,104,97,110,100]) (by symm) (λ_ _ _ _ _ _ hr=>by delta eT;exact au (bT (iS (gX (bf kj (kv 0) aA) (fC (bf ER (kv 0) (kv 1))))) (au (gZ PySem.F.excBase_ValueError T.CA T.Cz (af (bK (by rfl')) ao) (λ_ _ _ _ _ _ _ I m q=>gY I m q))) (bz))) λ_ _ _ _ h=>zY rfl h
theorem Uo:aK ["self", "letters", "hands", "number"] ["self", "letters", "hands", "number"] (aB Rh):=by right
theorem Uq(T:Tx K mg a):T.Cr.Ok mg P w base (oJ P w) 2 (ud a.aD a.cB a.cP):=
 T.Cr.F.E9 Uo (by symm) (λ_ _ _ _ _ _ hr=>by delta zZ;exact aj (br (kc T.mQ (MQ T) cM (af (kv 1) (af (kv 2) ao)))) (aj (br (kc T.wY (R5 T) cM (af (kv 3) (af (kv 2) ao)))) (aj (bQ (g6 (kv 0) (kv 1))) (aj (bQ (g6 (kv 0) (kv 2))) (aj (bQ (g6 (kv 0) (kv 3))) (aj (bQ (g6 (kv 0) (gU ao))) (aj (bQ (g6 (kv 0) kG)) (au (bQ (g6 (kv 0) kG)))))))))) λ_ _ _ _ h=>D9 (Js T) rfl h
theorem Ur:aK ["self"] ["self"] (aB Ri):=by right
theorem Nc(T:Tx K mg a):T.tM.Ok mg P w base fc 1 (kT a.aD):=
 T.tM.F.gf Ur (by symm) (λ_ _ _ _ _ _ hr=>by have hu:=b6.units hr;delta we;exact au (aP (dO [("self",0)] (bI (aM (jw (by rfl')) T.gj PyProof.Rows.Boot.«sorted» (af (cQ (jk 0)) ao))) (λ_ _ _ _ _=>⟨fD (bf (qG hu) (kv 0) (cQ (jk 1))),kv 0⟩)))) λ_ _ _ _ h=>Ce (Js T) rfl h
theorem Us:aK ["self", "low"] ["self", "low"] (aB Rj):=by right
theorem Ut(T:Tx K mg a):T.Cs.Ok mg P w base fc 1 (qV K a.aD):=
 T.Cs.F.gf Us (by symm) (λ_ _ _ _ _ _ hr=>by delta qW;exact au (aP (Ow (OA (dO [("low",1)] (Oz (cQ (kv 0))) (λ_ _ _ _ _=>⟨fD (iS (gX (m6 (jk 1)) (fC (bf y9 (jk 1) (kv 0))))),kv 0⟩))) qy T.PJ))) λ_ _ _ _ h=>zV (Js T) rfl h
theorem FZ:aK ["self", "place", "thing", "shown", "low", "mark"] ["self", "place", "thing"] (aB Rk):=by right
theorem Uu(T:Tx K mg a):T.Ct.Ok mg P w base (oJ P w) 7 (wg a.aD a.c6 a.cu):=
 T.Ct.F.E9 FZ (by symm) (λ_ _ _ _ _ _ hr=>by have hu:=b6.units hr;delta Ea;exact aj (br (kc T.wX (RZ T) cM (af (kv 2) ao))) (aj (bQ (aE (i:=3) FZ.nd (dh (kv 0) T.dm T.tM.M (Nc T) (by left) T.tM.b gM))) (aj (br (kc T.sY (Nb T) cM (af (kv 1) (af (aR bE (aM aL T.bL PyProof.Rows.Boot.«len» (af (kv 3) ao)) aA) ao)))) (aj (bQ (aE (i:=4) FZ.nd (kB (bf nY (kv 1) aA) (aQ aU (kv 3) (aR ki (kv 1) aA)) qy))) (aj (aE (i:=5) FZ.nd (kc T.wL (RL T) cM (af (cQ (kv 0)) (af (cQ (kv 0)) (af (cQ (kv 0)) (af (kv 4) (af (oO (kv 0) T.dm T.Cs.M (Ut T) (by left) T.Cs.b gM (af (kv 4) ao)) ao))))))) (aj (bQ (oY hu (cQ (kv 0)) (kv 5) (kv 2))) (au (bQ (aP (kv 5)))))))))) λ_ _ _ _ h=>IP (Js T) rfl h
theorem PM:aK ["self", "place", "shown"] ["self", "place"] (aB Rn):=by right
theorem Uv(T:Tx K mg a):T.Cu.Ok mg P w base (oJ P w) 2 (pK a.aD a.cu):=
 T.Cu.F.E9 PM (by symm) (λ_ _ _ _ _ _ hr=>by have hu:=b6.units hr;delta zW;exact aj (bQ (aE (i:=2) PM.nd (dh (kv 0) T.dm T.tM.M (Nc T) (by left) T.tM.b gM))) (aj (br (kc T.sY (Nb T) cM (af (kv 1) (af (aM aL T.bL PyProof.Rows.Boot.«len» (af (kv 2) ao)) ao)))) (aj (bQ (oY hu (cQ (kv 0)) (aQ aU (kv 2) (kv 1)) gT)) (au (bQ (aP (aQ aU (kv 2) (kv 1)))))))) λ_ _ _ _ h=>D8 (Js T) rfl h
theorem Nd:aK ["self", "known", "rows"] ["self"] (aB Ro):=by right
theorem Uw(T:Tx K mg a):T.Cv.Ok mg P w base (oJ P w) 4 (kU a.aD a.cP):=
 T.Cv.F.E9 Nd (rd:=pO K a.cP [116,104,101,32,104,97,110,100,32,48,32,97,108,111,110,101,32,109,97,107,101,115,32,114,101,110,101,119,97,108,115]) (by symm) (λ_ _ _ _ _ _ hr=>by have hu:=b6.units hr;delta pO;exact aj (bT (bf JJ (cQ (jk 0)) aA) (au (gZ PySem.F.excBase_ValueError T.CA T.Cz (af (bK (by rfl')) ao) (λ_ _ _ _ _ _ _ I m q=>gY I m q))) (bz)) (aj (bQ (iH (i := 1) [("self", 0)] Nd.nd (bI (aM (jw (by rfl')) T.gj PyProof.Rows.Boot.«sorted» (af (cQ (jk 0)) ao))) (λ_ _ _ _ _=>⟨cL,dX (af (kv 0) (af (c8 (qG hu) (kv 0) (cQ (jk 1))) ao))⟩))) (aj (bQ (aE (i := 2) Nd.nd (bX T.wQ (RQ T) (af (cQ (jk 0)) (af (kv 1) ao))))) (aj (bQ (g6 (jk 0) (cC (iI (by rfl')) T.Aj PyProof.Rows.Boot.«dict» (af (kF [("self", 0)] (bI (kv 2)) (λ_ _ _ _ _=>⟨fD (fz (kv 1)),dX (af (kv 1) (af (fE hu (cQ (jk 2)) (kv 0)) ao))⟩)) ao)))) (aj (bQ (g6 (jk 0) kG)) (aj (bQ (br (gc PySem.F.plainAttrs_list PySem.F.slot_list_append PySem.F.type_list_append dM (cQ (jk 0)) (af (kv 2) ao)))) (au (bQ (aP (cC fm T.nR PyProof.Rows.Boot.«list» (af (kv 2) ao))))))))))) λ_ _ _ _ h=>Ck (Js T) rfl h
theorem R6:aK ["self"] ["self"] (aB Mp):=by right
theorem R7(T:Tx K mg a):T.sZ.Ok mg P w base fc 2 (rg a.aD):=
 T.sZ.F.gf R6 (by symm) (λ_ _ _ _ _ _ hr=>by have hu:=b6.units hr;delta ri;exact au (aP (dO [("self",0)] (bI (dh (jk 0) T.dm T.tM.M (Nc T) (by left) T.tM.b gM)) (λ_ _ _ _ _=>⟨cL,fE hu (cQ (jk 1)) (kv 0)⟩)))) λ_ _ _ _ h=>z4 (Js T) rfl h
theorem Ux:aK ["self"] ["self"] (aB Rp):=by right
theorem Uy(T:Tx K mg a):T.Cw.Ok mg P w base fc 1 (Ec a.aD):=
 T.Cw.F.gf Ux (rd:=PL K a) (by symm) (λ_ _ _ _ _ _ hr=>by delta PL;exact au (aP (aM aL T.bL PyProof.Rows.Boot.«len» (af (cQ (kv 0)) ao)))) λ_ _ _ _ h=>IS (Js T) rfl h
theorem PN:aK ["self", "things"] ["self"] (aB Rq):=by right
theorem yK(T:Tx K mg a):T.j8.Ok mg P w base fc 2 (dJ a.aD):=
 T.j8.F.gf PN (by symm) (λ_ _ _ _ _ _ hr=>by delta wj;exact aj (aE (i:=1) PN.nd (aM (pA (by rfl')) T.gj PyProof.Rows.Boot.«sorted» (af (J5 PySem.F.plainAttrs_dict PySem.F.slot_dict_items PySem.F.type_dict_items BO (cQ (kv 0))) ao))) (au (aP (bX T.pV (EE T) (af (cQ (kv 0)) (af (cQ (kv 0)) (af (cQ (kv 0)) (af (kv 1) (af (aM (jw (by rfl')) T.gj PyProof.Rows.Boot.«sorted» (af (cQ (kv 0)) ao)) ao))))))))) λ_ _ _ _ h=>Cf (Js T) rfl h
theorem PR:aK ["self", "state", "whole"] ["self", "state"] (aB Rr):=by right
theorem PU(T:Tx K mg a):T.xX.Ok mg P w base fc 11 (rK K a.aD):=
 T.xX.F.gf PR (by symm) (λ_ _ _ _ _ _ hr=>by delta Eo;exact aj (aE (i:=2) PR.nd (bX T.fM (iV T) (af (dh (kv 0) T.dm T.j8.M (yK T) (by left) T.j8.b gM) (af (kv 1) ao)))) (aj (g6 (kv 0) (aQ bh (kv 2) (aX T.bJ))) (aj (g6 (kv 0) (cC (iI (by rfl')) T.Aj PyProof.Rows.Boot.«dict» (af (aQ bh (kv 2) (aX T.iw)) ao))) (au (g6 (kv 0) (cC (iI (by rfl')) T.Aj PyProof.Rows.Boot.«dict» (af (dO [] (bI (aQ bh (kv 2) (aX T.jO))) (λ_ _ _ _ _=>⟨cL,dX (af (kv 0) (af gT ao))⟩)) ao))))))) λ_ _ _ _ h=>Ja (Js T) rfl h
theorem R8:aK ["word"] ["word"] (aB Mr):=by right
theorem Nf(T:Tx K mg a):T.tu.Ok P w base fc 1 jG:=
 T.tu.F.gf R8 (by symm) (λ_ _ _ _ _ _ hr=>by delta nD;exact aj (bT (iS (gX (bf dZ (kv 0) (bK (by rfl'))) (fC (bf nY (aM eW T.bL PyProof.Rows.Boot.«len» (af (kv 0) ao)) (aX T.xq))))) (au (aP gT)) (bz)) (aj (bT (fy (gc PySem.F.plainAttrs_str PySem.F.slot_str_startswith PySem.F.type_str_startswith xM (kv 0) (af (bK (by rfl')) ao))) (au (aP (c8 dZ (kv 0) (bK (by rfl'))))) (bz)) (au (aP (aM (lK (by rfl')) T.FW PyProof.Rows.Boot.«all» (af (dO [] (ze (kv 0)) (λ_ _ _ _ _=>⟨cL,c8 C2 (kv 0) (gw T.Jf (by rfl'))⟩)) ao)))))) λ_ _ _ _ h=>xS rfl h
theorem R9:aK ["rows"] ["rows"] (aB Ms):=by right
theorem Sa(T:Tx K mg a):T.wZ.Ok P w base fc 1 (ny K):=
 T.wZ.F.gf R9 (by symm) (λ_ _ _ _ _ _ hr=>by delta nA;exact au (aP (kF [] (bI (kv 0)) (λ_ _ _ _ _=>⟨cL,kB (m6 (kv 1)) (lR (ie (kv 0) (kI (bK (by rfl')) qI))) (lR (ie (kv 0) (kI (bK (by rfl')) (ie (kv 1) qI))))⟩)))) λ_ _ _ _ h=>xQ rfl h
theorem Ng:aK ["rows", "many"] ["rows"] (aB Mt):=by right
theorem Sb(T:Tx K mg a):T.w5.Ok P w base fc 2 (nB K):=
 T.w5.F.gf Ng (by symm) (λ_ _ _ _ _ _ hr=>by delta nC;exact aj (aE (i:=1) Ng.nd (aM aL T.bL PyProof.Rows.Boot.«len» (af (kv 0) ao))) (au (aP (aR ko (gU (af (lR (kI (bK (by rfl')) (ie (kv 1) qI))) ao)) (bX T.wZ (Sa T) (af (kv 0) ao)))))) λ_ _ _ _ h=>xR rfl h
theorem Nh:aK ["things", "taken", "gone"] ["things", "taken"] (aB Mu):=by right
theorem Sd(T:Tx K mg a):T.w6.Ok P w base fc 1 (rB K):=
 T.w6.F.gf Nh (by symm) (λ_ _ _ _ _ _ hr=>by have hu:=b6.units hr;delta rC;exact aj (oG (i:=2) Nh.nd (cC (iI (by rfl')) T.Aj PyProof.Rows.Boot.«dict» (af (dO [] (bI (kv 1)) (λ_ _ _ _ _=>⟨cL,dX (af (kv 0) (af gT ao))⟩)) ao))) (au (aP (kF [("gone",2)] (bI (kv 0)) (λ_ _ _ _ _=>⟨cL,kB (bf (Q8 hu) (kv 0) (jk 2)) (lR (ie (kv 0) (kI (bK (by rfl')) (ie (kv 1) (kI (bK (by rfl')) qI))))) (lR (ie (kv 0) (kI (bK (by rfl')) (ie (kv 1) qI))))⟩))))) λ_ _ _ _ h=>z7 rfl h
theorem rS:aK ["state", "letters", "hands", "age", "texts", "rows"] ["state"] (aB Mv):=by right
theorem xy(T:Tx K mg a):T.lA.Ok P w base fc 3 (fU K):=
 T.lA.F.gf rS (by symm) (λ_ _ _ _ _ _ hr=>by delta rD;exact aj (aE (i:=1) rS.nd (aQ bh (kv 0) (aX T.gJ))) (aj (aE (i:=2) rS.nd (aQ bh (kv 0) (aX T.pY))) (aj (aE (i:=3) rS.nd (aM aL T.bL PyProof.Rows.Boot.«len» (af (aQ bh (kv 0) (aX T.bJ)) ao))) (aj (aE (i:=4) rS.nd (gU (af (lR (ie (kv 1) (kI (bK (by rfl')) (ie (kv 2) (kI (bK (by rfl')) (ie (kv 3) qI)))))) ao))) (aj (eS (bI (aQ bh (kv 0) (aX T.bJ))) (cF (i:=5) rS.nd) (au (br (gc PySem.F.plainAttrs_list PySem.F.slot_list_extend PySem.F.type_list_extend HG (kv 4) (af (bX T.w5 (Sb T) (af (kv 5) ao)) ao))))) (au (aP (aR ko (kv 4) (bX T.w6 (Sd T) (af (aQ bh (kv 0) (aX T.iw)) (af (aQ bh (kv 0) (aX T.jO)) ao))))))))))) λ_ _ _ _ h=>z8 rfl h
theorem Se:aK ["good", "place"] ["good", "place"] (aB Mw):=by right
theorem nU(T:Tx K mg a):T.jf.Ok P w base fc 1 dQ:=
 T.jf.F.gf Se (by symm) (λ_ _ _ _ _ _ hr=>by delta rE;exact au (bT (jq (fy (kv 0))) (au oH) (bz))) λ_ _ _ _ h=>z9 rfl h
theorem Sf:aK ["texts", "place"] ["texts", "place"] (aB Mz):=by right
theorem AA(T:Tx K mg a):T.mT.Ok P w base fc 1 (gI K):=
 T.mT.F.gf Sf (by symm) (λ_ _ _ _ _ _ hr=>by delta rF;exact au (aP (kB (bf kj (kv 1) (aM aL T.bL PyProof.Rows.Boot.«len» (af (kv 0) ao))) (gc PySem.F.plainAttrs_str PySem.F.slot_str_split PySem.F.type_str_split K0 (aQ aU (kv 0) (kv 1)) (af (bK (by rfl')) ao)) (gU ao)))) λ_ _ _ _ h=>Aa rfl h
theorem Sg:aK ["word", "most"] ["word", "most"] (aB MA):=by right
theorem Si(T:Tx K mg a):T.w9.Ok P w base fc 2 jH:=
 T.w9.F.gf Sg (by symm) (λ_ _ _ _ _ _ hr=>by delta jI;exact au (aP (iR (bX T.tu (Nf T) (af (kv 0) ao)) (jl (c8 Po (cC qJ T.MI PyProof.Rows.Boot.«int» (af (kv 0) ao)) (kv 1)))))) λ_ _ _ _ h=>tH rfl h
theorem Sj:aK ["letters", "last", "word"] ["letters", "last", "word"] (aB MB):=by right
theorem EF(T:Tx K mg a):T.pW.Ok P w base fc 2 fK:=
 T.pW.F.gf Sj (by symm) (λ_ _ _ _ _ _ hr=>by delta jJ;exact au (aP (iR (bX T.wH (Rw T) (af (kv 0) (af (kv 2) ao))) (jl (c8 y9 (kv 1) (kv 2)))))) λ_ _ _ _ h=>tK rfl h
theorem EG:aK ["texts", "words", "numbers"] ["texts"] (aB MC):=by right
theorem Sk(T:Tx K mg a):T.xg.Ok P w base fc 2 (nE K):=
 T.xg.F.gf EG (by symm) (λ_ _ _ _ _ _ hr=>by delta nG;exact aj (aE (i:=1) EG.nd (bX T.mT (AA T) (af (kv 0) (af aA ao)))) (aj (br (bX T.jf (nU T) (af (iR (c8 dZ (aM aL T.bL PyProof.Rows.Boot.«len» (af (kv 1) ao)) aA) (jl (aM (lK (by rfl')) T.FW PyProof.Rows.Boot.«all» (af (dO [] (bI (kv 1)) (λ_ _ _ _ _=>⟨cL,bX T.tu (Nf T) (af (kv 0) ao)⟩)) ao)))) (af aA ao)))) (aj (iH (i:=2) [] EG.nd (bI (kv 1)) (λ_ _ _ _ _=>⟨cL,cC qJ T.MI PyProof.Rows.Boot.«int» (af (kv 0) ao)⟩)) (aj (Od T.lB (λ_ _ _ hx=>au (br (Kg (MQ T) (by left) T.mQ.g T.mQ.F.kp T.mQ.b hx (af (aQ aU (kv 2) aA) (af (aQ aU (kv 2) aA) ao))))) (λ_=>au oH)) (aj (br (bX T.jf (nU T) (af (c8 Po (aQ aU (kv 2) aA) (aX T.tO)) (af aA ao)))) (au (aP (kv 2)))))))) λ_ _ _ _ h=>xT rfl h
theorem Ni:aK ["texts", "place", "words"] ["texts", "place"] (aB MD):=by right
theorem Sl(T:Tx K mg a):T.xh.Ok P w base fc 3 (nI K):=
 T.xh.F.gf Ni (by symm) (λ_ _ _ _ _ _ hr=>by delta nJ;exact aj (aE (i:=2) Ni.nd (bX T.mT (AA T) (af (kv 0) (af (kv 1) ao)))) (aj (br (bX T.jf (nU T) (af (iR (c8 dZ (aM aL T.bL PyProof.Rows.Boot.«len» (af (kv 2) ao)) aA) (iR (c8 dZ (aQ aU (kv 2) aA) (bK (by rfl'))) (jl (bX T.w9 (Si T) (af (aQ aU (kv 2) aA) (af (aX T.Cy) ao)))))) (af (kv 1) ao)))) (au (aP (cC qJ T.MI PyProof.Rows.Boot.«int» (af (aQ aU (kv 2) aA) ao)))))) λ_ _ _ _ h=>xU rfl h
theorem lE:aK ["letters", "texts", "place", "many", "rows", "last_old", "last_new", "here", "words"] ["letters", "texts", "place", "many"] (aB ME):=by right
theorem Sn(T:Tx K mg a):T.xj.Ok P w base fc 3 (nK K):=
 T.xj.F.gf lE (by symm) (λ_ _ _ _ _ _ hr=>by delta nL;exact aj (aE (i:=4) lE.nd (gU ao)) (aj (aE (i:=5) lE.nd (bK (by rfl'))) (aj (aE (i:=6) lE.nd (bK (by rfl'))) (aj (eS (qz T.fN (af (kv 2) (af (aR bE (kv 2) (kv 3)) ao))) (cF (i:=7) lE.nd) (aj (aE (i:=8) lE.nd (bX T.mT (AA T) (af (kv 1) (af (kv 7) ao)))) (aj (br (bX T.jf (nU T) (af (iR (c8 dZ (aM aL T.bL PyProof.Rows.Boot.«len» (af (kv 8) ao)) aA) (jl (bX T.pW (EF T) (af (kv 0) (af (kv 5) (af (aQ aU (kv 8) aA) ao)))))) (af (kv 7) ao)))) (aj (aE (i:=5) lE.nd (aQ aU (kv 8) aA)) (au (bT (bf dZ (aQ aU (kv 8) aA) (bK (by rfl'))) (au (br (gc PySem.F.plainAttrs_list PySem.F.slot_list_append PySem.F.type_list_append dM (kv 4) (af (dX (af (aQ aU (kv 8) aA) (af qy ao))) ao)))) (aj (br (bX T.jf (nU T) (af (bX T.pW (EF T) (af (kv 0) (af (kv 6) (af (aQ aU (kv 8) aA) ao)))) (af (kv 7) ao)))) (aj (aE (i:=6) lE.nd (aQ aU (kv 8) aA)) (au (br (gc PySem.F.plainAttrs_list PySem.F.slot_list_append PySem.F.type_list_append dM (kv 4) (af (dX (af (aQ aU (kv 8) aA) (af (aQ aU (kv 8) aA) ao))) ao)))))))))))) (au (aP (kv 4))))))) λ_ _ _ _ h=>xV rfl h
theorem rU:aK ["letters", "texts", "place", "rows", "last", "here", "words"] ["letters", "texts", "place"] (aB MF):=by right
theorem So(T:Tx K mg a):T.xm.Ok P w base fc 3 (jK K):=
 T.xm.F.gf rU (by symm) (λ_ _ _ _ _ _ hr=>by have hu:=b6.units hr;delta jL;exact aj (aE (i:=3) rU.nd (gU ao)) (aj (aE (i:=4) rU.nd (bK (by rfl'))) (aj (eS (qz T.fN (af (kv 2) (af (aM aL T.bL PyProof.Rows.Boot.«len» (af (kv 1) ao)) ao))) (cF (i:=5) rU.nd) (aj (aE (i:=6) rU.nd (bX T.mT (AA T) (af (kv 1) (af (kv 5) ao)))) (aj (br (bX T.jf (nU T) (af (To (c8 dZ (aM aL T.bL PyProof.Rows.Boot.«len» (af (kv 6) ao)) aA) (jl (c8 (E2 hu) (gW lH (kv 6) (jo aA) jm) (gU (af (bK (by rfl')) ao))))) (af (kv 5) ao)))) (aj (br (bX T.jf (nU T) (af (iR (bX T.pW (EF T) (af (kv 0) (af (kv 4) (af (aQ aU (kv 6) aA) ao)))) (jl (bX T.sX (M9 T) (af (aQ aU (kv 6) aA) ao)))) (af (kv 5) ao)))) (aj (aE (i:=4) rU.nd (aQ aU (kv 6) aA)) (au (br (gc PySem.F.plainAttrs_list PySem.F.slot_list_append PySem.F.type_list_append dM (kv 3) (af (kv 6) ao))))))))) (au (aP (kv 3)))))) λ_ _ _ _ h=>tL rfl h
theorem iW:aK ["texts", "numbers", "renewals", "place", "step", "many", "rows", "things", "taken"] ["texts"] (aB MG):=by right
theorem Sq(T:Tx K mg a):T.xo.Ok P w base fc 4 (kX K):=
 T.xo.F.gf iW (by symm) (λ_ _ _ _ _ _ hr=>by delta kY;exact aj (aE (i:=1) iW.nd (bX T.xg (Sk T) (af (kv 0) ao))) (aj (aE (i:=2) iW.nd (gU ao)) (aj (aE (i:=3) iW.nd aA) (aj (eS (eY T.fN (af (aQ aU (kv 1) aA) ao)) (cF (i:=4) iW.nd) (aj (aE (i:=5) iW.nd (bX T.xh (Sl T) (af (kv 0) (af (kv 3) ao)))) (aj (br (gc PySem.F.plainAttrs_list PySem.F.slot_list_append PySem.F.type_list_append dM (kv 2) (af (bX T.xj (Sn T) (af (aQ aU (kv 1) aA) (af (kv 0) (af (aR bE (kv 3) aA) (af (kv 5) ao))))) ao))) (au (aE (i:=3) iW.nd (aR bE (aR bE (kv 3) aA) (kv 5))))))) (aj (aE (i:=6) iW.nd (bX T.xm (So T) (af (aQ aU (kv 1) aA) (af (kv 0) (af (kv 3) ao))))) (aj (iH (i:=7) [] iW.nd (bI (kv 6)) (λ_ _ _ _ _=>⟨cL,dX (af (aQ aU (kv 0) aA) (af (aQ aU (kv 0) aA) ao))⟩)) (aj (iH (i:=8) [] iW.nd (bI (kv 6)) (λ_ _ _ _ _=>⟨fD (bf dZ (aM aL T.bL PyProof.Rows.Boot.«len» (af (kv 0) ao)) aA),aQ aU (kv 0) aA⟩)) (au (aP (dX (af (aQ aU (kv 1) aA) (af (aQ aU (kv 1) aA) (af (kv 2) (af (kv 7) (af (kv 8) ao))))))))))))))) λ_ _ _ _ h=>wz rfl h
theorem AD:aK ["_law_script", "_law_k", "_law_many", "_law_cell", "_law_seed"] ["_law_script", "_law_k", "_law_many"] (aB Ep):=by right
theorem dD(T:Tx K mg a):T.c7.Ok P w base fc 1 (c9 K):=
 T.c7.F.gf AD (by symm) (λ_ _ _ _ _ _ hr=>by delta DC;exact aj (aE (i:=3) AD.nd (kB (bf nY (aM aL T.bL PyProof.Rows.Boot.«len» (af (kv 0) ao)) aA) (aQ aU (kv 0) (aR fj (kv 1) (aM aL T.bL PyProof.Rows.Boot.«len» (af (kv 0) ao)))) aA)) (aj (bT (iS (jt (bf nY (aM aL T.bL PyProof.Rows.Boot.«len» (af (kv 0) ao)) aA) (jr (bf dZ (aR fj (aQ aU (kv 0) aA) aA) aA)))) (au (aP (aR fj (aR fj (aR Qk (kv 3) (aR bE (aR dN aA (aR iB (kv 1) (aM aL T.bL PyProof.Rows.Boot.«len» (af (kv 0) ao)))) aA)) aA) (kv 2)))) (bz)) (aj (aE (i:=4) AD.nd (aR bE (aR bE (aR fj (kv 3) aA) (aR dN (aR dN aA (kv 1)) (kv 1))) aA)) (au (aP (aR fj (aR fj (aR dN (aR fj (aR dN (kv 4) aA) aA) aA) aA) (kv 2))))))) λ_ _ _ _ h=>Ir rfl h
theorem qb:aK ["_law_script", "_law_k", "_law_hands", "_law_number", "_law_hand", "_law_many", "_law_way"] ["_law_script", "_law_k", "_law_hands"] (aB Es):=by right
theorem O0(T:Tx K mg a):T.nP.Ok P w base fc 12 (Ex K a.aD):=
 T.nP.F.gf qb (rd:=um K a) (by symm) (λ_ _ _ _ _ _ hr=>by delta um;exact aj (aE (i:=3) qb.nd (bX T.c7 (dD T) (af (kv 0) (af (aR bE aA (kv 1)) (af aA ao))))) (aj (aE (i:=4) qb.nd (aQ aU (kv 2) (kv 3))) (aj (aE (i:=5) qb.nd (aM aL T.bL PyProof.Rows.Boot.«len» (af (dh (kv 4) T.dm T.sZ.M (R7 T) (by left) T.sZ.b gM) ao))) (aj (aE (i:=6) qb.nd (bX T.c7 (dD T) (af (kv 0) (af (aR bE aA (kv 1)) (af aA ao))))) (au (bT (iS (gX (bf kj (kv 6) aA) (fC (bf dZ (kv 5) aA)))) (au (br (oO (kv 4) T.dm T.Ct.M (Uu T) (by left) T.Ct.b Bv (af (bX T.c7 (dD T) (af (kv 0) (af (aR bE aA (kv 1)) (af (aR bE (kv 5) aA) ao)))) (af (aR za (bK (by rfl')) (cC yM T.Uk PyProof.Rows.Boot.«str» (af (kv 1) ao))) ao))))) (au (bT (bf dZ (kv 6) aA) (au (br (oO (kv 4) T.dm T.Cu.M (Uv T) (by left) T.Cu.b Bv (af (bX T.c7 (dD T) (af (kv 0) (af (aR bE aA (kv 1)) (af (kv 5) ao)))) ao)))) (au (bT (iS (jt (bf dZ (kv 6) aA) (jr (bf dZ (bX T.c7 (dD T) (af (kv 0) (af aA (af aA ao)))) aA)))) (au (br (dh (aQ aU (kv 2) aA) T.dm T.Cv.M (Uw T) (by left) T.Cv.b Bv))) (au (bT (bf nY (kv 6) aA) (au (br (oO (kv 4) T.dm T.xX.M (PU T) (by left) T.xX.b gM (af (dh (aQ aU (kv 2) (bX T.c7 (dD T) (af (kv 0) (af (aR bE aA (kv 1)) (af aA ao))))) T.dm T.j8.M (yK T) (by left) T.j8.b gM) ao)))) (bz))))))))))))) λ_ _ _ _ h=>Jm rfl h
theorem O3:aK ["_law_one", "_law_other"] ["_law_one", "_law_other"] (aB s_same):=by right
theorem qc(T:Tx K mg a):T.iu.Ok P w base fc 1 (lC K):=
 T.iu.F.gf O3 (rd:=uo K a) (by symm) (λ_ _ _ _ _ _ hr=>by have hu:=b6.units hr;delta uo;exact au (aP (iR (J8 T.pX PyProof.Rows.Boot.«isinstance» T.OX PyProof.Rows.Boot.«tuple» (kv 0)) (iR (c8 dZ (aM aL T.bL PyProof.Rows.Boot.«len» (af (kv 0) ao)) aA) (jl (c8 (Ke hu) (kv 0) (kv 1))))))) λ_ _ _ _ h=>Jk rfl h
theorem AE:aK ["_law_one", "_law_other", "_law_third", "_law_kept", "_law_both"] ["_law_one", "_law_other", "_law_third"] (aB Et):=by right
theorem O4(T:Tx K mg a):T.nQ.Ok P w base fc 11 (Ew K):=
 T.nQ.F.gf AE (rd:=uq K a) (by symm) (λ_ _ _ _ _ _ hr=>by have hu:=b6.units hr;delta uq;exact aj (aE (i:=3) AE.nd (aR ko (bX T.lA (xy T) (af (kv 0) ao)) (bX T.lA (xy T) (af (kv 1) ao)))) (aj (aE (i:=4) AE.nd (bX T.fM (iV T) (af (kv 0) (af (kv 1) ao)))) (aj (bT (iS (gX (jq (fy (bX T.iu (qc T) (af (kv 4) (af (bX T.fM (iV T) (af (kv 1) (af (kv 0) ao))) ao))))) (fC (jq (fy (bX T.iu (qc T) (af (bX T.fM (iV T) (af (kv 0) (af (kv 0) ao))) (af (kv 0) ao)))))))) (au (aP gT)) (bz)) (aj (bT (jq (fy (bX T.iu (qc T) (af (bX T.fM (iV T) (af (kv 4) (af (kv 2) ao))) (af (bX T.fM (iV T) (af (kv 0) (af (bX T.fM (iV T) (af (kv 1) (af (kv 2) ao))) ao))) ao))))) (au (aP gT)) (bz)) (aj (bT (iS (gX (jq (fy (bX T.iu (qc T) (af (bX T.fM (iV T) (af (kv 4) (af (kv 0) ao))) (af (kv 4) ao))))) (fC (jq (fy (bX T.iu (qc T) (af (bX T.fM (iV T) (af (kv 1) (af (kv 4) ao))) (af (kv 4) ao)))))))) (au (aP gT)) (bz)) (au (aP (c8 (E2 hu) (aR ko (bX T.lA (xy T) (af (kv 0) ao)) (bX T.lA (xy T) (af (kv 1) ao))) (kv 3))))))))) λ_ _ _ _ h=>Jl rfl h
theorem eU:aK ["_law_script", "_law_letters", "_law_hands", "_law_states", "_law_many", "_law_k", "_law_hand", "_law_one", "_law_other", "_law_third", "_law_texts", "_law_number", "_law_mine", "_law_due"] ["_law_script"] (aB MH):=by right
theorem Ss(T:Tx K mg a):T.tw.Ok P w base fc 13 (FY K):=
 T.tw.F.gf eU (rd:=Am K a) (by symm) (λ_ _ _ _ _ _ hr=>by have hu:=b6.units hr;delta Am;exact aj (oG (i:=1) eU.nd (aQ aU (gU (af aA (af aA (af aA (af aA ao))))) (bX T.c7 (dD T) (af (kv 0) (af aA (af aA ao)))))) (aj (iH (i:=2) [("_law_letters",1)] eU.nd (eY T.fN (af aA ao)) (λ_ _ _ _ _=>⟨cL,Oe T.Rt (Uq T) (by left) T.OY T.Cr.b Bv (af (jk 1) (af aA (af (kv 0) ao)))⟩)) (aj (aE (i:=3) eU.nd (gU ao)) (aj (aE (i:=4) eU.nd (aR bE aA (bX T.c7 (dD T) (af (kv 0) (af aA (af aA ao)))))) (aj (eS (eY T.fN (af (kv 4) ao)) (cF (i:=5) eU.nd) (aj (br (bX T.nP (O0 T) (af (kv 0) (af (kv 5) (af (kv 2) ao))))) (au (bT (bf dZ (kv 5) (bX T.c7 (dD T) (af (kv 0) (af aA (af (kv 4) ao))))) (au (br (gc PySem.F.plainAttrs_list PySem.F.slot_list_append PySem.F.type_list_append dM (kv 3) (af (dh (aQ aU (kv 2) (bX T.c7 (dD T) (af (kv 0) (af aA (af aA ao))))) T.dm T.j8.M (yK T) (by left) T.j8.b gM) ao)))) (bz))))) (aj (eS (bI (kv 2)) (cF (i:=6) eU.nd) (au (br (gc PySem.F.plainAttrs_list PySem.F.slot_list_append PySem.F.type_list_append dM (kv 3) (af (dh (kv 6) T.dm T.j8.M (yK T) (by left) T.j8.b gM) ao))))) (aj (eS (eY T.fN (af aA ao)) (cF (i:=5) eU.nd) (aj (aE (i:=7) eU.nd (aQ aU (kv 3) (aR fj (aR bE (kv 5) (bX T.c7 (dD T) (af (kv 0) (af aA (af (aM aL T.bL PyProof.Rows.Boot.«len» (af (kv 3) ao)) ao))))) (aM aL T.bL PyProof.Rows.Boot.«len» (af (kv 3) ao))))) (aj (aE (i:=8) eU.nd (aQ aU (kv 3) (aR fj (aR bE (aR bE (kv 5) aA) (bX T.c7 (dD T) (af (kv 0) (af aA (af (aM aL T.bL PyProof.Rows.Boot.«len» (af (kv 3) ao)) ao))))) (aM aL T.bL PyProof.Rows.Boot.«len» (af (kv 3) ao))))) (aj (aE (i:=9) eU.nd (aQ aU (kv 3) (bX T.c7 (dD T) (af (kv 0) (af (aR bE aA (kv 5)) (af (aM aL T.bL PyProof.Rows.Boot.«len» (af (kv 3) ao)) ao)))))) (aj (bT (jq (fy (bX T.nQ (O4 T) (af (kv 7) (af (kv 8) (af (kv 9) ao)))))) (au (aP gT)) (bz)) (aj (aE (i:=10) eU.nd (bX T.lA (xy T) (af (kv 7) ao))) (au (bT (iS (gX (jq (fy (J8 T.pX PyProof.Rows.Boot.«isinstance» T.nR PyProof.Rows.Boot.«list» (kv 10)))) (fC (bf (Kf hu) (bX T.xo (Sq T) (af (cC fm T.nR PyProof.Rows.Boot.«list» (af (kv 10) ao)) ao)) (kv 7))))) (au (aP gT)) (bz))))))))) (aj (aE (i:=11) eU.nd (bX T.c7 (dD T) (af (kv 0) (af aA (af aA ao))))) (aj (aE (i:=12) eU.nd (dh (aQ aU (kv 2) (kv 11)) T.dm T.j8.M (yK T) (by left) T.j8.b gM)) (aj (aE (i:=13) eU.nd (bX T.fM (iV T) (af (kv 12) (af (aQ aU (kv 3) aA) ao)))) (aj (br (oO (aQ aU (kv 2) (kv 11)) T.dm T.xX.M (PU T) (by left) T.xX.b gM (af (aQ aU (kv 3) aA) ao))) (au (aP (iR (c8 (Ke hu) (dh (aQ aU (kv 2) (kv 11)) T.dm T.j8.M (yK T) (by left) T.j8.b gM) (kv 13)) (jl (c8 dZ (dh (aQ aU (kv 2) (kv 11)) T.dm T.Cw.M (Uy T) (by left) T.Cw.b gM) (aM aL T.bL PyProof.Rows.Boot.«len» (af (aQ bh (kv 13) aA) ao)))))))))))))))))) λ_ _ _ _ h=>MN rfl h
end
end K92
namespace PySem.W.Fast
def tw6221485007019231542:=0
def tw2047622772660116127:=0
def tw2937258064041575375:=0
def tw7227729852023921158:=0
def tw14157866486880898746:=0
def tw3004119420305781176:=0
def tw14502603650336945710:=0
def tw12386820846148553099:=0
def tw10599490575324869507:=0
def tw13844893710469857892:=0
def tw5032251158798973159:=0
def tw10734887052159877187:=0
def tw17516487542779422348:=0
def tw4763351056815951546:=0
def tw675061145925816370:=0
def tw4054770268040758815:=0
def tw5043067971699723765:=0
def tw414761318670110352:=0
def tw11644852760833316088:=0
def tw14357629971956439934:=0
def tw9750177812617852792:=0
def tw1285359599146665412:=0
def tw698311399169170341:=0
def tw18400769905562565345:=0
def tw15741324497695245881:=0
def tw3710539886729260196:=0
def tw8908478622300828107:=0
def tw7845586263609193323:=0
def tw1373843444592489336:=0
def tw12932801746180896030:=0
def tw5934778472852096029:=0
def tw6208916181794778996:=0
def tw11152245045501854863:=0
def tw3615764516247213747:=0
def tw465572675184579366:=0
def tw10543480356667894658:=0
def tw13601853098482352362:=0
def tw14069936064152416535:=0
def tw16187847868106975686:=0
def tw17959863419060761062:=0
def tw10179414646093309651:=0
def tw16110414052515821501:=0
def tw3334972620205247356:=0
def tw4376113658727006533:=0
def tw13563302404224405607:=0
def tw5191250012187708235:=0
def tw13241681905879576157:=0
def tw9044164629252414137:=0
def tw17487632417483813031:=0
def tw8164110850675594650:=0
def tw4079794217010433575:=0
def tw12624408828001965958:=0
def tw10262059189264535839:=0
def tw17814691397996813665:=0
def tw10405242913733375073:=0
def tw11758902592421306750:=0
def tw3735687278996292268:=0
def tw15893815562246683709:=0
def tw5517030723916942969:=0
def tw2038139005245917197:=0
def tw16891707018123352420:=0
def tw3460859546664990432:=0
def tw9737026296746400798:=0
def tw9129501209339822880:=0
def tw5220048050910638174:=0
def tw16783952184074877334:=0
def tw2771604210240118671:=0
def tw7099712829912451522:=0
def tw3073186010089402485:=0
def tw10805899054226146844:=0
def tw11801562615508219223:=0
def tw6788953910399014421:=0
def tw13574038489866786345:=0
def tw5101356488660229782:=0
def tw11009025066006999482:=0
def tw10099823000613572848:=0
def tw8323725217718375595:=0
def tw15173033000004960542:=0
def tw2073544482001473491:=0
def tw16767523099407163711:=0
def tw453177063526810957:=0
def tw9015405295110440833:=0
def tw7090941230505058610:=0
def tw17662534527597684595:=0
def tw13610185098021416088:=0
def tw11730452740099977098:=0
def tw14645971045484655473:=0
def tw5683735110202636411:=0
def tw128196388941768446:=0
def tw2586192215384132274:=0
def tw537447343900683222:=0
def tw7204554373161958398:=0
def tw9320686323571325322:=0
def tw6258925660779105138:=0
def tw2166594469977452014:=0
def tw9982360136077007529:=0
def tw11714608343653374913:=0
def tw14848976328814532815:=0
def tw5387359187076971175:=0
def tw131223698082577175:=0
def tw8097591065381779405:=0
def tw10370347884716557503:=0
def tw726232264191175202:=0
def tw17383792377861373775:=0
def tw5966166431792709994:=0
def tw1804477620669422825:=0
def tw11276900620584242588:=0
def tw5045335327957743372:=0
def tw4058717595722961498:=0
def tw16712208885545883138:=0
def tw647338599980063404:=0
def tw15198198011610706323:=0
def tw9152517514799899503:=0
def tw2390154963835853059:=0
def tw10374492041999419003:=0
def tw12645041182360646861:=0
def tw16185463843537749776:=0
def tw972870566002408907:=0
def tw17245461145087998680:=0
def tw15922557181491846327:=0
def tw3353124676336563269:=0
def tw14010303262380909414:=0
def tw17244179038928481724:=0
def tw13118146239672930297:=0
def tw10180761417611705426:=0
def tw9031915821874348355:=0
def tw3948760184853370524:=0
def tw14900341006913448324:=0
def tw2518859777447833836:=0
def tw11048178227180915948:=0
def tw7447070627968657396:=0
def tw11655903955098095053:=0
def tw8371829218081473552:=0
def tw14037901517345990212:=0
def tw6604504645530484013:=0
def tw11591500030526685149:=0
def tw16811717372561540288:=0
def tw11953053386801223717:=0
def tw9143698836231323588:=0
def tw16087426570256289701:=0
def tw16239820135992067440:=0
def tw18206271301472934689:=0
def tw689181780763239629:=0
def tw11023464538713215362:=0
def tw1517265365084239299:=0
def tw4721984566611409562:=0
def tw9223254098768497029:=0
def tw15572301443583770941:=0
def tw7893491689567466282:=0
def tw3363628510874100210:=0
def tw9291154809735848373:=0
def tw4932288568684948178:=0
def tw16176158011405098109:=0
def tw5380950769686688180:=0
def tw3887887375194748078:=0
def tw1334435305448549822:=0
def tw10353691480295424561:=0
def tw11913857219239731166:=0
def tw13814530914204210505:=0
def tw16021386302293360574:=0
def tw14563151931777115724:=0
def tw4334805182810353993:=0
def tw8640114713190302486:=0
def tw5965068300402610718:=0
def tw13686585958105676239:=0
def tw16207912813264290310:=0
def tw5863355890642258902:=0
def tw11532000887618974394:=0
def tw1462909372336276412:=0
def tw7419190240111541844:=0
end PySem.W.Fast
namespace K92
open PySem PySem.Spec PyProof.Rows L2 MM
theorem Uz{K:W.Frag}{h:Heap}{mg:Str->Option Value}(X:K.In h)(G:h.Ns mainGlobals mg)
  {aD:Addr} {cP cB cu c5 c6:Addr} {O5:Tok} {Jo:Tok} {O6:Tok} {EH:Tok} {Nj:Tok} {O7:Tok} {xZ:Tok} {tR:Tok} {Jp:Tok} {xA:Tok} {tS:Tok} {CC:Tok}
  (ur:W.nsIn K mainGlobals "Hand" =some (some (.ref aD)))
  (uu:W.plainGet K aD Str.empty=true)
  (uv:W.hasDictIn K aD=true)
  (uw:W.plainOver K aD=true)
  (ux:W.findIn K (.ref aD) "__setattr__" =some (some (.builtin "object.__setattr__")))
  (uy:W.makesIn K aD=true)
  (uz:W.keepIn K (.ref aD)=true)
  (eG:W.findIn K (.ref aD) "letters" =some none)
  (fZ:W.findIn K (.ref aD) "hands" =some none)
  (dg:W.findIn K (.ref aD) "own_number" =some none)
  (dR:W.findIn K (.ref aD) "renewals" =some none)
  (dS:W.findIn K (.ref aD) "thing_of" =some none)
  (f7:W.findIn K (.ref aD) "taken" =some none)
  (mh:W.nsIn K mainGlobals "NoHand" =some (some (.ref cP)))
  (gC:W.nsIn K mainGlobals "NoLetters" =some (some (.ref cB)))
  (jP:W.nsIn K mainGlobals "NoPlace" =some (some (.ref cu)))
  (mj:W.nsIn K mainGlobals "NoRoom" =some (some (.ref c5)))
  (jQ:W.nsIn K mainGlobals "NoThing" =some (some (.ref c6)))
  (mq:Xc K cP)
  (gD:Xc K cB)
  (jR:Xc K cu)
  (mz:Xc K c5)
  (jS:Xc K c6)
  (F0:W.nsIn K mainGlobals "all" =some none)
  (AF:W.nsIn K mainGlobals "dict" =some none)
  (F3:W.nsIn K mainGlobals "int" =some none)
  (gE:W.nsIn K mainGlobals "isinstance" =some none)
  (F4:W.nsIn K mainGlobals "len" =some none)
  (AG:W.nsIn K mainGlobals "list" =some none)
  (F5:W.nsIn K mainGlobals "min" =some none)
  (uC:W.nsIn K mainGlobals "range" =some none)
  (jT:W.nsIn K mainGlobals "reversed" =some none)
  (F6:W.nsIn K mainGlobals "set" =some none)
  (qd:W.nsIn K mainGlobals "sorted" =some none)
  (F7:W.nsIn K mainGlobals "str" =some none)
  (uD:W.nsIn K mainGlobals "tuple" =some none)
  (uE:W.nsIn K mainGlobals "SMALL" =some (some (.str "abcdefghijklmnopqrstuvwxyz" O5)))
  (mE:W.nsIn K mainGlobals "LETTERS" =some (some (.int 0 Jo)))
  (uF:W.nsIn K mainGlobals "HANDS" =some (some (.int 1 O6)))
  (jU:W.nsIn K mainGlobals "RENEWALS" =some (some (.int 2 EH)))
  (qe:W.nsIn K mainGlobals "THINGS" =some (some (.int 3 Nj)))
  (uG:W.nsIn K mainGlobals "TAKEN" =some (some (.int 4 O7)))
  (gb:W.nsIn K mainGlobals "THING_SIGNS" =some (some (.str "abcdefghijklmnopqrstuvwxyz0123456789" xZ)))
  (eK:W.nsIn K mainGlobals "LONGEST_THING" =some (some (.int 12 tR)))
  (mF:W.nsIn K mainGlobals "FIGURES" =some (some (.str "0123456789" Jp)))
  (fO:W.nsIn K mainGlobals "MOST_FIGURES" =some (some (.int 4 xA)))
  (eN:W.nsIn K mainGlobals "MOST_RENEWALS" =some (some (.int 1000 tS)))
  (iO:W.nsIn K mainGlobals "MOST_ROWS" =some (some (.int 1000 CC)))
  (F8:Fq K "ask_letters" LG)
  (F9:Fq K "is_mark" LH)
  (Ga:Fq K "power" LI)
  (Gb:Fq K "figure_at" LJ)
  (Gd:Fq K "whole_of" LK)
  (Ge:Fq K "mark_of" LL)
  (Gf:Fq K "ends_of" LM)
  (Gg:Fq K "ask_room" LO)
  (Gh:Fq K "high_whole_of" LP)
  (Gi:Fq K "owned_below" LQ)
  (Gj:Fq K "owned_up_to_low" LR)
  (Gk:Fq K "owned_ahead_of_high" LS)
  (Gm:Fq K "counted_at" LU)
  (Gn:Fq K "room_at" LV)
  (Gp:Fq K "nth_mark" LW)
  (Gq:Fq K "least_counted" LX)
  (Gr:Fq K "least_long" LY)
  (Gs:Fq K "told_number" LZ)
  (Gu:Fq K "mark_between" L0)
  (Gv:Fq K "spread" L1)
  (Gw:Fq K "renewed_long" L3)
  (Gx:Fq K "renewed" L4)
  (Gy:Fq K "renewal_rows" L5)
  (Gz:Fq K "stem_between" L6)
  (GC:Fq K "rows_ahead" L7)
  (GD:Fq K "first_new" L8)
  (GF:Fq K "carried_knowing" Ma)
  (GG:Fq K "state_of" Mb)
  (GH:Fq K "ask_meeting" Mc)
  (GI:Fq K "carried_by_all" Me)
  (GJ:Fq K "carried_marks" Mf)
  (GK:Fq K "all_things" Mg)
  (GL:Fq K "laid" Mh)
  (GN:Fq K "is_thing" Mi)
  (GO:Fq K "ask_thing" Mj)
  (GP:Fq K "ask_place" Ml)
  (GQ:Fq K "ask_hand" Mn)
  (O8:Mq K aD "__init__" "Hand.__init__" Rh)
  (O9:Mq K aD "marks" "Hand.marks" Ri)
  (Pa:Mq K aD "first_behind" "Hand.first_behind" Rj)
  (Pb:Mq K aD "put" "Hand.put" Rk)
  (Pc:Mq K aD "take" "Hand.take" Rn)
  (Pd:Mq K aD "renew" "Hand.renew" Ro)
  (GR:Mq K aD "things" "Hand.things" Mp)
  (Pe:Mq K aD "age" "Hand.age" Rp)
  (Pf:Mq K aD "number" "Hand.number" Uj)
  (Pg:Mq K aD "state" "Hand.state" Rq)
  (Ph:Mq K aD "lay" "Hand.lay" Rr)
  (GS:Fq K "is_number" Mr)
  (GU:Fq K "row_texts" Ms)
  (GV:Fq K "renewal_texts" Mt)
  (GW:Fq K "thing_texts" Mu)
  (GX:Fq K "state_texts" Mv)
  (GY:Fq K "ask_text" Mw)
  (GZ:Fq K "words_at" Mz)
  (G0:Fq K "is_number_to" MA)
  (G1:Fq K "is_mark_behind" MB)
  (G2:Fq K "read_head" MC)
  (G3:Fq K "read_many" MD)
  (Hf:Fq K "read_rows" ME)
  (Hg:Fq K "read_things" MF)
  (Hh:Fq K "read_state" MG)
  (AH:Fq K "_law_draw" Ep)
  (AI:Fq K "_law_step" Es)
  (AJ:Fq K "_law_same" s_same)
  (AL:Fq K "_law_good" Et)
  (Hi:Fq K "law" MH)
  :∃a:Ad,Tx K mg a:=by
 obtain⟨mQ,UA⟩:=F8.fx X G (ps:=["letters", "hands"]) (by exfalso);obtain⟨wH,UB⟩:=F9.fx X G (ps:=["letters", "text"]) (by exfalso);obtain⟨sJ,UC⟩:=Ga.fx X G (ps:=["letters", "long"]) (by exfalso);obtain⟨pR,UD⟩:=Gb.fx X G (ps:=["mark", "place"]) (by exfalso);obtain⟨pS,UE⟩:=Gd.fx X G (ps:=["letters", "mark", "long"]) (by exfalso);obtain⟨sL,UG⟩:=Ge.fx X G (ps:=["letters", "number", "long"]) (by exfalso);obtain⟨mR,UH⟩:=Gf.fx X G (ps:=["letters", "hands", "hand"]) (by exfalso);obtain⟨mS,UI⟩:=Gg.fx X G (ps:=["low", "high"]) (by exfalso);obtain⟨sM,UJ⟩:=Gh.fx X G (ps:=["letters", "high", "long"]) (by exfalso);obtain⟨pT,UK⟩:=Gi.fx X G (ps:=["letters", "ends", "number"]) (by exfalso);obtain⟨pU,UL⟩:=Gj.fx X G (ps:=["letters", "ends", "low_whole"]) (by exfalso);obtain⟨sN,UM⟩:=Gk.fx X G (ps:=["letters", "ends", "high", "high_whole", "long", "beginnings"]) (by exfalso);obtain⟨sO,UN⟩:=Gm.fx X G (ps:=["letters", "ends", "low", "high", "long", "beginnings"]) (by exfalso);obtain⟨wI,UO⟩:=Gn.fx X G (ps:=["letters", "hands", "hand", "low", "high", "long"]) (by exfalso);obtain⟨sP,UP⟩:=Gp.fx X G (ps:=["letters", "hands", "hand", "low", "high", "long", "number"]) (by exfalso);obtain⟨sQ,UQ⟩:=Gq.fx X G (ps:=["letters", "ends", "low", "high", "many", "beginnings"]) (by exfalso);obtain⟨wJ,UR⟩:=Gr.fx X G (ps:=["letters", "hands", "hand", "low", "high", "many"]) (by exfalso);obtain⟨wK,US⟩:=Gs.fx X G (ps:=["low", "high", "many"]) (by exfalso);obtain⟨wL,UT⟩:=Gu.fx X G (ps:=["letters", "hands", "hand", "low", "high"]) (by exfalso);obtain⟨wM,UU⟩:=Gv.fx X G (ps:=["many", "whole"]) (by exfalso);obtain⟨wN,UW⟩:=Gw.fx X G (ps:=["letters", "many"]) (by exfalso);obtain⟨wO,UX⟩:=Gx.fx X G (ps:=["letters", "many"]) (by exfalso);obtain⟨wQ,UY⟩:=Gy.fx X G (ps:=["letters", "known"]) (by exfalso);obtain⟨wR,UZ⟩:=Gz.fx X G (ps:=["letters", "low", "high"]) (by exfalso);obtain⟨wU,U0⟩:=GC.fx X G (ps:=["rows", "mark"]) (by exfalso);obtain⟨sR,U1⟩:=GD.fx X G (ps:=["rows"]) (by exfalso);obtain⟨wV,U3⟩:=GF.fx X G (ps:=["letters", "rows", "mark", "stems"]) (by exfalso);obtain⟨pV,U4⟩:=GG.fx X G (ps:=["letters", "hands", "renewals", "things", "taken"]) (by exfalso);obtain⟨sS,U5⟩:=GH.fx X G (ps:=["fewer", "more"]) (by exfalso);obtain⟨wW,U6⟩:=GI.fx X G (ps:=["letters", "renewals", "mark", "stems"]) (by exfalso);obtain⟨sV,U7⟩:=GJ.fx X G (ps:=["state", "renewals"]) (by exfalso);obtain⟨sW,U8⟩:=GK.fx X G (ps:=["one", "other"]) (by exfalso);obtain⟨fM,U9⟩:=GL.fx X G (ps:=["one", "other"]) (by exfalso);obtain⟨sX,Va⟩:=GN.fx X G (ps:=["text"]) (by exfalso);obtain⟨wX,Vb⟩:=GO.fx X G (ps:=["text"]) (by exfalso);obtain⟨sY,Vc⟩:=GP.fx X G (ps:=["place", "many"]) (by exfalso);obtain⟨wY,Vd⟩:=GQ.fx X G (ps:=["number", "hands"]) (by exfalso);obtain⟨Cr,Su⟩:=O8.fx (ps:=["self", "letters", "hands", "number"]) (by exfalso);obtain⟨tM,Wh⟩:=O9.fx (ps:=["self"]) (by exfalso);obtain⟨Cs,Wi⟩:=Pa.fx (ps:=["self", "low"]) (by exfalso);obtain⟨Ct,Wj⟩:=Pb.fx (ps:=["self", "place", "thing"]) (by exfalso);obtain⟨Cu,Wk⟩:=Pc.fx (ps:=["self", "place"]) (by exfalso);obtain⟨Cv,Wl⟩:=Pd.fx (ps:=["self"]) (by exfalso);obtain⟨sZ,Ve⟩:=GR.fx (ps:=["self"]) (by exfalso);obtain⟨Cw,Wm⟩:=Pe.fx (ps:=["self"]) (by exfalso);obtain⟨OW,Wn⟩:=Pf.fx (ps:=["self"]) (by exfalso);obtain⟨j8,Wo⟩:=Pg.fx (ps:=["self"]) (by exfalso);obtain⟨xX,Wq⟩:=Ph.fx (ps:=["self", "state"]) (by exfalso);obtain⟨tu,Vf⟩:=GS.fx X G (ps:=["word"]) (by exfalso);obtain⟨wZ,Vg⟩:=GU.fx X G (ps:=["rows"]) (by exfalso);obtain⟨w5,Vh⟩:=GV.fx X G (ps:=["rows"]) (by exfalso);obtain⟨w6,Vi⟩:=GW.fx X G (ps:=["things", "taken"]) (by exfalso);obtain⟨lA,Vj⟩:=GX.fx X G (ps:=["state"]) (by exfalso);obtain⟨jf,Vk⟩:=GY.fx X G (ps:=["good", "place"]) (by exfalso);obtain⟨mT,Vl⟩:=GZ.fx X G (ps:=["texts", "place"]) (by exfalso);obtain⟨w9,Vm⟩:=G0.fx X G (ps:=["word", "most"]) (by exfalso);obtain⟨pW,Vn⟩:=G1.fx X G (ps:=["letters", "last", "word"]) (by exfalso);obtain⟨xg,Vo⟩:=G2.fx X G (ps:=["texts"]) (by exfalso);obtain⟨xh,Vp⟩:=G3.fx X G (ps:=["texts", "place"]) (by exfalso);obtain⟨xj,Vq⟩:=Hf.fx X G (ps:=["letters", "texts", "place", "many"]) (by exfalso);obtain⟨xm,Vr⟩:=Hg.fx X G (ps:=["letters", "texts", "place"]) (by exfalso);obtain⟨xo,Vs⟩:=Hh.fx X G (ps:=["texts"]) (by exfalso);obtain⟨c7,Sv⟩:=AH.fx X G (ps:=["_law_script", "_law_k", "_law_many"]) (by exfalso);obtain⟨nP,Sw⟩:=AI.fx X G (ps:=["_law_script", "_law_k", "_law_hands"]) (by exfalso);obtain⟨iu,y_same⟩:=AJ.fx X G (ps:=["_law_one", "_law_other"]) (by exfalso);obtain⟨nQ,Sx⟩:=AL.fx X G (ps:=["_law_one", "_law_other", "_law_third"]) (by exfalso);obtain⟨tw,Vt⟩:=Hi.fx X G (ps:=["_law_script"]) (by exfalso);exact⟨⟨aD,cP,cB,cu,c5,c6,mQ,wH,sJ,pR,pS,sL,mR,mS,sM,pT,pU,sN,sO,wI,sP,sQ,wJ,wK,wL,wM,wN,wO,wQ,wR,wU,sR,wV,pV,sS,wW,sV,sW,fM,sX,wX,sY,wY,Cr,tM,Cs,Ct,Cu,Cv,sZ,Cw,OW,j8,xX,tu,wZ,w5,w6,lA,jf,mT,w9,pW,xg,xh,xj,xm,xo,c7,nP,iu,nQ,tw⟩,⟨W.mg_none_of X G F0,W.mg_none_of X G AF,W.mg_none_of X G F3,W.mg_none_of X G gE,W.mg_none_of X G F4,W.mg_none_of X G AG,W.mg_none_of X G F5,W.mg_none_of X G uC,W.mg_none_of X G jT,W.mg_none_of X G F6,W.mg_none_of X G qd,W.mg_none_of X G F7,W.mg_none_of X G uD,⟨_,W.mg_of X G uE⟩,⟨_,W.mg_of X G mE⟩,⟨_,W.mg_of X G uF⟩,⟨_,W.mg_of X G jU⟩,⟨_,W.mg_of X G qe⟩,⟨_,W.mg_of X G uG⟩,⟨_,W.mg_of X G gb⟩,⟨_,W.mg_of X G eK⟩,⟨_,W.mg_of X G mF⟩,⟨_,W.mg_of X G fO⟩,⟨_,W.mg_of X G eN⟩,⟨_,W.mg_of X G iO⟩,W.mg_of X G ur,⟨uu,uv,uw,ux⟩,⟨uy,Su.M.at_,Su.M.fn,uz⟩,eG,fZ,dg,dR,dS,f7,W.mg_of X G mh,mq,W.mg_of X G gC,gD,W.mg_of X G jP,jR,W.mg_of X G mj,mz,W.mg_of X G jQ,jS,UA,UB,UC,UD,UE,UG,UH,UI,UJ,UK,UL,UM,UN,UO,UP,UQ,UR,US,UT,UU,UW,UX,UY,UZ,U0,U1,U3,U4,U5,U6,U7,U8,U9,Va,Vb,Vc,Vd,Su,Wh,Wi,Wj,Wk,Wl,Ve,Wm,Wn,Wo,Wq,Vf,Vg,Vh,Vi,Vj,Vk,Vl,Vm,Vn,Vo,Vp,Vq,Vr,Vs,Sv,Sw,y_same,Sx,Vt⟩⟩
theorem walk{l:W.OpenLaw}{q:Program}{loose:WR Str}{XP:(Str->Option Value)->Heap->Prop}{YP:World->Heap->Prop}{d:DefRec}{K:Params->W.Frag}(hn:l.most=some 63)(hdf:d.params.defaults=[])
  (hY:∀(w:World) (h:Heap),YP w h->(K w.params).In h)
  (F:∀(w:World) (mg:Str->Option Value) (fa:Addr) (h:Heap),(K w.params).In h->h.Ns mainGlobals mg->mg d.name=some (.ref fa)->
   ∃fd:FuncData,(∀(s:Shared) (u:Value),BindsTo s fd ⟨[u],[]⟩ [("_law_script",u)])/\∀base:Heap,(K w.params).In base->base.Ns mainGlobals mg->gK l.prog w (K w.params) mg base fc 13 fa fd ["_law_script"] (FY (K w.params))):
  W.WalkO q loose XP YP l.row.toRowW d [] (λf vs=>PySem.call f vs):=
 L2.EW (n:=63) (k:=13) (x:="_law_script") (CX:=λ_=>fc) (sp:=λw=>FY (K w.params)) hn (by decide) hdf ⟨rfl,by decide,by decide⟩ hY F (λ_ _ a ns hl _ hS=>⟨a,ns,rfl,hS,hl,λ_=>rfl⟩) λ_ _ _ _ _ z=>z
end K92
open PySem PySem.W PyProof.Rows
set_option maxRecDepth 100000 in
set_option maxHeartbeats 0 in
theorem PySem.Challenge.cw_shelfmark_k92_whole_laying_holds : PySem.Challenge.rw_shelfmark_k92_whole_laying.Holds := by
  w_on; o_law; k_head; (case hw=>w_witness2)
  k_fill
  refine K92.walk (l:=PySem.Challenge.rw_shelfmark_k92_whole_laying) rfl rfl (fun w h Y=>PySem.W.kIn_of Y) ?F
  case F=>
    intro w mg fa h KX G hmg;have M:∃ a:K92.Ad,K92.Tx (L2.Vy KX) mg a:=by
      dsimp only [L2.Vy];refine' K92.Uz KX G (ur:=?ur) (uu:=?uu) (uv:=?uv) (uw:=?uw) (ux:=?ux) (uy:=?uy) (uz:=?uz) (eG:=?eG) (fZ:=?fZ) (dg:=?dg) (dR:=?dR) (dS:=?dS) (f7:=?f7) (mh:=?mh) (gC:=?gC) (jP:=?jP) (mj:=?mj) (jQ:=?jQ) (mq:=?mq) (gD:=?gD) (jR:=?jR) (mz:=?mz) (jS:=?jS) (F0:=?F0) (AF:=?AF) (F3:=?F3) (gE:=?gE) (F4:=?F4) (AG:=?AG) (F5:=?F5) (uC:=?uC) (jT:=?jT) (F6:=?F6) (qd:=?qd) (F7:=?F7) (uD:=?uD) (uE:=?uE) (mE:=?mE) (uF:=?uF) (jU:=?jU) (qe:=?qe) (uG:=?uG) (gb:=?gb) (eK:=?eK) (mF:=?mF) (fO:=?fO) (eN:=?eN) (iO:=?iO) (F8:=?F8) (F9:=?F9) (Ga:=?Ga) (Gb:=?Gb) (Gd:=?Gd) (Ge:=?Ge) (Gf:=?Gf) (Gg:=?Gg) (Gh:=?Gh) (Gi:=?Gi) (Gj:=?Gj) (Gk:=?Gk) (Gm:=?Gm) (Gn:=?Gn) (Gp:=?Gp) (Gq:=?Gq) (Gr:=?Gr) (Gs:=?Gs) (Gu:=?Gu) (Gv:=?Gv) (Gw:=?Gw) (Gx:=?Gx) (Gy:=?Gy) (Gz:=?Gz) (GC:=?GC) (GD:=?GD) (GF:=?GF) (GG:=?GG) (GH:=?GH) (GI:=?GI) (GJ:=?GJ) (GK:=?GK) (GL:=?GL) (GN:=?GN) (GO:=?GO) (GP:=?GP) (GQ:=?GQ) (O8:=?O8) (O9:=?O9) (Pa:=?Pa) (Pb:=?Pb) (Pc:=?Pc) (Pd:=?Pd) (GR:=?GR) (Pe:=?Pe) (Pf:=?Pf) (Pg:=?Pg) (Ph:=?Ph) (GS:=?GS) (GU:=?GU) (GV:=?GV) (GW:=?GW) (GX:=?GX) (GY:=?GY) (GZ:=?GZ) (G0:=?G0) (G1:=?G1) (G2:=?G2) (G3:=?G3) (Hf:=?Hf) (Hg:=?Hg) (Hh:=?Hh) (AH:=?AH) (AI:=?AI) (AJ:=?AJ) (AL:=?AL) (Hi:=?Hi)
      (case ur|uu|uv|uw|ux|uy|uz|eG|fZ|dg|dR|dS|f7|mh|gC|jP|mj|jQ=>k_is)
      (case mq|gD|jR|mz|jS=>unfold L2.Xc; k_exc)
      (case F0|AF|F3|gE|F4|AG|F5|uC|jT|F6|qd|F7|uD|uE|mE|uF|jU|qe|uG|gb|eK|mF|fO|eN|iO=>k_is)
      (case F8|F9|Ga|Gb|Gd|Ge|Gf|Gg|Gh|Gi|Gj|Gk|Gm|Gn|Gp|Gq|Gr|Gs|Gu|Gv|Gw|Gx|Gy|Gz|GC|GD|GF|GG|GH|GI|GJ|GK|GL|GN|GO|GP|GQ=>apply L2.bx <;> k_is)
      (case O8|O9|Pa|Pb|Pc|Pd|GR|Pe|Pf|Pg|Ph=>apply L2.kK <;> k_is)
      (case GS|GU|GV|GW|GX|GY|GZ|G0|G1|G2|G3|Hf|Hg|Hh|AH|AI|AJ|AL|Hi=>apply L2.bx <;> k_is)
    obtain ⟨a,T⟩:=M;have e0:=hmg.symm.trans T.tw.g;cases e0;exact ⟨_,T.tw.F.bt (by exfalso),fun base _ _=>K92.Ss T⟩
