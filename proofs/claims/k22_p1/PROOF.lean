import PyProof.Rows.All
import Wide.All
import OpenK.AllK
import Wide.FinOn
import Lean
import PyProof.EqAt
import PyProof.EqKinds
import PyProof.TupleCall
import KE.KEqDat
import PyProof.CompMap
import PyProof.WalksEnum
import PyProof.EnumMake
import PyProof.Draws
import PyProof.Rows.SetFrom
import PyProof.SetKind
import PyProof.WalksS
import PyProof.CollectWalk
import PyProof.FactsAll.set_1
import PyProof.DictIter
import PyProof.TupleIter
import PyProof.FactsAll.set_2
import PyProof.Rows.SortStr
import PyProof.StrBlockH
import PyProof.Rows.StrClose
import PyProof.FitsInt
import PyProof.Rows.FStr
import PyProof.StrOps2
import PyProof.StrCalls2
import PyProof.Rows.StrJoin2
import PyProof.StrLaws
import PyProof.StrLoop
import PyProof.StrWalks
import PyProof.StrLawsIn
import PyProof.ListRange
import PyProof.ZipIter
import PyProof.SeqI3
import PyProof.WalkInts
import PyProof.Rows.CallKwBuiltin
import PyProof.FactsAll.tuple_2
import PyProof.FactsAll.tuple_3
import PyProof.TupleKey
import PyProof.FactsAll.tuple_0
import PyProof.Rows.Range3
import PyProof.SumAny
import PyProof.DictRoads
import PyProof.DictList
import PyProof.Rows.SortWalk
import PyProof.Rows.SortRuns
import KE.KSortTup
import KE.KDictOf
import PyProof.AttrMissHeap
import PyProof.MeetsDict
import PyProof.FactsAll.dict_3
import KE.KUnpack
import KE.KRevIter
import PySem.Challenge.RW_leafpress_k22_whole_spans_hold
local macro_rules | `(tactic| omega) => `(tactic| lia)
local macro_rules | `(tactic| trivial) => `(tactic| first | exact Or.inl (by rfl) | exact Or.inr (by rfl))
noncomputable section
set_option Elab.async false
set_option linter.all false
set_option maxRecDepth 100000
namespace L2
open PySem PySem.Spec PyProof.Rows
abbrev Key:=Sum Int Str
def keyIs:Key→Value→Bool
 | .inl k,v=>Value.isInt k v
 | .inr x,v=>Value.isStrOf x v
def keyH(w:World):Key→Int
 | .inl k=>hashInt k
 | .inr x=>hashStr w x
theorem keyIs_shape:∀{k:Key} {v:Value},keyIs k v=true→(∃i t,k=Sum.inl i∧v=Value.int i t)∨(∃x t,k=Sum.inr x∧v=Value.str x t)
 | .inl i, v, h => by
   obtain⟨t,e⟩:=Value.isInt_shape (k:=i) (v:=v) h
   exact .inl ⟨i,t,rfl,e⟩
 | .inr x, v, h => by
   obtain⟨t,e⟩:=Value.isStrOf_shape (x:=x) (v:=v) h
   exact .inr ⟨x,t,rfl,e⟩
theorem keyIs_int(i:Int)(t:Tok):keyIs (.inl i) (.int i t)=true:=by simp[keyIs,Value.isInt]
theorem keyIs_str(x:Str)(t:Tok):keyIs (.inr x) (.str x t)=true:=by simp[keyIs,Value.isStrOf]
theorem key_ll(a b:Int):decide ((Sum.inl a:Key)=Sum.inl b)=(a == b):=by
 by_cases e:a=b
 ·subst e;simp
 ·have h:¬(Sum.inl a:Key)=Sum.inl b:=fun q=>e (Sum.inl.inj q)
  rw[decide_eq_false h];exact(beq_eq_false_iff_ne.mpr e).symm
theorem key_rr(a b:Str):decide ((Sum.inr a:Key)=Sum.inr b)=decide (a=b):=by
 by_cases e:a=b
 ·subst e;simp
 ·have h:¬(Sum.inr a:Key)=Sum.inr b:=fun q=>e (Sum.inr.inj q)
  rw[decide_eq_false h,decide_eq_false e]
theorem key_lr(a:Int)(b:Str):decide ((Sum.inl a:Key)=Sum.inr b)=false:=decide_eq_false (fun q=>nomatch q)
theorem key_rl(a:Str)(b:Int):decide ((Sum.inr a:Key)=Sum.inl b)=false:=decide_eq_false (fun q=>nomatch q)
def qbi(prog:Program)(w:World):PySem.KeyKind prog w Key where
 is:=keyIs
 hash:=keyH w
 inj:=fun v a b ha hb=>by
  rcases keyIs_shape ha with⟨i,t,rfl,rfl⟩ | ⟨x,t,rfl,rfl⟩
  ·rcases keyIs_shape hb with⟨j,u,rfl,e⟩ | ⟨y,u,rfl,e⟩
   ·injection e with e1 _;rw[e1]
   ·exact nomatch e
  ·rcases keyIs_shape hb with⟨j,u,rfl,e⟩ | ⟨y,u,rfl,e⟩
   ·exact nomatch e
   ·injection e with e1 _;rw[e1]
 byValue:=fun k v h=>by
  rcases keyIs_shape h with⟨i,t,rfl,rfl⟩ | ⟨x,t,rfl,rfl⟩<;>rfl
 pyHash:=fun hv h=>by
  rcases keyIs_shape hv with⟨i,t,rfl,rfl⟩ | ⟨x,t,rfl,rfl⟩
  ·exact wpAny_pyHash_int h
  ·exact wpAny_pyHash_str h
 eqBool:=fun hu hv h=>by
  rcases keyIs_shape hu with⟨i,t,rfl,rfl⟩ | ⟨x,t,rfl,rfl⟩
  ·rcases keyIs_shape hv with⟨j,u,rfl,rfl⟩ | ⟨y,u,rfl,rfl⟩
   ·rw[key_ll]at h;exact wpAny_eqBool_int h
   ·rw[key_lr]at h;exact SeqAt.EqAt.int_str i t y u _ _ _ _ h
  ·rcases keyIs_shape hv with⟨j,u,rfl,rfl⟩ | ⟨y,u,rfl,rfl⟩
   ·rw[key_rl]at h;exact SeqAt.EqAt.str_int x t j u _ _ _ _ h
   ·rw[key_rr]at h;exact wpAny_eqBool_str h
 «strs»:=fun k x t v h=>by
  rcases keyIs_shape h with⟨i,u,rfl,e⟩ | ⟨y,u,rfl,e⟩
  ·exact nomatch e
  ·injection e with e1 _
   subst e1;cases v<;>rfl
theorem mixKind_int(prog:Program)(w:World)(i:Int)(t:Tok):(qbi prog w).is (.inl i) (.int i t)=true:=keyIs_int i t
theorem mixKind_str(prog:Program)(w:World)(x:Str)(t:Tok):(qbi prog w).is (.inr x) (.str x t)=true:=keyIs_str x t
end L2
namespace L2
open PySem PySem.Spec PyProof.Rows
inductive V where
 | non | bl (b:Bool) | int (i:Int) | str (x:Str) | byt (b:Array UInt8) | flt (b:UInt64) | ref (a:Addr) | ty (n:String)
 deriving DecidableEq
def RelV:V→Value→Prop
 | .non,u=>u=Value.none
 | .bl b,u=>u=Value.bool b
 | .int i,u=>∃t,u=Value.int i t
 | .str x,u=>∃t,u=Value.str x t
 | .byt b,u=>∃t,u=Value.bytes b t
 | .flt b,u=>∃t,u=Value.float b t
 | .ref a,u=>u=Value.ref a
 | .ty n,u=>u=Value.type n
abbrev Vals:List V→List Value→Prop:=Paired RelV
theorem Vals.length{xs:List V}{us:List Value}(r:Vals xs us):xs.length=us.length:=Paired.length r
theorem Vals.get:∀{xs:List V} {us:List Value} {i:Nat} {x:V},Vals xs us→xs[i]?=some x→∃u,us[i]?=some u∧RelV x u
 | _,_,_,_,.nil,e=>by simp at e
 | _,_,0,_,.cons r _,e=>by simp at e;subst e;exact⟨_,rfl,r⟩
 | _, _, i + 1, x, .cons _ t, e => by
   obtain⟨u,h1,h2⟩:=Vals.get (i:=i) (x:=x) t (by simpa using e)
   exact⟨u,by simpa using h1,h2⟩
theorem Vals.set{x:V}{u:Value}(r:RelV x u):∀{xs:List V} {us:List Value} (i:Nat),Vals xs us→Vals (xs.set i x) (us.set i u)
 | _,_,_,.nil=>.nil
 | _,_,0,.cons _ t=>.cons r t
 | _,_,i+1,.cons q t=>.cons q (Vals.set r i t)
theorem Vals.append:∀{xs ys:List V} {us ws:List Value},Vals xs us→Vals ys ws→Vals (xs++ys) (us++ws)
 | _,_,_,_,.nil,s=>s
 | _,_,_,_,.cons r t,s=>.cons r (Vals.append t s)
theorem Vals.take:∀{xs:List V} {us:List Value} (n:Nat),Vals xs us→Vals (xs.take n) (us.take n)
 | _,_,0,_=>.nil
 | _,_,_+1,.nil=>.nil
 | _,_,n+1,.cons r t=>.cons r (Vals.take n t)
theorem Vals.drop:∀{xs:List V} {us:List Value} (n:Nat),Vals xs us→Vals (xs.drop n) (us.drop n)
 | _,_,0,r=>r
 | _,_,_+1,.nil=>.nil
 | _,_,n+1,.cons _ t=>Vals.drop n t
def RelO:Option V→Option Value→Prop
 | some v,some u=>RelV v u
 | none,none=>True
 | _,_=>False
def KV{κ:Type}:List (κ×V)→List (κ×Value)→Prop:=Paired fun(p:κ×V) (q:κ×Value)=>p.1=q.1∧RelV p.2 q.2
def kV:Key→V
 | .inl i=>.int i
 | .inr x=>.str x
inductive HO where
 | lst (xs:List V)
 | tup (xs:List V)
 | dK (kvs:List (Key×V)) | dT (kvs:List (List Key×V))
 | set (S:Int→Bool) (n:Nat)
 | ins (C dx:Addr) (fs:List (Str×V))
 | own (x:Addr)
 | xd (fs:List (Str×V))
 | met (f x:Addr)
 | rng (lo hi:Int)
 | frz (o:Obj) (u:HO)
 | tbl (ps:Array Value)
 | ext (φ:Heap→Prop)
abbrev Hp:=Addr→Option HO
def upd(H:Hp)(a:Addr)(o:HO):Hp:=fun b=>if b=a then some o else H b
theorem qac{H:Hp}{a:Addr}{o:HO}:upd H a o a=some o:=by unfold upd;rw[if_pos rfl]
theorem qap{H:Hp}{a b:Addr}{o:HO}(h:b≠a):upd H a o b=H b:=by unfold upd;rw[if_neg h]
theorem qga{H:Hp}{a b:Addr}{o u:HO}(h:H a=some o)(h':H b=some u)(d:o≠u):a≠b:=by
 intro e;subst e;rw[h]at h';exact d (Option.some.inj h')
theorem qar{H:Hp}{a b:Addr}{o:HO}(h:H a=some o)(h':H b=none):a≠b:=by
 intro e;subst e;rw[h]at h';cases h'
section
variable(P:Program)(w:World)
def ObjOk(H:Hp)(h:Heap)(a:Addr):HO→Prop
 | .lst xs=>xs.length≤sizeLine∧∃(its:List Value) (n:Nat),Vals xs its∧h.get? a=some {cls:=.type "list",data:=.seq its.toArray n}
 | .tup xs=>xs.length≤sizeLine∧∃its:List Value,Vals xs its∧IsTup h a its.toArray
 | .dK kvs=>kvs.length≤sizeLine∧(a == sysModules)=false∧∃vs,KV kvs vs∧h.DictOf (qbi P w) a vs
 | .dT kvs=>kvs.length≤sizeLine∧(a == sysModules)=false∧∃xs:List (List Key×Addr×Value),
   Paired (fun(p:List Key×V) (q:List Key×Addr×Value)=>p.1=q.1∧H q.2.1=some (.tup (p.1.map kV))∧RelV p.2 q.2.2) kvs xs ∧
   ∃o es ep,h.get? a=some o∧o.ExactDict∧o.data=.dict es ep∧es.toList=xs.map (entryOfKey (tupleKind (qbi P w)))∧(xs.map (·.1)).Nodup
 | .set S n=>h.SetOf (intKind P w) a S n
 | .ins C dx fs=>H dx=some (.own a)∧fs.length≤1000∧dx≠a∧h.get? a=some (PySem.W.instObj C dx) ∧
   ∃mA,h.Ns1 dx mA∧(∀f,RelO (fs.lookup f) (mA f))∧PySem.Within mA (fs.map (·.1))
 | .own _=>∃o,h.get? a=some o
 | .xd fs=>∃mA,h.Ns1 a mA∧∀f,RelO (fs.lookup f) (mA f)
 | .rng lo hi=>∃t u v,h.get? a=some {cls:=.type "range",data:=.fields #[.int lo t,.int hi u,.int 1 v]}
 | .frz o u=>h.get? a=some o∧ObjOk H h a u
 | .tbl ps=>h.get? a=some {cls:=.none,data:=.fields ps}
 | .met f x=>h.get? a=some (PySem.W.methodObj (.ref f) (.ref x))
 | .ext φ=>φ h∧(∃o,h.get? a=some o)∧∀h1 h2:Heap,φ h1→(∀o,h1.get? a=some o→h2.get? a=some o)→φ h2
def HOk(H:Hp)(h:Heap):Prop:=∀a o,H a=some o→ObjOk P w H h a o
end
section
variable{P:Program}{w:World}{H H':Hp}{h h':Heap}{a:Addr}{o:HO}
theorem ObjOk.lt(x:ObjOk P w H h a o):a<h.objs.size:=by
 cases o with
 | lst xs=>obtain⟨_,_,_,_,e⟩:=x;exact Heap.lt_size e
 | tup xs=>obtain⟨_,_,_,p⟩:=x;exact p.lt
 | dK kvs=>obtain⟨_,_,_,_,o,_,_,e,_⟩:=x;exact Heap.lt_size e
 | dT kvs=>obtain⟨_,_,_,_,o,_,_,e,_⟩:=x;exact Heap.lt_size e
 | set S n=>obtain⟨o,_,_,_,e,_⟩:=x;exact Heap.lt_size e
 | ins C dx fs=>obtain⟨_,_,_,e,_⟩:=x;exact Heap.lt_size e
 | own y=>obtain⟨_,e⟩:=x;exact Heap.lt_size e
 | xd fs=>obtain⟨_,⟨_,_,_,e,_⟩,_⟩:=x;exact Heap.lt_size e
 | rng lo hi=>obtain⟨_,_,_,e⟩:=x;exact Heap.lt_size e
 | frz ob u=>obtain⟨e,_⟩:=x;exact Heap.lt_size e
 | tbl ps=>exact Heap.lt_size (show h.get? a=some _ from x)
 | met f y=>exact Heap.lt_size (show h.get? a=some _ from x)
 | ext φ=>obtain⟨_,⟨_,e⟩,_⟩:=x;exact Heap.lt_size e
theorem Paired.mapP{α β:Type}{F G:α→β→Prop}:∀{l₁:List α} {l₂:List β},Paired F l₁ l₂→(∀a b,F a b→G a b)→Paired G l₁ l₂
 | _,_,.nil,_=>.nil
 | _,_,.cons r t,f=>.cons (f _ _ r) (Paired.mapP t f)
theorem ObjOk.stay(x:ObjOk P w H h a o)(k:∀b u,(b=a∨H b=some (.own a))→h.get? b=some u→h'.get? b=some u)(ho:∀b,H b=some (.own a)→H' b=some (.own a))(ht:∀b xs,H b=some (.tup xs)→H' b=some (.tup xs)):ObjOk P w H' h' a o:=by
 induction o with
 | lst xs=>obtain⟨z,its,n,r,e⟩:=x;exact⟨z,its,n,r,k _ _ (.inl rfl) e⟩
 | tup xs=>obtain⟨z,its,r,ob,e,c⟩:=x;exact⟨z,its,r,ob,k _ _ (.inl rfl) e,c⟩
 | dK kvs=>obtain⟨z,y,vs,r,ob,es,ep,e,c⟩:=x;exact⟨z,y,vs,r,ob,es,ep,k _ _ (.inl rfl) e,c⟩
 | dT kvs =>
   obtain⟨z,y,xs,r,ob,es,ep,e,c⟩:=x
   exact⟨z,y,xs,Paired.mapP r fun p q z=>⟨z.1,ht _ _ z.2.1,z.2.2⟩,ob,es,ep,k _ _ (.inl rfl) e,c⟩
 | set S n=>obtain⟨ob,es,ep,t,e,c⟩:=x;exact⟨ob,es,ep,t,k _ _ (.inl rfl) e,c⟩
 | ins C dx fs =>
   obtain⟨d,z,ne,e,mA,⟨od,es,ep,e2,c⟩,r⟩:=x
   exact⟨ho _ d,z,ne,k _ _ (.inl rfl) e,mA,⟨od,es,ep,k _ _ (.inr d) e2,c⟩,r⟩
 | own y=>obtain⟨ob,e⟩:=x;exact⟨ob,k _ _ (.inl rfl) e⟩
 | xd fs=>obtain⟨mA,⟨od,es,ep,e,c⟩,r⟩:=x;exact⟨mA,⟨od,es,ep,k _ _ (.inl rfl) e,c⟩,r⟩
 | rng lo hi=>obtain⟨t,u,v,e⟩:=x;exact⟨t,u,v,k _ _ (.inl rfl) e⟩
 | frz ob u ih=>obtain⟨e,q⟩:=x;exact⟨k _ _ (.inl rfl) e,ih q⟩
 | tbl ps =>
   have e:h.get? a=some {cls:=.none,data:=.fields ps}:=x
   show h'.get? a=some {cls:=.none,data:=.fields ps}
   exact k a _ (.inl rfl) e
 | met f y =>
   have e:h.get? a=some (PySem.W.methodObj (.ref f) (.ref y)):=x
   show h'.get? a=some (PySem.W.methodObj (.ref f) (.ref y))
   exact k a _ (.inl rfl) e
 | ext φ=>obtain⟨p,⟨o,e⟩,st⟩:=x;exact⟨st _ _ p fun o q=>k _ _ (.inl rfl) q,⟨o,k _ _ (.inl rfl) e⟩,st⟩
theorem HOk.lt(x:HOk P w H h)(e:H a=some o):a<h.objs.size:=(x a o e).lt
theorem HOk.fresh(x:HOk P w H h)(e:h.objs.size≤a):H a=none:=by
 cases q:H a with
 | none=>rfl
 | some u=>exact absurd (Nat.lt_of_lt_of_le (x.lt q) e) (Nat.lt_irrefl _)
theorem HOk.kept(x:HOk P w H h)(k:∀b u,h.get? b=some u→h'.get? b=some u):HOk P w H h':=fun a o e =>
 (x a o e).stay (fun b u _ q=>k b u q) (fun _ q=>q) fun _ _ q=>q
theorem HOk.laid(x:HOk P w H h)(k:∀b u,h.get? b=some u→h'.get? b=some u)(hp:h.objs.size≤a)(new:ObjOk P w (upd H a o) h' a o):HOk P w (upd H a o) h':=fun b u e=>by
 have hn:=x.fresh hp
 by_cases hb:b=a
 ·subst hb;rw[qac]at e;cases e;exact new
 ·rw[qap hb]at e;exact(x b u e).stay (fun c v _ q=>k c v q) (fun c q=>by rw[qap (qar q hn)];exact q) fun c xs q=>by rw[qap (qar q hn)];exact q
end
def Rd(H:Hp)(a:Addr)(u:HO):Prop:=H a=some u∨∃o,H a=some (.frz o u)
theorem Rd.ok{P:Program}{w:World}{H:Hp}{h:Heap}{a:Addr}{u:HO}(r:Rd H a u)(x:HOk P w H h):ObjOk P w H h a u:=by
 rcases r with r | ⟨o,r⟩
 ·exact x a u r
 ·obtain⟨_,q⟩:=x a _ r;exact q
def Mut:Option HO→Prop
 | some (.lst _)=>True
 | some (.dK _)=>True
 | some (.dT _)=>True
 | some (.set _ _)=>True
 | some (.ins _ _ _)=>True
 | some (.ext _)=>True
 | _=>False
section
variable{P:Program}{w:World}{H:Hp}{h h':Heap}{x e:Addr}{o':HO}
theorem HOk.write(ok:HOk P w H h)(mu:Mut (H x))(he:e=x∨H e=some (.own x))(k:∀b u,b≠e→h.get? b=some u→h'.get? b=some u)(heo:∃u,h'.get? e=some u)(new:ObjOk P w (upd H x o') h' x o'):HOk P w (upd H x o') h':=fun b u q=>by
 have nown:∀c y,H c=some (.own y)→c≠x:=fun c y r z=>by subst z;rw[r]at mu;exact mu
 have ntup:∀c xs,H c=some (.tup xs)→c≠x:=fun c xs r z=>by subst z;rw[r]at mu;exact mu
 by_cases hb:b=x
 ·subst hb;rw[qac]at q;cases q;exact new
 ·rw[qap hb]at q
  by_cases hbe:b=e
  ·have q':H b=some (.own x):=by
    rcases he with z | z
    ·exact absurd (hbe.trans z) hb
    ·rw[hbe];exact z
   rw[q]at q';cases q';obtain⟨v,hv⟩:=heo;exact⟨v,by rw[hbe];exact hv⟩
  ·refine(ok b u q).stay (fun c v hc r=>k c v ?_ r) (fun c r=>by rw[qap (nown c b r)];exact r) fun c xs r=>by rw[qap (ntup c xs r)];exact r
   rcases hc with rfl | hc
   ·exact hbe
   ·rintro rfl;rcases he with z | z
    ·exact nown c b hc z
    ·rw[hc]at z;cases z;exact hb rfl
end
structure Un(fs ex:List Addr)(H H':Hp)(h h':Heap):Prop where
 keep:∀b o,h.get? b=some o→H b=none→b∉fs→b∉ex→h'.get? b=some o
 slot:∀b o,h.get? b=some o→H b=none→b∈fs→b∉ex→∃sl,h'.get? b=some {o with slots:=sl}
 free:∀b o,h.get? b=some o→H b=none→b∉ex→H' b=none
 there:∀b o,h.get? b=some o→b∉ex→∃o',h'.get? b=some o'
 tups:∀b xs,H b=some (.tup xs)→H' b=some (.tup xs)
 frzs:∀b o u,H b=some (.frz o u)→H' b=some (.frz o u)
 tbls:∀b ps,H b=some (.tbl ps)→∃more,H' b=some (.tbl (ps++more))
section
variable{fs fs' ex ex':List Addr}{H H1 H2:Hp}{h h1 h2 h':Heap}{a x e:Addr}{o:HO}
theorem Un.any(u:Un fs ex H H1 h h1){b:Addr}{ob:Obj}(q:h.get? b=some ob)(n:H b=none)(hx:b∉ex):∃sl,h1.get? b=some {ob with slots:=sl}:=by
 by_cases hb:b∈fs
 ·exact u.slot b ob q n hb hx
 ·exact⟨ob.slots,u.keep b ob q n hb hx⟩
theorem Un.kept(k:∀b u,h.get? b=some u→h'.get? b=some u):Un fs ex H H h h' :=
 ⟨fun b ob q _ _ _=>k b ob q,fun b ob q _ _ _=>⟨ob.slots,k b ob q⟩,fun _ _ _ n _=>n,fun b ob q _=>⟨ob,k b ob q⟩,fun _ _ q=>q,fun _ _ _ q=>q,fun _ ps q=>⟨#[],by rw[q];simp⟩⟩
theorem Un.refl:Un fs ex H H h h:=Un.kept fun _ _ q=>q
theorem Un.laid(k:∀b u,h.get? b=some u→h'.get? b=some u)(hp:h.objs.size≤a)(hn:H a=none):Un fs ex H (upd H a o) h h' where
 keep:=fun b u q _ _ _=>k b u q
 slot:=fun b u q _ _ _=>⟨u.slots,k b u q⟩
 free:=fun b u q n _=>by rw[qap (Nat.ne_of_lt (Nat.lt_of_lt_of_le (Heap.lt_size q) hp))];exact n
 there:=fun b u q _=>⟨u,k b u q⟩
 tups:=fun b xs q=>by rw[qap (qar q hn)];exact q
 frzs:=fun b u xs q=>by rw[qap (qar q hn)];exact q
 tbls:=fun b ps q=>⟨#[],by rw[qap (qar q hn),q];simp⟩
theorem Un.write(mu:Mut (H x))(he:e=x∨H e=some (.own x))(k:∀b u,b≠e→h.get? b=some u→h'.get? b=some u)(heo:∃u,h'.get? e=some u):Un fs ex H (upd H x o) h h':=by
 have hx:∀b,H b=none→b≠x:=fun b n z=>by subst z;rw[n]at mu;exact mu
 have hb:∀b,H b=none→b≠e:=fun b n z=>by
  subst z;rcases he with r | r
  ·exact hx b n r
  ·rw[n]at r;cases r
 have hm:∀b u,H b=some u→¬Mut (some u)→b≠x:=fun b u q nm z=>by subst z;rw[q]at mu;exact nm mu
 refine⟨fun b u q n _ _=>k b u (hb b n) q,fun b u q n _ _=>⟨u.slots,k b u (hb b n) q⟩,fun b u q n _=>by rw[qap (hx b n)];exact n,fun b u q _=>?_,
  fun b xs q=>by rw[qap (hm b _ q fun z=>z)];exact q,fun b u xs q=>by rw[qap (hm b _ q fun z=>z)];exact q,fun b ps q=>⟨#[],by rw[qap (hm b _ q fun z=>z),q];simp⟩⟩
 by_cases hbe:b=e
 ·subst hbe;exact heo
 ·exact⟨u,k b u hbe q⟩
end
def trk(h:Heap)(H:Hp):List Addr:=(List.range h.objs.size).filter fun a=>(H a).isSome
def hidT(h:Heap)(H:Hp):Heap:=PySem.W.hideAll h (trk h H)
theorem hidT_size(h:Heap)(H:Hp):(hidT h H).objs.size=h.objs.size:=PySem.W.hideAll_size _ _
theorem hidT_get{h:Heap}{H:Hp}{b:Addr}{o:Obj}(e:h.get? b=some o)(n:H b=none):(hidT h H).get? b=some o :=
 PySem.W.hideAll_get _ e fun hm=>by
  have q:(H b).isSome=true:=(List.mem_filter.mp hm).2;rw[n]at q;simp at q
theorem of_hidT{h:Heap}{H:Hp}{b:Addr}{o:Obj}(e:(hidT h H).get? b=some o):h.get? b=some o∧H b=none:=by
 have e':h.get? b=some o:=PySem.W.of_hideAll (trk h H) e;refine⟨e',?_⟩;cases q:H b with
 | none=>rfl
 | some x =>
   have hm:b∈trk h H:=List.mem_filter.mpr ⟨List.mem_range.mpr (Heap.lt_size e'),by simp[q]⟩
   have z:(hidT h H).get? b=none:=PySem.W.hideAll_none (trk h H) hm
   rw[z]at e;cases e
end L2
namespace L2
open PySem PySem.Spec PyProof.Rows
structure Mod(K:PySem.W.Frag)(mg:Str→Option Value)(base:Heap):Prop where
 kin:K.In base
 glob:base.Ns mainGlobals mg
 blt:∃mb,base.Ns builtinsNs mb∧∀x:Str,x ≠ "__name__" → mb x=bootBuiltins x
 nolimit:base.NoLimit
structure Cx where
 prog:Program
 w:World
 K:PySem.W.Frag
 mg:Str→Option Value
 base:Heap
 A:Around
 N:List Str
 s₀:Shared
 H₀:Hp
 env:Env
 outer:List Env
 stack:List Env
 ex:List Addr
 fn:Str→Bool
 calm:Bool
 pn:List (Addr×Obj)
 xe:Value→Shared→Prop
def frs(l:List Env):List Addr:=l.filterMap (·.frame)
abbrev Cx.fs(X:Cx):List Addr:=frs X.outer
def Vis(sc:Scope)(x:Str):Prop:=sc.names.lookup x=some .local∨sc.names.lookup x=some .cell∨sc.names.lookup x=some .free
def Loc(sc:Scope)(x:Str):Prop:=sc.names.lookup x=some .local∨sc.names.lookup x=some .cell
def Look(env:Env)(h:Heap)(m:Str→Option Value)(x:Str)(u:Value):Prop :=
 (env.kindOf x=some .local∧m x=some u)∨((env.kindOf x=some .cell∨env.kindOf x=some .free)∧∃c,env.cells.lookup x=some c∧h.IsCell c (some u))
structure Cx.Ok(X:Cx):Prop where
 mod:Mod X.K X.mg X.base
 kind:X.env.scope.kind=.function
 glob:X.env.globals=mainGlobals
 blt:X.env.builtins=builtinsNs
 above:X.s₀.heap.objs.size≤X.env.locals
 inj:∀x y c,X.env.cells.lookup x=some c→X.env.cells.lookup y=some c→x=y
 has:∀x,(X.env.kindOf x=some .cell∨X.env.kindOf x=some .free)→∃c,X.env.cells.lookup x=some c
 cab:∀x c,X.fn x=true→X.env.cells.lookup x=some c→X.s₀.heap.objs.size≤c
 hd:X.calm=true→X.A.handled=none
 frames:X.A.frames=some X.stack
 stk:X.stack=X.outer∨(X.stack=X.env::X.outer∧X.env.frame=some X.env.locals)
 exf:∀b∈X.ex,b≠X.env.locals∧∀x c,X.env.cells.lookup x=some c→c≠b
 bs:∀b o,X.base.get? b=some o→X.s₀.heap.get? b=some o∧X.H₀ b=none
 bsz:X.base.objs.size≤X.s₀.heap.objs.size
 noex:∀b o,X.base.get? b=some o→b∉X.ex
 exfs:∀b∈X.ex,b∉X.fs
 funs:X.s₀.heap.FunFrames X.base X.outer
 frf:∀b∈X.fs,X.H₀ b=none
structure Inv(X:Cx)(pins:List (Addr×Obj))(σ:List (Option V))(H:Hp)(s:Shared):Prop where
 ok:X.Ok
 os:s.os=X.s₀.os
 bare:AllBare s.gens
 base:Un X.fs X.ex X.H₀ H X.s₀.heap s.heap
 loc:∃m,s.heap.Ns X.env.locals m∧∀(i:Nat) (x:Str) (v:V),X.N[i]?=some x→σ[i]?=some (some v)→Vis X.env.scope x→∃u,RelV v u∧Look X.env s.heap m x u
 cell:∀x c,X.env.cells.lookup x=some c→∃v,s.heap.IsCell c v
 free:H X.env.locals=none
 freeC:∀x c,X.env.cells.lookup x=some c→H c=none
 pin:∀p∈X.pn++pins,s.heap.get? p.1=some p.2∧H p.1=none∧p.1≠X.env.locals∧p.1∉X.fs∧∀v,p.2.data≠.cell v
 hok:HOk X.prog X.w H s.heap
 len:σ.length=X.N.length
section
variable{X:Cx}{pins:List (Addr×Obj)}{σ:List (Option V)}{H H':Hp}{s:Shared}{h':Heap}
theorem Cx.Ok.nofr(ok:X.Ok){b:Addr}{o:Obj}(e:X.base.get? b=some o):b∉X.fs:=fun hb=>by
 have:=(ok.funs.mem hb).1;rw[e]at this;cases this
theorem Inv.bs(I:Inv X pins σ H s):∀b o,X.base.get? b=some o→s.heap.get? b=some o∧H b=none:=fun b o e =>
 ⟨I.base.keep b o (I.ok.bs b o e).1 (I.ok.bs b o e).2 (I.ok.nofr e) (I.ok.noex b o e),I.base.free b o (I.ok.bs b o e).1 (I.ok.bs b o e).2 (I.ok.noex b o e)⟩
theorem Inv.bk(I:Inv X pins σ H s):∀b o,X.base.get? b=some o→s.heap.get? b=some o:=fun b o e=>(I.bs b o e).1
theorem Inv.mod(I:Inv X pins σ H s):Mod X.K X.mg X.base:=I.ok.mod
theorem Inv.kIn(I:Inv X pins σ H s):X.K.In s.heap:=I.ok.mod.kin.keeps I.bk
theorem Inv.lt(I:Inv X pins σ H s):X.env.locals<s.heap.objs.size:=let⟨_,hn,_⟩:=I.loc;hn.lt
theorem Inv.sz(I:Inv X pins σ H s):X.s₀.heap.objs.size≤s.heap.objs.size:=Nat.le_trans I.ok.above (Nat.le_of_lt I.lt)
theorem Inv.nofs(I:Inv X pins σ H s){a:Addr}(h:s.heap.objs.size≤a):a∉X.fs:=fun hb=>by
 obtain⟨_,o,ho,_⟩:=I.ok.funs.mem hb;exact absurd (Nat.lt_of_lt_of_le (Heap.lt_size ho) (Nat.le_trans I.sz h)) (Nat.lt_irrefl _)
theorem Inv.cne(I:Inv X pins σ H s):∀x c,X.env.cells.lookup x=some c→c≠X.env.locals:=fun x c e z=>by
 obtain⟨v,o,ho,hd⟩:=I.cell x c e;obtain⟨m,⟨o',es,ep,ho',hd',_⟩,_⟩:=I.loc;rw[z,ho']at ho;cases ho;rw[hd']at hd;cases hd
theorem Inv.funs(I:Inv X pins σ H s):s.heap.FunFrames X.base X.outer:=by
 have all:∀(l:List Env),(∀b∈frs l,b∈X.fs)→X.s₀.heap.FunFrames X.base l→s.heap.FunFrames X.base l:=by
  intro l
  induction l with
  | nil=>intro _ _;trivial
  | cons env r ih =>
    intro hs hl
    obtain⟨hk,⟨L,o,hf,hn,ho,hd⟩,hr⟩:=hl
    have hL:L∈X.fs:=hs L (by unfold frs;rw[List.filterMap_cons,hf];exact List.mem_cons_self)
    obtain⟨sl,e⟩:=I.base.slot L o ho (I.ok.frf L hL) hL fun z=>I.ok.exfs L z hL
    exact⟨hk,⟨L,_,hf,hn,e,hd⟩,ih (fun b hb=>hs b (by unfold frs;rw[List.filterMap_cons,hf];exact List.mem_cons_of_mem _ hb)) hr⟩
 exact all X.outer (fun _ hb=>hb) I.ok.funs
theorem Inv.stack(I:Inv X pins σ H s):s.heap.FunFrames X.base X.stack:=by
 rcases I.ok.stk with e | ⟨e,hf⟩
 ·rw[e];exact I.funs
 ·rw[e];obtain⟨m,hn,_⟩:=I.loc;refine .cons (by rw[I.ok.kind];decide) hf hn ?_ I.funs;exact Heap.get?_none_of_le (Nat.le_trans I.ok.bsz I.ok.above)
theorem Inv.stkSub(I:Inv X pins σ H s):∀b∈frs X.stack,b∈X.env.locals::X.fs:=fun b hb=>by
 rcases I.ok.stk with e | ⟨e,hf⟩
 ·rw[e]at hb;exact List.mem_cons_of_mem _ hb
 ·rw[e]at hb;unfold frs at hb;rw[List.filterMap_cons,hf]at hb;exact hb
theorem Inv.stkFree(I:Inv X pins σ H s):∀b∈frs X.stack,H b=none:=fun b hb=>by
 rcases List.mem_cons.mp (I.stkSub b hb)with e | hb
 ·rw[e];exact I.free
 ·obtain⟨_,o,ho,_⟩:=I.ok.funs.mem hb;exact I.base.free b o ho (I.ok.frf b hb) fun z=>I.ok.exfs b z hb
theorem Inv.step{g':Array GenState}{t':Nat}{d':Drawn}{ch:List Addr}(I:Inv X pins σ H s)(hch:∀b∈ch,(b∈X.ex∨X.s₀.heap.objs.size≤b)∧b≠X.env.locals∧(∀x c,X.env.cells.lookup x=some c→c≠b)∧∀p∈X.pn++pins,p.1≠b)(keep:∀b o,b≠X.env.locals→b∉X.fs→b∉ch→s.heap.get? b=some o→H b=none→h'.get? b=some o)(slot:∀b o,b≠X.env.locals→b∈X.fs→b∉ch→s.heap.get? b=some o→H b=none→∃sl,h'.get? b=some {o with slots:=sl})(free:∀b o,b∉ch→s.heap.get? b=some o→H b=none→H' b=none)(there:∀b o,b∉ch→s.heap.get? b=some o→∃o',h'.get? b=some o')(tups:∀b xs,H b=some (.tup xs)→H' b=some (.tup xs))(frzs:∀b o u,H b=some (.frz o u)→H' b=some (.frz o u))(tbls:∀b ps,H b=some (.tbl ps)→∃more,H' b=some (.tbl (ps++more)))(ns:∀m,s.heap.Ns X.env.locals m→h'.Ns X.env.locals m)(hok:HOk X.prog X.w H' h')(hg:AllBare g') :
  Inv X pins σ H' {s with heap:=h',gens:=g',drawn:=d',toks:=t'}:=by
 have neL:∀b o,X.s₀.heap.get? b=some o→b≠X.env.locals:=fun b o e=>Nat.ne_of_lt (Nat.lt_of_lt_of_le (Heap.lt_size e) I.ok.above)
 have neC:∀b o,X.s₀.heap.get? b=some o→b∉X.ex→b∉ch:=fun b o e hx hb=>by
  rcases(hch b hb).1 with z | z
  ·exact hx z
  ·exact absurd (Nat.lt_of_lt_of_le (Heap.lt_size e) z) (Nat.lt_irrefl _)
 have cellK:∀x c,X.env.cells.lookup x=some c→∀v,s.heap.IsCell c v→h'.IsCell c v:=fun x c e v ⟨o,ho,hd⟩=>by
  have nch:c∉ch:=fun z=>(hch c z).2.2.1 x c e rfl
  by_cases hc:c∈X.fs
  ·obtain⟨sl,q⟩:=slot c o (I.cne x c e) hc nch ho (I.freeC x c e);exact⟨_,q,hd⟩
  ·exact⟨o,keep c o (I.cne x c e) hc nch ho (I.freeC x c e),hd⟩
 refine⟨I.ok,I.os,hg,⟨fun b o e n hb hx=>?_,fun b o e n hb hx=>?_,fun b o e n hx=>?_,fun b o e hx=>?_,fun b xs e=>tups b xs (I.base.tups b xs e),fun b o xs e=>frzs b o xs (I.base.frzs b o xs e),fun b ps e=>?_⟩,?_,fun x c e=>?_,?_,fun x c e=>?_,fun p hp=>?_,hok,I.len⟩
 ·exact keep b o (neL b o e) hb (neC b o e hx) (I.base.keep b o e n hb hx) (I.base.free b o e n hx)
 ·obtain⟨sl,e1⟩:=I.base.slot b o e n hb hx;obtain⟨sl',e2⟩:=slot b _ (neL b o e) hb (neC b o e hx) e1 (I.base.free b o e n hx);exact⟨sl',e2⟩
 ·obtain⟨o',e1⟩:=I.base.there b o e hx;exact free b o' (neC b o e hx) e1 (I.base.free b o e n hx)
 ·obtain⟨o',e1⟩:=I.base.there b o e hx;exact there b o' (neC b o e hx) e1
 ·obtain⟨m1,e1⟩:=I.base.tbls b ps e;obtain⟨m2,e2⟩:=tbls b _ e1;exact⟨m1++m2,by rw[e2,Array.append_assoc]⟩
 ·obtain⟨m,hn,hl⟩:=I.loc;refine⟨m,ns m hn,fun i x v e1 e2 e3=>?_⟩;obtain⟨u,r,l⟩:=hl i x v e1 e2 e3;refine⟨u,r,?_⟩;rcases l with l | ⟨k,c,e,z⟩
  ·exact .inl l
  ·exact .inr ⟨k,c,e,cellK x c e _ z⟩
 ·obtain⟨v,z⟩:=I.cell x c e;exact⟨v,cellK x c e v z⟩
 ·obtain⟨m,⟨o,_,_,ho,_⟩,_⟩:=I.loc;exact free _ o (fun z=>(hch _ z).2.1 rfl) ho I.free
 ·obtain⟨v,o,ho,hd⟩:=I.cell x c e;exact free c o (fun z=>(hch c z).2.2.1 x c e rfl) ho (I.freeC x c e)
 ·obtain⟨e,n,ne,nf,d⟩:=I.pin p hp;have nch:p.1∉ch:=fun z=>(hch p.1 z).2.2.2 p hp rfl
  exact⟨keep p.1 p.2 ne nf nch e n,free p.1 p.2 nch e n,ne,nf,d⟩
theorem Inv.un{t':Nat}(I:Inv X pins σ H s)(u:Un X.fs [] H H' s.heap h')(hok:HOk X.prog X.w H' h'):Inv X pins σ H' {s with heap:=h',toks:=t'}:=by
 obtain⟨m,⟨o,es,ep,ho,r⟩,_⟩:=id I.loc;obtain⟨sl,hL⟩:=u.any ho I.free (by simp);exact I.step (g':=s.gens) (d':=s.drawn) (ch:=[]) (fun _ z=>nomatch z) (fun b o _ hb _ e n=>u.keep b o e n hb (by simp)) (fun b o _ hb _ e n=>u.slot b o e n hb (by simp)) (fun b o _ e n=>u.free b o e n (by simp)) (fun b o _ e=>u.there b o e (by simp)) u.tups u.frzs u.tbls (fun m' hm=>by
  obtain⟨o',es',ep',ho',r'⟩:=hm;rw[ho]at ho';cases ho';exact⟨_,es',ep',hL,r'⟩) hok I.bare
theorem Inv.call{g':Array GenState}{t':Nat}{d':Drawn}{ch:List Addr}(I:Inv X pins σ H s)(u:Un (frs X.stack) ch H H' s.heap h')(hok:HOk X.prog X.w H' h')(hg:AllBare g')(hch:∀b∈ch,(b∈X.ex∨X.s₀.heap.objs.size≤b)∧b≠X.env.locals∧(∀x c,X.env.cells.lookup x=some c→c≠b)∧∀p∈X.pn++pins,p.1≠b) :
  Inv X pins σ H' {s with heap:=h',gens:=g',drawn:=d',toks:=t'}:=by
 obtain⟨m,⟨o,es,ep,ho,r⟩,_⟩:=id I.loc;obtain⟨sl,hL⟩:=u.any ho I.free fun z=>(hch _ z).2.1 rfl
 exact I.step (ch:=ch) hch (fun b o hL hb hc e n=>u.keep b o e n (fun z=>(List.mem_cons.mp (I.stkSub b z)).elim hL hb) hc) (fun b o _ _ hc e n=>u.any e n hc) (fun b o hc e n=>u.free b o e n hc) (fun b o hc e=>u.there b o e hc) u.tups u.frzs u.tbls (fun m' hm=>by
  obtain⟨o',es',ep',ho',r'⟩:=hm;rw[ho]at ho';cases ho';exact⟨_,es',ep',hL,r'⟩) hok hg
theorem Inv.turned{t':Nat}{it:Addr}(I:Inv X pins σ H s)(k:∀b o,b≠it→s.heap.get? b=some o→h'.get? b=some o)(hn:H it=none)(hL:it≠X.env.locals)(h1:it∈X.ex∨X.s₀.heap.objs.size≤it)(h2:∀x c,X.env.cells.lookup x=some c→c≠it)(h3:∀p∈X.pn++pins,p.1≠it):Inv X pins σ H {s with heap:=h',toks:=t'}:=by
 have nit:∀b u,H b=some u→b≠it:=fun b u e z=>by rw[z,hn]at e;cases e
 refine I.step (g':=s.gens) (d':=s.drawn) (ch:=[it]) (fun b hb=>?_) (fun b o _ _ hc e _=>k b o (fun z=>hc (by simp[z])) e) (fun b o _ _ hc e _=>⟨o.slots,k b o (fun z=>hc (by simp[z])) e⟩) (fun _ _ _ _ n=>n)
  (fun b o hc e=>⟨o,k b o (fun z=>hc (by simp[z])) e⟩) (fun _ _ e=>e) (fun _ _ _ e=>e) (fun b ps e=>⟨#[],by rw[e];simp⟩) (fun m hm=>?_) (fun b u e=>?_) I.bare
 ·have e:b=it:=by simpa using hb
  subst e;exact⟨h1,hL,h2,h3⟩
 ·obtain⟨o,es,ep,ho,r⟩:=hm;exact⟨o,es,ep,k _ o (Ne.symm hL) ho,r⟩
 ·refine(I.hok b u e).stay (fun c v hc q=>k c v ?_ q) (fun _ q=>q) fun _ _ q=>q
  rcases hc with z | z
  ·rw[z];exact nit b u e
  ·exact nit c _ z
theorem Inv.tok(I:Inv X pins σ H s)(t:Nat):Inv X pins σ H {s with toks:=t}:=I.un (h':=s.heap) (t':=t) Un.refl I.hok
theorem Inv.kept{t':Nat}(I:Inv X pins σ H s)(k:∀b u,s.heap.get? b=some u→h'.get? b=some u):Inv X pins σ H {s with heap:=h',toks:=t'}:=I.un (Un.kept k) (I.hok.kept k)
theorem Inv.laid{a:Addr}{o:HO}{t':Nat}(I:Inv X pins σ H s)(k:∀b u,s.heap.get? b=some u→h'.get? b=some u)(hp:s.heap.objs.size≤a)(new:ObjOk X.prog X.w (upd H a o) h' a o) :
  Inv X pins σ (upd H a o) {s with heap:=h',toks:=t'}:=I.un (Un.laid k hp (I.hok.fresh hp)) (I.hok.laid k hp new)
theorem Inv.write{x e:Addr}{o:HO}{t':Nat}(I:Inv X pins σ H s)(mu:Mut (H x))(he:e=x∨H e=some (.own x))(k:∀b u,b≠e→s.heap.get? b=some u→h'.get? b=some u)(heo:∃u,h'.get? e=some u)(new:ObjOk X.prog X.w (upd H x o) h' x o):Inv X pins σ (upd H x o) {s with heap:=h',toks:=t'}:=I.un (Un.write mu he k heo) (I.hok.write mu he k heo new)
theorem Inv.pins_of{pins':List (Addr×Obj)}(I:Inv X pins σ H s)(h:∀p∈pins',s.heap.get? p.1=some p.2∧H p.1=none∧p.1≠X.env.locals∧p.1∉X.fs∧∀v,p.2.data≠.cell v):Inv X pins' σ H s :=
 ⟨I.ok,I.os,I.bare,I.base,I.loc,I.cell,I.free,I.freeC,fun p hp=>(List.mem_append.mp hp).elim (fun z=>I.pin p (List.mem_append_left _ z)) (h p),I.hok,I.len⟩
theorem qes{N:List Str}(hN:N.Nodup){i j:Nat}{x:Str}(a:N[i]?=some x)(b:N[j]?=some x):i=j:=by
 obtain⟨h1,e1⟩:=List.getElem?_eq_some_iff.mp a;obtain⟨h2,e2⟩:=List.getElem?_eq_some_iff.mp b;exact(List.getElem_inj hN).mp (e1.trans e2.symm)
theorem qdD{M:Model}{A:Around}{E:Value→Shared→Prop}{i:Nat}{x:Str}{v:V}{u:Value}{Q:Unit→Shared→Prop}(I:Inv X pins σ H s)(hN:X.N.Nodup)(hi:X.N[i]?=some x)(hx:Loc X.env.scope x)(r:RelV v u)(h:∀s',Inv X pins (σ.set i (some v)) H s'→(∃a,Heap.SameBut a s.heap s'.heap∧(a=X.env.locals∨X.env.cells.lookup x=some a))→Q () s')(hf:X.fn x=true∨X.env.scope.names.lookup x=some .local:=by first | exact .inl rfl | exact .inr rfl | assumption):wpAny M A (storeName X.env x u) Q E s:=by
 obtain⟨m,hn,hl⟩:=id I.loc;have hcls:(X.env.scope.kind == .class || (X.env.scope.kind == .module && X.env.locals != X.env.globals))=false:=by rw[I.ok.kind];rfl
 have hiσ:i<σ.length:=by rw[I.len];exact(List.getElem?_eq_some_iff.mp hi).1
 have cne:=I.cne;have tracked:∀{a:Addr} {h':Heap},(∃o,s.heap.get? a=some o∧H a=none)→Heap.SameBut a s.heap h'→HOk X.prog X.w H h':=fun {a h'} ha hs b ob e=>by
  obtain⟨_,_,hfree⟩:=ha;refine(I.hok b ob e).stay (fun c w' hc q=>(hs.2 c ?_).trans q) (fun _ q=>q) fun _ _ q=>q
  rintro rfl;rcases hc with rfl | hc
  ·rw[hfree]at e;cases e
  ·rw[hfree]at hc;cases hc
 rcases hx with hk | hk
 ·refine wpAny_storeName_local hk hn (fun h' hn' hs=>?_) hcls;obtain⟨oL,_,_,hoL,_⟩:=id hn;refine h _ ⟨I.ok,I.os,I.bare,⟨fun b o e n hb hx=>?_,fun b o e n hb hx=>?_,I.base.free,fun b o e hx=>?_,I.base.tups,I.base.frzs,I.base.tbls⟩,⟨_,hn',fun j y v' e1 e2 e3=>?_⟩,fun y c e=>?_,I.free,I.freeC,fun p hp=>?_,tracked ⟨oL,hoL,I.free⟩ hs,by simpa using I.len⟩ ⟨_,hs,.inl rfl⟩
  ·exact(hs.2 b (Nat.ne_of_lt (Nat.lt_of_lt_of_le (Heap.lt_size e) I.ok.above))).trans (I.base.keep b o e n hb hx)
  ·obtain⟨sl,e1⟩:=I.base.slot b o e n hb hx;exact⟨sl,(hs.2 b (Nat.ne_of_lt (Nat.lt_of_lt_of_le (Heap.lt_size e) I.ok.above))).trans e1⟩
  ·obtain⟨o',e1⟩:=I.base.there b o e hx;exact⟨o',(hs.2 b (Nat.ne_of_lt (Nat.lt_of_lt_of_le (Heap.lt_size e) I.ok.above))).trans e1⟩
  ·by_cases hj:j=i
   ·subst hj;rw[hi]at e1;cases e1;rw[List.getElem?_set_self hiσ]at e2;cases e2;exact⟨u,r,.inl ⟨hk,by simp⟩⟩
   ·rw[List.getElem?_set_ne (Ne.symm hj)]at e2;obtain⟨u',r',q⟩:=hl j y v' e1 e2 e3;refine⟨u',r',?_⟩;rcases q with⟨k,e⟩ | ⟨k,c,e,z⟩
    ·refine .inl ⟨k,?_⟩;have:y≠x:=fun e=>hj (qes hN e1 (e ▸ hi))
     simp[this,e]
    ·exact .inr ⟨k,c,e,z.sameBut hs (cne y c e)⟩
  ·obtain⟨w',z⟩:=I.cell y c e;exact⟨w',z.sameBut hs (cne y c e)⟩
  ·obtain⟨e,n,ne,nf,d⟩:=I.pin p hp;exact⟨(hs.2 p.1 ne).trans e,n,ne,nf,d⟩
 ·have hfn:X.fn x=true:=by
   rcases hf with z | z
   ·exact z
   ·rw[z]at hk;cases hk
  obtain⟨c,hc⟩:=I.ok.has x (.inl hk);obtain⟨w',z⟩:=I.cell x c hc;refine wpAny_storeName_cell I.ok.kind hk hc z (fun h' hc' hs=>?_);obtain⟨oc,hoc,hocd⟩:=id z;refine h {s with heap:=h'} ⟨I.ok,I.os,I.bare,⟨fun b o e n hb hx=>?_,fun b o e n hb hx=>?_,I.base.free,fun b o e hx=>?_,I.base.tups,I.base.frzs,I.base.tbls⟩,⟨m,hn.sameBut hs (Ne.symm (cne x c hc)),fun j y v' e1 e2 e3=>?_⟩,fun y c' e=>?_,I.free,I.freeC,fun p hp=>?_,tracked ⟨oc,hoc,I.freeC x c hc⟩ hs,by simpa using I.len⟩ ⟨c,hs,.inr hc⟩
  ·exact(hs.2 b (Nat.ne_of_lt (Nat.lt_of_lt_of_le (Heap.lt_size e) (I.ok.cab x c hfn hc)))).trans (I.base.keep b o e n hb hx)
  ·obtain⟨sl,e1⟩:=I.base.slot b o e n hb hx;exact⟨sl,(hs.2 b (Nat.ne_of_lt (Nat.lt_of_lt_of_le (Heap.lt_size e) (I.ok.cab x c hfn hc)))).trans e1⟩
  ·obtain⟨o',e1⟩:=I.base.there b o e hx;exact⟨o',(hs.2 b (Nat.ne_of_lt (Nat.lt_of_lt_of_le (Heap.lt_size e) (I.ok.cab x c hfn hc)))).trans e1⟩
  ·by_cases hj:j=i
   ·subst hj;rw[hi]at e1;cases e1;rw[List.getElem?_set_self hiσ]at e2;cases e2;exact⟨u,r,.inr ⟨.inl hk,c,hc,hc'⟩⟩
   ·rw[List.getElem?_set_ne (Ne.symm hj)]at e2;obtain⟨u',r',q⟩:=hl j y v' e1 e2 e3;refine⟨u',r',?_⟩;rcases q with q | ⟨k,c',e,z'⟩
    ·exact .inl q
    ·refine .inr ⟨k,c',e,z'.sameBut hs ?_⟩;rintro rfl;exact hj (qes hN e1 (I.ok.inj _ _ _ e hc ▸ hi))
  ·by_cases hcc:c'=c
   ·subst hcc;exact⟨_,hc'⟩
   ·obtain⟨w2,z2⟩:=I.cell y c' e;exact⟨w2,z2.sameBut hs hcc⟩
  ·obtain⟨e,n,ne,nf,d⟩:=I.pin p hp;refine⟨(hs.2 p.1 ?_).trans e,n,ne,nf,d⟩;intro q;rw[q,hoc]at e;have q':oc=p.2:=Option.some.inj e;exact d w' (by rw[←q'];exact hocd)
theorem qdr{M:Model}{A:Around}{E:Value→Shared→Prop}{i:Nat}{x:Str}{v:V}{u:Value}{Q:Unit→Shared→Prop}(I:Inv X pins σ H s)(hN:X.N.Nodup)(hi:X.N[i]?=some x)(hx:Loc X.env.scope x)(r:RelV v u)(h:∀s',Inv X pins (σ.set i (some v)) H s'→Q () s')(hf:X.fn x=true∨X.env.scope.names.lookup x=some .local:=by first | exact .inl rfl | exact .inr rfl | assumption):wpAny M A (storeName X.env x u) Q E s :=
 qdD I hN hi hx r (fun s' I' _=>h s' I') hf
theorem Inv.call'{s':Shared}{ch:List Addr}(I:Inv X pins σ H s)(ho:s'.os=s.os)(u:Un (frs X.stack) ch H H' s.heap s'.heap)(hok:HOk X.prog X.w H' s'.heap)(hg:AllBare s'.gens)(hch:∀b∈ch,(b∈X.ex∨X.s₀.heap.objs.size≤b)∧b≠X.env.locals∧(∀x c,X.env.cells.lookup x=some c→c≠b)∧∀p∈X.pn++pins,p.1≠b):Inv X pins σ H' s':=by
 obtain⟨h',g',d',t',o'⟩:=s';have e:o'=s.os:=ho;subst e;exact I.call (g':=g') (t':=t') (d':=d') u hok hg hch
end
abbrev XK:=Value→Option Addr→Hp→Prop
abbrev St:=List (Option V)
abbrev VK:=V→Hp→Prop
abbrev TE:=St→Hp→VK→Prop
abbrev TT:=St→Hp→(Bool→Hp→Prop)→Prop
abbrev TA:=St→Hp→(List V→Hp→Prop)→Prop
structure Ends where
 nx:St→Hp→Prop
 rt:VK
 bk:St→Hp→Prop:=fun _ _=>False
 ct:St→Hp→Prop:=fun _ _=>False
abbrev TS:=Ends→St→Hp→Prop
def EP(X:Cx)(pins:List (Addr×Obj))(σ:St)(Q:VK)(u:Value)(s':Shared):Prop:=∃v H',Inv X pins σ H' s'∧RelV v u∧Q v H'
def TP(X:Cx)(pins:List (Addr×Obj))(σ:St)(Q:Bool→Hp→Prop)(b:Bool)(s':Shared):Prop:=∃H',Inv X pins σ H' s'∧Q b H'
def AP(X:Cx)(pins:List (Addr×Obj))(σ:St)(Q:List V→Hp→Prop)(us:List Value)(s':Shared):Prop:=∃vs H',Inv X pins σ H' s'∧Vals vs us∧Q vs H'
def SP(X:Cx)(pins:List (Addr×Obj))(D:Ends)(f:Flow)(s':Shared):Prop :=
 match f with
 | .next=>∃σ' H',Inv X pins σ' H' s'∧D.nx σ' H'
 | .brk=>∃σ' H',Inv X pins σ' H' s'∧D.bk σ' H'
 | .cont=>∃σ' H',Inv X pins σ' H' s'∧D.ct σ' H'
 | .ret u=>∃v σ' H',Inv X pins σ' H' s'∧RelV v u∧D.rt v H'
def PE(X:Cx)(e:Expr)(t:TE):Prop :=
 ∀(pins:List (Addr×Obj)) (s:Shared) (σ:St) (H:Hp) (Q:VK),Inv X pins σ H s→t σ H Q→wpAny (model X.prog X.w) X.A (eval e X.env) (EP X pins σ Q) X.xe s
def PT(X:Cx)(e:Expr)(t:TT):Prop :=
 ∀(pins:List (Addr×Obj)) (s:Shared) (σ:St) (H:Hp) (Q:Bool→Hp→Prop),Inv X pins σ H s→t σ H Q→wpAny (model X.prog X.w) X.A (isTrue e X.env (eval e X.env)) (TP X pins σ Q) X.xe s
def PW(X:Cx)(e:Expr)(t:TT):Prop :=
 ∀(whole:Sem Value) (pins:List (Addr×Obj)) (s:Shared) (σ:St) (H:Hp) (Q:Bool→Hp→Prop),Inv X pins σ H s→t σ H Q→wpAny (model X.prog X.w) X.A (isTrue e X.env whole) (TP X pins σ Q) X.xe s
theorem PW.pt{X:Cx}{e:Expr}{t:TT}(h:PW X e t):PT X e t:=h _
def PA(X:Cx)(es:List Expr)(t:TA):Prop :=
 ∀(pos:Pos) (pins:List (Addr×Obj)) (s:Shared) (σ:St) (H:Hp) (Q:List V→Hp→Prop),Inv X pins σ H s→t σ H Q→wpAny (model X.prog X.w) X.A (spliced (backTo pos (starEach es X.env))) (AP X pins σ Q) X.xe s
def PS(X:Cx)(st:Stmt)(t:TS):Prop :=
 ∀(pins:List (Addr×Obj)) (s:Shared) (σ:St) (H:Hp) (D:Ends),Inv X pins σ H s→t D σ H→wpAny (model X.prog X.w) X.A (exec st X.env) (SP X pins D) X.xe s
def PSs(X:Cx)(st:List Stmt)(t:TS):Prop :=
 ∀(pins:List (Addr×Obj)) (s:Shared) (σ:St) (H:Hp) (D:Ends),Inv X pins σ H s→t D σ H→wpAny (model X.prog X.w) X.A (execs st X.env) (SP X pins D) X.xe s
theorem thn{α:Type}{t:Sem α}{Q Q':α→Shared→Prop}{M:Model}{A:Around}{E:Value→Shared→Prop}{s:Shared}(h:wpAny M A t Q E s)(hQ:∀a s,Q a s→Q' a s):wpAny M A t Q' E s:=wpAny_mono h hQ fun _ _ x=>x
end L2
namespace L2
open PySem PySem.Spec PyProof.Rows
section
variable{X:Cx}
def tVar(i:Nat):TE:=fun σ H Q=>∃v,σ[i]?=some (some v)∧Q v H
def tC(v:V):TE:=fun _ H Q=>Q v H
theorem pe_var{i:Nat}{x:Str}{pos:Pos}(hN:X.N[i]?=some x)(hv:Vis X.env.scope x)(hd:(x == ("__debug__" : Str))=false:=by decide)(hcd:(x == ("__classdict__" : Str))=false:=by decide):PE X (.Name x pos) (tVar i):=by
 intro pins s σ H Q I h;obtain⟨v,e,h⟩:=h;obtain⟨m,hn,hl⟩:=I.loc;obtain⟨u,r,l⟩:=hl i x v hN e hv;have fin:EP X pins σ Q u s:=⟨v,H,I,r,h⟩;rcases l with⟨hk,hm⟩ | ⟨hk,c,hc,hcell⟩
 ·exact wpAny_Name (wpAny_loadName_local I.ok.kind hk hn hm fin) hd
 ·rcases hk with hk | hk
  ·exact wpAny_Name (wpAny_loadName_cell I.ok.kind hk hc hcell fin) hd
  ·exact wpAny_Name (wpAny_loadName_free I.ok.kind hk hc hcell fin hcd) hd
theorem qae{i j pos}:PE X (.Constant (.int i) j pos) (tC (.int i)):=fun _ _ _ H _ I h=>wpAny_Constant_int ⟨.int i,H,I.tok _,⟨_,rfl⟩,h⟩
theorem qb1{b j pos}:PE X (.Constant (.bool b) j pos) (tC (.bl b)):=fun _ _ _ H _ I h=>Constant_bool ⟨.bl b,H,I,rfl,h⟩
theorem qau{x j pos}:PE X (.Constant (.str x) j pos) (tC (.str x)):=fun _ _ _ H _ I h=>Calls.Constant_str ⟨.str x,H,I.tok _,⟨_,rfl⟩,h⟩
def Gl(X:Cx)(x:Str):Prop:=X.env.kindOf x=some .globalImplicit
theorem qed{E:Value→Shared→Prop}{pins:List (Addr×Obj)}{s:Shared}{σ:St}{H:Hp}{x:Str}{u:Value}{pos:Pos}{Q:Value→Shared→Prop}(I:Inv X pins σ H s)(hg:Gl X x)(hm:X.mg x=some u)(h:Q u s)(hd:(x == ("__debug__" : Str))=false:=by decide):wpAny (model X.prog X.w) X.A (eval (.Name x pos) X.env) Q E s :=
 Calls.Name_function_global I.ok.kind hg (Calls.loadGlobal_global (by rw[I.ok.glob];exact I.mod.glob.keeps I.bk) hm h) hd
theorem qcF{E:Value→Shared→Prop}{pins:List (Addr×Obj)}{s:Shared}{σ:St}{H:Hp}{x:Str}{u:Value}{pos:Pos}{Q:Value→Shared→Prop}(I:Inv X pins σ H s)(hg:Gl X x)(hm:X.mg x=none)(hv:bootBuiltins x=some u)(h:Q u s)(hn:x ≠ "__name__":=by decide)(hd:(x == ("__debug__" : Str))=false:=by decide):wpAny (model X.prog X.w) X.A (eval (.Name x pos) X.env) Q E s:=by
 obtain⟨mb,h1,h2⟩:=I.mod.blt;exact Calls.Name_function_global I.ok.kind hg (Calls.loadGlobal_builtin (by rw[I.ok.glob];exact I.mod.glob.keeps I.bk) hm (by rw[I.ok.blt];exact h1.keeps I.bk) ((h2 x hn).trans hv) h) hd
theorem qaD{x:Str}{v:V}{u:Value}{pos:Pos}(hg:Gl X x)(hm:X.mg x=some u)(r:RelV v u)(hd:(x == ("__debug__" : Str))=false:=by decide):PE X (.Name x pos) (tC v) :=
 fun _ _ _ H _ I h=>qed I hg hm ⟨v,H,I,r,h⟩ hd
theorem pe_bltn{x:Str}{v:V}{u:Value}{pos:Pos}(hg:Gl X x)(hm:X.mg x=none)(hv:bootBuiltins x=some u)(r:RelV v u)(hn:x ≠ "__name__":=by decide)(hd:(x == ("__debug__" : Str))=false:=by decide):PE X (.Name x pos) (tC v) :=
 fun _ _ _ H _ I h=>qcF I hg hm hv ⟨v,H,I,r,h⟩ hn hd
variable{a b:Expr}{ta tb:TE}{pos:Pos}
def PC(X:Cx)(op:CmpOp)(a b:Expr)(t:TE):Prop :=
 ∀(pins:List (Addr×Obj)) (s:Shared) (σ:St) (H:Hp) (Q:VK),Inv X pins σ H s→t σ H Q →
  wpAny (model X.prog X.w) X.A (eval a X.env) (fun v s₁=>wpAny (model X.prog X.w) X.A (eval b X.env) (fun u s₂=>wpAny (model X.prog X.w) X.A (compareOp op v u) (EP X pins σ Q) X.xe s₂) X.xe s₁) X.xe s
def tB(t:TE):TT:=fun σ H Q=>t σ H fun x H1=>∃c,x=.bl c∧Q c H1
theorem pe_cmp{op:CmpOp}{t:TE}(h:PC X op a b t)(h1:behindInMarks op b=false:=by first | exact nobehind _ (by decide) (by decide) | rfl):PE X (.Compare a [op] [b] pos) t:=fun pins s σ H Q I hw=>wpAny_Compare1 (h pins s σ H Q I hw) h1
theorem qbX{e:Expr}{t:TE}(h:PE X e t)(he:∀ whole,isTrue e X.env whole=(do let v ← whole; standAt e.pos; holding [v] (truthy v)):=by intro _; rfl):PT X e (tB t):=by
 intro pins s σ H Q I hw
 refine isTrue_plain (thn (h pins s σ H _ I hw) fun v s1 ⟨x,H1,I1,r1,q1⟩=>?_) (he _)
 obtain ⟨d,rfl,q⟩:=q1
 cases r1
 exact wpAny_truthy_bool ⟨H1,I1,q⟩
variable{tA tB':TT}{rest:List Expr}
def tAnd(t u:TT):TT:=fun σ H Q=>t σ H fun c H1=>if c=true then u σ H1 Q else Q false H1
def tOr(t u:TT):TT:=fun σ H Q=>t σ H fun c H1=>if c=true then Q true H1 else u σ H1 Q
def tNot(t:TT):TT:=fun σ H Q=>t σ H fun c H1=>Q (!c) H1
theorem qbB(ha:PT X a tA):PW X (.BoolOp .And [a] pos) tA:=by
 intro wh pins s σ H Q I h;refine isTrue_and (thn (ha pins s σ H Q I h) fun c s1 e=>?_);cases c with
 | true=>exact isTrue_and_nil e
 | false=>exact e
theorem qcZ(ha:PT X a tA):PW X (.BoolOp .Or [a] pos) tA:=by
 intro wh pins s σ H Q I h;refine isTrue_or (thn (ha pins s σ H Q I h) fun c s1 e=>?_);cases c with
 | false=>exact isTrue_or_nil e
 | true=>exact e
theorem qbT(ha:PT X a tA)(hb:PW X (.BoolOp .And (b::rest) pos) tB'):PW X (.BoolOp .And (a::b::rest) pos) (tAnd tA tB'):=by
 intro wh pins s σ H Q I h;refine isTrue_and (thn (ha pins s σ H _ I h) fun c s1 ⟨H1,I1,q1⟩=>?_);cases c with
 | true=>exact hb wh pins s1 σ H1 Q I1 q1
 | false=>exact⟨H1,I1,q1⟩
theorem qdW(ha:PT X a tA)(hb:PW X (.BoolOp .Or (b::rest) pos) tB'):PW X (.BoolOp .Or (a::b::rest) pos) (tOr tA tB'):=by
 intro wh pins s σ H Q I h;refine isTrue_or (thn (ha pins s σ H _ I h) fun c s1 ⟨H1,I1,q1⟩=>?_);cases c with
 | true=>exact⟨H1,I1,q1⟩
 | false=>exact hb wh pins s1 σ H1 Q I1 q1
theorem qca(ha:PT X a tA):PT X (.UnaryOp .Not a pos) (tNot tA):=by
 intro pins s σ H Q I h;exact isTrue_not (ha pins s σ H (fun c H1=>Q (!c) H1) I h)
def tAndV(ta tb:TE):TE:=fun σ H Q=>ta σ H fun x H1=>∃c,x=.bl c∧if c=true then tb σ H1 Q else Q (.bl false) H1
def tOrV(ta tb:TE):TE:=fun σ H Q=>ta σ H fun x H1=>∃c,x=.bl c∧if c=true then Q (.bl true) H1 else tb σ H1 Q
theorem qfq{op}{t:TE}(h:PE X a t):PE X (.BoolOp op [a] pos) t:=fun pins s σ H Q I hw=>BoolOp_one (h pins s σ H Q I hw)
theorem pe_and(ha:PE X a ta)(hb:PE X (.BoolOp .And (b::rest) pos) tb):PE X (.BoolOp .And (a::b::rest) pos) (tAndV ta tb):=by
 intro pins s σ H Q I h;refine BoolOp_and (thn (ha pins s σ H _ I h) fun v s1 ⟨x,H1,I1,r1,q1⟩=>?_);obtain⟨c,rfl,q1⟩:=q1;cases r1;refine wpAny_truthy_bool ?_;cases c with
 | true=>exact hb pins s1 σ H1 Q I1 q1
 | false=>exact⟨.bl false,H1,I1,rfl,q1⟩
theorem qf8(ha:PE X a ta)(hb:PE X (.BoolOp .Or (b::rest) pos) tb):PE X (.BoolOp .Or (a::b::rest) pos) (tOrV ta tb):=by
 intro pins s σ H Q I h;refine BoolOp_or (thn (ha pins s σ H _ I h) fun v s1 ⟨x,H1,I1,r1,q1⟩=>?_);obtain⟨c,rfl,q1⟩:=q1;cases r1;refine wpAny_truthy_bool ?_;cases c with
 | false=>exact hb pins s1 σ H1 Q I1 q1
 | true=>exact⟨.bl true,H1,I1,rfl,q1⟩
def tIf(t:TT)(ta tb:TE):TE:=fun σ H Q=>t σ H fun c H1=>if c=true then ta σ H1 Q else tb σ H1 Q
theorem qep{c:Expr}(hc:PT X c tA)(ha:PE X a ta)(hb:PE X b tb):PE X (.IfExp c a b pos) (tIf tA ta tb):=by
 intro pins s σ H Q I h;refine wpAny_IfExp (thn (hc pins s σ H _ I h) fun d s1 ⟨H1,I1,q1⟩=>?_);cases d with
 | true=>exact ha pins s1 σ H1 Q I1 q1
 | false=>exact hb pins s1 σ H1 Q I1 q1
end
end L2
namespace L2
open PySem PySem.Spec PyProof.Rows
def SqL(K:PySem.W.Frag)(H:Hp)(a:Addr)(xs:List V):Prop :=
 Rd H a (.lst xs) ∨
  ∃(o:Obj) (its:Array Value) (n:Nat),K.lookup a=some o∧o.cls=.type "list" ∧ o.dict=none∧o.data=.seq its n∧its.size≤sizeLine∧Vals xs its.toList
def SqT(K:PySem.W.Frag)(H:Hp)(a:Addr)(xs:List V):Prop :=
 Rd H a (.tup xs) ∨
  ∃(o:Obj) (its:Array Value) (n:Nat),K.lookup a=some o∧o.cls=.type "tuple" ∧ o.data=.seq its n∧its.size≤sizeLine∧Vals xs its.toList
def absV:Value→Option V
 | .none=>some .non
 | .bool b=>some (.bl b)
 | .int i _=>some (.int i)
 | .str x _=>some (.str x)
 | .bytes b _=>some (.byt b)
 | .float b _=>some (.flt b)
 | .ref a=>some (.ref a)
 | .type n=>some (.ty n)
 | _=>none
theorem RelV.abs{x:V}{u:Value}(r:RelV x u):absV u=some x:=by
 cases x with
 | non=>cases r;rfl
 | bl _=>cases r;rfl
 | int _=>obtain⟨t,rfl⟩:=r;rfl
 | str _=>obtain⟨t,rfl⟩:=r;rfl
 | byt _=>obtain⟨t,rfl⟩:=r;rfl
 | flt _=>obtain⟨t,rfl⟩:=r;rfl
 | ref _=>cases r;rfl
 | ty _=>cases r;rfl
theorem RelV.inj{x y:V}{u:Value}(r:RelV x u)(q:RelV y u):x=y:=Option.some.inj (r.abs.symm.trans q.abs)
theorem Vals.inj:∀{xs ys:List V} {us:List Value},Vals xs us→Vals ys us→xs=ys
 | _,_,_,.nil,.nil=>rfl
 | _,_,_,.cons r t,.cons r' t'=>by rw[r.inj r',Vals.inj t t']
section
variable{X:Cx}{pins:List (Addr×Obj)}{σ:St}{H:Hp}{s:Shared}{a:Addr}{xs ys:List V}
theorem SqL.of{K:PySem.W.Frag}(h:H a=some (.lst xs)):SqL K H a xs:=.inl (.inl h)
theorem SqT.of{K:PySem.W.Frag}(h:H a=some (.tup xs)):SqT K H a xs:=.inl (.inl h)
theorem Inv.list(I:Inv X pins σ H s)(h:SqL X.K H a xs):∃its:List Value,Vals xs its∧PlainL s.heap a its.toArray∧xs.length≤sizeLine:=by
 rcases h with h | ⟨o,its,n,hk,hc,hd,hs,hz,r⟩
 ·obtain⟨z,its,n,r,e⟩:=h.ok I.hok;exact⟨its,r,⟨_,n,e,rfl,rfl,rfl⟩,z⟩
 ·refine⟨its.toList,r,⟨o,n,I.kIn a o hk,hc,hd,by simpa using hs⟩,?_⟩;have e:=r.length;simp only[Array.length_toList]at e;omega
theorem Inv.tuple(I:Inv X pins σ H s)(h:SqT X.K H a xs):∃its:List Value,Vals xs its∧IsTup s.heap a its.toArray∧xs.length≤sizeLine:=by
 rcases h with h | ⟨o,its,n,hk,hc,hs,hz,r⟩
 ·obtain⟨z,its,r,p⟩:=h.ok I.hok;exact⟨its,r,p,z⟩
 ·refine⟨its.toList,r,⟨o,I.kIn a o hk,hc,n,by simpa using hs⟩,?_⟩;have e:=r.length;simp only[Array.length_toList]at e;omega
theorem Inv.list_inj(I:Inv X pins σ H s)(h:SqL X.K H a xs)(h':SqL X.K H a ys):xs=ys:=by
 obtain⟨its,r,⟨o,n,e,_,_,d⟩,_⟩:=I.list h;obtain⟨its',r',⟨o',n',e',_,_,d'⟩,_⟩:=I.list h';rw[e]at e';cases e';rw[d]at d';injection d' with d1 _
 have:its=its':=by simpa using congrArg Array.toList d1
 subst this;exact r.inj r'
end
abbrev Cx.wish(X:Cx)(E:Value→Shared→Prop):Cx:={X with xe:=E}
abbrev Cx.nox(X:Cx):Cx:=X.wish fun _ _=>False
theorem Cx.Ok.wish{X:Cx}(ok:X.Ok)(E:Value→Shared→Prop):(X.wish E).Ok :=
 ⟨ok.mod,ok.kind,ok.glob,ok.blt,ok.above,ok.inj,ok.has,ok.cab,ok.hd,ok.frames,ok.stk,ok.exf,ok.bs,ok.bsz,ok.noex,ok.exfs,ok.funs,ok.frf⟩
theorem Cx.Ok.unwish{X:Cx}{E:Value→Shared→Prop}(ok:(X.wish E).Ok):X.Ok :=
 ⟨ok.mod,ok.kind,ok.glob,ok.blt,ok.above,ok.inj,ok.has,ok.cab,ok.hd,ok.frames,ok.stk,ok.exf,ok.bs,ok.bsz,ok.noex,ok.exfs,ok.funs,ok.frf⟩
section
variable{X:Cx}{pins:List (Addr×Obj)}{σ:St}{H:Hp}{s:Shared}{E:Value→Shared→Prop}
theorem Inv.wish(I:Inv X pins σ H s)(E:Value→Shared→Prop):Inv (X.wish E) pins σ H s:=⟨I.ok.wish E,I.os,I.bare,I.base,I.loc,I.cell,I.free,I.freeC,I.pin,I.hok,I.len⟩
theorem Inv.unwish(I:Inv (X.wish E) pins σ H s):Inv X pins σ H s:=⟨I.ok.unwish,I.os,I.bare,I.base,I.loc,I.cell,I.free,I.freeC,I.pin,I.hok,I.len⟩
theorem SP.unwish{D:Ends}{f:Flow}{s':Shared}(h:SP (X.wish E) pins D f s'):SP X pins D f s':=by
 cases f with
 | next=>obtain⟨σ',H',I,q⟩:=h;exact⟨σ',H',I.unwish,q⟩
 | brk=>obtain⟨σ',H',I,q⟩:=h;exact⟨σ',H',I.unwish,q⟩
 | cont=>obtain⟨σ',H',I,q⟩:=h;exact⟨σ',H',I.unwish,q⟩
 | ret u=>obtain⟨v,σ',H',I,r,q⟩:=h;exact⟨v,σ',H',I.unwish,r,q⟩
theorem PSs.nox{st:List Stmt}{t:TS}(h:PSs X.nox st t):PSs X st t:=fun pins s σ H D I hw =>
 wpAny_mono (h pins s σ H D (I.wish _) hw) (fun _ _ q=>q.unwish) fun _ _ z=>False.elim z
end
section
variable{X:Cx}{st:Stmt}{rest:List Stmt}{t u:TS}{e:Expr}{te:TE}{pos:Pos}
def tNext:TS:=fun D σ H=>D.nx σ H
def tSeq(t u:TS):TS:=fun D σ H=>t {D with nx:=u D} σ H
theorem pss_nil:PSs X [] tNext:=fun _ _ σ H _ I h=>wpAny_execs_nil ⟨σ,H,I,h⟩
theorem qab(h1:PS X st t)(h2:PSs X rest u):PSs X (st::rest) (tSeq t u):=by
 intro pins s σ H D I h;refine wpAny_execs_cons (thn (h1 pins s σ H {D with nx:=u D} I h) fun f s1 q=>?_);cases f with
 | next =>
   obtain⟨σ',H',I',q⟩:=q
   exact h2 pins s1 σ' H' D I' q
 | ret v=>exact q
 | brk=>exact q
 | cont=>exact q
theorem qaf(h1:PS X st t):PSs X [st] t:=by
 intro pins s σ H D I h;refine wpAny_execs_cons (thn (h1 pins s σ H D I h) fun f s1 q=>?_);cases f with
 | next=>exact wpAny_execs_nil q
 | ret v=>exact q
 | brk=>exact q
 | cont=>exact q
theorem Inv.quiet{pins:List (Addr×Obj)}{σ:St}{H:Hp}{s:Shared}(I:Inv X pins σ H s):interactive X.env=false:=by simp[interactive,I.ok.kind]
def tDrop(te:TE):TS:=fun D σ H=>te σ H fun _ H1=>D.nx σ H1
theorem qaP(he:PE X e te)(hs:swapsWith e none pos.line X.env=pure false:=by rfl):PS X (.Expr e pos) (tDrop te):=by
 intro pins s σ H D I h;exact wpAny_Expr_any (thn (he pins s σ H _ I h) fun v s1 ⟨x,H1,I1,r1,q1⟩=>⟨σ,H1,I1,q1⟩) I.quiet hs
def tRet(te:TE):TS:=fun D σ H=>te σ H D.rt
theorem qat(he:PE X e te):PS X (.Return (some e) pos) (tRet te):=by
 intro pins s σ H D I h;exact wpAny_Return_some (thn (he pins s σ H _ I h) fun v s1 ⟨x,H1,I1,r1,q1⟩=>⟨x,σ,H1,I1,r1,q1⟩)
def tIfS(c:TT)(t u:TS):TS:=fun D σ H=>c σ H fun b H1=>if b=true then t D σ H1 else u D σ H1
theorem qaM{c:Expr}{a b:List Stmt}{tc:TT}(hc:PT X c tc)(ha:PSs X a t)(hb:PSs X b u):PS X (.If c a b pos) (tIfS tc t u):=by
 intro pins s σ H D I h;refine wpAny_If (thn (hc pins s σ H _ I h) fun d s1 ⟨H1,I1,q1⟩=>?_);cases d with
 | true=>exact ha pins s1 σ H1 D I1 q1
 | false=>exact hb pins s1 σ H1 D I1 q1
end
abbrev TG:=V→St→Hp→(St→Hp→Prop)→Prop
abbrev TGs:=List V→St→Hp→(St→Hp→Prop)→Prop
def PG(X:Cx)(target:Expr)(t:TG):Prop :=
 ∀(pins:List (Addr×Obj)) (s:Shared) (σ:St) (H:Hp) (v:V) (u:Value) (Q:St→Hp→Prop),Inv X pins σ H s→RelV v u→t v σ H Q →
  wpAny (model X.prog X.w) X.A (assign target X.env u) (fun _ s'=>∃σ' H',Inv X pins σ' H' s'∧Q σ' H') X.xe s
def PGs(X:Cx)(ts:List Expr)(t:TGs):Prop :=
 ∀(pins:List (Addr×Obj)) (s:Shared) (σ:St) (H:Hp) (vs:List V) (us:List Value) (Q:St→Hp→Prop),Inv X pins σ H s→Vals vs us→t vs σ H Q →
  wpAny (model X.prog X.w) X.A (assignInOrder ((assignEach ts X.env).map (·.2)) us) (fun _ s'=>∃σ' H',Inv X pins σ' H' s'∧Q σ' H') X.xe s
abbrev TSet:=V→V→V→Hp→(Hp→Prop)→Prop
def PSet(X:Cx)(t:TSet):Prop :=
 ∀(pins:List (Addr×Obj)) (s:Shared) (σ:St) (H:Hp) (o i v:V) (ov iv u:Value) (Q:Hp→Prop),Inv X pins σ H s→RelV o ov→RelV i iv→RelV v u→t o i v H Q →
  wpAny (model X.prog X.w) X.A (setItem ov iv u) (fun _ s'=>∃H',Inv X pins σ H' s'∧Q H') X.xe s
abbrev TIp:=V→V→Hp→VK→Prop
def PIp(X:Cx)(op:Operator)(t:TIp):Prop :=
 ∀(pins:List (Addr×Obj)) (s:Shared) (σ:St) (H:Hp) (x y:V) (v u:Value) (Q:VK),Inv X pins σ H s→RelV x v→RelV y u→t x y H Q →
  wpAny (model X.prog X.w) X.A (inplaceOp op v u) (EP X pins σ Q) X.xe s
section
variable{X:Cx}{pos:Pos}
def qa1(i:Nat):TG:=fun v σ H Q=>Q (σ.set i (some v)) H
theorem qai{i:Nat}{x:Str}(hN:X.N.Nodup)(hi:X.N[i]?=some x)(hx:Loc X.env.scope x)(hf:X.fn x=true∨X.env.scope.names.lookup x=some .local:=by first | exact .inl rfl | exact .inr rfl | assumption):PG X (.Name x pos) (qa1 i):=by
 intro pins s σ H v u Q I r h;exact wpAny_assign_Name (qdr I hN hi hx r (fun s' I'=>⟨_,H,I',h⟩) hf)
def gNil:TGs:=fun vs σ H Q=>vs=[]∧Q σ H
def gCons(t:TG)(u:TGs):TGs:=fun vs σ H Q=>∃v r,vs=v::r∧t v σ H fun σ' H'=>u r σ' H' Q
theorem pgs_nil:PGs X [] gNil:=by
 intro pins s σ H vs us Q I r h;obtain⟨e,h⟩:=h;subst e;cases r;exact assignInOrder_nil ⟨σ,H,I,h⟩
theorem qax{e:Expr}{es:List Expr}{t:TG}{u:TGs}(h1:PG X e t)(h2:PGs X es u)(hs:(assignEach (e::es) X.env).map (·.2)=assign e X.env::(assignEach es X.env).map (·.2):=by rfl):PGs X (e::es) (gCons t u):=by
 intro pins s σ H vs us Q I r h;obtain⟨v,vr,e1,h⟩:=h;subst e1;cases r with
 | cons r rr =>
   rw[hs]
   refine assignInOrder_cons (thn (h1 pins s σ H _ _ _ I r h) fun _ s1 ⟨σ1,H1,I1,q1⟩=>?_)
   exact h2 pins s1 σ1 H1 _ _ Q I1 rr q1
def gTup(K:PySem.W.Frag)(n:Nat)(t:TGs):TG:=fun v σ H Q=>∃a xs,v=.ref a∧SqT K H a xs∧xs.length=n∧t xs σ H Q
theorem qcD{es:List Expr}{k:Nat}{t:TGs}{n:Nat}(hc:X.calm=true)(h:PGs X es t)(hn:(assignEach es X.env).length=n:=by rfl)(hst:(assignEach es X.env).findIdx? (·.1)=none:=by rfl):PG X (.Tuple es k pos) (gTup X.K n t):=by
 intro pins s σ H v u Q I r hw;obtain⟨a,xs,e1,hq,hl,hw⟩:=hw;subst e1;cases r;obtain⟨its,rv,ht,hz⟩:=I.tuple hq;refine assign_Tuple_tuple (I.ok.hd hc) ht (by simp[hn,←hl,rv.length]) hst fun h' hx=>?_
 have I1:Inv X pins σ H {s with heap:=h'}:=I.kept (t':=s.toks) fun b o e=>hx b o (Nat.ne_of_lt (Heap.lt_size e)) e
 exact h pins _ σ H xs _ Q I1 (by simpa using rv) hw
def gSub(to ti:TE)(t:TSet):TG:=fun v σ H Q=>to σ H fun o H1=>ti σ H1 fun i H2=>t o i v H2 fun H3=>Q σ H3
theorem qbP{o i:Expr}{to ti:TE}{t:TSet}(ho:PE X o to)(hi:PE X i ti)(hs:PSet X t)(ha:∀ v,assign (.Subscript o i pos) X.env v=(do
   let ov ← holding [v] (eval o X.env)
   let iv ← holding [v,ov] (eval i X.env)
   standAt pos
   holding [v,ov,iv] (setItem ov iv v)
   release [v,ov,iv] []):=by intro _; rfl):PG X (.Subscript o i pos) (gSub to ti t):=by
 intro pins s σ H v u Q I r h
 rw [ha]
 refine wpAny_bind (wpAny_holding (thn (ho pins s σ H _ I h) fun ov s1 ⟨x,H1,I1,r1,q1⟩=>?_))
 refine wpAny_bind (wpAny_holding (thn (hi pins s1 σ H1 _ I1 q1) fun iv s2 ⟨y,H2,I2,r2,q2⟩=>?_))
 refine wpAny_bind (wpAny_standAt (wpAny_bind (wpAny_holding (thn (hs pins s2 σ H2 x y v ov iv u _ I2 r1 r2 r q2) fun _ s3 ⟨H3,I3,q3⟩=>?_))))
 exact wpAny_release ⟨σ,H3,I3,q3⟩
def tAsg(te:TE)(g:TG):TS:=fun D σ H=>te σ H fun x H1=>g x σ H1 D.nx
theorem qbF{tg e:Expr}{te:TE}{g:TG}(he:PE X e te)(hg:PG X tg g)(hs:swapsWithSole [tg] e pos.line X.env=pure false:=by rfl)(hw:swappedStores [tg] e X.env=pure none:=by rfl)(h1:(assignEach [tg] X.env).map (·.2)=[assign tg X.env]:=by rfl):PS X (.Assign [tg] e pos) (tAsg te g):=by
 intro pins s σ H D I h;refine wpAny_Assign_stores (thn (he pins s σ H _ I h) fun v s1 ⟨x,H1,I1,r1,q1⟩=>?_) hs hw;rw[h1];exact thn (hg pins s1 σ H1 x v _ I1 r1 q1) fun _ s2 q=>q
theorem qah{i:Nat}{x:Str}{e:Expr}{te:TE}{pos':Pos}(hN:X.N.Nodup)(hi:X.N[i]?=some x)(hx:Loc X.env.scope x)(he:PE X e te)(hs:swapsWith e (some (.Name x pos')) pos.line X.env=pure false:=by rfl)(hf:X.fn x=true∨X.env.scope.names.lookup x=some .local:=by first | exact .inl rfl | exact .inr rfl | assumption) :
  PS X (.Assign [.Name x pos'] e pos) (tAsg te (qa1 i)):=by
 intro pins s σ H D I h;refine wpAny_Assign_Name (thn (he pins s σ H _ I h) fun v s1 ⟨y,H1,I1,r1,q1⟩=>?_) hs;exact qdr I1 hN hi hx r1 (fun s2 I2=>⟨_,H1,I2,q1⟩) hf
def tAug(i:Nat)(te:TE)(ti:TIp):TS:=fun D σ H=>∃x,σ[i]?=some (some x)∧te σ H fun y H1=>ti x y H1 fun z H2=>D.nx (σ.set i (some z)) H2
theorem qeU{i:Nat}{x:Str}{e:Expr}{te:TE}{op:Operator}{ti:TIp}{pos':Pos}(hN:X.N.Nodup)(hi:X.N[i]?=some x)(hx:Loc X.env.scope x)(he:PE X e te)(ho:PIp X op ti)(hf:X.fn x=true∨X.env.scope.names.lookup x=some .local:=by first | exact .inl rfl | exact .inr rfl | assumption) :
  PS X (.AugAssign (.Name x pos') op e pos) (tAug i te ti):=by
 intro pins s σ H D I h;obtain⟨v,e1,h⟩:=h;obtain⟨m,hn,hl⟩:=I.loc;have vis:Vis X.env.scope x:=by rcases hx with k | k;exact .inl k;exact .inr (.inl k)
 obtain⟨u,r,l⟩:=hl i x v hi e1 vis;refine wpAny_AugAssign_Name ?_;have go:wpAny (model X.prog X.w) X.A (eval e X.env) (fun w s₂=>wpAny (model X.prog X.w) X.A (inplaceOp op u w) (fun r s₃=>wpAny (model X.prog X.w) X.A (storeName X.env x r) (fun _=>SP X pins D .next) X.xe s₃) X.xe s₂) X.xe s:=by
  refine thn (he pins s σ H _ I h) fun w s1 ⟨y,H1,I1,r1,q1⟩=>?_
  refine thn (ho pins s1 σ H1 v y u w _ I1 r r1 q1) fun z s2 ⟨zv,H2,I2,r2,q2⟩=>?_
  exact qdr I2 hN hi hx r2 (fun s3 I3=>⟨_,H2,I3,q2⟩) hf
 rcases l with⟨hk,hm⟩ | ⟨hk,c,hc,hcell⟩
 ·exact wpAny_loadName_local I.ok.kind hk hn hm go
 ·rcases hk with hk | hk
  ·exact wpAny_loadName_cell I.ok.kind hk hc hcell go
  ·rcases hx with k | k
   ·have:X.env.scope.names.lookup x=some .free:=hk;rw[k]at this;cases this
   ·have:X.env.scope.names.lookup x=some .free:=hk;rw[k]at this;cases this
def tAugS(to ti te:TE)(tget:V→V→Hp→VK→Prop)(tip:TIp)(tset:TSet):TS:=fun D σ H=>to σ H fun o H1=>ti σ H1 fun i H2=>tget o i H2 fun x H3=>te σ H3 fun y H4=>tip x y H4 fun z H5=>tset o i z H5 fun H6=>D.nx σ H6
def PGet(X:Cx)(t:V→V→Hp→VK→Prop):Prop :=
 ∀(pins:List (Addr×Obj)) (s:Shared) (σ:St) (H:Hp) (o i:V) (ov iv:Value) (Q:VK),Inv X pins σ H s→RelV o ov→RelV i iv→t o i H Q →
  wpAny (model X.prog X.w) X.A (getItem ov iv) (EP X pins σ Q) X.xe s
theorem ps_augS{o i e:Expr}{to ti te:TE}{tget:V→V→Hp→VK→Prop}{tip:TIp}{tset:TSet}{op:Operator}{tpos:Pos}(ho:PE X o to)(hi:PE X i ti)(hg:PGet X tget)(he:PE X e te)(hp:PIp X op tip)(hs:PSet X tset)(ha:∀ ov iv new,augStore i ov iv new=(do holding [new,ov,iv] (setItem ov iv new); release [new,ov,iv] []; pure .next):=by intros; rfl):PS X (.AugAssign (.Subscript o i tpos) op e pos) (tAugS to ti te tget tip tset):=by
 intro pins s σ H D I h
 refine wpAny_AugAssign_SubscriptAny (thn (ho pins s σ H _ I h) fun ov s1 ⟨x1,H1,I1,r1,q1⟩=>?_) ha
 refine thn (hi pins s1 σ H1 _ I1 q1) fun iv s2 ⟨x2,H2,I2,r2,q2⟩=>?_
 refine thn (hg pins s2 σ H2 x1 x2 ov iv _ I2 r1 r2 q2) fun old s3 ⟨x3,H3,I3,r3,q3⟩=>?_
 refine thn (he pins s3 σ H3 _ I3 q3) fun v s4 ⟨x4,H4,I4,r4,q4⟩=>?_
 refine thn (hp pins s4 σ H4 x3 x4 old v _ I4 r3 r4 q4) fun new s5 ⟨x5,H5,I5,r5,q5⟩=>?_
 exact thn (hs pins s5 σ H5 x1 x2 x5 ov iv new _ I5 r1 r2 r5 q5) fun _ s6 ⟨H6,I6,q6⟩=>⟨σ,H6,I6,q6⟩
def ipI(f:Int→Int→Int):TIp:=fun x y H Q=>∃i j,x=.int i∧y=.int j∧Q (.int (f i j)) H
theorem ip_add:PIp X .Add (ipI fun i j=>i+j):=by
 intro pins s σ H x y v u Q I r1 r2 h;obtain⟨i,j,e1,e2,q⟩:=h;subst e1;subst e2;obtain⟨t,rfl⟩:=r1;obtain⟨t',rfl⟩:=r2;exact iadd_int ⟨.int _,H,I.tok _,⟨_,rfl⟩,q⟩
theorem ip_sub:PIp X .Sub (ipI fun i j=>i-j):=by
 intro pins s σ H x y v u Q I r1 r2 h;obtain⟨i,j,e1,e2,q⟩:=h;subst e1;subst e2;obtain⟨t,rfl⟩:=r1;obtain⟨t',rfl⟩:=r2;exact isub_int ⟨.int _,H,I.tok _,⟨_,rfl⟩,q⟩
end
section
variable{X:Cx}{pos:Pos}
def tWhile(c:TT)(tb:TS):TS:=fun D σ H=>∃W:Nat→St→Hp→Prop,(∃m,W m σ H)∧∀m σ H,W m σ H →
 c σ H fun b H1=>if b=true then∃N:St→Hp→Prop,(∀σ' H',N σ' H'→∃m',m'<m∧W m' σ' H')∧tb {D with nx:=N,ct:=N,bk:=D.nx} σ H1 else D.nx σ H1
theorem qcM{c:Expr}{body:List Stmt}{tc:TT}{tb:TS}(hp:PassesOwn (model X.prog X.w) X.A X.env X.xe)(hc:PT X c tc)(hb:PSs X body tb):PS X (.While c body [] pos) (tWhile tc tb):=by
 intro pins s σ H D I h;obtain⟨W,⟨m0,w0⟩,turn⟩:=h;refine wpAny_While (codeAny_whileLoop (fun n s'=>∃σ' H',Inv X pins σ' H' s'∧W n σ' H') ?_ m0 ⟨σ,H,I,w0⟩);rintro n s1 ⟨σ1,H1,I1,w1⟩;refine wpAny_passesOwn hp (thn (hc pins s1 σ1 H1 _ I1 (turn n σ1 H1 w1)) fun b s2 ⟨H2,I2,q2⟩=>?_);cases b with
 | true =>
   obtain⟨N,hN,q2⟩:=q2
   rw[if_pos rfl]
   refine wpAny_passesOwn hp (thn (hb pins s2 σ1 H2 _ I2 q2) fun f s3 q3=>?_)
   cases f with
   | next =>
     obtain⟨σ3,H3,I3,n3⟩:=q3
     obtain⟨m',hm,w3⟩:=hN σ3 H3 n3
     exact⟨m',hm,σ3,H3,I3,w3⟩
   | cont =>
     obtain⟨σ3,H3,I3,n3⟩:=q3
     obtain⟨m',hm,w3⟩:=hN σ3 H3 n3
     exact⟨m',hm,σ3,H3,I3,w3⟩
   | brk=>exact q3
   | ret v=>exact q3
 | false =>
   rw[if_neg Bool.false_ne_true]
   exact wpAny_execs_nil ⟨σ1,H2,I2,q2⟩
end
structure It where
 go:Nat→Hp→Prop
 yld:Nat→Hp→V→Hp→Prop
 stop:Nat→Hp→Prop
def FpOk(X:Cx)(pins:List (Addr×Obj))(H:Hp)(b:Addr):Prop :=
 H b=none∧b≠X.env.locals∧b∉X.fs∧(b∈X.ex∨X.s₀.heap.objs.size≤b)∧(∀x c,X.env.cells.lookup x=some c→c≠b)∧∀p∈X.pn++pins,p.1≠b
theorem Inv.fpOk{X:Cx}{pins:List (Addr×Obj)}{σ:St}{H H':Hp}{s:Shared}{b:Addr}(I:Inv X pins σ H s)(hb:s.heap.objs.size≤b)(hn:H' b=none):FpOk X pins H' b:=by
 refine⟨hn,Nat.ne_of_gt (Nat.lt_of_lt_of_le I.lt hb),I.nofs hb,.inr (Nat.le_trans I.sz hb),fun x c e z=>?_,fun p hp z=>?_⟩
 ·obtain⟨v,q⟩:=I.cell x c e;exact absurd (Nat.lt_of_lt_of_le q.lt (by rw[z];exact hb)) (Nat.lt_irrefl _)
 ·exact absurd (Nat.lt_of_lt_of_le (Heap.lt_size (I.pin p hp).1) (by rw[z];exact hb)) (Nat.lt_irrefl _)
structure Turn(P:Program)(w:World)(K:PySem.W.Frag)(tg:Expr)(J:It)(fp:List Addr)(it:Addr)(tn:Nat→Heap→Prop):Prop where
 mem:it∈fp
 obj:∀i h,tn i h→∀b∈fp,∃o,h.get? b=some o∧∀v,o.data≠.cell v
 keep:∀i h h',tn i h→(∀b∈fp,∀o,h.get? b=some o→h'.get? b=some o)→tn i h'
 item:∀(X:Cx),X.prog=P→X.w=w→X.K=K→X.calm=true→∀(i:Nat) (pins:List (Addr×Obj)) (s:Shared) (σ:St) (H:Hp) (E:Value→Shared→Prop),Inv X pins σ H s→(∀b∈fp,FpOk X pins H b)→tn i s.heap→J.go i H →
  wpAny (model P w) X.A (pyNext (.ref it)) (fun r s1=>∃u,r=some u ∧
   wpAny (model P w) X.A (letOwnedTupleGo tg (.ref it) u) (fun _ s2=>∃x H',Inv X pins σ H' s2∧RelV x u∧J.yld i H x H'∧tn (i+1) s2.heap∧∀b∈fp,H' b=none) E s1) E s
 done:∀(X:Cx),X.prog=P→X.w=w→X.K=K→X.calm=true→∀(i:Nat) (pins:List (Addr×Obj)) (s:Shared) (σ:St) (H:Hp) (E:Value→Shared→Prop),Inv X pins σ H s→(∀b∈fp,FpOk X pins H b)→tn i s.heap→J.stop i H →
  wpAny (model P w) X.A (pyNext (.ref it)) (fun r s1=>r=none∧Inv X pins σ H s1) E s
 self:∀(A:Around) (i:Nat) (s:Shared) (Q:Value→Shared→Prop) (E:Value→Shared→Prop),tn i s.heap→Q (.ref it) s→wpAny (model P w) A (pyIter (.ref it)) Q E s
abbrev TI:=St→Hp→(It→Hp→Prop)→Prop
def PIE(X:Cx)(pins:List (Addr×Obj))(σ:St)(tg:Expr)(R:It→Hp→Prop)(itv:Value)(s2:Shared):Prop :=
 ∃(it:Addr) (fp:List Addr) (tn:Nat→Heap→Prop) (J:It) (H':Hp),itv=.ref it∧Inv X pins σ H' s2∧Turn X.prog X.w X.K tg J fp it tn∧tn 0 s2.heap∧(∀b∈fp,FpOk X pins H' b)∧R J H'
def PI(X:Cx)(tg iter:Expr)(wi:TI):Prop :=
 ∀(pins:List (Addr×Obj)) (s:Shared) (σ:St) (H:Hp) (R:It→Hp→Prop),Inv X pins σ H s→wi σ H R →
  wpAny (model X.prog X.w) X.A (eval iter X.env) (fun v s1=>wpAny (model X.prog X.w) X.A (pyIter v) (PIE X pins σ tg R) X.xe s1) X.xe s
theorem qgb{M:Model}{A:Around}{E:Value→Shared→Prop}{s:Shared}{tg:Expr}{it:Addr}{u:Value}{o:Obj}{n:String}{vs:Array Value}{Q:Unit→Shared→Prop}(ho:s.heap.get? it=some o)(hc:o.cls=.type n)(hd:o.data=.fields vs)(hn:["enumerate", "zip", "dict_itemiterator", "dict_reverseitemiterator", "odict_iterator", "itertools.zip_longest", "itertools.pairwise"].contains n=false)(hQ:Q () s):wpAny M A (letOwnedTupleGo tg (.ref it) u) Q E s:=by
 unfold letOwnedTupleGo;cases tg<;>first
  | exact wpAny_pure hQ
  | (cases u<;>first
    | exact wpAny_pure hQ
    | (refine wpAny_bind (wpAny_load ho ?_)
       rw[hc,hd]
       show wpAny M A (if(["enumerate", "zip", "dict_itemiterator", "dict_reverseitemiterator", "odict_iterator", "itertools.zip_longest", "itertools.pairwise"].contains n && vs[0]? == some (rawInt _))=true then _ else _) Q E s
       rw[if_neg (by intro h;rw[hn,Bool.false_and]at h;cases h)]
       exact wpAny_pure hQ))
def Itl(K:PySem.W.Frag)(a:Addr):It :=
 ⟨fun i H=>∃xs x,SqL K H a xs∧xs[i]?=some x,fun i H x H'=>H'=H∧∀xs,SqL K H a xs→xs[i]?=some x,fun i H=>∃xs,SqL K H a xs∧xs.length≤i⟩
def Itr(lo:Int)(n:Nat):It:=⟨fun i _=>i<n,fun i H x H'=>H'=H∧x=.int (lo+i),fun i _=>n≤i⟩
theorem turn_list{P:Program}{w:World}{K:PySem.W.Frag}{tg:Expr}(a it:Addr):Turn P w K tg (Itl K a) [it] it (fun i h=>h.IsListIter it a i) where
 mem:=by simp
 obj:=fun i h st b hb=>by
  have e:b=it:=by simpa using hb
  subst e;obtain⟨o,e,c,d⟩:=st;exact⟨o,e,fun v z=>by rw[d]at z;cases z⟩
 keep:=fun i h h' st k=>st.at fun o e=>k it (by simp) o e
 item:=by
  intro X hP hw hK hc i pins s σ H E I hf st hg;subst hP hw hK;obtain⟨xs,x,hq,hx⟩:=hg;obtain⟨its,rv,p,hz⟩:=I.list hq;obtain⟨u,hu,ru⟩:=rv.get hx;obtain⟨f0,f1,f2,f3,f4,f5⟩:=hf it (by simp);refine wpAny_pyNext_list_item st p.isList (x:=u) (by simpa using hu) fun h' st' sb=>?_
  have I1:Inv X pins σ H {s with heap:=h'}:=I.turned (t':=s.toks) (fun b o hb e=>(sb.2 b hb).trans e) f0 f1 f3 f4 f5;obtain⟨o,e,c,d⟩:=id st';exact⟨u,rfl,qgb (s:={s with heap:=h'}) e c d (by decide) ⟨x,H,I1,ru,⟨rfl,fun ys hy=>by rw[I.list_inj hy hq];exact hx⟩,st',fun b hb=>(hf b hb).1⟩⟩
 done:=by
  intro X hP hw hK hc i pins s σ H E I hf st hg;subst hP hw hK;obtain⟨xs,hq,hx⟩:=hg;obtain⟨its,rv,p,hz⟩:=I.list hq;obtain⟨f0,f1,f2,f3,f4,f5⟩:=hf it (by simp);have hl:=rv.length;exact wpAny_pyNext_list_end (I.ok.hd hc) st p.isList (by simp;omega) fun h' eb=>⟨rfl,I.turned (t':=s.toks) (fun b o hb e=>eb b o hb e) f0 f1 f3 f4 f5⟩
 self:=fun _ _ _ _ _ st h=>wpAny_pyIter_listiter st h
theorem turn_range{P:Program}{w:World}{K:PySem.W.Frag}{tg:Expr}(it:Addr)(lo:Int)(n:Nat):Turn P w K tg (Itr lo n) [it] it (fun i h=>IsRangeIter h it (lo+(i:Nat)*1) ((n:Int)-(i:Nat)) 1) where
 mem:=by simp
 obj:=fun i h st b hb=>by
  have e:b=it:=by simpa using hb
  subst e;exact⟨_,st,fun v z=>by
   have z':Data.fields _=Data.cell v:=z;cases z'⟩
 keep:=fun i h h' st k=>k it (by simp) _ st
 item:=by
  intro X hP hw hK hc i pins s σ H E I hf st hg;subst hP hw hK;obtain⟨f0,f1,f2,f3,f4,f5⟩:=hf it (by simp);have W:=Walks.range (prog:=X.prog) (w:=X.w) (I.ok.hd hc) it lo 1 n;refine W.item i s _ _ hg st fun v h' tk hv st' kk=>?_
  obtain⟨t,rfl⟩:=hv;have I1:Inv X pins σ H {s with heap:=h',toks:=tk}:=I.turned (fun b o hb e=>kk b o (by simpa using hb) e) f0 f1 f3 f4 f5;refine⟨_,rfl,qgb (s:={s with heap:=h',toks:=tk}) (n := "range_iterator") st' rfl rfl (by decide) ⟨.int (lo+i),H,I1,⟨t,?_⟩,⟨rfl,rfl⟩,st',fun b hb=>(hf b hb).1⟩⟩;rw[Int.mul_one]
 done:=by
  intro X hP hw hK hc i pins s σ H E I hf st hg;subst hP hw hK;obtain⟨f0,f1,f2,f3,f4,f5⟩:=hf it (by simp);exact wpAny_pyNext_range_end (I.ok.hd hc) st (by have:n≤i:=hg;omega) fun h' eb=>⟨rfl,I.turned (t':=s.toks) (fun b o hb e=>eb b o hb e) f0 f1 f3 f4 f5⟩
 self:=fun _ _ _ _ _ st h=>wpAny_pyIter_rangeiter st h
end L2
namespace L2
open PySem PySem.Spec PyProof.Rows
section
variable{X:Cx}{tg:Expr}
def iList(K:PySem.W.Frag)(tl:TE):TI:=fun σ H R=>tl σ H fun x H1=>∃a,x=.ref a∧(∃xs,SqL K H1 a xs)∧R (Itl K a) H1
theorem qaE{l:Expr}{tl:TE}(hl:PE X l tl):PI X tg l (iList X.K tl):=by
 intro pins s σ H R I h;refine thn (hl pins s σ H _ I h) fun v s1 ⟨x,H1,I1,r1,q1⟩=>?_
 obtain⟨a,e,⟨xs,hq⟩,q⟩:=q1;subst e;cases r1;obtain⟨its,rv,p,hz⟩:=I1.list hq;refine wpAny_pyIter_list p.isList ?_;refine⟨s1.heap.objs.size,[s1.heap.objs.size],_,_,H1,rfl,I1.kept (t':=s1.toks) fun b o e=>Heap.get?_push_of_some _ e,turn_list a _,⟨_,Heap.get?_push_size _ rfl,rfl,rfl⟩,fun b hb=>?_,q⟩;have e:b=s1.heap.objs.size:=by simpa using hb
 subst e;exact I1.fpOk (Nat.le_refl _) (I1.hok.fresh (Nat.le_refl _))
theorem qey{pins:List (Addr×Obj)}{σ:St}{H:Hp}{s:Shared}{R:It→Hp→Prop}{E:Value→Shared→Prop}{lo hi:Int}{t u v:Tok}{tk:Nat}(I:Inv X pins σ H s)(h1:-(2 ^ 62)≤lo)(h2:lo<2 ^ 62)(h3:-(2 ^ 62)≤hi)(h4:hi<2 ^ 62)(q:R (Itr lo (hi-lo).toNat) H):wpAny (model X.prog X.w) X.A (pyIter (.ref s.heap.objs.size)) (PIE X pins σ tg R) E {s with heap:=s.heap.push {cls:=.type "range",data:=.fields #[.int lo t,.int hi u,.int 1 v]},toks:=tk}:=by
 refine wpAny_pyIter_range (IsRange.new ..) (small_one h1 h2 h3 h4) ?_;have I1:Inv X pins σ H {s with heap:=s.heap.push {cls:=.type "range",data:=.fields #[.int lo t,.int hi u,.int 1 v]},toks:=tk}:=I.kept fun b o e=>Heap.get?_push_of_some _ e
 refine⟨(s.heap.push {cls:=.type "range",data:=.fields #[.int lo t,.int hi u,.int 1 v]}).objs.size,[(s.heap.push {cls:=.type "range",data:=.fields #[.int lo t,.int hi u,.int 1 v]}).objs.size],_,_,H,rfl,
  I1.kept (t':=tk) fun b o e=>Heap.get?_push_of_some _ e,turn_range _ lo (hi-lo).toNat,?_,fun b hb=>?_,q⟩
 ·have e1:lo+((0:Nat):Int)*1=lo:=by simp
  have e2:(((hi-lo).toNat:Nat):Int)-((0:Nat):Int)=Builtin.Range.rangeSize lo hi 1:=by rw[rangeSize_one];split<;>omega
  show IsRangeIter _ _ (lo+((0:Nat):Int)*1) ((((hi-lo).toNat:Nat):Int)-((0:Nat):Int)) 1;rw[e1,e2];exact Heap.get?_push_size _ rfl
 ·have e:b=(s.heap.push {cls:=.type "range",data:=.fields #[.int lo t,.int hi u,.int 1 v]}).objs.size:=by simpa using hb
  subst e;exact I1.fpOk (Nat.le_refl _) (I1.hok.fresh (Nat.le_refl _))
def iRng1(ta:TA):TI:=fun σ H R=>ta σ H fun vs H1=>∃j:Int,vs=[.int j]∧-(2 ^ 62)≤j∧j<2 ^ 62∧R (Itr 0 j.toNat) H1
def iRng2(ta:TA):TI:=fun σ H R=>ta σ H fun vs H1=>∃i j:Int,vs=[.int i,.int j]∧(-(2 ^ 62)≤i∧i<2 ^ 62∧-(2 ^ 62)≤j∧j<2 ^ 62)∧R (Itr i (j-i).toNat) H1
theorem qaH{a:Expr}{ta:TA}{p pos:Pos}(hg:Gl X "range")(hm:X.mg "range" = none)(ha:PA X [a] ta)(hs:starEach [a] X.env=[(false,eval a X.env)]:=by rfl):PI X tg (.Call (.Name "range" p) [a] [] pos) (iRng1 ta):=by
 intro pins s σ H R I h;refine Call_ (qcF I hg hm boot_range (PyProof.Rows.callWith_type1 (thn (ha pos pins s σ H _ I h) fun us s1 ⟨vs,H1,I1,r1,q1⟩=>?_) hs rfl));obtain⟨j,e,q1,q2,q⟩:=q1;subst e;cases r1 with
 | cons r rr =>
   cases rr
   obtain⟨t,rfl⟩:=r
   exact call_range_1 (qey I1 (by omega) (by omega) q1 q2 (by simpa using q))
theorem qbQ{a b:Expr}{ta:TA}{p pos:Pos}(hg:Gl X "range")(hm:X.mg "range" = none)(ha:PA X [a,b] ta)(hs:starEach [a,b] X.env=[(false,eval a X.env),(false,eval b X.env)]:=by rfl)(hs2:starEach [b] X.env=[(false,eval b X.env)]:=by rfl) :
  PI X tg (.Call (.Name "range" p) [a,b] [] pos) (iRng2 ta):=by
 intro pins s σ H R I h;refine Call_ (qcF I hg hm boot_range (PyProof.Rows.callWith_type1 (thn (ha pos pins s σ H _ I h) fun us s1 ⟨vs,H1,I1,r1,q1⟩=>?_) (by rw[hs,hs2]) (by rw[hs2];rfl)));obtain⟨i,j,e,⟨q1,q2,q3,q4⟩,q⟩:=q1;subst e;cases r1 with
 | cons r rr =>
   cases rr with
   | cons r' rr =>
     cases rr
     obtain⟨t,rfl⟩:=r
     obtain⟨t',rfl⟩:=r'
     exact call_range_2 (qey I1 q1 q2 q3 q4 q)
def tFor(wi:TI)(g:TG)(tb:TS):TS:=fun D σ H=>wi σ H fun J H1=>∃W:Nat→Nat→St→Hp→Prop,(∃m,W 0 m σ H1)∧∀i m σ H,W i m σ H →
 (J.stop i H∧D.nx σ H)∨(J.go i H∧∃N:St→Hp→Prop,(∀σ' H',N σ' H'→∃m',m'<m∧W (i+1) m' σ' H')∧∀x H',J.yld i H x H'→g x σ H' fun σ2 H2=>tb {D with nx:=N,ct:=N,bk:=D.nx} σ2 H2)
def qcT(fp:List Addr)(h:Heap):List (Addr×Obj):=fp.filterMap fun b=>(h.get? b).map fun o=>(b,o)
theorem qbt{fp:List Addr}{h:Heap}{b:Addr}{o:Obj}(hb:b∈fp)(e:h.get? b=some o):(b,o)∈qcT fp h:=List.mem_filterMap.mpr ⟨b,hb,by rw[e];rfl⟩
theorem qd0{fp:List Addr}{h:Heap}{p:Addr×Obj}(hp:p∈qcT fp h):p.1∈fp∧h.get? p.1=some p.2:=by
 obtain⟨b,hb,e⟩:=List.mem_filterMap.mp hp;cases q:h.get? b with
 | none=>rw[q]at e;cases e
 | some o =>
   rw[q]at e
   have e':(b,o)=p:=Option.some.inj e
   subst e'
   exact⟨hb,q⟩
theorem Inv.pinned{pins:List (Addr×Obj)}{σ:St}{H:Hp}{s:Shared}{fp:List Addr}(I:Inv X pins σ H s)(hf:∀b∈fp,FpOk X pins H b)(ho:∀b∈fp,∃o,s.heap.get? b=some o∧∀v,o.data≠.cell v):Inv X (pins++qcT fp s.heap) σ H s :=
 I.pins_of fun p hp=>(List.mem_append.mp hp).elim (fun z=>I.pin p (List.mem_append_right _ z)) fun z=>by
  obtain⟨hb,e⟩:=qd0 z;obtain⟨f0,f1,f2,_⟩:=hf p.1 hb;obtain⟨o,e',d⟩:=ho p.1 hb;rw[e]at e';cases e';exact⟨e,f0,f1,f2,d⟩
theorem Inv.unpinned{pins pl:List (Addr×Obj)}{σ:St}{H:Hp}{s:Shared}(I:Inv X (pins++pl) σ H s):Inv X pins σ H s:=I.pins_of fun p hp=>I.pin p (List.mem_append_right _ (List.mem_append_left _ hp))
theorem qaR{iter:Expr}{body:List Stmt}{wi:TI}{g:TG}{tb:TS}{pos:Pos}(hp:PassesOwn (model X.prog X.w) X.A X.env X.xe)(hc:X.calm=true)(hi:PI X tg iter wi)(hg:PG X tg g)(hb:PSs X body tb)(hs:∀x,foldedSetIterable iter X.env x=pure x:=by intro _;rfl):PS X (.For tg iter body [] pos) (tFor wi g tb):=by
 intro pins s σ H D I h;refine wpAny_For (thn (hi pins s σ H _ I h) fun v s1 h1=>thn h1 fun itv s2 h2=>?_) hs;obtain⟨it,fp,tn,J,H2,e,I2,T,st2,f2,W,⟨m0,w0⟩,turn⟩:=h2;subst e;have stat:∀{H':Hp},(∀b∈fp,H' b=none)→∀b∈fp,FpOk X pins H' b:=fun hn b hb=>⟨hn b hb,(f2 b hb).2⟩
 refine codeAny_forLoop_any (fun n s'=>∃i σ' H',Inv X pins σ' H' s'∧tn i s'.heap∧(∀b∈fp,H' b=none)∧W i n σ' H') ?_ m0 ⟨0,σ,H2,I2,st2,fun b hb=>(f2 b hb).1,w0⟩;rintro n s3 ⟨i,σ3,H3,I3,st3,fr3,w3⟩;rcases turn i n σ3 H3 w3 with⟨stop,qn⟩ | ⟨go,N,hN,step⟩
 ·refine wpAny_passesOwn hp (thn (T.done X rfl rfl rfl hc i pins s3 σ3 H3 X.xe I3 (stat fr3) st3 stop) fun r s4 ⟨hr,I4⟩=>?_);subst hr;exact wpAny_execs_nil ⟨σ3,H3,I4,qn⟩
 ·refine wpAny_passesOwn hp (thn (T.item X rfl rfl rfl hc i pins s3 σ3 H3 X.xe I3 (stat fr3) st3 go) fun r s4 ⟨u,hr,h4⟩=>?_);subst hr;refine wpAny_passesOwn hp (thn h4 fun _ s5 ⟨x,H5,I5,r5,y5,st5,fr5⟩=>?_);have I5':=I5.pinned (stat fr5) (T.obj _ _ st5);refine wpAny_passesOwn hp (thn (hg _ s5 σ3 H5 x u _ I5' r5 (step x H5 y5)) fun _ s6 ⟨σ6,H6,I6,q6⟩=>?_);refine wpAny_passesOwn hp (thn (hb _ s6 σ6 H6 _ I6 q6) fun f s7 q7=>?_);have again:∀{σ7:St} {H7:Hp},Inv X (pins++qcT fp s5.heap) σ7 H7 s7→N σ7 H7→∃m,m<n∧∃i σ' H',Inv X pins σ' H' s7∧tn i s7.heap∧(∀b∈fp,H' b=none)∧W i m σ' H':=fun {σ7 H7} I7 n7=>by
   obtain⟨m',hm,w7⟩:=hN σ7 H7 n7;refine⟨m',hm,i+1,σ7,H7,I7.unpinned,T.keep _ _ _ st5 fun b hb o e=>(I7.pin (b,o) (List.mem_append_right _ (List.mem_append_right _ (qbt hb e)))).1,fun b hb=>?_,w7⟩;obtain⟨o,e,d⟩:=T.obj _ _ st5 b hb;exact(I7.pin (b,o) (List.mem_append_right _ (List.mem_append_right _ (qbt hb e)))).2.1
  cases f with
  | next=>obtain⟨σ7,H7,I7,n7⟩:=q7;exact again I7 n7
  | cont=>obtain⟨σ7,H7,I7,n7⟩:=q7;exact again I7 n7
  | brk=>obtain⟨σ7,H7,I7,q7⟩:=q7;exact⟨σ7,H7,I7.unpinned,q7⟩
  | ret v=>obtain⟨x7,σ7,H7,I7,r7,q7⟩:=q7;exact⟨x7,σ7,H7,I7.unpinned,r7,q7⟩
end
theorem qbj{K:PySem.W.Frag}{a:Addr}{xs:List V}{g:TG}{tb:TS}{D:Ends}{σ:St}{H:Hp}(Pv:Nat→St→Hp→Prop)(h0:Pv 0 σ H)(hl:∀i σ H,i≤xs.length→Pv i σ H→SqL K H a xs)(hs:∀i x σ H,xs[i]?=some x→Pv i σ H→g x σ H fun σ2 H2=>tb {D with nx:=Pv (i+1),ct:=Pv (i+1),bk:=D.nx} σ2 H2)(hd:∀σ H,Pv xs.length σ H→D.nx σ H) :
  ∃W:Nat→Nat→St→Hp→Prop,(∃m,W 0 m σ H)∧∀i m σ H,W i m σ H →
   ((Itl K a).stop i H∧D.nx σ H)∨((Itl K a).go i H∧∃N:St→Hp→Prop,(∀σ' H',N σ' H'→∃m',m'<m∧W (i+1) m' σ' H')∧∀x H',(Itl K a).yld i H x H'→g x σ H' fun σ2 H2=>tb {D with nx:=N,ct:=N,bk:=D.nx} σ2 H2):=by
 refine⟨fun i m σ H=>m=xs.length-i∧i≤xs.length∧Pv i σ H,⟨xs.length,by simp,Nat.zero_le _,h0⟩,?_⟩;rintro i m σ H ⟨rfl,hi,p⟩;have q:=hl i σ H hi p
 by_cases hlt:i<xs.length
 ·refine .inr ⟨⟨xs,xs[i],q,by simp[hlt]⟩,Pv (i+1),fun σ' H' p'=>⟨xs.length-(i+1),by omega,rfl,hlt,p'⟩,fun x H' y=>?_⟩;obtain⟨e,y⟩:=y;subst e;exact hs i x σ _ (y xs q) p
 ·have e:i=xs.length:=by omega
  subst e;exact .inl ⟨⟨xs,q,Nat.le_refl _⟩,hd σ H p⟩
theorem qaN{lo:Int}{n:Nat}{g:TG}{tb:TS}{D:Ends}{σ:St}{H:Hp}(Pv:Nat→St→Hp→Prop)(h0:Pv 0 σ H)(hs:∀i σ H,i<n→Pv i σ H→g (.int (lo+i)) σ H fun σ2 H2=>tb {D with nx:=Pv (i+1),ct:=Pv (i+1),bk:=D.nx} σ2 H2)(hd:∀σ H,Pv n σ H→D.nx σ H) :
  ∃W:Nat→Nat→St→Hp→Prop,(∃m,W 0 m σ H)∧∀i m σ H,W i m σ H →
   ((Itr lo n).stop i H∧D.nx σ H)∨((Itr lo n).go i H∧∃N:St→Hp→Prop,(∀σ' H',N σ' H'→∃m',m'<m∧W (i+1) m' σ' H')∧∀x H',(Itr lo n).yld i H x H'→g x σ H' fun σ2 H2=>tb {D with nx:=N,ct:=N,bk:=D.nx} σ2 H2):=by
 refine⟨fun i m σ H=>m=n-i∧i≤n∧Pv i σ H,⟨n,by simp,Nat.zero_le _,h0⟩,?_⟩;rintro i m σ H ⟨rfl,hi,p⟩
 by_cases hlt:i<n
 ·refine .inr ⟨hlt,Pv (i+1),fun σ' H' p'=>⟨n-(i+1),by omega,rfl,hlt,p'⟩,fun x H' y=>?_⟩;obtain⟨e,y⟩:=y;subst e y;exact hs i σ _ hlt p
 ·have e:i=n:=by omega
  subst e;exact .inl ⟨Nat.le_refl _,hd σ H p⟩
end L2
namespace L2
open PySem PySem.Spec PyProof.Rows
abbrev R2:=V→V→Hp→VK→Prop
def OpR(X:Cx)(f:Value→Value→Sem Value)(r:R2):Prop :=
 ∀(pins:List (Addr×Obj)) (s:Shared) (σ:St) (H:Hp) (x y:V) (v u:Value) (Q:VK),Inv X pins σ H s→RelV x v→RelV y u→r x y H Q →
  wpAny (model X.prog X.w) X.A (f v u) (EP X pins σ Q) X.xe s
def UnR(X:Cx)(f:Value→Sem Value)(r:V→Hp→VK→Prop):Prop :=
 ∀(pins:List (Addr×Obj)) (s:Shared) (σ:St) (H:Hp) (x:V) (v:Value) (Q:VK),Inv X pins σ H s→RelV x v→r x H Q →
  wpAny (model X.prog X.w) X.A (f v) (EP X pins σ Q) X.xe s
def qcd(X:Cx)(f:Value)(r:List V→Hp→VK→Prop):Prop :=
 ∀(pins:List (Addr×Obj)) (s:Shared) (σ:St) (H:Hp) (xs:List V) (us:List Value) (Q:VK),Inv X pins σ H s→Vals xs us→r xs H Q →
  wpAny (model X.prog X.w) X.A (call f us) (EP X pins σ Q) X.xe s
def tOp(r:R2)(ta tb:TE):TE:=fun σ H Q=>ta σ H fun x H1=>tb σ H1 fun y H2=>r x y H2 Q
def tUn(r:V→Hp→VK→Prop)(ta:TE):TE:=fun σ H Q=>ta σ H fun x H1=>r x H1 Q
def rI(C:Int→Int→Prop)(g:Int→Int→V):R2:=fun x y H Q=>∃i j,x=.int i∧y=.int j∧C i j∧Q (g i j) H
def rI0(g:Int→Int→V):R2:=fun x y H Q=>∃i j,x=.int i∧y=.int j∧Q (g i j) H
def rU(g:Int→V):V→Hp→VK→Prop:=fun x H Q=>∃i,x=.int i∧Q (g i) H
section
variable{X:Cx}{a b c:Expr}{ta tb tc:TE}{pos:Pos}
theorem binT(ha:PE X a ta)(hb:PE X b tb){pins:List (Addr×Obj)}{s:Shared}{σ:St}{H:Hp}{R:V→V→Hp→Prop}(I:Inv X pins σ H s)(h:ta σ H fun x H1=>tb σ H1 fun y H2=>R x y H2){Q:Value→Shared→Prop}{f:Value→Value→Sem Value}(hf:∀v u s2 x y H2,Inv X pins σ H2 s2→RelV x v→RelV y u→R x y H2→wpAny (model X.prog X.w) X.A (f v u) Q X.xe s2) :
  wpAny (model X.prog X.w) X.A (eval a X.env) (fun v s₁=>wpAny (model X.prog X.w) X.A (eval b X.env) (fun u s₂=>wpAny (model X.prog X.w) X.A (f v u) Q X.xe s₂) X.xe s₁) X.xe s:=by
 refine thn (ha pins s σ H _ I h) fun v s1 ⟨x,H1,I1,r1,q1⟩=>?_
 refine thn (hb pins s1 σ H1 _ I1 q1) fun u s2 ⟨y,H2,I2,r2,q2⟩=>?_
 exact hf v u s2 x y H2 I2 r1 r2 q2
theorem qas{op:Operator}{r:R2}(ho:OpR X (binaryOp op) r)(ha:PE X a ta)(hb:PE X b tb):PE X (.BinOp a op b pos) (tOp r ta tb):=by
 intro pins s σ H Q I h;exact wpAny_BinOp (binT ha hb I h fun v u s2 x y H2 I2 rx ry q=>ho pins s2 σ H2 x y v u Q I2 rx ry q)
theorem qe4{op:UnaryOp}{r:V→Hp→VK→Prop}(ho:UnR X (unaryOp op) r)(ha:PE X a ta):PE X (.UnaryOp op a pos) (tUn r ta):=by
 intro pins s σ H Q I h;exact UnaryOp_ (thn (ha pins s σ H _ I h) fun v s1 ⟨x,H1,I1,r1,q1⟩=>ho pins s1 σ H1 x v Q I1 r1 q1)
theorem opI{f:Value→Value→Sem Value}{C:Int→Int→Prop}{g:Int→Int→Int}(rule:∀(i j:Int) (t u:Tok) (s:Shared) (Q:Value→Shared→Prop) (E:Value→Shared→Prop),C i j→Q (.int (g i j) s.toks) {s with toks:=s.toks+1}→wpAny (model X.prog X.w) X.A (f (.int i t) (.int j u)) Q E s) :
  OpR X f (rI C fun i j=>.int (g i j)):=by
 intro pins s σ H x y v u Q I rx ry h;obtain⟨i,j,rfl,rfl,hc,q⟩:=h;obtain⟨t,rfl⟩:=rx;obtain⟨t',rfl⟩:=ry;exact rule i j t t' s _ _ hc ⟨.int (g i j),H,I.tok _,⟨_,rfl⟩,q⟩
theorem opI0{f:Value→Value→Sem Value}{g:Int→Int→Int}(rule:∀(i j:Int) (t u:Tok) (s:Shared) (Q:Value→Shared→Prop) (E:Value→Shared→Prop),Q (.int (g i j) s.toks) {s with toks:=s.toks+1}→wpAny (model X.prog X.w) X.A (f (.int i t) (.int j u)) Q E s) :
  OpR X f (rI0 fun i j=>.int (g i j)):=by
 intro pins s σ H x y v u Q I rx ry h;obtain⟨i,j,rfl,rfl,q⟩:=h;obtain⟨t,rfl⟩:=rx;obtain⟨t',rfl⟩:=ry;exact rule i j t t' s _ _ ⟨.int (g i j),H,I.tok _,⟨_,rfl⟩,q⟩
theorem opB0{f:Value→Value→Sem Value}{g:Int→Int→Bool}(rule:∀(i j:Int) (t u:Tok) (s:Shared) (Q:Value→Shared→Prop) (E:Value→Shared→Prop),Q (.bool (g i j)) s→wpAny (model X.prog X.w) X.A (f (.int i t) (.int j u)) Q E s) :
  OpR X f (rI0 fun i j=>.bl (g i j)):=by
 intro pins s σ H x y v u Q I rx ry h;obtain⟨i,j,rfl,rfl,q⟩:=h;obtain⟨t,rfl⟩:=rx;obtain⟨t',rfl⟩:=ry;exact rule i j t t' s _ _ ⟨.bl (g i j),H,I,rfl,q⟩
def CDiv(i j:Int):Prop:=0<j∧j<1073741824
def CMul(i j:Int):Prop:=(-(2 ^ 64)<i∧i<2 ^ 64)∨(-(2 ^ 64)<j∧j<2 ^ 64)
theorem CMul.ok{i j:Int}(h:CMul i j):IntMulOk i j:=by
 rcases h with⟨h1,h2⟩ | ⟨h1,h2⟩
 ·exact .of_left (intBits_le_64 h1 h2)
 ·exact .of_right (intBits_le_64 h1 h2)
theorem op_add:OpR X (binaryOp .Add) (rI0 fun i j=>.int (i+j)):=opI0 fun _ _ _ _ _ _ _ q=>add_int q
theorem op_sub:OpR X (binaryOp .Sub) (rI0 fun i j=>.int (i-j)):=opI0 fun _ _ _ _ _ _ _ q=>sub_int q
theorem op_mul:OpR X (binaryOp .Mult) (rI CMul fun i j=>.int (i*j)):=opI fun _ _ _ _ _ _ _ hc q=>mul_int q hc.ok
theorem op_fdiv:OpR X (binaryOp .FloorDiv) (rI CDiv fun i j=>.int (i / j)):=opI fun i j _ _ _ _ _ hc q=>by
 have h1:(0:Int)<j:=hc.1;have h2:j<1073741824:=hc.2;exact floordiv_int (by omega) (by rw[Int.fdiv_eq_ediv_of_nonneg i (by omega)];exact q) (.inl (PyProof.noPylong_small (by omega)))
theorem op_mod:OpR X (binaryOp .Mod) (rI (fun _ j=>0<j) fun i j=>.int (i % j)):=opI fun i j _ _ _ _ _ hc q=>by
 have h1:(0:Int)<j:=hc;exact mod_int' (by omega) (by rw[Int.fmod_eq_emod_of_nonneg i (by omega)];exact q)
theorem unI{f:Value→Sem Value}{g:Int→Int}(rule:∀(i:Int) (t:Tok) (s:Shared) (Q:Value→Shared→Prop) (E:Value→Shared→Prop),Q (.int (g i) s.toks) {s with toks:=s.toks+1}→wpAny (model X.prog X.w) X.A (f (.int i t)) Q E s) :
  UnR X f (rU fun i=>.int (g i)):=by
 intro pins s σ H x v Q I rx h;obtain⟨i,rfl,q⟩:=h;obtain⟨t,rfl⟩:=rx;exact rule i t s _ _ ⟨.int (g i),H,I.tok _,⟨_,rfl⟩,q⟩
theorem un_neg:UnR X (unaryOp .USub) (rU fun i=>.int (-i)):=unI fun _ _ _ _ _ q=>neg_int q
end
def scal:V→V→Bool
 | .non,.non=>true | .non,.int _=>true | .int _,.non=>true | .non,.bl _=>true | .bl _,.non=>true | .non,.str _=>true | .str _,.non=>true
 | .int _,.int _=>true | .bl _,.bl _=>true | .str _,.str _=>true | .byt _,.byt _=>true
 | .int _,.str _=>true | .str _,.int _=>true | .bl _,.str _=>true | .str _,.bl _=>true
 | _,_=>false
def rEq:R2:=fun x y H Q=>scal x y=true∧Q (.bl (decide (x=y))) H
def rNe:R2:=fun x y H Q=>scal x y=true∧Q (.bl (!decide (x=y))) H
theorem qeS{i j:Int}:decide (V.int i=V.int j)=(i == j):=by
 rw[Bool.eq_iff_iff];simp
theorem qfC{i j:Bool}:decide (V.bl i=V.bl j)=(i == j):=by
 rw[Bool.eq_iff_iff];simp
theorem qe9{i j:Str}:decide (V.str i=V.str j)=(i == j):=by
 rw[Bool.eq_iff_iff];simp
theorem qfp{i j:Array UInt8}:decide (V.byt i=V.byt j)=(i.toList == j.toList):=by
 rw[Bool.eq_iff_iff];cases i;cases j;simp
section
variable{X:Cx}{a b c:Expr}{ta tb tc:TE}{pos:Pos}
theorem qaL{pins:List (Addr×Obj)}{σ:St}{H:Hp}{s:Shared}{Q:VK}{k k':Bool}(I:Inv X pins σ H s)(q:Q (.bl k) H)(e:k=k'):EP X pins σ Q (.bool k') s:=by
 subst e;exact⟨.bl k,H,I,rfl,q⟩
theorem op_eq:OpR X (compareOp .Eq) rEq:=by
 intro pins s σ H x y v u Q I rx ry h;obtain⟨hs,q⟩:=h;cases x with
 | non =>
   cases rx
   cases y with
   | non=>cases ry;exact PySem.EqNone.eq_none_none (qaL I q (by simp))
   | bl j=>cases ry;exact PySem.EqNone.eq_none_bool (qaL I q (by simp))
   | int j=>obtain⟨t',rfl⟩:=ry;exact PySem.EqNone.eq_none_int (qaL I q (by simp))
   | str j=>obtain⟨t',rfl⟩:=ry;exact PySem.EqNone.eq_none_str (qaL I q (by simp))
   | _=>exact absurd (show false=true from hs) Bool.false_ne_true
 | bl i =>
   cases rx
   cases y with
   | non=>cases ry;exact PySem.EqNone.eq_bool_none (qaL I q (by simp))
   | bl j=>cases ry;exact eq_bool (qaL I q qfC)
   | str j=>obtain⟨t',rfl⟩:=ry;exact PySem.EqMixed.eq_bool_str (qaL I q (by simp))
   | _=>exact absurd (show false=true from hs) Bool.false_ne_true
 | int i =>
   obtain⟨t,rfl⟩:=rx
   cases y with
   | non=>cases ry;exact PySem.EqNone.eq_int_none (qaL I q (by simp))
   | int j=>obtain⟨t',rfl⟩:=ry;exact eq_int (qaL I q qeS)
   | str j=>obtain⟨t',rfl⟩:=ry;exact PySem.EqMixed.eq_int_str (qaL I q (by simp))
   | _=>exact absurd (show false=true from hs) Bool.false_ne_true
 | str i =>
   obtain⟨t,rfl⟩:=rx
   cases y with
   | non=>cases ry;exact PySem.EqNone.eq_str_none (qaL I q (by simp))
   | bl j=>cases ry;exact PySem.EqMixed.eq_str_bool (qaL I q (by simp))
   | int j=>obtain⟨t',rfl⟩:=ry;exact PySem.EqMixed.eq_str_int (qaL I q (by simp))
   | str j=>obtain⟨t',rfl⟩:=ry;exact eq_str (qaL I q qe9)
   | _=>exact absurd (show false=true from hs) Bool.false_ne_true
 | byt i =>
   obtain⟨t,rfl⟩:=rx
   cases y with
   | byt j=>obtain⟨t',rfl⟩:=ry;exact PySem.W.eq_bytes (qaL I q qfp)
   | _=>exact absurd (show false=true from hs) Bool.false_ne_true
 | _=>cases y<;>exact absurd (show false=true from hs) Bool.false_ne_true
theorem op_ne:OpR X (compareOp .NotEq) rNe:=by
 intro pins s σ H x y v u Q I rx ry h;obtain⟨hs,q⟩:=h;cases x with
 | non =>
   cases rx
   cases y with
   | non=>cases ry;exact PySem.EqNone.ne_none_none (qaL I q (by simp))
   | bl j=>cases ry;exact PySem.EqNone.ne_none_bool (qaL I q (by simp))
   | int j=>obtain⟨t',rfl⟩:=ry;exact PySem.EqNone.ne_none_int (qaL I q (by simp))
   | str j=>obtain⟨t',rfl⟩:=ry;exact PySem.EqNone.ne_none_str (qaL I q (by simp))
   | _=>exact absurd (show false=true from hs) Bool.false_ne_true
 | bl i =>
   cases rx
   cases y with
   | non=>cases ry;exact PySem.EqNone.ne_bool_none (qaL I q (by simp))
   | bl j=>cases ry;exact ne_bool (qaL I q (congrArg not qfC))
   | str j=>obtain⟨t',rfl⟩:=ry;exact PySem.EqMixed.ne_bool_str (qaL I q (by simp))
   | _=>exact absurd (show false=true from hs) Bool.false_ne_true
 | int i =>
   obtain⟨t,rfl⟩:=rx
   cases y with
   | non=>cases ry;exact PySem.EqNone.ne_int_none (qaL I q (by simp))
   | int j=>obtain⟨t',rfl⟩:=ry;exact ne_int (qaL I q (congrArg not qeS))
   | str j=>obtain⟨t',rfl⟩:=ry;exact PySem.EqMixed.ne_int_str (qaL I q (by simp))
   | _=>exact absurd (show false=true from hs) Bool.false_ne_true
 | str i =>
   obtain⟨t,rfl⟩:=rx
   cases y with
   | non=>cases ry;exact PySem.EqNone.ne_str_none (qaL I q (by simp))
   | bl j=>cases ry;exact PySem.EqMixed.ne_str_bool (qaL I q (by simp))
   | int j=>obtain⟨t',rfl⟩:=ry;exact PySem.EqMixed.ne_str_int (qaL I q (by simp))
   | str j=>obtain⟨t',rfl⟩:=ry;exact ne_str (qaL I q (congrArg not qe9))
   | _=>exact absurd (show false=true from hs) Bool.false_ne_true
 | byt i =>
   obtain⟨t,rfl⟩:=rx
   cases y with
   | byt j=>obtain⟨t',rfl⟩:=ry;exact PySem.W.ne_bytes (qaL I q (congrArg not qfp))
   | _=>exact absurd (show false=true from hs) Bool.false_ne_true
 | _=>cases y<;>exact absurd (show false=true from hs) Bool.false_ne_true
theorem op_lt:OpR X (compareOp .Lt) (rI0 fun i j=>.bl (decide (i<j))):=opB0 fun _ _ _ _ _ _ _ q=>lt_int q
theorem op_le:OpR X (compareOp .LtE) (rI0 fun i j=>.bl (decide (i≤j))):=opB0 fun _ _ _ _ _ _ _ q=>le_int q
theorem op_gt:OpR X (compareOp .Gt) (rI0 fun i j=>.bl (decide (j<i))):=opB0 fun _ _ _ _ _ _ _ q=>gt_int q
theorem op_ge:OpR X (compareOp .GtE) (rI0 fun i j=>.bl (decide (j≤i))):=opB0 fun _ _ _ _ _ _ _ q=>ge_int q
theorem qaq(b:Expr){op:CmpOp}(h:op≠.In:=by decide)(h2:op≠.NotIn:=by decide):behindInMarks op b=false:=by
 have e1:(op == CmpOp.In)=false:=by cases op<;>first | rfl | exact absurd rfl h
 have e2:(op == CmpOp.NotIn)=false:=by cases op<;>first | rfl | exact absurd rfl h2
 cases b<;>simp[behindInMarks,e1,e2]
theorem qbf{op:CmpOp}{r:R2}(ho:OpR X (compareOp op) r)(ha:PE X a ta)(hb:PE X b tb)(hm:behindInMarks op b=false):PE X (.Compare a [op] [b] pos) (tOp r ta tb):=by
 intro pins s σ H Q I h;exact wpAny_Compare1 (binT ha hb I h fun v u s2 x y H2 I2 rx ry q=>ho pins s2 σ H2 x y v u Q I2 rx ry q) hm
def qfy(t:TE):TT:=fun σ H Q=>t σ H fun x H'=>∃k,x=.bl k∧Q k H'
theorem qam{op:CmpOp}{r:R2}(ho:OpR X (compareOp op) r)(ha:PE X a ta)(hb:PE X b tb)(hm:behindInMarks op b=false):PT X (.Compare a [op] [b] pos) (qfy (tOp r ta tb)):=by
 intro pins s σ H Q I h;refine wpAny_isTrue_Compare1 (thn (ha pins s σ H _ I h) fun v s1 ⟨x,H1,I1,r1,q1⟩=>thn (hb pins s1 σ H1 _ I1 q1) fun u s2 ⟨y,H2,I2,r2,q2⟩ =>
  thn (ho pins s2 σ H2 x y v u _ I2 r1 r2 q2) fun c s3 ⟨z,H3,I3,r3,k,e,q3⟩=>?_) hm
 subst e;cases r3;exact wpAny_truthy_bool ⟨H3,I3,q3⟩
def qfE(r r':R2)(ta tb tc:TE):TE:=fun σ H Q=>ta σ H fun x H1=>tb σ H1 fun y H2=>r x y H2 fun z H3=>∃k,z=.bl k ∧
 (if k=true then tc σ H3 fun w' H4=>r' y w' H4 Q else Q (.bl false) H3)
theorem pe_chain{op op':CmpOp}{r r':R2}(ho:OpR X (compareOp op) r)(ho':OpR X (compareOp op') r')(ha:PE X a ta)(hb:PE X b tb)(hc:PE X c tc)(hm:lastMarks [op,op'] [b,c]=false:=by with_unfolding_all rfl):PE X (.Compare a [op,op'] [b,c] pos) (qfE r r' ta tb tc):=by
 intro pins s σ H Q I h;refine Compare_chain (thn (ha pins s σ H _ I h) fun v s1 ⟨x,H1,I1,r1,q1⟩=>chain_link (thn (hb pins s1 σ H1 _ I1 q1) fun u s2 ⟨y,H2,I2,r2,q2⟩ =>
  thn (ho pins s2 σ H2 x y v u _ I2 r1 r2 q2) fun d s3 ⟨z,H3,I3,r3,k,e,q3⟩=>?_)) hm
 subst e;cases r3;refine wpAny_truthy_bool ?_;cases k with
 | false=>exact ite_ff ⟨.bl false,H3,I3,rfl,q3⟩
 | true=>exact ite_tt (chain_last (thn (hc pins s3 σ H3 _ I3 q3) fun w' s4 ⟨z',H4,I4,r4,q4⟩=>ho' pins s4 σ H4 y z' u w' Q I4 r2 r4 q4))
theorem pt_chain{op op':CmpOp}{r r':R2}(ho:OpR X (compareOp op) r)(ho':OpR X (compareOp op') r')(ha:PE X a ta)(hb:PE X b tb)(hc:PE X c tc)(hm:lastMarks [op,op'] [b,c]=false:=by with_unfolding_all rfl):PT X (.Compare a [op,op'] [b,c] pos) (qfy (qfE r r' ta tb tc)):=by
 intro pins s σ H Q I h;refine isTrue_chain (thn (ha pins s σ H _ I h) fun v s1 ⟨x,H1,I1,r1,q1⟩=>test_link (thn (hb pins s1 σ H1 _ I1 q1) fun u s2 ⟨y,H2,I2,r2,q2⟩ =>
  thn (ho pins s2 σ H2 x y v u _ I2 r1 r2 q2) fun d s3 ⟨z,H3,I3,r3,k,e,q3⟩=>?_)) hm
 subst e;cases r3;refine wpAny_truthy_bool ?_;cases k with
 | false =>
   obtain⟨k',e',q'⟩:=q3
   cases e'
   exact ite_ff ⟨H3,I3,q'⟩
 | true =>
   refine ite_tt (test_last (thn (hc pins s3 σ H3 _ I3 q3) fun w' s4 ⟨z',H4,I4,r4,q4⟩=>thn (ho' pins s4 σ H4 y z' u w' _ I4 r2 r4 q4) fun d' s5 ⟨z2,H5,I5,r5,k2,e2,q5⟩=>?_))
   subst e2
   cases r5
   exact wpAny_truthy_bool ⟨H5,I5,q5⟩
theorem line63:(sizeLine:Nat)<2 ^ 63:=by rw[sizeLine_eq];decide
theorem op_add_str:OpR X (binaryOp .Add) (fun x y H Q=>∃i j,x=.str i∧y=.str j∧i.length+j.length≤sizeLine∧Q (.str (i++j)) H):=by
 intro pins s σ H x y v u Q I rx ry h;obtain⟨i,j,rfl,rfl,hz,q⟩:=h;obtain⟨t,rfl⟩:=rx;obtain⟨t',rfl⟩:=ry;exact add_str (fun t' tk=>⟨.str (i++j),H,I.tok _,⟨_,rfl⟩,q⟩) hz
theorem qdo{x:V}{us:List Value}(r:Vals [x] us):∃u,us=[u]∧RelV x u:=by
 cases r with
 | cons r1 r2=>cases r2;exact⟨_,rfl,r1⟩
theorem qfW{x y:V}{us:List Value}(r:Vals [x,y] us):∃u w',us=[u,w']∧RelV x u∧RelV y w':=by
 cases r with
 | cons r1 r2 =>
   cases r2 with
   | cons r3 r4=>cases r4;exact⟨_,_,rfl,r1,r3⟩
theorem qbk(hc:X.calm=true):qcd X (.builtin "max") (fun xs H Q=>∃i j,xs=[.int i,.int j]∧Q (.int (if j>i then j else i)) H):=by
 intro pins s σ H xs us Q I r h;obtain⟨i,j,rfl,q⟩:=h;obtain⟨u,w',rfl,⟨t,rfl⟩,⟨t',rfl⟩⟩:=qfW r;refine max_two_ints (I.ok.hd hc) fun h' tk k=>⟨_,H,I.kept k,?_,q⟩
 by_cases hj:j>i
 ·rw[if_pos hj,if_pos hj];exact⟨_,rfl⟩
 ·rw[if_neg hj,if_neg hj];exact⟨_,rfl⟩
theorem qbG(hc:X.calm=true):qcd X (.builtin "min") (fun xs H Q=>∃i j,xs=[.int i,.int j]∧Q (.int (if j<i then j else i)) H):=by
 intro pins s σ H xs us Q I r h;obtain⟨i,j,rfl,q⟩:=h;obtain⟨u,w',rfl,⟨t,rfl⟩,⟨t',rfl⟩⟩:=qfW r;refine min_two_ints (I.ok.hd hc) fun h' tk k=>⟨_,H,I.kept k,?_,q⟩
 by_cases hj:j<i
 ·rw[if_pos hj,if_pos hj];exact⟨_,rfl⟩
 ·rw[if_neg hj,if_neg hj];exact⟨_,rfl⟩
theorem call_int1:qcd X (.type "int") (fun xs H Q=>(∃i,xs=[.int i]∧Q (.int i) H)∨∃k,xs=[.bl k]∧Q (.int (if k then 1 else 0)) H):=by
 intro pins s σ H xs us Q I r h;rcases h with⟨i,rfl,q⟩ | ⟨k,rfl,q⟩
 ·obtain⟨u,rfl,t,rfl⟩:=qdo r;exact call_int_int ⟨.int i,H,I,⟨_,rfl⟩,q⟩
 ·obtain⟨u,rfl,r1⟩:=qdo r;cases r1;exact call_int_bool ⟨.int (if k then 1 else 0),H,I.tok _,⟨_,rfl⟩,q⟩
end
end L2
namespace L2
open PySem PySem.Spec PyProof.Rows
structure ObjM(h:Heap)(x dx C:Addr)(mA:Str→Option Value):Prop where
 obj:h.get? x=some (PySem.W.instObj C dx)
 ns:h.Ns1 dx mA
 ne:dx≠x
theorem lookIn_ns{h:Heap}{dx:Addr}{mA:Str→Option Value}(n:h.Ns1 dx mA):∃od,h.get? dx=some od∧∀name,PySem.W.lookIn name od=some (mA name):=by
 obtain⟨o,es,ep,ho,hd,hk,_,hm⟩:=n;refine⟨o,ho,fun name=>?_⟩;have e:=hm name;unfold nsFind findBy at e;rw[←Array.find?_toList]at e;unfold PySem.W.lookIn;rw[hd];dsimp only
 split
 ·rename_i y q;rw[q]at e;exact congrArg some e
 ·rename_i q;rw[q]at e;have a:es.toList.any (·.refKey)=false:=by
   rw[List.any_eq_false];intro y hy;obtain⟨z,t,hkey⟩:=hk y (Array.mem_toList_iff.mp hy);simp[DictEntry.refKey,hkey]
  have a':¬es.toList.any (·.refKey)=true:=by rw[a];exact Bool.false_ne_true
  rw[if_neg a'];exact congrArg some e
theorem ObjM.look{h:Heap}{x dx C:Addr}{mA:Str→Option Value}(I:ObjM h x dx C mA):∃od,PySem.W.InstAt h x (PySem.W.instObj C dx) C (some od)∧∀name,PySem.W.lookIn name od=some (mA name) :=
 let⟨od,ho,hl⟩:=lookIn_ns I.ns
 ⟨od,⟨I.obj,rfl,rfl,ho⟩,hl⟩
section
variable{P:Program}{w:World}{H H':Hp}{h h':Heap}{a C dx:Addr}{fs fs':List (Str×V)}
theorem ins_get(hok:HOk P w H h)(e:H a=some (.ins C dx fs)):∃mA,ObjM h a dx C mA∧(∀f,RelO (fs.lookup f) (mA f))∧PySem.Within mA (fs.map (·.1))∧fs.length≤1000∧H dx=some (.own a):=by
 obtain⟨d,z,ne,ob,mA,n,r,q⟩:=(show ObjOk P w H h a (.ins C dx fs)from hok a _ e);exact⟨mA,⟨ob,n,ne⟩,r,q,z,d⟩
end
structure Cls(K:PySem.W.Frag)(C:Addr):Prop where
 pg:PySem.W.plainGet K C Str.empty=true
 hd:PySem.W.hasDictIn K C=true
 po:PySem.W.plainOver K C=true
 sa:PySem.W.findIn K (.ref C) "__setattr__" = some (some (.builtin "object.__setattr__"))
theorem Cls.get{K:PySem.W.Frag}{C:Addr}(c:Cls K C)(f:Str):PySem.W.plainGet K C f=true:=c.pg
section
variable{X:Cx}{pins:List (Addr×Obj)}{σ:St}{H:Hp}{s:Shared}{A:Around}{E:Value→Shared→Prop}{Q:Value→Shared→Prop}{c:Value}{b:Bool}
inductive TyOf(K:PySem.W.Frag)(H:Hp):V→Value→Prop where
 | non:TyOf K H .non (.type "NoneType")
 | bl (x:Bool):TyOf K H (.bl x) (.type "bool")
 | int (i:Int):TyOf K H (.int i) (.type "int")
 | str (x:Str):TyOf K H (.str x) (.type "str")
 | flt (x:UInt64):TyOf K H (.flt x) (.type "float")
 | lst {a:Addr} {xs:List V} (e:H a=some (.lst xs)):TyOf K H (.ref a) (.type "list")
 | frz {a:Addr} {o:Obj} {xs:List V} (e:H a=some (.frz o (.lst xs))):TyOf K H (.ref a) (.type "list")
 | tup {a:Addr} {xs:List V} (e:H a=some (.tup xs)):TyOf K H (.ref a) (.type "tuple")
 | dK {a:Addr} {kvs:List (Key×V)} (e:H a=some (.dK kvs)):TyOf K H (.ref a) (.type "dict")
 | dT {a:Addr} {kvs:List (List Key×V)} (e:H a=some (.dT kvs)):TyOf K H (.ref a) (.type "dict")
 | ins {a C dx:Addr} {fs:List (Str×V)} (e:H a=some (.ins C dx fs)) (cl:Cls K C) (ha:PySem.W.findIn K (.ref C) "__class__" = some (some (.builtin "object.__class__")))
   (hn:PySem.W.specialIn K (.builtin "object.__class__") "__get__" = some (some (.builtin "getset_descriptor.__get__"))) (htk:PySem.W.takesIn K (.builtin "object.__class__")=some true)
   (hm:PySem.W.mroIn K C (.type "object")=some true):TyOf K H (.ref a) (.ref C)
theorem isinst_ok{x:V}{u t:Value}(I:Inv X pins σ H s)(rx:RelV x u)(ty:TyOf X.K H x t)(e:PySem.W.kitOne X.K t c=some b)(h:∀tk,Q (.bool b) {s with toks:=tk}) :
  wpAny (model X.prog X.w) A (call (.builtin "isinstance") [u,c]) Q E s:=by
 cases ty with
 | non=>cases(show u=Value.none from rx);exact PySem.W.kia_one PySem.W.kitx_none I.kIn True.intro e (fun z=>nomatch z) h
 | bl y=>cases(show u=Value.bool y from rx);exact PySem.W.kia_one PySem.W.kitx_bool I.kIn True.intro e (fun z=>nomatch z) h
 | int i=>obtain⟨t,q⟩:=(show∃t,u=Value.int i t from rx);cases q;exact PySem.W.kia_one PySem.W.kitx_int I.kIn True.intro e (fun z=>nomatch z) h
 | str y=>obtain⟨t,q⟩:=(show∃t,u=Value.str y t from rx);cases q;exact PySem.W.kia_one PySem.W.kitx_str I.kIn True.intro e (fun z=>nomatch z) h
 | flt y=>obtain⟨t,q⟩:=(show∃t,u=Value.float y t from rx);cases q;exact PySem.W.kia_one PySem.W.kitx_float I.kIn True.intro e (fun z=>nomatch z) h
 | @lst a xs ea =>
   cases(show u=Value.ref a from rx)
   obtain⟨_,_,n,_,h1⟩:=(show ObjOk X.prog X.w H s.heap a (.lst xs)from I.hok a _ ea)
   exact PySem.W.kia_one PySem.W.kitx_list I.kIn ⟨_,h1,rfl⟩ e (fun z=>nomatch z) h
 | @frz a ob xs ea =>
   cases(show u=Value.ref a from rx)
   obtain⟨_,_,_,n,_,h1⟩:=(show ObjOk X.prog X.w H s.heap a (.frz ob (.lst xs))from I.hok a _ ea)
   exact PySem.W.kia_one PySem.W.kitx_list I.kIn ⟨_,h1,rfl⟩ e (fun z=>nomatch z) h
 | @tup a xs ea =>
   cases(show u=Value.ref a from rx)
   obtain⟨_,_,_,p⟩:=(show ObjOk X.prog X.w H s.heap a (.tup xs)from I.hok a _ ea)
   obtain⟨o,h1,h2,_⟩:=p
   exact PySem.W.kia_one PySem.W.kitx_tuple I.kIn ⟨o,h1,h2⟩ e (fun z=>nomatch z) h
 | @dK a kvs ea =>
   cases(show u=Value.ref a from rx)
   obtain⟨_,_,vs,_,p⟩:=(show ObjOk X.prog X.w H s.heap a (.dK kvs)from I.hok a _ ea)
   obtain⟨o,es,ep,h1,h2,_⟩:=p
   exact PySem.W.kia_one PySem.W.kitx_dict I.kIn ⟨o,h1,h2.1⟩ e (fun z=>nomatch z) h
 | @dT a kvs ea =>
   cases(show u=Value.ref a from rx)
   obtain⟨_,_,xs,_,o,es,ep,h1,h2,_⟩:=(show ObjOk X.prog X.w H s.heap a (.dT kvs)from I.hok a _ ea)
   exact PySem.W.kia_one PySem.W.kitx_dict I.kIn ⟨o,h1,h2.1⟩ e (fun z=>nomatch z) h
 | @ins a C dx fs ea cl ha hn htk hm =>
   cases(show u=Value.ref a from rx)
   obtain⟨mA,O,_⟩:=ins_get I.hok ea
   obtain⟨od,J,_⟩:=O.look
   exact PySem.W.kia_one (PySem.W.kitx_own (cl.get _) cl.hd ha hn htk hm) I.kIn J e (fun z=>nomatch z) h
end
end L2
namespace L2
open PySem PySem.Spec PyProof.Rows
structure Room(k:Nat)(A:Around):Prop where
 hd:A.handled=none
 dp:A.depth+3*k+5<recursionLimit
 un:A.units+16*k+200<cLine
theorem Room.mono{j k:Nat}{A:Around}(r:Room k A)(h:j≤k):Room j A:=⟨r.hd,by have:=r.dp;omega,by have:=r.un;omega⟩
theorem Room.deeper{k:Nat}{A:Around}(r:Room (k+1) A)(env:Env):Room k (A.deeper env) :=
 ⟨r.hd,by have:=r.dp;show A.depth+1+3*k+5<_;omega,by have:=r.un;show A.units+3+16*k+200<_;omega⟩
theorem Room.depth{k:Nat}{A:Around}(r:Room k A):A.depth<recursionLimit:=by have:=r.dp;omega
theorem Room.units{k:Nat}{A:Around}(r:Room k A):A.units+64<cLine:=by have:=r.un;omega
def tNil:TA:=fun _ H Q=>Q [] H
def qcH(ta:TE)(tr:TA):TA:=fun σ H Q=>ta σ H fun x H1=>tr σ H1 fun xs H2=>Q (x::xs) H2
section
variable{X:Cx}{e:Expr}{es:List Expr}{te:TE}{t:TA}{pos:Pos}
theorem pa_nil:PA X [] tNil:=fun _ _ _ _ H Q I h=>Calls.spliced_nil ⟨[],H,I,.nil,h⟩
theorem qaa(ha:PE X e te)(hr:PA X es t)(hs:starEach (e::es) X.env=(false,eval e X.env)::starEach es X.env:=by rfl):PA X (e::es) (qcH te t):=by
 intro pos pins s σ H Q I h;rw[hs];show wpAny _ _ (spliced ((false,eval e X.env)::backTo pos (starEach es X.env))) _ _ s;refine Calls.spliced_cons (thn (ha pins s σ H _ I h) fun u s1 ⟨x,H1,I1,r1,q1⟩=>?_);exact thn (hr pos pins s1 σ H1 _ I1 q1) fun us s2 ⟨xs,H2,I2,r2,q2⟩=>⟨x::xs,H2,I2,.cons r1 r2,q2⟩
def tTup(t:TA):TE:=fun σ H Q=>t σ H fun xs H1=>xs.length≤sizeLine∧∀p,H1 p=none→Q (.ref p) (upd H1 p (.tup xs))
def tLst(t:TA):TE:=fun σ H Q=>t σ H fun xs H1=>xs.length≤sizeLine∧∀p,H1 p=none→Q (.ref p) (upd H1 p (.lst xs))
theorem qaO{x1}(h:PA X es t):PE X (.Tuple es x1 pos) (tTup t):=by
 intro pins s σ H Q I hq;refine wpAny_Tuple_spliced (thn (h pos pins s σ H _ I hq) fun us s1 ⟨xs,H1,I1,r,z,q⟩=>⟨by rw[←r.length];exact z,?_⟩);have hf:H1 s1.heap.objs.size=none:=I1.hok.fresh (Nat.le_refl _);refine⟨.ref s1.heap.objs.size,upd H1 s1.heap.objs.size (.tup xs),I1.laid (t':=s1.toks) (fun b u e=>Heap.get?_push_of_some _ e) (Nat.le_refl _) ?_,rfl,q _ hf⟩;exact⟨z,us,r,⟨_,Heap.get?_push_size _ rfl,rfl,_,rfl⟩⟩
theorem qaB(h:PA X es t):PE X (.List es pos) (tLst t):=by
 intro pins s σ H Q I hq;refine wpAny_List_spliced (thn (h pos pins s σ H _ I hq) fun us s1 ⟨xs,H1,I1,r,z,q⟩=>⟨by rw[←r.length];exact z,?_⟩);have hf:H1 s1.heap.objs.size=none:=I1.hok.fresh (Nat.le_refl _);refine⟨.ref s1.heap.objs.size,upd H1 s1.heap.objs.size (.lst xs),I1.laid (t':=s1.toks) (fun b u e=>Heap.get?_push_of_some _ e) (Nat.le_refl _) ?_,rfl,q _ hf⟩;exact⟨z,us,0,r,Heap.get?_push_size _ rfl⟩
end
abbrev Sp:=List V→Hp→VK→XK→Prop
abbrev CXT:=List Env→Hp→Shared→XK→Value→Shared→Prop
structure Env0(P:Program)(w:World)(K:PySem.W.Frag)(mg:Str→Option Value)(base:Heap)(A:Around)(outer:List Env)(s:Shared)(H:Hp):Prop where
 frames:A.frames=some outer
 mod:Mod K mg base
 bs:∀b o,base.get? b=some o→s.heap.get? b=some o∧H b=none
 bsz:base.objs.size≤s.heap.objs.size
 funs:s.heap.FunFrames base outer
 frf:∀b∈frs outer,H b=none
 hok:HOk P w H s.heap
 bare:AllBare s.gens
def CE(outer:List Env)(P:Program)(w:World)(H:Hp)(s:Shared)(Q:VK)(u:Value)(s':Shared):Prop :=
 ∃v H',s'.os=s.os∧AllBare s'.gens∧Un (frs outer) [] H H' s.heap s'.heap∧HOk P w H' s'.heap∧RelV v u∧Q v H'
def CR(CX:CXT)(outer:List Env)(P:Program)(w:World)(H:Hp)(s:Shared)(Q:VK)(E:XK)(r:Result)(s':Shared):Prop :=
 match r with
 | .ok (.ret u)=>CE outer P w H s Q u s'
 | .ok _=>False
 | .error e=>CX outer H s E e s'
structure FnOk(P:Program)(w:World)(K:PySem.W.Frag)(mg:Str→Option Value)(base:Heap)(CX:CXT)(k:Nat)(f:Addr)(fd:FuncData)(ps:List Str)(sp:Sp):Prop where
 len:∀vs H Q E,sp vs H Q E→vs.length=ps.length
 run:∀(A:Around) (outer:List Env) (s:Shared) (H:Hp) (args:Args) (us:List Value) (vs:List V) (Q:VK) (E:XK),Room k A→Env0 P w K mg base A outer s H→BindsTo s fd args (ps.zip us)→Vals vs us→sp vs H Q E →
  codeAny (model P w) A (.call (.ref f) args) (CR CX outer P w H s Q E) s
section
variable{X:Cx}{pins:List (Addr×Obj)}{σ:St}{H:Hp}{s s':Shared}
theorem Inv.env0(I:Inv X pins σ H s):Env0 X.prog X.w X.K X.mg X.base X.A X.stack s H :=
 ⟨I.ok.frames,I.ok.mod,I.bs,Nat.le_trans I.ok.bsz I.sz,I.stack,I.stkFree,I.hok,I.bare⟩
theorem Inv.after{Q:VK}{u:Value}(I:Inv X pins σ H s)(h:CE X.stack X.prog X.w H s Q u s'):EP X pins σ Q u s':=by
 obtain⟨v,H',os,bare,un,hok,r,q⟩:=h;obtain⟨hh,g,d,t,os'⟩:=s';obtain rfl:os'=s.os:=os;exact⟨v,H',I.call (h':=hh) (g':=g) (d':=d) (t':=t) (ch:=[]) un hok bare (fun b z=>absurd z (by simp)),r,q⟩
end
def qfT(sp:Sp)(dvs:List V)(E:XK)(t:TA):TE:=fun σ H Q=>t σ H fun vs H1=>sp (vs++dvs) H1 Q E
def Binds(K:PySem.W.Frag)(fd:FuncData)(ps:List Str)(ds:List Value):Prop :=
 ∀(s:Shared) (us:List Value),K.In s.heap→(us++ds).length=ps.length→BindsTo s fd ⟨us,[]⟩ (ps.zip (us++ds))
theorem Binds.all{K:PySem.W.Frag}{fd:FuncData}{ps:List Str}(h:∀us:List Value,us.length=ps.length→bindArgs fd ⟨us,[]⟩=pure (ps.zip us)):Binds K fd ps []:=fun s us _ hl=>by
 rw[List.append_nil]at hl⊢;exact .of_eq (h us hl)
def qdF(CX:CXT)(X:Cx)(E:XK):Prop:=∀(pins:List (Addr×Obj)) (σ:St) (H:Hp) (s:Shared) (e:Value) (s':Shared),Inv X pins σ H s→CX X.stack H s E e s'→X.xe e s'
section
variable{X:Cx}{CX:CXT}{k:Nat}{f C:Addr}{fd:FuncData}{ps:List Str}{sp:Sp}{dvs:List V}{ds:List Value}{E:XK}{x m:Str}{p pos apos:Pos}{e o:Expr}{es:List Expr}{ta:TE}{t:TA}
theorem run_fn{pins:List (Addr×Obj)}{σ:St}{H:Hp}{s:Shared}{Q:VK}{us:List Value}{vs:List V}(F:FnOk X.prog X.w X.K X.mg X.base CX k f fd ps sp)(hr:Room k X.A)(hb:Binds X.K fd ps ds)(hd:Vals dvs ds)(hx:qdF CX X E)(I:Inv X pins σ H s)(r:Vals vs us)(h:sp (vs++dvs) H Q E):wpAny (model X.prog X.w) X.A (call (.ref f) us) (EP X pins σ Q) X.xe s:=by
 have r2:Vals (vs++dvs) (us++ds):=r.append hd;have hl:(us++ds).length=ps.length:=by rw[←r2.length];exact F.len _ _ _ _ h
 refine wpAny_call (codeAny_mono (F.run X.A X.stack s H ⟨us,[]⟩ (us++ds) (vs++dvs) Q E hr I.env0 (hb s us I.kIn hl) r2 h) fun r s' hq=>?_);cases r with
 | error e=>exact hx pins σ H s e s' I hq
 | ok fl =>
   cases fl with
   | ret u=>exact I.after hq
   | next=>exact False.elim hq
   | brk=>exact False.elim hq
   | cont=>exact False.elim hq
theorem pe_call(F:FnOk X.prog X.w X.K X.mg X.base CX k f fd ps sp)(hr:Room k X.A)(hg:Gl X x)(hm:X.mg x=some (.ref f))(hk:PySem.W.keepIn X.K (.ref f)=true)(hb:Binds X.K fd ps ds)(hd:Vals dvs ds)(hx:qdF CX X E)(ha:PA X (e::es) t)(hdb:(x == ("__debug__" : Str))=false:=by decide)(he:starEach (e::es) X.env=(false,eval e X.env)::starEach es X.env:=by rfl)(hpl:(backTo pos (starEach es X.env)).any (·.1)=false:=by rfl) :
  PE X (.Call (.Name x p) (e::es) [] pos) (qfT sp dvs E t):=by
 intro pins s σ H Q I h;refine wpAny_Call_Name_kw (qed I hg hm ?_ hdb);refine PySem.W.callWith_K (h₀:=X.base) I.ok.mod.kin hk (thn (ha pos pins s σ H _ I h) fun us s1 ⟨vs,H1,I1,r,q⟩=>⟨I1.kIn,?_⟩) he hpl;exact run_fn F hr hb hd hx I1 r q
end
structure FnScope(N P:List Str)(sc:Scope):Prop where
 kind:sc.kind=.function
 co:sc.isCoroutine=false
 gen:sc.isGenerator=false
 nd:N.Nodup
 pre:N.take P.length=P
 par:∀x∈P,sc.names.lookup x=some .local∨sc.names.lookup x=some .cell
 nofree:∀y∈sc.names,y.2≠.free
theorem qd6{kindOf:Str→Option NameKind}{x:Str}:∀{binds:List (Str×Value)} {m:Str→Option Value},(∀v,(x,v)∉binds)→bindL kindOf binds m x=m x
 | [],_,_=>rfl
 | (n, v) :: r, m, h => by
   unfold bindL
   rw[qd6 fun w hw=>h w (List.mem_cons_of_mem _ hw)]
   split
   · have:x≠n:=by rintro rfl;exact h v List.mem_cons_self
     simp[this]
   · rfl
theorem qdH{kindOf:Str→Option NameKind}{x:Str}:∀{binds:List (Str×Value)} {m:Str→Option Value},(∀v,(x,v)∉binds)→bindC kindOf binds m x=m x
 | [],_,_=>rfl
 | (n, v) :: r, m, h => by
   unfold bindC
   rw[qdH fun w hw=>h w (List.mem_cons_of_mem _ hw)]
   split
   · rfl
   · have:x≠n:=by rintro rfl;exact h v List.mem_cons_self
     simp[this]
theorem qd4{kindOf:Str→Option NameKind}{x:Str}{v:Value}:∀{P:List Str} {vs:List Value} {i:Nat} {m:Str→Option Value},P.Nodup→P[i]?=some x→vs[i]?=some v→kindOf x=some .local →
  bindL kindOf (P.zip vs) m x=some v
 | [],_,_,_,_,h,_,_=>by simp at h
 | _::_,[],_,_,_,_,h,_=>by simp at h
 | p :: P, w :: vs, 0, m, nd, h1, h2, hk => by
   simp at h1 h2;subst h1;subst h2
   show bindL kindOf ((p,w)::P.zip vs) m p=_
   unfold bindL
   rw[qd6 fun v hv=>(List.nodup_cons.mp nd).1 (List.of_mem_zip hv).1,if_pos hk]
   simp
 | p :: P, w :: vs, i + 1, m, nd, h1, h2, hk => by
   show bindL kindOf ((p,w)::P.zip vs) m x=_
   unfold bindL
   exact qd4 (i:=i) (List.nodup_cons.mp nd).2 (by simpa using h1) (by simpa using h2) hk
theorem qdE{kindOf:Str→Option NameKind}{x:Str}{v:Value}:∀{P:List Str} {vs:List Value} {i:Nat} {m:Str→Option Value},P.Nodup→P[i]?=some x→vs[i]?=some v→kindOf x≠some .local →
  bindC kindOf (P.zip vs) m x=some v
 | [],_,_,_,_,h,_,_=>by simp at h
 | _::_,[],_,_,_,_,h,_=>by simp at h
 | p :: P, w :: vs, 0, m, nd, h1, h2, hk => by
   simp at h1 h2;subst h1;subst h2
   show bindC kindOf ((p,w)::P.zip vs) m p=_
   unfold bindC
   rw[qdH fun v hv=>(List.nodup_cons.mp nd).1 (List.of_mem_zip hv).1,if_neg hk]
   simp
 | p :: P, w :: vs, i + 1, m, nd, h1, h2, hk => by
   show bindC kindOf ((p,w)::P.zip vs) m x=_
   unfold bindC
   exact qdE (i:=i) (List.nodup_cons.mp nd).2 (by simpa using h1) (by simpa using h2) hk
def qdm(N:List Str)(vs:List V):St:=vs.map some++List.replicate (N.length-vs.length) none
def cxOf(CX:CXT)(P:Program)(w:World)(K:PySem.W.Frag)(mg:Str→Option Value)(base:Heap)(N:List Str)(qual:Str)(scope:Scope)(f:Addr)(cd:Value)(A:Around)(outer:List Env)(s:Shared)(H:Hp)(E:XK):Cx where
 prog:=P
 w:=w
 K:=K
 mg:=mg
 base:=base
 A:=A.deeper (envOfC qual scope s.heap.objs.size f cd)
 N:=N
 s₀:=s
 H₀:=H
 env:=envOfC qual scope s.heap.objs.size f cd
 outer:=outer
 stack:=envOfC qual scope s.heap.objs.size f cd::outer
 ex:=[]
 calm:=true
 fn:=fun _=>true
 pn:=[]
 xe:=fun e s'=>wpAny (model P w) (A.deeper (envOfC qual scope s.heap.objs.size f cd)) (leaving (envOfC qual scope s.heap.objs.size f cd) e) (fun _ s''=>CX outer H s E e s'') (fun e' s''=>CX outer H s E e' s'') s'
theorem qel{sc:Scope}{n:Nat}{x:Str}(h:sc.names.lookup x=some .cell):∃c,(cellsFrom n sc.names []).lookup x=some c:=by
 have q:=PySem.W.cellsFrom_some sc.names n [] (.inl h);exact Option.isSome_iff_exists.mp q
theorem inv_start{CX:CXT}{P:Program}{w:World}{K:PySem.W.Frag}{mg:Str→Option Value}{base:Heap}{N ps:List Str}{qual:Str}{scope:Scope}{f:Addr}{cd:Value}{A:Around}{outer:List Env}{s s1:Shared}{H:Hp}{E:XK}{us:List Value}{vs:List V}(S:FnScope N ps scope)(hd:A.handled=none)(e0:Env0 P w K mg base A outer s H)(hl:vs.length=ps.length)(r:Vals vs us)(x:InCallC s s.heap.objs.size (bindL (envOfC qual scope s.heap.objs.size f cd).kindOf (ps.zip us) fun _=>none) (cellsFrom (s.heap.objs.size+1) scope.names []) (bindC (envOfC qual scope s.heap.objs.size f cd).kindOf (ps.zip us) fun _=>none) s1) :
  Inv (cxOf CX P w K mg base N qual scope f cd A outer s H E) [] (qdm N vs) H s1:=by
 have hpl:ps.length≤N.length:=by have:=congrArg List.length S.pre;rw[List.length_take]at this;omega
 obtain⟨h1,tk,rfl,hk⟩:=x.done;have noA:∀b:Addr,b∉(cxOf CX P w K mg base N qual scope f cd A outer s H E).ex:=fun b z=>absurd (show b∈([]:List Addr)from z) (by simp)
 refine⟨⟨e0.mod,S.kind,rfl,rfl,Nat.le_refl _,fun y z c h1 h2=>?_,fun y hy=>?_,fun y c _ h=>?_,fun _=>hd,Around.frames_deeper e0.frames,.inr ⟨rfl,rfl⟩,fun b z=>absurd z (noA b),e0.bs,e0.bsz,fun b _ _=>noA b,fun b z=>absurd z (noA b),e0.funs,e0.frf⟩,
  rfl,e0.bare,Un.kept hk,⟨_,x.toInCall.ns,fun i y v h1 h2 h3=>?_⟩,fun y c h=>⟨_,x.cell y c h⟩,e0.hok.fresh (Nat.le_refl _),fun y c h=>?_,fun p hp=>absurd (show p∈([]:List (Addr×Obj))from hp) (by simp),e0.hok.kept hk,?_⟩
 ·exact name_of_addr x.apart (PySem.mem_of_lookup h1) (PySem.mem_of_lookup h2)
 ·have hy:scope.names.lookup y=some .cell∨scope.names.lookup y=some .free:=hy;rcases hy with hy | hy
  ·exact qel hy
  ·exact absurd rfl (S.nofree _ (PySem.mem_of_lookup hy))
 ·exact Nat.le_of_lt (x.above y c (PySem.mem_of_lookup h))
 ·have hi:i<vs.length:=by
   unfold qdm at h2
   by_cases hi:i<vs.length
   ·exact hi
   ·rw[List.getElem?_append_right (by simpa using hi)]at h2;rw[List.getElem?_replicate]at h2
    split at h2<;>cases h2
  have ha:vs[i]?=some v:=by
   unfold qdm at h2;rw[List.getElem?_append_left (by simpa using hi),List.getElem?_map]at h2;cases e:vs[i]? with
   | none=>rw[e]at h2;cases h2
   | some a=>rw[e]at h2;cases h2;rfl
  obtain⟨u,hu,rv⟩:=r.get ha;have hp:ps[i]?=some y:=by
   rw[←S.pre,List.getElem?_take_of_lt (by omega)];exact h1
  have ndP:ps.Nodup:=by rw[←S.pre];exact S.nd.sublist (List.take_sublist _ _)
  refine⟨u,rv,?_⟩;rcases S.par y (List.mem_of_getElem? hp)with k | k
  ·exact .inl ⟨k,qd4 ndP hp hu k⟩
  ·obtain⟨c,e⟩:=qel (n:=s.heap.objs.size+1) k;refine .inr ⟨.inl k,c,e,?_⟩;have q:=x.cell y c e;rw[qdE ndP hp hu (by show scope.names.lookup y≠_;rw[k];decide)]at q;exact q
 ·exact e0.hok.fresh (Nat.le_of_lt (x.above y c (PySem.mem_of_lookup h)))
 ·unfold qdm;show _=N.length;rw[List.length_append,List.length_map,List.length_replicate];omega
theorem qf1{CX:CXT}{P:Program}{w:World}{K:PySem.W.Frag}{mg:Str→Option Value}{base:Heap}{k:Nat}{f:Addr}{name qual:Str}{params:Arguments}{body:List Stmt}{scope:Scope}{dV kV doc pm cdv ct oc:Value}{an od:Option Addr}{osl:Array (Option Value)}{N ps:List Str}{sp:Sp}(lk:K.lookup f=some ⟨oc,od,.func (PySem.W.fnOf name qual params body scope dV kV doc pm an cdv ct),osl⟩)(hcd:PySem.W.codeIn K cdv qual=true)(S:FnScope N ps scope)(len:∀vs H Q E,sp vs H Q E→vs.length=ps.length)(hbody:∀(A:Around) (outer:List Env) (s:Shared) (H:Hp) (vs:List V) (Q:VK) (E:XK),Room k (A.deeper (envOfC qual scope s.heap.objs.size f cdv))→sp vs H Q E →
   ∃t,PSs (cxOf CX P w K mg base N qual scope f cdv A outer s H E) body t∧t {nx:=fun _ H'=>Q .non H',rt:=Q} (qdm N vs) H) :
  FnOk P w K mg base CX (k+1) f (PySem.W.fnOf name qual params body scope dV kV doc pm an cdv ct) ps sp:=by
 refine⟨len,fun A outer s H args us vs Q E hr e0 hb r hsp=>?_⟩;have hl:=len _ _ _ _ hsp;have KX:K.In s.heap:=e0.mod.kin.keeps fun b o e=>(e0.bs b o e).1
 have lim:s.heap.NoLimit:=e0.mod.nolimit.keeps fun b o e=>(e0.bs b o e).1
 have hkind:∀y∈ps.zip us,scope.names.lookup y.1=some .local∨(scope.names.lookup y.1=some .cell∧((cellsFrom (s.heap.objs.size+1) scope.names []).lookup y.1).isSome=true):=fun⟨n,v⟩ hy=>by
  rcases S.par n (List.of_mem_zip hy).1 with q | q
  ·exact .inl q
  ·exact .inr ⟨q,PySem.W.cellsFrom_some _ _ _ (.inl q)⟩
 refine codeAny_call_function hr.depth (KX _ _ lk) rfl S.co S.gen rfl (PySem.W.codeRec_of KX hcd) (hb _ _ _ _ ?_);refine wpAny_newFunctionEnv_cells S.kind hkind fun env he s1 x=>?_
 subst he;refine⟨lim.keeps x.toInCall.keep,codeAny_func ?_⟩;obtain⟨t,ht,hq⟩:=hbody A outer s H vs Q E (hr.deeper _) hsp;have I:Inv (cxOf CX P w K mg base N qual scope f cdv A outer s H E) [] (qdm N vs) H s1:=inv_start S hr.hd e0 hl r x;refine wpAny_mono (ht [] s1 (qdm N vs) H _ I hq) (fun fl s' hs=>?_) fun e s' hs=>hs
 have fin:∀{σ':St} {H':Hp} {v:V} {u:Value},Inv (cxOf CX P w K mg base N qual scope f cdv A outer s H E) [] σ' H' s'→RelV v u→Q v H'→CE outer P w H s Q u s' :=
  fun {σ' H' v u} J rv q=>⟨v,H',J.os,J.bare,J.base,J.hok,rv,q⟩
 cases fl with
 | ret u =>
   obtain⟨v,σ',H',J,rv,q⟩:=hs
   exact fin J rv q
 | next =>
   obtain⟨σ',H',J,q⟩:=hs
   exact fin (v:=V.non) (u:=Value.none) J rfl q
 | brk =>
   obtain⟨_,_,_,q⟩:=hs
   exact False.elim q
 | cont =>
   obtain⟨_,_,_,q⟩:=hs
   exact False.elim q
end L2
namespace L2
open PySem PySem.Spec PyProof.Rows
section
variable{X:Cx}{x:Str}{p pos:Pos}{e:Expr}{es:List Expr}{t:TA}{id T:String}{r:List V→Hp→VK→Prop}
def tCB(r:List V→Hp→VK→Prop)(t:TA):TE:=fun σ H Q=>t σ H fun vs H1=>r vs H1 Q
theorem qal(hc:qcd X (.builtin id) r)(hg:Gl X x)(hm:X.mg x=none)(hv:bootBuiltins x=some (.builtin id))(ha:PA X (e::es) t)(hn:x ≠ "__name__":=by decide)(hdb:(x == ("__debug__" : Str))=false:=by decide)(he:starEach (e::es) X.env=(false,eval e X.env)::starEach es X.env:=by rfl)(hpl:(backTo pos (starEach es X.env)).any (·.1)=false:=by rfl):PE X (.Call (.Name x p) (e::es) [] pos) (tCB r t):=by
 intro pins s σ H Q I h;refine wpAny_Call_Name_kw (qcF I hg hm hv ?_ hn hdb);exact PyProof.Rows.callWith_builtin1 (thn (ha pos pins s σ H _ I h) fun us s1 ⟨vs,H1,I1,r1,q1⟩=>hc pins s1 σ H1 vs us Q I1 r1 q1) he hpl
theorem qaJ(hc:qcd X (.type T) r)(hg:Gl X x)(hm:X.mg x=none)(hv:bootBuiltins x=some (.type T))(ha:PA X (e::es) t)(hn:x ≠ "__name__":=by decide)(hdb:(x == ("__debug__" : Str))=false:=by decide)(he:starEach (e::es) X.env=(false,eval e X.env)::starEach es X.env:=by rfl)(hpl:(backTo pos (starEach es X.env)).any (·.1)=false:=by rfl):PE X (.Call (.Name x p) (e::es) [] pos) (tCB r t):=by
 intro pins s σ H Q I h;refine wpAny_Call_Name_kw (qcF I hg hm hv ?_ hn hdb);exact PyProof.Rows.callWith_type1 (thn (ha pos pins s σ H _ I h) fun us s1 ⟨vs,H1,I1,r1,q1⟩=>hc pins s1 σ H1 vs us Q I1 r1 q1) he hpl
end
end L2
namespace HT
open PySem PyProof.Rows
section
variable{prog:Program}{w:World}{A:Around}{E:Value→Shared→Prop}{s:Shared}
def sIx(n d:Nat):Option Int→Nat
 | none=>d
 | some v=>if v<0 then(v+(n:Int)).toNat else min v.toNat n
theorem sIx_none(n d:Nat):sIx n d none=d:=rfl
theorem sIx_nat(n d k:Nat):sIx n d (some (k:Int))=min k n:=by
 show(if(k:Int)<0 then((k:Int)+(n:Int)).toNat else min (k:Int).toNat n)=min k n;rw[if_neg (by omega),Int.toNat_natCast]
end
end HT
namespace L2
open PySem PySem.Spec PyProof.Rows
abbrev TO:=St→Hp→(Option Int→Hp→Prop)→Prop
def PO(X:Cx)(e:Option Expr)(t:TO):Prop :=
 ∀(pins:List (Addr×Obj)) (s:Shared) (σ:St) (H:Hp) (Q:Option Int→Hp→Prop),Inv X pins σ H s→t σ H Q →
  wpAny (model X.prog X.w) X.A (evalPart e X.env) (fun u s'=>∃o H',Inv X pins σ H' s'∧IsPart u o∧Q o H') X.xe s
def tNoPart:TO:=fun _ H Q=>Q none H
def tPart(t:TE):TO:=fun σ H Q=>t σ H fun x H1=>∃i,x=.int i∧Q (some i) H1
section
variable{X:Cx}{e:Expr}{te:TE}{lo hi:Option Expr}{tl th:TO}{pos p2:Pos}
theorem po_none:PO X none tNoPart:=by
 intro pins s σ H Q I h;rw[evalPart_none];exact wpAny_pure ⟨none,H,I,.none,h⟩
theorem qcx(h:PE X e te):PO X (some e) (tPart te):=by
 intro pins s σ H Q I hw;rw[evalPart_some];refine thn (h pins s σ H _ I hw) fun u s1 ⟨x,H1,I1,r1,q1⟩=>?_
 obtain⟨i,rfl,q⟩:=q1;obtain⟨t,rfl⟩:=r1;exact⟨some i,H1,I1,.int i t,q⟩
def SlR(X:Cx)(r:V→Option Int→Option Int→Hp→VK→Prop):Prop :=
 ∀(pins:List (Addr×Obj)) (s:Shared) (σ:St) (H:Hp) (x:V) (v vl vu:Value) (lo hi:Option Int) (sl:Addr) (Q:VK),Inv X pins σ H s→RelV x v→s.heap.IsSliceOf sl vl vu .none→IsPart vl lo→IsPart vu hi→r x lo hi H Q →
  ∃T id,typeLookup (.type T) "__getitem__" = pure (some (.builtin id))∧s.TypeIs v T∧wpAny (model X.prog X.w) X.A (getItem v (.ref sl)) (EP X pins σ Q) X.xe s
def tSl(r:V→Option Int→Option Int→Hp→VK→Prop)(te:TE)(tl th:TO):TE:=fun σ H Q=>te σ H fun x H1=>tl σ H1 fun l H2=>th σ H2 fun u H3=>r x l u H3 Q
theorem qco{r:V→Option Int→Option Int→Hp→VK→Prop}(hr:SlR X r)(he:PE X e te)(hl:PO X lo tl)(hu:PO X hi th):PE X (.Subscript e (.Slice lo hi none p2) pos) (tSl r te tl th):=by
 intro pins s σ H Q I h;refine Subscript_ (thn (he pins s σ H _ I h) fun v s1 ⟨x,H1,I1,r1,q1⟩=>?_);refine wpAny_Slice (thn (hl pins s1 σ H1 _ I1 q1) fun vl s2 ⟨l,H2,I2,pl,q2⟩=>thn (hu pins s2 σ H2 _ I2 q2) fun vu s3 ⟨u,H3,I3,pu,q3⟩=>?_);rw[evalPart_none];refine wpAny_pure ?_;have I4:Inv X pins σ H3 {s3 with heap:=s3.heap.push {cls:=.type "slice",data:=.fields #[vl,vu,.none]}}:=I3.kept (t':=s3.toks) fun b ob q=>Heap.get?_push_of_some _ q
 obtain⟨T,id,hT,ht,hg⟩:=hr pins {s3 with heap:=s3.heap.push {cls:=.type "slice",data:=.fields #[vl,vu,.none]}} σ H3 x v vl vu l u s3.heap.objs.size Q I4 r1 (Heap.IsSliceOf.new ..) pl pu q3;show wpAny (model X.prog X.w) X.A (subscriptTail e (.Slice lo hi none p2) v (.ref s3.heap.objs.size)) (EP X pins σ Q) X.xe {s3 with heap:=s3.heap.push {cls:=.type "slice",data:=.fields #[vl,vu,.none]}};exact tail_any (ops:=[.ref s3.heap.objs.size,v]) ht hT hg (by with_unfolding_all rfl)
def cutV(xs:List V)(lo hi:Option Int):List V:=(xs.drop (HT.sIx xs.length 0 lo)).take (HT.sIx xs.length xs.length hi-HT.sIx xs.length 0 lo)
theorem cutV_length(xs:List V)(lo hi:Option Int):(cutV xs lo hi).length≤xs.length:=by
 unfold cutV;rw[List.length_take,List.length_drop];omega
end
end L2
namespace L2
open PySem PySem.Spec PyProof.Rows
def ixN(n:Nat)(i:Int):Option Nat:=if 0≤i then(if i<n then some i.toNat else none)else if -(n:Int)≤i then some (i+n).toNat else none
def atI{α:Type}(xs:List α)(i:Int):Option α:=(ixN xs.length i).bind fun j=>xs[j]?
theorem qe0{n:Nat}{i:Int}{j:Nat}(h:ixN n i=some j):seqIndex? i n=some j∧j<n∧-(n:Int)≤i∧i<n:=by
 unfold ixN at h
 by_cases h0:0≤i
 ·rw[if_pos h0]at h
  by_cases h1:i<n
  ·rw[if_pos h1]at h;have e:i.toNat=j:=Option.some.inj h;exact⟨by rw[seqIndex_of h0 h1,e],by omega,by omega,h1⟩
  ·rw[if_neg h1]at h;cases h
 ·rw[if_neg h0]at h
  by_cases h1:-(n:Int)≤i
  ·rw[if_pos h1]at h;have e:(i+n).toNat=j:=Option.some.inj h;exact⟨by rw[seqIndex_neg (by omega) h1,e],by omega,h1,by omega⟩
  ·rw[if_neg h1]at h;cases h
theorem qea{α:Type}{xs:List α}{i:Int}{v:α}(h:atI xs i=some v):∃j,seqIndex? i xs.length=some j∧xs[j]?=some v∧j<xs.length∧-(xs.length:Int)≤i∧i<xs.length:=by
 unfold atI at h;cases e:ixN xs.length i with
 | none=>rw[e]at h;cases h
 | some j =>
   rw[e]at h
   obtain⟨h1,h2,h3,h4⟩:=qe0 e
   exact⟨j,h1,h,h2,h3,h4⟩
theorem qa6{α:Type}{xs:List α}{j:Nat}{v:α}(h:xs[j]?=some v):atI xs (j:Int)=some v:=by
 have hj:j<xs.length:=(List.getElem?_eq_some_iff.mp h).1;have e:ixN xs.length (j:Int)=some j:=by
  unfold ixN;rw[if_pos (by omega),if_pos (by omega)];simp
 unfold atI;rw[e];exact h
def PlainIx(b:Expr):Prop:=∀o i,subscripted b false o i=operate [o,i] (getItem o i)
def IxR(X:Cx)(r:R2):Prop :=
 ∀(value slice:Expr) (pins:List (Addr×Obj)) (s:Shared) (σ:St) (H:Hp) (x y:V) (v u:Value) (Q:VK),Inv X pins σ H s→RelV x v→RelV y u→r x y H Q →
  subscripted slice false v u=operate [v,u] (getItem v u)→wpAny (model X.prog X.w) X.A (subscriptTail value slice v u) (EP X pins σ Q) X.xe s
def MtR(X:Cx)(id:String)(r:V→List V→Hp→VK→Prop):Prop :=
 ∀(pins:List (Addr×Obj)) (s:Shared) (σ:St) (H:Hp) (x:V) (xs:List V) (v:Value) (us:List Value) (Q:VK),Inv X pins σ H s→RelV x v→Vals xs us→r x xs H Q →
  wpAny (model X.prog X.w) X.A (call (.builtin id) (v::us)) (EP X pins σ Q) X.xe s
section
variable{X:Cx}{a b:Expr}{ta tb:TE}{pos:Pos}
theorem qaj{r:R2}(hr:IxR X r)(ha:PE X a ta)(hb:PE X b tb)(hs:PlainIx b):PE X (.Subscript a b pos) (tOp r ta tb):=by
 intro pins s σ H Q I h;exact Subscript_ (binT ha hb I h fun v u s2 x y H2 I2 rx ry q=>hr a b pins s2 σ H2 x y v u Q I2 rx ry q (hs _ _))
def rIxL(K:PySem.W.Frag):R2:=fun x y H Q=>∃p xs i v,x=.ref p∧y=.int i∧SqL K H p xs∧atI xs i=some v∧Q v H
def rIxT(K:PySem.W.Frag):R2:=fun x y H Q=>∃p xs i v,x=.ref p∧y=.int i∧SqT K H p xs∧atI xs i=some v∧Q v H
def rIxS:R2:=fun x y H Q=>∃z i c,x=.str z∧y=.int i∧z.length≤sizeLine∧atI z.cps.toList i=some c∧Q (.str ⟨#[c]⟩) H
theorem ix_list:IxR X (rIxL X.K):=by
 intro value slice pins s σ H x y v u Q I rx ry h hs;obtain⟨p,xs,i,z,rfl,rfl,hq,he,q⟩:=h;cases rx;obtain⟨t,rfl⟩:=ry;obtain⟨its,r,pl,hz⟩:=I.list hq;obtain⟨j,h1,h2,h3,h4,h5⟩:=qea he;obtain⟨w,ew,rw'⟩:=r.get h2;have hl:=r.length;have hn:=line63;have fin:EP X pins σ Q w s:=⟨z,H,I,rw',q⟩
 by_cases h0:0≤i
 ·have hj:i.toNat=j:=by
   rw[seqIndex_of h0 h5]at h1;exact Option.some.inj h1
  exact item_listR pl.isList h0 (by omega) (by rw[hj];simpa using ew) fin hs
 ·have hj:(i+(its.toArray.size:Int)).toNat=j:=by
   rw[seqIndex_neg (by omega) h4]at h1;rw[List.size_toArray,←hl];exact Option.some.inj h1
  exact subscriptTail_builtinR (x:=w) pl.isList.typeIs slot_list_getitem.lookup
   (wpAny_getItem_list_neg (Q:=fun r s'=>r=w∧EP X pins σ Q r s') pl.isList (by omega) (by rw[List.size_toArray]<;>omega) (by omega) (by rw[hj];simpa using ew) ⟨rfl,fin⟩) hs
theorem ix_tup:IxR X (rIxT X.K):=by
 intro value slice pins s σ H x y v u Q I rx ry h hs;obtain⟨p,xs,i,z,rfl,rfl,hq,he,q⟩:=h;cases rx;obtain⟨t,rfl⟩:=ry;obtain⟨its,r,pl,hz⟩:=I.tuple hq;obtain⟨j,h1,h2,h3,h4,h5⟩:=qea he;obtain⟨w,ew,rw'⟩:=r.get h2;have hl:=r.length;have hn:=line63;have fin:EP X pins σ Q w s:=⟨z,H,I,rw',q⟩;exact subscriptTail_builtinR (x:=w) pl.typeIs slot_tuple_getitem.lookup
  (getItem_tuple (j:=j) (Q:=fun r s'=>r=w∧EP X pins σ Q r s') pl (by omega) (by omega) (by rw[List.size_toArray,←hl];exact h1) (by simpa using ew) ⟨rfl,fin⟩) hs
theorem ix_str:IxR X rIxS:=by
 intro value slice pins s σ H x y v u Q I rx ry h hs;obtain⟨z,i,c,rfl,rfl,hz,he,q⟩:=h;obtain⟨t,rfl⟩:=rx;obtain⟨t',rfl⟩:=ry;obtain⟨j,h1,h2,h3,h4,h5⟩:=qea he;have hl:z.cps.toList.length=z.length:=by simp[Str.length]
 rw[hl]at h1 h4 h5;have hn:=line63;exact tail_any (typeIs_str s z t) slot_str_getitem.lookup (getItem_str (c:=c) (by
  have e1:decide (i < -(2 ^ 63:Int))=false:=decide_eq_false (by omega);have e2:decide (i≥2 ^ 63)=false:=decide_eq_false (by omega);rw[e1,e2,Bool.or_false]) (by rw[h1];simpa using h2) ⟨.str ⟨#[c]⟩,H,I.tok _,⟨_,rfl⟩,q⟩) hs
theorem mapSeq_set(its:List Value)(n j:Nat)(u:Value):Obj.mapSeq (·.setIfInBounds j u) {cls:=.type "list",data:=.seq its.toArray n}={cls:=.type "list",data:=.seq (its.set j u).toArray n}:=by
 simp[Obj.mapSeq]
theorem Inv.lst{pins:List (Addr×Obj)}{σ:St}{H:Hp}{s:Shared}{p:Addr}{xs:List V}(I:Inv X pins σ H s)(h:H p=some (.lst xs)) :
  ∃(its:List Value) (n:Nat),Vals xs its∧s.heap.get? p=some {cls:=.type "list",data:=.seq its.toArray n}∧xs.length≤sizeLine:=by
 obtain⟨z,its,n,r,e⟩:=I.hok p _ h;exact⟨its,n,r,e,z⟩
theorem Inv.lstUpd{pins:List (Addr×Obj)}{σ:St}{H:Hp}{s:Shared}{p:Addr}{xs ys:List V}{its its':List Value}{n n':Nat}{f:Obj→Obj}(I:Inv X pins σ H s)(h:H p=some (.lst xs))(ho:s.heap.get? p=some {cls:=.type "list",data:=.seq its.toArray n})(hf:f {cls:=.type "list",data:=.seq its.toArray n}={cls:=.type "list",data:=.seq its'.toArray n'})(r:Vals ys its')(hz:ys.length≤sizeLine)(t:Nat) :
  Inv X pins σ (upd H p (.lst ys)) {s with heap:=s.heap.update p f,toks:=t}:=by
 have e:(s.heap.update p f).get? p=some {cls:=.type "list",data:=.seq its'.toArray n'}:=by
  rw[Heap.get?_update_self f ho (by rw[hf]<;>rfl),hf]
 refine I.write (x:=p) (e:=p) (by rw[h];trivial) (.inl rfl) (fun b u hb q=>(Heap.get?_update_other _ _ (Ne.symm hb)).trans q) ⟨_,e⟩ ?_;exact⟨hz,its',n',r,e⟩
def rSetL:V→V→V→Hp→(Hp→Prop)→Prop:=fun o i v H Q=>∃p xs k j,o=.ref p∧i=.int k∧H p=some (.lst xs)∧ixN xs.length k=some j∧Q (upd H p (.lst (xs.set j v)))
theorem set_list:PSet X rSetL:=by
 intro pins s σ H o i v ov iv u Q I ro ri rv h;obtain⟨p,xs,k,j,rfl,rfl,hp,hj,q⟩:=h;cases ro;obtain⟨t,rfl⟩:=ri;obtain⟨its,n,r,ho,hz⟩:=I.lst hp;obtain⟨h1,h2,h3,h4⟩:=qe0 hj;have hl:=r.length;have hn:=line63;have I':Inv X pins σ (upd H p (.lst (xs.set j v))) {s with heap:=s.heap.update p (Obj.mapSeq (·.setIfInBounds j u))} :=
  I.lstUpd hp ho (mapSeq_set its n j u) (r.set rv j) (by rw[List.length_set];exact hz) s.toks
 by_cases h0:0≤k
 ·have hk:k.toNat=j:=by
   rw[seqIndex_of h0 h4]at h1;exact Option.some.inj h1
  exact PySem.W.ki_setAt ho h0 (by omega) (by rw[List.size_toArray,←hl];exact h4) (by rw[hk];exact⟨_,I',q⟩)
 ·have hk:(k+(its.toArray.size:Int)).toNat=j:=by
   rw[seqIndex_neg (by omega) h3]at h1;rw[List.size_toArray,←hl];exact Option.some.inj h1
  exact PySem.W.ki_setBack ho (by omega) (by rw[List.size_toArray,←hl];exact h3) (by omega) (by rw[hk];exact⟨_,I',q⟩)
theorem slice_bounds(lo hi:Option Int)(n:Nat):(sliceBounds lo hi none n).1=((HT.sIx n 0 lo:Nat):Int)∧(sliceBounds lo hi none n).2.1=((HT.sIx n n hi:Nat):Int)∧(sliceBounds lo hi none n).2.2=1:=by
 refine⟨?_,?_,rfl⟩
 ·cases lo with
  | none=>simp[sliceBounds,HT.sIx]
  | some i =>
    simp only[sliceBounds,HT.sIx,Option.getD_none,show(1:Int)>0 by decide,if_true]
    by_cases h:i<0
    · simp only[h,if_true]<;>omega
    · simp only[h,if_false]<;>omega
 ·cases hi with
  | none=>simp[sliceBounds,HT.sIx]
  | some i =>
    simp only[sliceBounds,HT.sIx,Option.getD_none,show(1:Int)>0 by decide,if_true]
    by_cases h:i<0
    · simp only[h,if_true]<;>omega
    · simp only[h,if_false]<;>omega
theorem slicePick_cut(its:List Value)(lo hi:Option Int):slicePick its.toArray lo hi none=((its.drop (HT.sIx its.length 0 lo)).take (HT.sIx its.length its.length hi-HT.sIx its.length 0 lo)).toArray:=by
 obtain⟨h1,h2,h3⟩:=slice_bounds lo hi its.toArray.size;unfold slicePick;rw[h1,h2,h3];simp only[sliceRange_one,pick_run,List.size_toArray]<;>rfl
def rSlL(K:PySem.W.Frag):V→Option Int→Option Int→Hp→VK→Prop:=fun x lo hi H Q=>∃a xs,x=.ref a∧SqL K H a xs∧∀p,H p=none→Q (.ref p) (upd H p (.lst (cutV xs lo hi)))
theorem sl_list:SlR X (rSlL X.K):=by
 intro pins s σ H x v vl vu lo hi sl Q I rx hs pl pu h;obtain⟨a,xs,rfl,hx,q⟩:=h;cases rx;obtain⟨its,r,ht,hz⟩:=I.list hx;have hlen:=r.length;refine⟨"list",_,slot_list_getitem.lookup,ht.isList.typeIs,?_⟩;refine wpAny_getItem_list_slice ht.isList hs pl pu .none (by simp) ?_ (by rw[List.size_toArray]<;>omega);rw[slicePick_cut,←hlen];refine⟨.ref s.heap.objs.size,_,I.laid (t':=s.toks) (o:=.lst (cutV xs lo hi)) (fun b ob q=>Heap.get?_push_of_some _ q) (Nat.le_refl _) ?_,rfl,q _ (I.hok.fresh (Nat.le_refl _))⟩;exact⟨Nat.le_trans (cutV_length xs lo hi) hz,_,0,(r.drop (HT.sIx xs.length 0 lo)).take (HT.sIx xs.length xs.length hi-HT.sIx xs.length 0 lo),Heap.get?_push_size _ rfl⟩
def flatV:V→Bool
 | .non=>true
 | .bl _=>true
 | .int _=>true
 | .str _=>true
 | _=>false
def eqV:V→V→Bool
 | .non,.non=>true
 | .bl a,.bl b=>a == b
 | .bl a,.int b=>(if a then 1 else 0) == b
 | .int a,.bl b=>a == (if b then 1 else 0)
 | .int a,.int b=>a == b
 | .str a,.str b=>a == b
 | _,_=>false
theorem eqAt_V{A:Around}{s:Shared}{y x:V}{u v:Value}(ry:RelV y u)(rx:RelV x v)(fy:flatV y=true)(fx:flatV x=true):SeqAt.EqAt A s u v (eqV y x):=by
 cases y with
 | non =>
   cases ry
   cases x with
   | non=>cases rx;exact SeqAt.EqAt.same _
   | bl b=>cases rx;exact SeqAt.EqAt.none_bool b
   | int b=>obtain⟨t,rfl⟩:=rx;exact SeqAt.EqAt.none_int b t
   | str b=>obtain⟨t,rfl⟩:=rx;exact SeqAt.EqAt.none_str b t
   | _=>exact absurd (show false=true from fx) Bool.false_ne_true
 | bl a =>
   cases ry
   cases x with
   | non=>cases rx;exact SeqAt.EqAt.bool_none a
   | bl b=>cases rx;exact SeqAt.EqAt.bool_bool a b
   | int b=>obtain⟨t,rfl⟩:=rx;exact SeqAt.EqAt.bool_int a b t
   | str b=>obtain⟨t,rfl⟩:=rx;exact SeqAt.EqAt.bool_str a b t
   | _=>exact absurd (show false=true from fx) Bool.false_ne_true
 | int a =>
   obtain⟨t',rfl⟩:=ry
   cases x with
   | non=>cases rx;exact SeqAt.EqAt.int_none a t'
   | bl b=>cases rx;exact SeqAt.EqAt.int_bool a t' b
   | int b=>obtain⟨t,rfl⟩:=rx;exact SeqAt.EqAt.int_int a t' b t
   | str b=>obtain⟨t,rfl⟩:=rx;exact SeqAt.EqAt.int_str a t' b t
   | _=>exact absurd (show false=true from fx) Bool.false_ne_true
 | str a =>
   obtain⟨t',rfl⟩:=ry
   cases x with
   | non=>cases rx;exact SeqAt.EqAt.str_none a t'
   | bl b=>cases rx;exact SeqAt.EqAt.str_bool a t' b
   | int b=>obtain⟨t,rfl⟩:=rx;exact SeqAt.EqAt.str_int a t' b t
   | str b=>obtain⟨t,rfl⟩:=rx;exact SeqAt.EqAt.str_str a t' b t
   | _=>exact absurd (show false=true from fx) Bool.false_ne_true
 | _=>exact absurd (show false=true from fy) Bool.false_ne_true
def eqU(x:V)(u:Value):Bool:=match u with
 | .none=>eqV .non x
 | .bool b=>eqV (.bl b) x
 | .int i _=>eqV (.int i) x
 | .str z _=>eqV (.str z) x
 | _=>false
theorem qfJ{x y:V}{u:Value}(r:RelV y u)(f:flatV y=true):eqU x u=eqV y x:=by
 cases y with
 | non=>cases r;rfl
 | bl b=>cases r;rfl
 | int i=>obtain⟨t,rfl⟩:=r;rfl
 | str z=>obtain⟨t,rfl⟩:=r;rfl
 | _=>exact absurd (show false=true from f) Bool.false_ne_true
theorem qcX{x:V}:∀{xs:List V} {us:List Value},Vals xs us→xs.all flatV=true→us.any (eqU x)=xs.any fun y=>eqV y x
 | _,_,.nil,_=>rfl
 | y :: xs, u :: us, .cons r t, f => by
   rw[List.all_cons,Bool.and_eq_true]at f
   rw[List.any_cons,List.any_cons,qfJ r f.1,qcX t f.2]
theorem qcn{A:Around}{s:Shared}{x:V}{v:Value}(rx:RelV x v)(fx:flatV x=true):∀{xs:List V} {us:List Value},Vals xs us→xs.all flatV=true→∀u∈us,SeqAt.EqAt A s u v (eqU x u)
 | _,_,.nil,_=>fun u hu=>by cases hu
 | y :: xs, u :: us, .cons r t, f => fun u' hu => by
   rw[List.all_cons,Bool.and_eq_true]at f
   rcases List.mem_cons.mp hu with rfl | hu
   · rw[qfJ r f.1];exact eqAt_V r rx f.1 fx
   · exact qcn rx fx t f.2 u' hu
def inV(x:V)(xs:List V):Bool:=xs.any fun y=>eqV y x
def rIn(K:PySem.W.Frag)(neg:Bool):R2:=fun x y H Q=>∃p xs,y=.ref p∧(SqL K H p xs∨SqT K H p xs)∧flatV x=true∧xs.all flatV=true∧Q (.bl (if neg then !inV x xs else inV x xs)) H
theorem op_in_seq:OpR X (compareOp .In) (rIn X.K false):=by
 intro pins s σ H x y v u Q I rx ry h;obtain⟨p,xs,rfl,hq,fx,fs,q⟩:=h;cases ry;rcases hq with hq | hq
 ·obtain⟨its,r,pl,hz⟩:=I.list hq;refine SeqAt.in_listAt (eqU x) pl.isList (fun w hw=>qcn rx fx r fs w (by simpa using hw)) ⟨.bl _,H,I,rfl,?_⟩;rw[show its.toArray.any (eqU x)=its.any (eqU x) by simp,qcX r fs];exact q
 ·obtain⟨its,r,pl,hz⟩:=I.tuple hq;refine SeqAt.in_tupleAt (eqU x) pl (fun w hw=>qcn rx fx r fs w (by simpa using hw)) ⟨.bl _,H,I,rfl,?_⟩;rw[show its.toArray.any (eqU x)=its.any (eqU x) by simp,qcX r fs];exact q
theorem op_notIn_seq:OpR X (compareOp .NotIn) (rIn X.K true):=by
 intro pins s σ H x y v u Q I rx ry h;obtain⟨p,xs,rfl,hq,fx,fs,q⟩:=h;cases ry;rcases hq with hq | hq
 ·obtain⟨its,r,pl,hz⟩:=I.list hq;refine SeqAt.notIn_listAt (eqU x) pl.isList (fun w hw=>qcn rx fx r fs w (by simpa using hw)) ⟨.bl _,H,I,rfl,?_⟩;rw[show its.toArray.any (eqU x)=its.any (eqU x) by simp,qcX r fs];exact q
 ·obtain⟨its,r,pl,hz⟩:=I.tuple hq;refine SeqAt.notIn_tupleAt (eqU x) pl (fun w hw=>qcn rx fx r fs w (by simpa using hw)) ⟨.bl _,H,I,rfl,?_⟩;rw[show its.toArray.any (eqU x)=its.any (eqU x) by simp,qcX r fs];exact q
theorem call_len_seq:qcd X (.builtin "len") (fun xs H Q=>∃p ys,xs=[.ref p]∧(SqL X.K H p ys∨SqT X.K H p ys)∧Q (.int ys.length) H):=by
 intro pins s σ H xs us Q I r h;obtain⟨p,ys,rfl,hq,q⟩:=h;obtain⟨u,rfl,rx⟩:=qdo r;cases rx;have hn:=line63;rcases hq with hq | hq
 ·obtain⟨its,r',pl,hz⟩:=I.list hq;have hlen:=r'.length;exact Calls.call_len_list pl.isList (by simp only[List.size_toArray]<;>omega) ⟨.int ys.length,H,I.tok _,⟨s.toks+1,by rw[List.size_toArray,hlen]⟩,q⟩
 ·obtain⟨its,r',pl,hz⟩:=I.tuple hq;have hlen:=r'.length;exact len_tuple pl (by simp only[List.size_toArray]<;>omega) ⟨.int ys.length,H,I.tok _,⟨s.toks+1,by rw[List.size_toArray,hlen]⟩,q⟩
theorem call_list_of:qcd X (.type "list") (fun xs H Q=>∃p ys,xs=[.ref p]∧(SqL X.K H p ys∨SqT X.K H p ys)∧∀l,H l=none→Q (.ref l) (upd H l (.lst ys))):=by
 intro pins s σ H xs us Q I r h;obtain⟨p,ys,rfl,hq,q⟩:=h;obtain⟨u,rfl,rx⟩:=qdo r;cases rx;have fin:∀(its:List Value),Vals ys its→ys.length≤sizeLine→∀(h':Heap) (c':Nat),(∀b o',s.heap.get? b=some o'→h'.get? b=some o') →
   h'.get? s.heap.objs.size=some {cls:=.type "list",dict:=none,data:=.seq its.toArray c',slots:=#[]}→EP X pins σ Q (.ref s.heap.objs.size) {s with heap:=h'}:=fun its r' hz h' c' kp e =>
  ⟨.ref s.heap.objs.size,_,I.laid (t':=s.toks) kp (Nat.le_refl _) (show ObjOk X.prog X.w _ h' _ (.lst ys)from⟨hz,its,c',r',e⟩),rfl,q _ (I.hok.fresh (Nat.le_refl _))⟩
 rcases hq with hq | hq
 ·obtain⟨its,r',pl,hz⟩:=I.list hq;have hlen:=r'.length;obtain⟨o,ho,hc,n,hd⟩:=pl.isList;exact call_list_seq p (.inl rfl) ho hc hd (fun h' c' kp e=>fin its r' hz h' c' kp e) (by simp only[List.size_toArray]<;>omega)
 ·obtain⟨its,r',pl,hz⟩:=I.tuple hq;have hlen:=r'.length;obtain⟨o,ho,hc,n,hd⟩:=pl;exact call_list_seq p (.inr rfl) ho hc hd (fun h' c' kp e=>fin its r' hz h' c' kp e) (by simp only[List.size_toArray]<;>omega)
def tyV(K:PySem.W.Frag)(T:String)(x:V)(H:Hp):Prop:=match x with
 | .str _=>T = "str"
 | .int _=>T = "int"
 | .ref p=>(T = "list" ∧ ∃xs,SqL K H p xs)∨(T = "tuple" ∧ ∃o,K.lookup p=some o∧o.cls=.type "tuple" ∧ o.dict=none) ∨
   (T = "dict" ∧ ((∃kvs,H p=some (.dK kvs))∨∃kvs,H p=some (.dT kvs)))∨(T = "set" ∧ ∃S n,H p=some (.set S n))
 | _=>False
theorem tyV_is{pins:List (Addr×Obj)}{σ:St}{H:Hp}{s:Shared}{T:String}{x:V}{v:Value}(I:Inv X pins σ H s)(r:RelV x v)(ty:tyV X.K T x H) :
  s.TypeIs v T∧∀a,v=.ref a→∃ob,s.heap.get? a=some ob∧ob.dict=none:=by
 cases x with
 | str z =>
   obtain⟨t,rfl⟩:=r
   cases(show T = "str" from ty)
   exact⟨typeIs_str s z t,fun _ e=>nomatch e⟩
 | int i =>
   obtain⟨t,rfl⟩:=r
   cases(show T = "int" from ty)
   exact⟨typeIs_int s i t,fun _ e=>nomatch e⟩
 | ref p =>
   cases r
   rcases ty with⟨rfl,xs,hq⟩ | ⟨rfl,o,hk,hc,hd⟩ | ⟨rfl,hk⟩ | ⟨rfl,S,n,hk⟩
   · obtain⟨its,_,pl,_⟩:=I.list hq
     refine⟨pl.isList.typeIs,fun a e=>?_⟩
     cases e
     obtain⟨o,n,e,c,hd,_⟩:=pl
     exact⟨o,e,hd⟩
   · refine⟨⟨o,I.kIn p o hk,hc⟩,fun a e=>?_⟩
     cases e
     exact⟨o,I.kIn _ o hk,hd⟩
   · have z:∃o,s.heap.get? p=some o∧o.ExactDict:=by
       rcases hk with⟨kvs,hk⟩ | ⟨kvs,hk⟩
       · obtain⟨_,_,_,_,o,_,_,e,ex,_⟩:=I.hok p _ hk
         exact⟨o,e,ex⟩
       · obtain⟨_,_,_,_,o,_,_,e,ex,_⟩:=I.hok p _ hk
         exact⟨o,e,ex⟩
     obtain⟨o,e,ex⟩:=z
     refine⟨⟨o,e,ex.1⟩,fun a e2=>?_⟩
     cases e2
     exact⟨o,e,ex.2.1⟩
   · obtain⟨o,_,_,_,e,ex,_⟩:=I.hok p _ hk
     refine⟨⟨o,e,ex.1⟩,fun a e2=>?_⟩
     cases e2
     exact⟨o,e,ex.2.1⟩
 | _=>exact False.elim ty
def tBM(K:PySem.W.Frag)(T:String)(r:V→List V→Hp→VK→Prop)(to:TE)(t:TA):TE:=fun σ H Q=>to σ H fun x H1=>tyV K T x H1∧t σ H1 fun xs H2=>r x xs H2 Q
variable{o e:Expr}{es:List Expr}{to:TE}{t:TA}{name:Str}{apos cpos:Pos}{T id:String}{r:V→List V→Hp→VK→Prop}
theorem qb6(pa:PlainAttrs T)(slot:Slot T name id)(hty:typeOf (.builtin id)=pure (.type "method_descriptor"))(hm:MtR X id r)(ho:PE X o to)(ha:PA X (e::es) t)(hbase:attributeBase o name X.env (eval o X.env)=eval o X.env:=by rfl)(hfew:((backTo cpos (starEach (e::es) X.env)).all (fun x=>!x.1) && (backToKw cpos (keywordEach [] X.env)).all (fun x=>x.1.isSome)
   && decide ((e::es).length+([]:List Keyword).length+(if([]:List Keyword).isEmpty then 0 else 1)<30))=true:=by rfl)(hline:(apos.endLine == cpos.line)=true:=by rfl)(hs:starEach (e::es) X.env=(false,eval e X.env)::starEach es X.env:=by rfl)(hplain:(backTo cpos (starEach es X.env)).any (·.1)=false:=by rfl) :
  PE X (.Call (.Attribute o name apos) (e::es) [] cpos) (tBM X.K T r to t):=by
 intro pins s σ H Q I h;refine wpAny_Call_method_late hbase hfew hline rfl (thn (ho pins s σ H _ I h) fun v s1 ⟨x,H1,I1,r1,ty,q1⟩=>?_);obtain⟨h1,h2⟩:=tyV_is I1 r1 ty;refine⟨T,id,pa,slot,hty,h1,h2,?_⟩;have hA:=ha cpos pins s1 σ H1 _ I1 q1;rw[hs]at hA⊢;refine Calls.callWith_builtin (by show(false || (backTo cpos (starEach es X.env)).any (·.1))=false;rw[hplain]<;>rfl) (Calls.evalArgs_plain ?_);exact thn hA fun us s2 ⟨vs,H2,I2,r2,q2⟩=>hm pins s2 σ H2 x vs v us Q I2 r1 r2 q2
end
end L2
namespace L2
open PySem PySem.Spec PyProof.Rows
def MtM(X:Cx)(id:String)(r:V→List V→Hp→VK→Prop):Prop :=
 ∀(pins:List (Addr×Obj)) (s:Shared) (σ:St) (H:Hp) (x:V) (xs:List V) (v:Value) (us:List Value) (Q:VK),Inv X pins σ H s→RelV x v→Vals xs us→r x xs H Q →
  wpAny (model X.prog X.w) X.A (call (.builtin id) (v::us)) (EP X pins σ Q) X.xe s
theorem Vals.one:∀{x:V} {us:List Value},Vals [x] us→∃u,us=[u]∧RelV x u
 | _,_,.cons r .nil=>⟨_,rfl,r⟩
section
variable{X:Cx}{pins:List (Addr×Obj)}{σ:St}{H:Hp}{s:Shared}{l b:Addr}{xs ys zs:List V}
theorem Inv.lset{its its':List Value}{n:Nat}{f:Array Value→Array Value}{t':Nat}(I:Inv X pins σ H s)(hH:H l=some (.lst xs))(e:s.heap.get? l=some {cls:=.type "list",data:=.seq its.toArray n})(hf:f its.toArray=its'.toArray)(hv:Vals ys its')(hz:ys.length≤sizeLine) :
  Inv X pins σ (upd H l (.lst ys)) {s with heap:=s.heap.update l (Obj.mapSeq f),toks:=t'}:=by
 have q:=PySem.IsL.update e f;rw[hf]at q;refine I.write (x:=l) (e:=l) (by rw[hH];exact trivial) (.inl rfl) (fun b' u hb hu=>(Heap.get?_update_other s.heap (Obj.mapSeq f) (Ne.symm hb)).trans hu) ⟨_,q⟩ ?_;exact⟨hz,its',_,hv,q⟩
theorem Inv.lnew{its:List Value}{t':Nat}(I:Inv X pins σ H s)(hv:Vals ys its)(hz:ys.length≤sizeLine) :
  Inv X pins σ (upd H s.heap.objs.size (.lst ys)) {s with heap:=s.heap.push {cls:=.type "list",data:=.seq its.toArray},toks:=t'} :=
 I.laid (fun _ _ q=>Heap.get?_push_of_some _ q) (Nat.le_refl _) ⟨hz,its,0,hv,Heap.get?_push_size _ rfl⟩
theorem Inv.fresh(I:Inv X pins σ H s):H s.heap.objs.size=none:=I.hok.fresh (Nat.le_refl _)
theorem Inv.lstM(I:Inv X pins σ H s)(hH:H l=some (.lst xs)):xs.length≤sizeLine∧∃(its:List Value) (n:Nat),Vals xs its∧xs.length=its.length∧s.heap.get? l=some {cls:=.type "list",data:=.seq its.toArray n}:=by
 obtain⟨z,its,n,r,e⟩:=I.hok l _ hH;exact⟨z,its,n,r,r.length,e⟩
theorem notLongL{n:Nat}(h:n≤sizeLine):Builtin.List.listTooLong n=false:=by
 unfold Builtin.List.listTooLong;exact decide_eq_false (by omega)
end
section
variable{X:Cx}
def rAppend:V→List V→Hp→VK→Prop:=fun x vs H Q=>∃l xs y,x=.ref l∧vs=[y]∧H l=some (.lst xs)∧xs.length<sizeLine∧Q .non (upd H l (.lst (xs++[y])))
theorem mt_append:MtM X "list.append" rAppend:=by
 intro pins s σ H x vs v us Q I rx rv h;obtain⟨l,xs,y,rfl,rfl,hH,hz,q⟩:=h;cases rx;obtain⟨u,rfl,ru⟩:=rv.one;obtain⟨z,its,n,r,hl,e⟩:=I.lstM hH;refine call_meets F.slot_list_append ⟨_,e,rfl⟩ F.entry_list_append (F.args_list_append_2 _ _) (PySem.list_append l its.toArray n u (by rw[List.size_toArray];omega)) ⟨e,?_⟩;refine⟨.non,_,I.lset (its':=its++[u]) hH e (by simp) (r.append (.cons ru .nil)) ?_,rfl,q⟩;rw[List.length_append,List.length_singleton];omega
def rExtend:V→List V→Hp→VK→Prop:=fun x vs H Q=>∃l b xs zs,x=.ref l∧vs=[.ref b]∧H l=some (.lst xs)∧H b=some (.lst zs)∧xs.length+zs.length≤sizeLine∧Q .non (upd H l (.lst (xs++zs)))
theorem mt_extend:MtM X "list.extend" rExtend:=by
 intro pins s σ H x vs v us Q I rx rv h;obtain⟨l,b,xs,zs,rfl,rfl,hH,hB,hz,q⟩:=h;cases rx;obtain⟨u,rfl,ru⟩:=rv.one;cases ru;obtain⟨z,its,n,r,hl,e⟩:=I.lstM hH;obtain⟨z2,its2,n2,r2,hl2,e2⟩:=I.lstM hB;have hsz:its.toArray.size+its2.toArray.size≤sizeLine:=by rw[List.size_toArray,List.size_toArray];omega
 have hlong:¬(!its.toArray.isEmpty && Builtin.List.listTooLong (its.toArray.size+its2.toArray.size))=true:=by
  rw[notLongL hsz,Bool.and_false];exact Bool.false_ne_true
 refine call_meets F.slot_list_extend ⟨_,e,rfl⟩ F.entry_list_extend (F.args_list_extend_2 _ _)
  (AutoSeq1.list_extend_list_list_0 l its.toArray n b its2.toArray n2 hlong (by rw[List.size_toArray];omega) (by omega)) ⟨e,e2,?_⟩
 refine⟨.non,_,I.lset (its':=its++its2) hH e (by simp) (r.append r2) ?_,rfl,q⟩;rw[List.length_append];omega
def rCat:R2:=fun x y H Q=>∃l b xs zs,x=.ref l∧y=.ref b∧H l=some (.lst xs)∧H b=some (.lst zs)∧xs.length+zs.length≤sizeLine∧∀p,H p=none→Q (.ref p) (upd H p (.lst (xs++zs)))
theorem op_cat:OpR X (binaryOp .Add) rCat:=by
 intro pins s σ H x y v u Q I rx ry h;obtain⟨l,b,xs,zs,rfl,rfl,hH,hB,hz,q⟩:=h;cases rx;cases ry;obtain⟨z,its,n,r,hl,e⟩:=I.lstM hH;obtain⟨z2,its2,n2,r2,hl2,e2⟩:=I.lstM hB;refine PySem.P.add_list e e2 ?_ (by rw[List.size_toArray,List.size_toArray];omega);have ea:its.toArray++its2.toArray=(its++its2).toArray:=by simp
 rw[ea];exact⟨.ref _,_,I.lnew (t':=s.toks) (r.append r2) (by rw[List.length_append];omega),rfl,q _ I.fresh⟩
end
end L2
namespace Att
open PySem PySem.W PySem.Calls PyProof.Rows
theorem ints_of_wellAll{P:Params}{h:Heap}:∀(ns:List Int) (vs:List Value),WellAll P h vs (ns.map WData.int)→IntsAre vs ns:=by
 intro ns
 induction ns with
 | nil =>
   intro vs w
   rw[List.map_nil]at w
   cases w
   exact .nil
 | cons n ns ih =>
   intro vs w
   rw[List.map_cons]at w
   cases w with
   | cons a b =>
     cases a
     exact .cons _ _ (ih _ b)
theorem script_of{l:OpenLaw}{n:Nat}(hn:l.most=some n){P:Params}{h:Heap}{args:List WData}{vals:List Value}(hpre:l.row.toRowW.claim.pre args=true)(hwl:WellAll P h vals args) :
  ∃a vs ns,vals=[Value.ref a]∧args=[WData.list (ns.map WData.int)]∧h.get? a=some {cls:=.type "list",data:=.seq vs.toArray}∧IntsAre vs ns∧ns.length≤n:=by
 have hsh:WShape.hasAll [] args [.list .int]=true:=(pre_splitW hpre).1;have hc:l.pre.holds [] {args:=args}=true:=(pre_splitW hpre).2;obtain⟨d,r,rfl,h1,h2⟩:=hasAllW_cons hsh;obtain rfl:=hasAllW_nil h2;obtain⟨xs,rfl,h3⟩:=hasW_list h1;obtain⟨ns,rfl⟩:=items_int h3;have hlen:ns.length≤n:=by
  unfold OpenLaw.pre at hc;have h4:(WTm.not (.lt (.lit (.int (n:Int))) (.len (.arg 0)))).holds [] {args:=[.list (ns.map .int)]}=true:=by
   have h4:=(holds_andW hc).1;rw[hn]at h4;exact h4
  have h5:=condW_of h4 (w_not (w_lt w_lit (w_len_list (w_arg rfl))));rw[List.length_map]at h5;refine Nat.le_of_not_lt fun q=>?_
  have q':(n:Int)<((ns.length:Nat):Int):=by omega
  first
   | (rw[decide_eq_true q']at h5;exact absurd h5 (by decide))
   | (simp at h5;omega)
 cases hwl with
 | cons w1 w2 =>
   cases w2
   cases w1 with
   | list ho hall=>exact⟨_,_,ns,rfl,rfl,ho,ints_of_wellAll ns _ hall,hlen⟩
theorem post_true(l:OpenLaw)(args:List WData):l.row.toRowW.claim.post args (.bool true) args=true :=
 postW_of (r:=l.row.toRowW) (X:=(true == true))
  (show WShape.has [] (.bool true) .bool=true by first | rfl | decide | simp[WShape.has,WShape.arms,WShape.armsAll])
  (show(WTm.eq .res (.lit (.bool true))).value [] {args:=args,res:=some (.bool true),after:=args}=some (.bool (true == true))from w_eq_bool (w_res rfl) w_lit) rfl
theorem attach_call{l:OpenLaw}{n:Nat}{q:Program}{loose:List Str}{XP:(Str→Option Value)→Heap→Prop}{YP:World→Heap→Prop}{d:DefRec}(hn:l.most=some n)(hdf:d.params.defaults=[])(call:∀(w:World) (s₀ s₁:Shared) (mg mb:Str→Option Value) (fa:Addr) (o:Obj) (pm cd doc:Value) (a:Addr) (vs:List Value) (ns:List Int),
   Ground q loose [] XP w s₀ mg mb s₁.heap→YP w s₁.heap →
   s₁.heap.get? fa=some o→o.data=.func (docDef d.name d.params d.body d.scope pm cd doc)→s₁.heap.CodeRec cd d.name→mg d.name=some (.ref fa) →
   s₁.heap.get? a=some {cls:=.type "list",data:=.seq vs.toArray}→IntsAre vs ns→ns.length≤n→s₁.gens=#[] →
   codeAny (model l.prog w) callerA (.call (.ref fa) ⟨[.ref a],[]⟩) (fun r s'=>r=.ok (.ret (.bool true))∧OldK s₁.heap s'.heap∧s'.os=s₁.os∧AllBare s'.gens) s₁) :
  WalkO q loose XP YP l.row.toRowW d [] (fun f vs=>PySem.call f vs):=by
 intro w s₀ s₁ mg mb G Y fa o pm cd doc dV kV ho hd hcd hD hmg hg args vals as hpre hlay hrd hwl hlo;obtain rfl:dV=.none:=Dflts.none hD hdf;obtain rfl:kV=.none:=Dflts.noKw hD;obtain⟨a,vs,ns,rfl,rfl,hobj,hints,hlen⟩:=script_of hn hpre hwl;refine enter_call (codeAny_mono (call w s₀ s₁ mg mb fa o pm cd doc a vs ns G Y ho (fd_plain hd) hcd hmg hobj hints hlen hg) fun r s' hq=>?_);obtain⟨rfl,h2,h3,h4⟩:=hq;exact⟨.inl ⟨.bool true,.bool true,[],rfl,fun _=>rfl,.bool true,post_true l _,fun _=>⟨List.Pairwise.nil,fun _ hm=>(nomatch hm)⟩⟩,h2,h3,h4⟩
end Att
namespace L2
open PySem PySem.Spec PyProof.Rows
theorem vals_ints:∀{vs:List Value} {ns:List Int},IntsAre vs ns→Vals (ns.map V.int) vs
 | _,_,.nil=>.nil
 | _,_,.cons n t h=>.cons ⟨t,rfl⟩ (vals_ints h)
def Only(H:Hp):Prop:=∀b,H b=none∨∃o xs,H b=some (.frz o (.lst xs))
theorem law_call{P:Program}{w:World}{K:PySem.W.Frag}{mg mb:Str→Option Value}{CX:CXT}{k:Nat}{fa a:Addr}{fd:FuncData}{x:Str}{sp:Sp}{s₁:Shared}{vs:List Value}{ns:List Int}(KX:K.In s₁.heap)(hns:s₁.heap.Ns mainGlobals mg)(hb:s₁.heap.Ns builtinsNs mb)(hbb:∀x:Str,x ≠ "__name__" → mb x=bootBuiltins x)(hlim:s₁.heap.NoLimit)(hg:s₁.gens=#[])(ha:s₁.heap.get? a=some {cls:=.type "list",data:=.seq vs.toArray})(hi:IntsAre vs ns)(hl:ns.length≤sizeLine)(hr:Room k callerA)(F:∀base:Heap,K.In base→base.Ns mainGlobals mg→FnOk P w K mg base CX k fa fd [x] sp)(hbind:∀(s:Shared) (u:Value),BindsTo s fd ⟨[u],[]⟩ [(x,u)])(hsp:∀H:Hp,Only H→SqL K H a (ns.map V.int)→sp [.ref a] H (fun v _=>v=.bl true) fun _ _ _=>False)(hCX:∀H e s',CX [] H s₁ (fun _ _ _=>False) e s'→False) :
  codeAny (model P w) callerA (.call (.ref fa) ⟨[.ref a],[]⟩) (fun r s'=>r=.ok (.ret (.bool true))∧OldK s₁.heap s'.heap∧s'.os=s₁.os∧AllBare s'.gens) s₁:=by
 have rv:=vals_ints hi;have lenV:=hi.length;have core:∀H:Hp,Only H→SqL K H a (ns.map V.int)→HOk P w H s₁.heap→(∀b,H b≠none→b=a)→(H a≠none→K.lookup a=none) →
   codeAny (model P w) callerA (.call (.ref fa) ⟨[.ref a],[]⟩) (fun r s'=>r=.ok (.ret (.bool true))∧OldK s₁.heap s'.heap∧s'.os=s₁.os∧AllBare s'.gens) s₁:=by
  intro H hO hS hok hA hK;have base_of:∀{b:Addr} {o:Obj},s₁.heap.get? b=some o→H b=none→(hidT s₁.heap H).get? b=some o:=fun e n=>hidT_get e n
  have noA:∀{b:Addr} {o:Obj} {es:Array DictEntry} {ep:Nat},s₁.heap.get? b=some o→o.data=.dict es ep→H b=none:=fun {b o es ep} e d=>by
   cases q:H b with
   | none=>rfl
   | some u =>
     have e':b=a:=hA b (by rw[q];simp)
     subst e'
     rw[ha]at e;cases e
     have d':Data.seq vs.toArray _=Data.dict es ep:=d
     cases d'
  have nsK:∀{b:Addr} {m:Str→Option Value},s₁.heap.Ns b m→(hidT s₁.heap H).Ns b m:=fun {b m} ⟨o,es,ep,e,d,r⟩=>⟨o,es,ep,base_of e (noA e d),d,r⟩
  have hKb:K.In (hidT s₁.heap H):=fun b o e=>base_of (KX b o e) (by
   cases q:H b with
   | none=>rfl
   | some u =>
     have e':b=a:=hA b (by rw[q];simp)
     subst e'
     rw[hK (by rw[q];simp)]at e;cases e)
  have hM:Mod K mg (hidT s₁.heap H):=⟨hKb,nsK hns,⟨mb,nsK hb,hbb⟩,let⟨mc,h1,h2⟩:=hlim;⟨mc,nsK h1,h2⟩⟩;have e0:Env0 P w K mg (hidT s₁.heap H) callerA [] s₁ H:=⟨rfl,hM,fun b o e=>of_hidT e,Nat.le_of_eq (hidT_size _ _),trivial,fun b hb=>absurd (show b∈([]:List Addr)from hb) (by simp),hok,.of_eq hg⟩;refine codeAny_mono ((F _ hKb (nsK hns)).run callerA [] s₁ H ⟨[.ref a],[]⟩ [.ref a] [.ref a] _ _ hr e0 (hbind s₁ (.ref a)) (.cons rfl .nil) (hsp H hO hS)) fun r s' h=>?_
  cases r with
  | error e=>exact(hCX H e s' h).elim
  | ok fl =>
    cases fl with
    | next=>exact False.elim h
    | brk=>exact False.elim h
    | cont=>exact False.elim h
    | ret u =>
      obtain⟨v,H',os,bare,un,hok',r',q⟩:=h
      have q':v=.bl true:=q
      subst q'
      obtain rfl:u=Value.bool true:=r'
      refine⟨rfl,OldK.of_keep fun b o e=>?_,os,bare⟩
      cases q:H b with
      | none=>exact un.keep b o e q (by intro z;exact absurd (show b∈([]:List Addr)from z) (by simp)) (by simp)
      | some u =>
        rcases hO b with z | ⟨ob,xs,z⟩
        · rw[q]at z;cases z
        · have z2:=un.frzs b ob _ z
          obtain⟨e1,_⟩:=hok b _ z
          obtain⟨e2,_⟩:=hok' b _ z2
          rw[e]at e1;cases e1
          exact e2
 cases hk:K.lookup a with
 | some o =>
   have e:=KX a o hk
   rw[ha]at e
   cases e
   refine core (fun _=>none) (fun _=>.inl rfl) (.inr ⟨_,vs.toArray,_,hk,rfl,rfl,rfl,by rw[List.size_toArray,lenV];exact hl,by simpa using rv⟩) (fun b u z=>by have z':(none:Option HO)=some u:=z;cases z') (fun b z=>absurd rfl z) fun z=>absurd rfl z
 | none =>
   refine core (fun b=>if b=a then some (.frz {cls:=.type "list",data:=.seq vs.toArray} (.lst (ns.map V.int)))else none) (fun b=>?_) (.inl (.inr ⟨{cls:=.type "list",data:=.seq vs.toArray},if_pos rfl⟩)) (fun b u z=>?_) (fun b z=>?_) fun _=>hk
   · by_cases hb:b=a
     · exact .inr ⟨_,_,if_pos hb⟩
     · exact .inl (if_neg hb)
   · by_cases hb:b=a
     · have z':=(if_pos hb).symm.trans z
       cases z'
       subst hb
       exact⟨ha,by rw[List.length_map];exact hl,vs,_,rv,ha⟩
     · have z':=(if_neg hb).symm.trans z
       cases z'
   · by_cases hb:b=a
     · exact hb
     · exact absurd (if_neg hb) z
end L2
namespace L2
open PySem PySem.Spec PyProof.Rows
theorem walk_of{l:PySem.W.OpenLaw}{n k:Nat}{q:Program}{loose:List Str}{XP:(Str→Option Value)→Heap→Prop}{YP:World→Heap→Prop}{d:DefRec}{K:Params→PySem.W.Frag}{CX:World→CXT}{sp:World→Sp}{x:Str}(hn:l.most=some n)(hn2:n≤sizeLine)(hdf:d.params.defaults=[])(hr:Room k callerA)(hY:∀(w:World) (h:Heap),YP w h→(K w.params).In h)(F:∀(w:World) (mg:Str→Option Value) (fa:Addr) (h:Heap),(K w.params).In h→h.Ns mainGlobals mg→mg d.name=some (.ref fa) →
   ∃fd:FuncData,(∀(s:Shared) (u:Value),BindsTo s fd ⟨[u],[]⟩ [(x,u)]) ∧
    ∀base:Heap,(K w.params).In base→base.Ns mainGlobals mg→FnOk l.prog w (K w.params) mg base (CX w) k fa fd [x] (sp w))(hsp:∀(w:World) (H:Hp) (a:Addr) (ns:List Int),ns.length≤n→Only H→SqL (K w.params) H a (ns.map V.int)→sp w [.ref a] H (fun v _=>v=.bl true) fun _ _ _=>False)(hCX:∀(w:World) (H:Hp) (s:Shared) (e:Value) (s':Shared),CX w [] H s (fun _ _ _=>False) e s'→False) :
  PySem.W.WalkO q loose XP YP l.row.toRowW d [] (fun f vs=>PySem.call f vs):=by
 refine Att.attach_call hn hdf fun w s₀ s₁ mg mb fa o pm cd doc a vs ns G Y ho hd hcd hmg hobj hints hlen hg=>?_
 have KX:=hY w _ Y;obtain⟨fd,hb,hF⟩:=F w mg fa _ KX G.T.g hmg;exact law_call KX G.T.g G.T.b G.T.builtins G.T.nolimit hg hobj hints (Nat.le_trans hlen hn2) hr hF hb (fun H hO hS=>hsp w H a ns hlen hO hS) fun H e s'=>hCX w H s₁ e s'
end L2
namespace L2
open PySem PySem.Spec PyProof.Rows
def qa5(s:Stmt):Arguments:=match s with
 | .FunctionDef _ a _ _ _ _ _ _ _ _=>a
 | _=>{posonlyargs:=[],args:=[],vararg:=none,kwonlyargs:=[],kw_defaults:=[],kwarg:=none,defaults:=[]}
def qaZ(s:Stmt):List Stmt:=match s with
 | .FunctionDef _ _ b _ _ _ _ _ _ _=>b
 | _=>[]
def qag(s:Stmt):Scope:=match s with
 | .FunctionDef _ _ _ _ _ _ sc _ _ _=>sc
 | _=>{kind:=.function,names:=[],isGenerator:=false,isCoroutine:=false}
abbrev CX0:CXT:=fun _ _ _ _ _ _=>False
abbrev E0:XK:=fun _ _ _=>False
theorem qao{X:Cx}:qdF CX0 X E0:=fun _ _ _ _ _ _ _ h=>h.elim
structure Fun(K:PySem.W.Frag)(x qual:Str)(st:Stmt)(f:Addr)(fd:FuncData):Prop where
 ex:∃(oc:Value) (od:Option Addr) (kV doc pm:Value) (an:Option Addr) (cdv ct:Value) (osl:Array (Option Value)),
  fd=PySem.W.fnOf x qual (qa5 st) (qaZ st) (qag st) .none kV doc pm an cdv ct∧K.lookup f=some ⟨oc,od,.func fd,osl⟩∧PySem.W.codeIn K cdv qual=true
 kp:PySem.W.keepIn K (.ref f)=true
section
variable{P:Program}{w:World}{K:PySem.W.Frag}{mg:Str→Option Value}{base:Heap}
theorem Fun.ok{x qual:Str}{st:Stmt}{f:Addr}{fd:FuncData}{N ps:List Str}{k:Nat}{sp:Sp}(F:Fun K x qual st f fd)(S:FnScope N ps (qag st))(len:∀vs H Q E,sp vs H Q E→vs.length=ps.length)(hbody:∀(cdv:Value) (A:Around) (outer:List Env) (s:Shared) (H:Hp) (vs:List V) (Q:VK) (E:XK),Room k (A.deeper (envOfC qual (qag st) s.heap.objs.size f cdv))→sp vs H Q E →
   ∃t,PSs (cxOf CX0 P w K mg base N qual (qag st) f cdv A outer s H E).nox (qaZ st) t∧t {nx:=fun _ H'=>Q .non H',rt:=Q} (qdm N vs) H):FnOk P w K mg base CX0 (k+1) f fd ps sp:=by
 obtain⟨oc,od,kV,doc,pm,an,cdv,ct,osl,rfl,lk,hcd⟩:=F.ex;refine qf1 lk hcd S len fun A outer s H vs Q E hr hsp=>?_
 obtain⟨t,h,q⟩:=hbody cdv A outer s H vs Q E hr hsp;exact⟨t,h.nox,q⟩
theorem Fun.binds{x qual:Str}{st:Stmt}{f:Addr}{fd:FuncData}{ps:List Str}(F:Fun K x qual st f fd)(h:∀(kV doc pm:Value) (an:Option Addr) (cdv ct:Value) (us:List Value),us.length=ps.length→bindArgs (PySem.W.fnOf x qual (qa5 st) (qaZ st) (qag st) .none kV doc pm an cdv ct) ⟨us,[]⟩=pure (ps.zip us)):Binds K fd ps []:=by
 obtain⟨oc,od,kV,doc,pm,an,cdv,ct,osl,rfl,lk,hcd⟩:=F.ex;exact .all (h kV doc pm an cdv ct)
theorem fun_mk{x qual:Str}{st:Stmt}{f:Addr}{oc:Value}{od an:Option Addr}{osl:Array (Option Value)}{kV doc pm cdv ct:Value}(l:K.lookup f=some ⟨oc,od,.func (PySem.W.fnOf x qual (qa5 st) (qaZ st) (qag st) .none kV doc pm an cdv ct),osl⟩)(c:PySem.W.codeIn K cdv qual=true)(k:PySem.W.keepIn K (.ref f)=true):Fun K x qual st f (PySem.W.fnOf x qual (qa5 st) (qaZ st) (qag st) .none kV doc pm an cdv ct):=⟨⟨oc,od,kV,doc,pm,an,cdv,ct,osl,rfl,l,c⟩,k⟩
end
theorem qf6{A:Around}{k:Nat}(hr:Room k A):A.units+1<cLine:=Nat.lt_of_le_of_lt (Nat.add_le_add_left (by decide:1≤64) _) hr.units
theorem qak{n:Nat}(h:n≤1000):n<sizeLine:=Nat.lt_of_le_of_lt h (by decide)
section
variable{X:Cx}
theorem pv(i:Nat){x:Str}{pos:Pos}(hN:X.N[i]?=some x:=by rfl)(hv:Vis X.env.scope x:=by first | exact Or.inl rfl | exact Or.inr (Or.inl rfl) | exact Or.inr (Or.inr rfl))(hd:(x == ("__debug__" : Str))=false:=by decide)(hcd:(x == ("__classdict__" : Str))=false:=by decide):PE X (.Name x pos) (tVar i):=pe_var hN hv hd hcd
end
theorem iteF{A B:Prop}(h:B):if false=true then A else B:=by
 rw[if_neg Bool.false_ne_true];exact h
theorem iteT{A B:Prop}(h:A):if true=true then A else B:=by
 rw[if_pos rfl];exact h
theorem ite2{c A B:Prop}[Decidable c](h1:c→A)(h2:¬c→B):if c then A else B:=by
 by_cases h:c
 ·rw[if_pos h];exact h1 h
 ·rw[if_neg h];exact h2 h
def Same(H H':Hp):Prop:=∀b o,H b=some o→H' b=some o
theorem Same.refl(H:Hp):Same H H:=fun _ _ h=>h
theorem Same.trans{H H1 H2:Hp}(a:Same H H1)(b:Same H1 H2):Same H H2:=fun c o h=>b c o (a c o h)
theorem Same.free{H H':Hp}(e:Same H H'){l:Addr}(h:H' l=Option.none):H l=Option.none:=by
 cases q:H l with
 | none=>rfl
 | some o =>
   rw[e l o q]at h
   cases h
end L2
set_option maxHeartbeats 4000000
namespace L2
open PySem PySem.Spec PyProof.Rows
theorem qb2{β:Type}{x:Str}{c:β}:∀{l:List (Str×β)},l.lookup x=some c→(x,c)∈l
 | [],q=>by cases q
 | (k, v) :: r, q => by
   rw[List.lookup_cons]at q
   cases e:x == k with
   | true =>
     rw[e]at q
     have:x=k:=by simpa using e
     cases q
     rw[this]
     exact List.mem_cons_self
   | false =>
     rw[e]at q
     exact List.mem_cons_of_mem _ (qb2 q)
theorem qch{β:Type}{x:Str}{c:β}:∀{l:List (Str×β)},(x,c)∈l→∃c',l.lookup x=some c'
 | [],q=>nomatch q
 | (k, v) :: r, q => by
   rw[List.lookup_cons]
   cases e:x == k with
   | true=>exact⟨v,rfl⟩
   | false =>
     rcases List.mem_cons.mp q with z | z
     · have:x=k:=congrArg Prod.fst z
       rw[this]at e
       simp at e
     · exact qch z
theorem qc5{env:Env}{f:Str×NameKind→List (Str×Addr)→Sem (ForInStep (List (Str×Addr)))}:∀(l:List (Str×NameKind)) (acc:List (Str×Addr)),
  (∀x∈l,x.2=.free→∃c,env.cells.lookup x.1=some c∧∀r,f x r=pure (.yield ((x.1,c)::r)))→(∀x∈l,x.2≠.free→∀r,f x r=pure (.yield r)) →
  ∃cl,forIn l acc f=pure cl∧(∀p∈acc,p∈cl)∧(∀p∈cl,p∈acc∨env.cells.lookup p.1=some p.2)∧∀x,(x,NameKind.free)∈l→∃c,(x,c)∈cl
 | [],acc,_,_=>⟨acc,rfl,fun _ q=>q,fun _ q=>.inl q,fun _ q=>nomatch q⟩
 | x :: l, acc, h1, h2 => by
   by_cases hx:x.2=.free
   · obtain⟨c,e,hf⟩:=h1 x List.mem_cons_self hx
     obtain⟨cl,q1,q2,q3,q4⟩:=qc5 l ((x.1,c)::acc) (fun y hy=>h1 y (List.mem_cons_of_mem _ hy)) fun y hy=>h2 y (List.mem_cons_of_mem _ hy)
     refine⟨cl,?_,fun p hp=>q2 p (List.mem_cons_of_mem _ hp),fun p hp=>?_,fun y hy=>?_⟩
     · rw[List.forIn_cons,hf,pure_bind]
       exact q1
     · rcases q3 p hp with z | z
       · rcases List.mem_cons.mp z with z | z
         · subst z;exact .inr e
         · exact .inl z
       · exact .inr z
     · rcases List.mem_cons.mp hy with z | z
       · exact⟨c,by have:=q2 _ (List.mem_cons_self (a:=(x.1,c)) (l:=acc));rw[←z]at this;exact this⟩
       · exact q4 y z
   · obtain⟨cl,q1,q2,q3,q4⟩:=qc5 l acc (fun y hy=>h1 y (List.mem_cons_of_mem _ hy)) fun y hy=>h2 y (List.mem_cons_of_mem _ hy)
     refine⟨cl,?_,q2,q3,fun y hy=>?_⟩
     · rw[List.forIn_cons,h2 x List.mem_cons_self hx,pure_bind]
       exact q1
     · rcases List.mem_cons.mp hy with z | z
       · exact absurd (by rw[←z]) hx
       · exact q4 y z
theorem qfs{scope:Scope}{env:Env}(h:∀ x∈scope.names,x.2=.free→∃ c,env.cells.lookup x.1=some c) :
  ∃ cl,closureFor scope env=pure cl∧(∀ x c,cl.lookup x=some c→env.cells.lookup x=some c)∧∀ x,(x,NameKind.free)∈scope.names→∃ c,cl.lookup x=some c:=by
 have key:∀ f:Str × NameKind→List (Str × Addr)→Sem (ForInStep (List (Str × Addr))),(∀ x∈scope.names,x.2=.free→∃ c,env.cells.lookup x.1=some c∧∀ r,f x r=pure (.yield ((x.1,c) :: r)))→(∀ x∈scope.names,x.2≠.free→∀ r,f x r=pure (.yield r)) →
   closureFor scope env=forIn scope.names [] f →
   ∃ cl,closureFor scope env=pure cl∧(∀ x c,cl.lookup x=some c→env.cells.lookup x=some c)∧∀ x,(x,NameKind.free)∈scope.names→∃ c,cl.lookup x=some c:=by
  intro f h1 h2 e
  obtain ⟨cl,q1,_,q3,q4⟩:=qc5 (env:=env) (f:=f) scope.names [] h1 h2
  refine ⟨cl,e.trans q1,fun x c z=>?_,fun x hx=>?_⟩
  ·rcases q3 (x,c) (qb2 z) with k | k
   ·exact nomatch k
   ·exact k
  ·obtain ⟨c,z⟩:=q4 x hx
   exact qch z
 refine key (fun x r=>if x.2 == .free then (do let c ← cellOf env x.1; pure (.yield ((x.1,c) :: r))) else pure (.yield r)) (fun x hx hf=>?_) (fun x hx hf r=>?_) ?_
 ·obtain ⟨c,e⟩:=h x hx hf
  refine ⟨c,e,fun r=>?_⟩
  have hk:(x.2 == NameKind.free)=true:=by rw [hf]; rfl
  simp only [hk,if_true,cellOf,e,pure_bind]
 ·have hk:(x.2 == NameKind.free)=false:=by
   cases q:x.2 == NameKind.free with
   | false=>rfl
   | true=>exact absurd (by simpa using q) hf
  simp only [hk,Bool.false_eq_true,if_false]
 ·simp only [closureFor]
  rw [bind_pure]
def qa2(X:Cx)(N':List Str)(scope:Scope)(cl:List (Str×Addr))(C:Addr)(s₂:Shared)(H₂:Hp)(fp:List Addr):Cx :=
 {X with N:=N',s₀:=s₂,H₀:=H₂,env:=compEnvC scope cl C X.env,outer:=X.stack,ex:=fp,fn:=fun _=>false,pn:=[],xe:=fun _ _=>False}
def qbN(own:Nat)(ix:List Nat)(σ:St):St:=List.replicate own none++ix.map fun j=>(σ[j]?).join
def qb5(own:Nat)(ix:List Nat)(g:TG)(tt:TT)(te:TE)(J:It)(σ:St)(H:Hp)(Q:VK):Prop :=
 ∃W:Nat→Nat→List V→St→Hp→Prop,(∃m,W 0 m [] (qbN own ix σ) H) ∧
  ∀i m ys σ' H',W i m ys σ' H'→ys.length<sizeLine ∧
   ((J.stop i H'∧∀ D,H' D=none→Q (.ref D) (upd H' D (.lst ys))) ∨
    (J.go i H'∧∃N:List V→St→Hp→Prop,(∀zs σ2 H2,N zs σ2 H2→∃m',m'<m∧W (i+1) m' zs σ2 H2)∧∀x H2,J.yld i H' x H2→g x σ' H2 fun σ2 H3=>tt σ2 H3 fun b H4 =>
       if b=true then te σ2 H4 fun v H5=>N (ys++[v]) σ2 H5 else N ys σ2 H4))
def qf5(own:Nat)(ix:List Nat)(wi:TI)(g:TG)(tt:TT)(te:TE):TE:=fun σ H Q=>wi σ H fun J H1=>qb5 own ix g tt te J σ H1 Q
def qf9(ifs:List Expr)(env:Env):Sem Bool :=
 forIn ifs true fun c r=>if r=true then do let ok ← isTrue c env (eval c env); pure (ForInStep.yield ok) else pure (ForInStep.yield r)
def PTs(X:Cx)(ifs:List Expr)(t:TT):Prop :=
 ∀(pins:List (Addr×Obj)) (s:Shared) (σ:St) (H:Hp) (Q:Bool→Hp→Prop),Inv X pins σ H s→t σ H Q→wpAny (model X.prog X.w) X.A (qf9 ifs X.env) (TP X pins σ Q) X.xe s
def tYes:TT:=fun _ H Q=>Q true H
theorem qaG{X:Cx}:PTs X [] tYes:=fun _ _ _ H _ I h=>wpAny_tests_nil ⟨H,I,h⟩
theorem qcU{X:Cx}{c:Expr}{t:TT}(h:PT X c t):PTs X [c] t:=fun pins s σ H Q I q=>wpAny_tests_one (h pins s σ H Q I q)
theorem comp_turns{prog:Program}{w:World}{A:Around}{R:Result→Shared→Prop}{s:Shared}{elt tg iter:Expr}{ifs:List Expr}{scope:Scope}{pos:Pos}{it acc:Value}{env:Env}(J:Nat→Shared→Prop)(turn:∀ n s,J n s→wpAny (model prog w) A (pyNext it) (fun r s1=>match r with
   | none=>R (.ok .next) s1
   | some v=>wpAny (model prog w) A (letOwnedTupleGo tg it v) (fun _ s2=>wpAny (model prog w) A (assign tg env v) (fun _ s3=>wpAny (model prog w) A (qf9 ifs env) (fun ok s4 =>
     if ok=true then wpAny (model prog w) A (eval elt env) (fun x s5=>wpAny (model prog w) A (call (.builtin "list.append") [acc,x]) (fun _ s6=>∃ m,m < n∧J m s6) (fun _ _=>False) s5) (fun _ _=>False) s4
     else ∃ m,m < n∧J m s4) (fun _ _=>False) s3) (fun _ _=>False) s2) (fun _ _=>False) s1) (fun _ _=>False) s)(n:Nat)(h:J n s):codeAny (model prog w) A (.compLoop (.ListComp elt [⟨tg,iter,ifs,0⟩] scope pos) 0 it acc env) R s:=by
 refine codeAny_loop rfl J (fun n s hI=>?_) n h
 show wpAny (model prog w) A ((compTurn (.ListComp elt [⟨tg,iter,ifs,0⟩] scope pos) 0 it acc env).onRaise (fun z=>do noteFrame z env; theTreesLotGoes z)) _ _ s
 refine wpAny_noted ?_
 rw [compTurn_list]
 refine wpAny_bind (wpAny_standAt (wpAny_bind (wpAny_mono (turn n s hI) (fun r s1 q1=>?_) fun _ _ z=>z.elim)))
 cases r with
 | none=>exact wpAny_pure q1
 | some v =>
   refine wpAny_bind (wpAny_mono q1 (fun _ s2 q2=>?_) fun _ _ z=>z.elim)
   refine wpAny_bind (wpAny_mono q2 (fun _ s3 q3=>?_) fun _ _ z=>z.elim)
   refine wpAny_bind (wpAny_mono q3 (fun ok s4 q4=>?_) fun _ _ z=>z.elim)
   cases ok with
   | false=>exact wpAny_pure ⟨rfl,q4⟩
   | true =>
     refine wpAny_bind (wpAny_bind (wpAny_mono q4 (fun x s5 q5=>?_) fun _ _ z=>z.elim))
     exact wpAny_bind (wpAny_mono q5 (fun _ s6 q6=>wpAny_pure (wpAny_pure ⟨rfl,q6⟩)) fun _ _ z=>z.elim)
section
variable{fs ex:List Addr}{H H1:Hp}{h h1:Heap}{D:Addr}{o:HO}
theorem Un.track(u:Un fs ex H H1 h h1)(hD:h.objs.size≤D)(n0:H D=none):Un fs ex H (upd H1 D o) h h1 where
 keep:=u.keep
 slot:=u.slot
 free:=fun b ob q n hx=>by rw[qap (Nat.ne_of_lt (Nat.lt_of_lt_of_le (Heap.lt_size q) hD))];exact u.free b ob q n hx
 there:=u.there
 tups:=fun b xs q=>by rw[qap (qar q n0)];exact u.tups b xs q
 frzs:=fun b ob xs q=>by rw[qap (qar q n0)];exact u.frzs b ob xs q
 tbls:=fun b ps q=>by rw[qap (qar q n0)];exact u.tbls b ps q
theorem HOk.track{P:Program}{w:World}(x:HOk P w H h)(n0:H D=none)(new:ObjOk P w (upd H D o) h D o):HOk P w (upd H D o) h:=fun a u e=>by
 by_cases z:a=D
 ·subst z;rw[qac]at e;cases e;exact new
 ·rw[qap z]at e;exact(x a u e).stay (fun _ _ _ q=>q) (fun b q=>by rw[qap (qar q n0)];exact q) fun b xs q=>by rw[qap (qar q n0)];exact q
end
abbrev lobj(its:List Value)(n:Nat):Obj:={cls:=.type "list",data:=.seq its.toArray n}
theorem Inv.letgo{X:Cx}{pins:List (Addr×Obj)}{σ:St}{H:Hp}{s:Shared}{C:Addr}{h':Heap}(I:Inv X pins σ H s)(f:FpOk X pins H C)(hs:Heap.SameBut C s.heap h'):Inv X pins σ H {s with heap:=h'} :=
 I.turned (t':=s.toks) (it:=C) (fun b o hb e=>(hs.2 b hb).trans e) f.1 f.2.1 f.2.2.2.1 f.2.2.2.2.1 f.2.2.2.2.2
theorem qc4{scope:Scope}{env:Env}{x:Str}{k:NameKind}(h:(relabel scope env).names.lookup x=some k):∃k0,(x,k0)∈scope.names∧(k0=k∨(k0=.free∧k=.cell)):=by
 have m:=qb2 h;obtain⟨⟨n,k0⟩,h1,h2⟩:=List.mem_map.mp (show(x,k)∈scope.names.map _ from m);dsimp only at h2
 by_cases c:(k0 == NameKind.free && env.scope.kind == .function && env.kindOf n == some .cell)=true
 ·rw[if_pos c]at h2;obtain⟨rfl,rfl⟩:=Prod.mk.inj h2;refine⟨k0,h1,.inr ⟨?_,rfl⟩⟩;rw[Bool.and_eq_true,Bool.and_eq_true]at c;simpa using c.1.1
 ·rw[if_neg c]at h2;obtain⟨rfl,rfl⟩:=Prod.mk.inj h2;exact⟨k0,h1,.inl rfl⟩
theorem relabel_free{scope:Scope}{env:Env}{x:Str}(h:scope.names.lookup x=some .free):(relabel scope env).names.lookup x=some .free∨(relabel scope env).names.lookup x=some .cell:=by
 have all:∀(l:List (Str×NameKind)),l.lookup x=some .free →
   (l.map fun(n,k)=>if(k == NameKind.free && env.scope.kind == .function && env.kindOf n == some .cell)then(n,NameKind.cell)else(n,k)).lookup x=some .free ∨
   (l.map fun(n,k)=>if(k == NameKind.free && env.scope.kind == .function && env.kindOf n == some .cell)then(n,NameKind.cell)else(n,k)).lookup x=some .cell:=by
  intro l
  induction l with
  | nil=>intro q;cases q
  | cons y r ih =>
    obtain⟨n,k⟩:=y
    intro q
    rw[List.lookup_cons]at q
    rw[List.map_cons]
    cases hx:x == n with
    | true =>
      rw[hx]at q
      cases q
      dsimp only
      split
      · right;rw[List.lookup_cons,hx]
      · left;rw[List.lookup_cons,hx]
    | false =>
      rw[hx]at q
      dsimp only
      split
      · rw[List.lookup_cons,hx];exact ih q
      · rw[List.lookup_cons,hx];exact ih q
 exact all scope.names h
section
variable{X:Cx}{elt tg iter:Expr}{ifs:List Expr}{scope:Scope}{pos:Pos}{g:TG}{tt:TT}{te:TE}{N' own frees:List Str}{ix:List Nat}{pins:List (Addr×Obj)}{σ:St}{H2:Hp}{s2:Shared}{it:Addr}{fp:List Addr}{tn:Nat→Heap→Prop}{J:It}{cl:List (Str×Addr)}{E:Value→Shared→Prop}
structure CompScope(X:Cx)(scope:Scope)(own frees:List Str)(ix:List Nat):Prop where
 kind:scope.kind=.function
 nocell:∀y∈scope.names,y.2≠.cell
 loc:∀y∈scope.names,y.2=.local→scope.names.lookup y.1=some .local
 fr:∀y∈scope.names,y.2=.free→X.env.scope.names.lookup y.1=some .cell∨X.env.scope.names.lookup y.1=some .free
 ixs:ix.map (fun j=>X.N[j]?)=frees.map some
 isf:∀x∈frees,scope.names.lookup x=some .free
theorem comp_ok(S:CompScope X scope own frees ix)(I:Inv X pins σ H2 s2)(hcl1:∀x c,cl.lookup x=some c→X.env.cells.lookup x=some c)(hcl2:∀x,(x,NameKind.free)∈scope.names→∃c,cl.lookup x=some c)(T:Turn X.prog X.w X.K tg J fp it tn)(st:tn 0 s2.heap)(f2:∀b∈fp,FpOk X pins H2 b){C:Addr}(hC:s2.heap.objs.size≤C):(qa2 X N' scope cl C s2 H2 fp).Ok:=by
 have lt:∀b∈fp,b<s2.heap.objs.size:=fun b hb=>by
  obtain⟨o,e,_⟩:=T.obj 0 _ st b hb;exact Heap.lt_size e
 refine⟨I.ok.mod,S.kind,I.ok.glob,I.ok.blt,hC,fun x y c h1 h2=>I.ok.inj x y c (hcl1 x c h1) (hcl1 y c h2),fun x hx=>?_,(fun x c q=>nomatch q),I.ok.hd,I.ok.frames,.inl rfl,fun b hb=>?_,I.bs,Nat.le_trans I.ok.bsz I.sz,fun b o e hb=>?_,fun b hb z=>?_,I.stack,I.stkFree⟩
 ·have hx':(relabel scope X.env).names.lookup x=some .cell∨(relabel scope X.env).names.lookup x=some .free:=hx;have fin:(x,NameKind.free)∈scope.names:=by
   rcases hx' with q | q
   ·obtain⟨k0,m,z | ⟨z,_⟩⟩:=qc4 q
    ·exact absurd z (S.nocell _ m)
    ·rw[←z];exact m
   ·obtain⟨k0,m,z | ⟨_,z⟩⟩:=qc4 q
    ·rw[←z];exact m
    ·cases z
  exact hcl2 x fin
 ·refine⟨Nat.ne_of_lt (Nat.lt_of_lt_of_le (lt b hb) hC),fun x c e=>(f2 b hb).2.2.2.2.1 x c (hcl1 x c e)⟩
 ·have q:=(f2 b hb).2.2.2.1;rcases q with q | q
  ·exact I.ok.noex b o e q
  ·exact absurd (Nat.lt_of_lt_of_le (Nat.lt_of_lt_of_le (Heap.lt_size e) I.ok.bsz) q) (Nat.lt_irrefl _)
 ·rcases List.mem_cons.mp (I.stkSub b z)with q | q
  ·exact(f2 b hb).2.1 q
  ·exact(f2 b hb).2.2.1 q
theorem qdi(hc:X.calm=true)(S:CompScope X scope own frees ix)(I:Inv X pins σ H2 s2)(hcl1:∀x c,cl.lookup x=some c→X.env.cells.lookup x=some c)(hcl2:∀x,(x,NameKind.free)∈scope.names→∃c,cl.lookup x=some c)(T:Turn X.prog X.w X.K tg J fp it tn)(st:tn 0 s2.heap)(f2:∀b∈fp,FpOk X pins H2 b)(hg:∀C,PG (qa2 X (own++frees) scope cl C s2 H2 fp) tg g)(ht:∀C,PTs (qa2 X (own++frees) scope cl C s2 H2 fp) ifs tt)(he:∀C,PE (qa2 X (own++frees) scope cl C s2 H2 fp) elt te){Q:VK}{W:Nat→Nat→List V→St→Hp→Prop}(w0:∃m,W 0 m [] (qbN own.length ix σ) H2)(turn:∀i m ys σ' H',W i m ys σ' H'→ys.length<sizeLine ∧
   ((J.stop i H'∧∀ D,H' D=none→Q (.ref D) (upd H' D (.lst ys))) ∨
    (J.go i H'∧∃N:List V→St→Hp→Prop,(∀zs σ2 H2,N zs σ2 H2→∃m',m'<m∧W (i+1) m' zs σ2 H2)∧∀x H2,J.yld i H' x H2→g x σ' H2 fun σ2 H3=>tt σ2 H3 fun b H4 =>
       if b=true then te σ2 H4 fun v H5=>N (ys++[v]) σ2 H5 else N ys σ2 H4))){RR:Value→Addr→Result→Shared→Prop}(hRR:∀D C H' s' m,Inv X pins σ H' s'→FpOk X pins H' C→s'.heap.Ns C m→Q (.ref D) H'→RR (.ref D) C (.ok .next) s') :
  wpAny (model X.prog X.w) X.A (newList []) (fun acc s3=>wpAny (model X.prog X.w) X.A (newFunctionEnv scope X.env.globals cl [] X.env.qual none .none (some X.env)) (fun cenv s4 =>
   codeAny (model X.prog X.w) X.A (.compStart (.ListComp elt [⟨tg,iter,ifs,0⟩] scope pos) 0 (.ref it) acc {cenv with scope:=relabel scope X.env}) (RR acc cenv.locals) s4) E s3) E s2:=by
 obtain⟨m0,w0⟩:=w0;refine wpAny_newObj_type (wpAny_newFunctionEnv S.nocell (by intro y hy;simp at hy) (fun h1 ns1 sb1=>?_) S.kind);dsimp only at ns1 sb1⊢;generalize eH:s2.heap.push {cls:=.type "list",dict:=none,data:=.seq ([]:List Value).toArray}=G at ns1 sb1⊢;have szG:G.objs.size=s2.heap.objs.size+1:=by rw[←eH,Heap.size_push]
 have hC:s2.heap.objs.size≤G.objs.size:=by rw[szG];exact Nat.le_succ _
 have hDC:s2.heap.objs.size≠G.objs.size:=by rw[szG];exact Nat.ne_of_lt (Nat.lt_succ_self _)
 have below:∀b,b<s2.heap.objs.size→b≠G.objs.size∧b≠s2.heap.objs.size:=fun b hb=>⟨Nat.ne_of_lt (Nat.lt_of_lt_of_le hb hC),Nat.ne_of_lt hb⟩
 have old:∀b o,s2.heap.get? b=some o→h1.get? b=some o:=fun b o e=>sb1.extBut b o (below b (Heap.lt_size e)).1 (Heap.get?_push_of_some _ (eH ▸ Heap.get?_push_of_some _ e))
 have accD:h1.get? s2.heap.objs.size=some (lobj [] 0):=sb1.extBut _ _ hDC (Heap.get?_push_of_some _ (eH ▸ Heap.get?_push_size _ rfl));have ltf:∀b∈fp,b<s2.heap.objs.size:=fun b hb=>by
  obtain⟨o,e,_⟩:=T.obj 0 _ st b hb;exact Heap.lt_size e
 have okX:(qa2 X (own++frees) scope cl G.objs.size s2 H2 fp).Ok:=comp_ok S I hcl1 hcl2 T st f2 hC;have ltc:∀x c,cl.lookup x=some c→c<s2.heap.objs.size:=fun x c e=>by
  obtain⟨v,q⟩:=I.cell x c (hcl1 x c e);exact q.lt
 have notfs:∀b,s2.heap.objs.size≤b→b∉frs X.stack:=fun b hb z=>by
  rcases List.mem_cons.mp (I.stkSub b z)with q | q
  ·exact absurd (Nat.lt_of_lt_of_le I.lt (by rw[←q];exact hb)) (Nat.lt_irrefl _)
  ·exact I.nofs hb q
 have lenix:ix.length=frees.length:=by have:=congrArg List.length S.ixs;simpa using this
 have I0:Inv (qa2 X (own++frees) scope cl G.objs.size s2 H2 fp) [(s2.heap.objs.size,lobj [] 0)] (qbN own.length ix σ) H2 {s2 with heap:=h1,toks:=s2.toks+([]:List (Str×Value)).length}:=by
  obtain⟨m2,n2,l2⟩:=id I.loc;refine⟨okX,rfl,I.bare,Un.kept old,⟨_,ns1,fun i x v e1 e2 e3=>?_⟩,fun x c e=>?_,I.hok.fresh hC,fun x c e=>I.freeC x c (hcl1 x c e),fun p hp=>?_,I.hok.kept old,?_⟩
  ·have e1:(own++frees)[i]?=some x:=e1
   by_cases hi:i<own.length
   ·unfold qbN at e2;rw[List.getElem?_append_left (by simpa using hi),List.getElem?_replicate]at e2
    split at e2<;>cases e2
   ·have hi':own.length≤i:=Nat.le_of_not_lt hi;unfold qbN at e2;rw[List.getElem?_append_right (by simpa using hi'),List.length_replicate,List.getElem?_map]at e2;rw[List.getElem?_append_right hi']at e1;cases ej:ix[i-own.length]? with
    | none=>rw[ej]at e2;cases e2
    | some j =>
      rw[ej]at e2
      have e2':(σ[j]?).join=some v:=Option.some.inj e2
      have ev:σ[j]?=some (some v):=by
        cases q:σ[j]? with
        | none=>rw[q]at e2';cases e2'
        | some y=>rw[q]at e2';exact congrArg some e2'
      have eN:X.N[j]?=some x:=by
        have q:=congrArg (fun l=>l[i-own.length]?) S.ixs
        simp only[List.getElem?_map,ej,e1,Option.map_some]at q
        exact Option.some.inj q
      have xf:x∈frees:=List.mem_of_getElem? e1
      have xm:(x,NameKind.free)∈scope.names:=qb2 (S.isf x xf)
      have vis:Vis X.env.scope x:=by
        rcases S.fr _ xm rfl with q | q
        · exact .inr (.inl q)
        · exact .inr (.inr q)
      obtain⟨u,r,lk⟩:=l2 j x v eN ev vis
      refine⟨u,r,?_⟩
      rcases lk with⟨k,_⟩ | ⟨_,c,ec,z⟩
      · have k':X.env.scope.names.lookup x=some .local:=k
        rcases S.fr _ xm rfl with q | q
        · rw[k']at q;cases q
        · rw[k']at q;cases q
      · obtain⟨c',ec'⟩:=hcl2 x xm
        have:c=c':=Option.some.inj (ec.symm.trans (hcl1 x c' ec'))
        subst this
        refine .inr ⟨?_,c,ec',z.keeps old⟩
        rcases relabel_free (env:=X.env) (S.isf x xf)with q | q
        · exact .inr q
        · exact .inl q
  ·obtain⟨v,z⟩:=I.cell x c (hcl1 x c e);exact⟨v,z.keeps old⟩
  ·have hp':p=(s2.heap.objs.size,lobj [] 0):=by simpa[qa2]using hp
   subst hp';exact⟨accD,I.hok.fresh (Nat.le_refl _),hDC,notfs _ (Nat.le_refl _),fun v q=>nomatch q⟩
  ·show(qbN own.length ix σ).length=(own++frees).length;unfold qbN;rw[List.length_append,List.length_replicate,List.length_map,List.length_append,lenix]
 have st1:tn 0 h1:=T.keep 0 _ _ st fun b hb o e=>old b o e
 have stat:∀{H':Hp} {pl:List (Addr×Obj)},(∀b∈fp,H' b=none)→(∀p∈pl,s2.heap.objs.size≤p.1)→∀b∈fp,FpOk (qa2 X (own++frees) scope cl G.objs.size s2 H2 fp) pl H' b:=fun {H' pl} hn hp b hb =>
  ⟨hn b hb,(below b (ltf b hb)).1,fun z=>okX.exfs b hb z,.inl hb,fun x c e=>(f2 b hb).2.2.2.2.1 x c (hcl1 x c e),fun p q z=>by
   have q':p∈pl:=by simpa[qa2]using q
   have:=hp p q';rw[z]at this;exact absurd (Nat.lt_of_lt_of_le (ltf b hb) this) (Nat.lt_irrefl _)⟩
 have loop:∀s3:Shared,s3={s2 with heap:=h1,toks:=s2.toks+([]:List (Str×Value)).length} →
   codeAny (model X.prog X.w) X.A (.compLoop (.ListComp elt [⟨tg,iter,ifs,0⟩] scope pos) 0 (.ref it) (.ref s2.heap.objs.size) (compEnvC scope cl G.objs.size X.env)) (RR (.ref s2.heap.objs.size) G.objs.size) s3:=by
  rintro s3 rfl;refine comp_turns (fun n s'=>∃i ys σ' H' its k,Inv (qa2 X (own++frees) scope cl G.objs.size s2 H2 fp) [(s2.heap.objs.size,lobj its k)] σ' H' s'∧tn i s'.heap∧(∀b∈fp,H' b=none)∧Vals ys its∧W i n ys σ' H') ?_ m0
   ⟨0,[],_,H2,[],0,I0,st1,fun b hb=>(f2 b hb).1,.nil,w0⟩
  rintro n s4 ⟨i,ys,σ4,H4,its,k,I4,st4,fr4,rv,w4⟩;obtain⟨hz,alt⟩:=turn i n ys σ4 H4 w4;have big:∀p∈[(s2.heap.objs.size,lobj its k)],s2.heap.objs.size≤p.1:=fun p hp=>by
   have:p=(s2.heap.objs.size,lobj its k):=by simpa using hp
   rw[this];exact Nat.le_refl _
  rcases alt with⟨stop,fin⟩ | ⟨go,NN,hNN,step⟩
  ·refine wpAny_mono (T.done (qa2 X (own++frees) scope cl G.objs.size s2 H2 fp) rfl rfl rfl hc i _ s4 σ4 H4 (fun _ _=>False) I4 (stat fr4 big) st4 stop) (fun r s5 q5=>?_) fun _ _ z=>z
   obtain⟨hr,I5⟩:=q5;subst hr;have pD:=I5.pin (s2.heap.objs.size,lobj its k) (List.mem_append_right _ List.mem_cons_self);obtain⟨m5,n5,_⟩:=id I5.loc;have okD:HOk X.prog X.w (upd H4 s2.heap.objs.size (.lst ys)) s5.heap:=HOk.track I5.hok pD.2.1 ⟨Nat.le_of_lt hz,its,k,rv,pD.1⟩;have un:Un (frs X.stack) fp H2 (upd H4 s2.heap.objs.size (.lst ys)) s2.heap s5.heap:=Un.track I5.base (Nat.le_refl _) (I.hok.fresh (Nat.le_refl _));have I6:Inv X pins σ (upd H4 s2.heap.objs.size (.lst ys)) s5:=I.call' (ch:=fp) I5.os un okD I5.bare fun b hb=>⟨(f2 b hb).2.2.2.1,(f2 b hb).2.1,(f2 b hb).2.2.2.2.1,(f2 b hb).2.2.2.2.2⟩
   refine hRR _ _ _ _ m5 I6 ?_ n5 (fin _ pD.2.1);refine⟨?_,?_,?_,.inr (Nat.le_trans I.sz hC),fun x c e z=>?_,fun p hp z=>?_⟩
   ·rw[qap (Ne.symm hDC)];exact I5.free
   ·exact Nat.ne_of_gt (Nat.lt_of_lt_of_le I.lt hC)
   ·exact I.nofs hC
   ·obtain⟨v,q⟩:=I.cell x c e;exact absurd (Nat.lt_of_lt_of_le q.lt (by rw[z];exact hC)) (Nat.lt_irrefl _)
   ·exact absurd (Nat.lt_of_lt_of_le (Heap.lt_size (I.pin p hp).1) (by rw[z];exact hC)) (Nat.lt_irrefl _)
  ·refine wpAny_mono (T.item (qa2 X (own++frees) scope cl G.objs.size s2 H2 fp) rfl rfl rfl hc i _ s4 σ4 H4 (fun _ _=>False) I4 (stat fr4 big) st4 go) (fun r s5 q5=>?_) fun _ _ z=>z
   obtain⟨u,hr,q5⟩:=q5;subst hr;refine wpAny_mono q5 (fun _ s6 q6=>?_) fun _ _ z=>z
   obtain⟨x,H6,I6,r6,y6,st6,fr6⟩:=q6;have I6':=I6.pinned (stat fr6 big) (T.obj _ _ st6);refine wpAny_mono (hg _ _ s6 σ4 H6 x u _ I6' r6 (step x H6 y6)) (fun _ s7 q7=>?_) fun _ _ z=>z
   obtain⟨σ7,H7,I7,q7⟩:=q7;refine wpAny_mono (ht _ _ s7 σ7 H7 _ I7 q7) (fun ok s8 q8=>?_) fun _ _ z=>z
   obtain⟨H8,I8,q8⟩:=q8;cases ok with
   | false =>
     rw[if_neg Bool.false_ne_true]at q8⊢
     obtain⟨m',hm,w8⟩:=hNN _ _ _ q8
     refine⟨m',hm,i+1,ys,σ7,H8,its,k,I8.unpinned,T.keep _ _ _ st6 fun b hb o e=>(I8.pin (b,o) (List.mem_append_right _ (List.mem_append_right _ (qbt hb e)))).1,fun b hb=>?_,rv,w8⟩
     obtain⟨o,e,d⟩:=T.obj _ _ st6 b hb
     exact(I8.pin (b,o) (List.mem_append_right _ (List.mem_append_right _ (qbt hb e)))).2.1
   | true =>
     rw[if_pos rfl]at q8⊢
     refine wpAny_mono (he _ _ s8 σ7 H8 _ I8 q8) (fun v s9 q9=>?_) fun _ _ z=>z
     obtain⟨y,H9,I9,ry,q9⟩:=q9
     obtain⟨m',hm,w9⟩:=hNN _ _ _ q9
     have pD:=I9.pin (s2.heap.objs.size,lobj its k) (List.mem_append_right _ (List.mem_append_left _ List.mem_cons_self))
     have lenv:=rv.length
     refine wpAny_list_append_plain (items:=its.toArray) ⟨k,pD.1⟩ (fun h' hp hs=>?_) (by rw[List.size_toArray];omega)
     obtain⟨k',e'⟩:=hp
     have ne:∀b∈fp,b≠s2.heap.objs.size:=fun b hb=>(below b (ltf b hb)).2
     have I10:Inv (qa2 X (own++frees) scope cl G.objs.size s2 H2 fp) (qcT fp s6.heap) σ7 H9 s9:=I9.pins_of fun p hp=>I9.pin p (List.mem_append_right _ (List.mem_append_right _ hp))
     have I11:Inv (qa2 X (own++frees) scope cl G.objs.size s2 H2 fp) (qcT fp s6.heap) σ7 H9 {s9 with heap:=h',toks:=s9.toks} :=
       I10.turned (it:=s2.heap.objs.size) (fun b o hb e=>(hs.2 b hb).trans e) pD.2.1 pD.2.2.1 (.inr (Nat.le_refl _)) (fun x c e z=>absurd (ltc x c e) (by rw[z];exact Nat.lt_irrefl _)) fun p hp z=>by
         have hp':p∈qcT fp s6.heap:=by simpa[qa2]using hp
         exact ne p.1 (qd0 hp').1 z
     have e'':h'.get? s2.heap.objs.size=some (lobj (its++[v]) k'):=by rw[e'];simp
     have I12:Inv (qa2 X (own++frees) scope cl G.objs.size s2 H2 fp) [(s2.heap.objs.size,lobj (its++[v]) k')] σ7 H9 {s9 with heap:=h',toks:=s9.toks}:=I11.pins_of fun p hp=>by
       have:p=(s2.heap.objs.size,lobj (its++[v]) k'):=by simpa using hp
       subst this
       exact⟨e'',pD.2.1,pD.2.2.1,pD.2.2.2.1,fun v q=>nomatch q⟩
     refine⟨m',hm,i+1,ys++[y],σ7,H9,its++[v],k',I12,T.keep _ _ _ st6 fun b hb o e=>(hs.2 b (ne b hb)).trans (I9.pin (b,o) (List.mem_append_right _ (List.mem_append_right _ (qbt hb e)))).1,fun b hb=>?_,rv.append (.cons ry .nil),w9⟩
     obtain⟨o,e,d⟩:=T.obj _ _ st6 b hb
     exact(I9.pin (b,o) (List.mem_append_right _ (List.mem_append_right _ (qbt hb e)))).2.1
 exact codeAny_compStart_list (loop _ rfl) (T.self _ 0 _ _ _ st1 (loop _ rfl))
variable{wi:TI}
theorem qaI(hc:X.calm=true)(S:CompScope X scope own frees ix)(hi:PI X tg iter wi)(hg:∀cl C s2 H2 fp,PG (qa2 X (own++frees) scope cl C s2 H2 fp) tg g)(ht:∀cl C s2 H2 fp,PTs (qa2 X (own++frees) scope cl C s2 H2 fp) ifs tt)(he:∀cl C s2 H2 fp,PE (qa2 X (own++frees) scope cl C s2 H2 fp) elt te)(hs:∀x,foldedSetIterable iter X.env x=pure x:=by intro _;rfl) :
  PE X (.ListComp elt [⟨tg,iter,ifs,0⟩] scope pos) (qf5 own.length ix wi g tt te):=by
 intro pins s σ H Q I h;obtain⟨cl,hcl,hcl1,hcl2⟩:=qfs (scope:=scope) (env:=X.env) fun x hx hf=>I.ok.has x.1 (S.fr x hx hf)
 rw[eval_ListComp];refine wpAny_comprehension_free (use:=none) rfl hs hcl S.kind S.loc ?_;refine thn (hi pins s σ H _ I h) fun v s1 h1=>thn h1 fun itv s2 h2=>?_
 obtain⟨it,fp,tn,J,H2,e,I2,T,st2,f2,W,w0,turn⟩:=h2;subst e;refine qdi (Q:=Q) (RR:=fun acc C=>compPost (model X.prog X.w) X.A X.xe none (EP X pins σ Q) acc C) hc S I2 hcl1 hcl2 T st2 f2 (fun C=>hg cl C s2 H2 fp) (fun C=>ht cl C s2 H2 fp) (fun C=>he cl C s2 H2 fp) w0 turn ?_;intro D C H' s' m I' fC nC q;exact⟨m,nC,fun h' hs'=>⟨.ref D,H',I'.letgo fC hs',rfl,q⟩⟩
theorem qcg{i:Nat}{y:Str}{py spos:Pos}(hc:X.calm=true)(hN:X.N.Nodup)(hiN:X.N[i]?=some y)(hy:Loc X.env.scope y)(S:CompScope X scope own frees ix)(hi:PI X tg iter wi)(hg:∀ cl C s2 H2 fp,PG (qa2 X (own++frees) scope cl C s2 H2 fp) tg g)(ht:∀ cl C s2 H2 fp,PTs (qa2 X (own++frees) scope cl C s2 H2 fp) ifs tt)(he:∀ cl C s2 H2 fp,PE (qa2 X (own++frees) scope cl C s2 H2 fp) elt te)(hf:X.fn y=true∨X.env.scope.names.lookup y=some .local:=by first | exact .inl rfl | exact .inr rfl | assumption)(hsw:swapsWith (.ListComp elt [⟨tg,iter,ifs,0⟩] scope pos) (some (.Name y py)) spos.line X.env=pure true:=by with_unfolding_all rfl)(hs:∀ x,foldedSetIterable iter X.env x=pure x:=by intro _; rfl) :
  PS X (.Assign [.Name y py] (.ListComp elt [⟨tg,iter,ifs,0⟩] scope pos) spos) (tAsg (qf5 own.length ix wi g tt te) (qa1 i)):=by
 intro pins s σ H D I h
 obtain ⟨cl,hcl,hcl1,hcl2⟩:=qfs (scope:=scope) (env:=X.env) fun x hx hf=>I.ok.has x.1 (S.fr x hx hf)
 rw [exec_Assign_Name_used _ _ _ _ hsw]
 refine wpAny_bind (wpAny_standAt (wpAny_bind ?_))
 show wpAny (model X.prog X.w) X.A (do let _ ← comprehension (.ListComp elt [⟨tg,iter,ifs,0⟩] scope pos) scope X.env _ (newList []) false (eval iter X.env) (some (assign (.Name y py) X.env))) _ _ s
 refine wpAny_bind (wpAny_mono (wpAny_comprehension_free (use:=some (assign (.Name y py) X.env)) (Q:=fun _ s'=>SP X pins D .next s') rfl hs hcl S.kind S.loc ?_) (fun _ s' q=>wpAny_pure (wpAny_pure q)) fun _ _ z=>z)
 refine thn (hi pins s σ H _ I h) fun v s1 h1=>thn h1 fun itv s2 h2=>?_
 obtain ⟨it,fp,tn,J,H2,e,I2,T,st2,f2,W,w0,turn⟩:=h2
 subst e
 refine qdi (Q:=fun v H'=>qa1 i v σ H' D.nx) (RR:=fun acc C=>compPost (model X.prog X.w) X.A X.xe (some (assign (.Name y py) X.env)) (fun _ s'=>SP X pins D .next s') acc C) hc S I2 hcl1 hcl2 T st2 f2 (fun C=>hg cl C s2 H2 fp) (fun C=>ht cl C s2 H2 fp) (fun C=>he cl C s2 H2 fp) w0 turn ?_
 intro L C H' s' m I' fC nC q
 show wpAny (model X.prog X.w) X.A (assign (.Name y py) X.env (.ref L)) _ _ _
 refine wpAny_assign_Name (qdD (v:=.ref L) I' hN hiN hy rfl (fun s3 I3 hch=>?_) hf)
 obtain ⟨a,sb,ha⟩:=hch
 have nCa:C≠a:=by
  rcases ha with z | z
  ·rw [z]; exact fC.2.1
  ·exact fun q=>fC.2.2.2.2.1 y a z q.symm
 refine ⟨m,nC.sameBut sb nCa,fun h' hs'=>?_⟩
 exact ⟨_,H',I3.letgo fC hs',q⟩
end
theorem qaF{K:PySem.W.Frag}{a:Addr}{xs:List V}{own:Nat}{ix:List Nat}{g:TG}{tt:TT}{te:TE}{σ:St}{H:Hp}{Q:VK}(Pv:Nat→List V→St→Hp→Prop)(hz:xs.length<sizeLine)(h0:Pv 0 [] (qbN own ix σ) H)(hl:∀i ys σ' H',i≤xs.length→Pv i ys σ' H'→SqL K H' a xs∧ys.length≤i)(hs:∀i x ys σ' H',xs[i]?=some x→Pv i ys σ' H'→g x σ' H' fun σ2 H3=>tt σ2 H3 fun b H4=>if b=true then te σ2 H4 fun v H5=>Pv (i+1) (ys++[v]) σ2 H5 else Pv (i+1) ys σ2 H4)(hd:∀ys σ' H',Pv xs.length ys σ' H'→∀D,H' D=none→Q (.ref D) (upd H' D (.lst ys))) :
  qb5 own ix g tt te (Itl K a) σ H Q:=by
 refine⟨fun i m ys σ H=>m=xs.length-i∧i≤xs.length∧Pv i ys σ H,⟨xs.length,by simp,Nat.zero_le _,h0⟩,?_⟩;rintro i m ys σ H ⟨rfl,hi,p⟩;obtain⟨q,hy⟩:=hl i ys σ H hi p;refine⟨by omega,?_⟩
 by_cases hlt:i<xs.length
 ·refine .inr ⟨⟨xs,xs[i],q,by simp[hlt]⟩,Pv (i+1),fun zs σ' H' p'=>⟨xs.length-(i+1),by omega,rfl,hlt,p'⟩,fun x H' y=>?_⟩;obtain⟨e,y⟩:=y;subst e;exact hs i x ys σ _ (y xs q) p
 ·have e:i=xs.length:=by omega
  subst e;exact .inl ⟨⟨xs,q,Nat.le_refl _⟩,hd ys σ H p⟩
end L2
namespace L2
open PySem PySem.Spec PyProof.Rows
theorem ObjOk.at{P:Program}{w:World}{H:Hp}{h:Heap}{a:Addr}{o:HO}(x:ObjOk P w H h a o):∃u,h.get? a=some u:=by
 cases o with
 | lst xs=>obtain⟨_,_,_,_,e⟩:=x;exact⟨_,e⟩
 | tup xs=>obtain⟨_,_,_,o,e,_⟩:=x;exact⟨_,e⟩
 | dK kvs=>obtain⟨_,_,_,_,o,_,_,e,_⟩:=x;exact⟨_,e⟩
 | dT kvs=>obtain⟨_,_,_,_,o,_,_,e,_⟩:=x;exact⟨_,e⟩
 | set S n=>obtain⟨o,_,_,_,e,_⟩:=x;exact⟨_,e⟩
 | ins C dx fs=>obtain⟨_,_,_,e,_⟩:=x;exact⟨_,e⟩
 | own y=>exact x
 | xd fs=>obtain⟨_,⟨_,_,_,e,_⟩,_⟩:=x;exact⟨_,e⟩
 | rng lo hi=>obtain⟨_,_,_,e⟩:=x;exact⟨_,e⟩
 | frz ob u=>obtain⟨e,_⟩:=x;exact⟨_,e⟩
 | tbl ps=>exact⟨_,x⟩
 | met f y=>exact⟨_,x⟩
 | ext φ=>exact x.2.1
def CX1(P:Program)(w:World):CXT:=fun outer H s E e s'=>∃(ea C:Addr) (a0:Value) (H':Hp) (B:Heap),e=.ref ea∧s'.os=s.os∧AllBare s'.gens∧Un (frs outer) [] H H' s.heap s'.heap∧HOk P w H' s'.heap ∧
 Heap.FlyingW B outer ea (.ref C) a0 s'.heap∧(∀b o,s'.heap.get? b=some o→(H' b≠none∨∃o0,s.heap.get? b=some o0)→b∉frs outer→B.get? b=some o)∧H' ea=none∧s.heap.get? ea=none∧E (.ref C) none H'
theorem qfS{X:Cx}:qdF (CX1 X.prog X.w) X E0:=fun _ _ _ _ _ _ _ h=>by
 obtain⟨_,_,_,_,_,_,_,_,_,_,_,_,_,_,q⟩:=h;exact q.elim
section
variable{P:Program}{w:World}{K:PySem.W.Frag}{mg:Str→Option Value}{base:Heap}{N:List Str}{qual:Str}{scope:Scope}{f:Addr}{cd:Value}{A:Around}{outer:List Env}{s0:Shared}{H0:Hp}{E:XK}{pins:List (Addr×Obj)}{σ:St}{H:Hp}{s:Shared}
theorem xe_raise{h':Heap}{e C:Addr}{args:List Value}(I:Inv (cxOf (CX1 P w) P w K mg base N qual scope f cd A outer s0 H0 E) pins σ H s)(hx:Heap.MadeExcOf s.heap h' e (.ref C) args)(hE:E (.ref C) none H) :
  (cxOf (CX1 P w) P w K mg base N qual scope f cd A outer s0 H0 E).xe (.ref e) {s with heap:=h'}:=by
 show wpAny (model P w) (A.deeper (envOfC qual scope s0.heap.objs.size f cd)) (leaving (envOfC qual scope s0.heap.objs.size f cd) (.ref e)) (fun _ s''=>CX1 P w outer H0 s0 E (.ref e) s'') (fun e' s''=>CX1 P w outer H0 s0 E e' s'') {s with heap:=h'};have fr:=I.stack;have hin:∀env∈(envOfC qual scope s0.heap.objs.size f cd::outer),∀b,env.frame=some b→b∈frs (envOfC qual scope s0.heap.objs.size f cd::outer):=fun env he b hb=>List.mem_filterMap.mpr ⟨env,he,hb⟩
 refine wpAny_leaves_madeW (base:=PySem.W.hideAll s.heap (frs (envOfC qual scope s0.heap.objs.size f cd::outer))) (h:=s.heap) (outer:=outer) I.ok.frames rfl (fun b o q=>PySem.W.of_hideAll _ q) (PySem.W.funFrames_hide fr hin) hx fun h2 t x1 _ _ x4=>?_
 have kB:∀b o,s.heap.get? b=some o→b∉frs (envOfC qual scope s0.heap.objs.size f cd::outer)→h2.get? b=some o:=fun b o q nb=>x1.1 b o (PySem.W.hideAll_get _ q nb)
 have old:∀b o,s0.heap.get? b=some o→b∉frs outer→b∉frs (envOfC qual scope s0.heap.objs.size f cd::outer):=fun b o q nb z=>by
  rcases List.mem_cons.mp (show b∈s0.heap.objs.size::frs outer from z)with e1 | e1
  ·rw[e1]at q;exact absurd (Heap.lt_size q) (Nat.lt_irrefl _)
  ·exact nb e1
 have trk:∀b,H b≠none→b∉frs (envOfC qual scope s0.heap.objs.size f cd::outer):=fun b q z=>q (I.stkFree b z)
 have slots:∀b o,s.heap.get? b=some o→b∈frs outer→∃sl,h2.get? b=some {o with slots:=sl}:=fun b o q hb=>by
  obtain⟨_,o',ho',hnf⟩:=I.funs.mem hb;rw[q]at ho';cases ho';exact x4 b o (hx.keeps b o q) hnf
 refine⟨e,C,.ref t,H,_,rfl,I.os,I.bare,⟨fun b o q n nb _=>?_,fun b o q n hb _=>?_,fun b o q n _=>I.base.free b o q n (by simp[cxOf]),fun b o q _=>?_,I.base.tups,I.base.frzs,I.base.tbls⟩,fun a o q=>?_,x1,fun b o q hq nb=>?_,?_,?_,hE⟩
 ·exact kB b o (I.base.keep b o q n nb (by simp[cxOf])) (old b o q nb)
 ·obtain⟨sl,e1⟩:=I.base.slot b o q n hb (by simp[cxOf]);obtain⟨sl',e2⟩:=slots b _ e1 hb;exact⟨sl',e2⟩
 ·obtain⟨o',e1⟩:=I.base.there b o q (by simp[cxOf])
  by_cases hb:b∈frs outer
  ·obtain⟨sl,e2⟩:=slots b o' e1 hb;exact⟨_,e2⟩
  ·exact⟨o',kB b o' e1 (old b o q hb)⟩
 ·refine(I.hok a o q).stay (fun b u hb z=>kB b u z (trk b ?_)) (fun _ z=>z) fun _ _ z=>z
  rcases hb with z' | z'
  ·rw[z',q];exact fun z=>by cases z
  ·rw[z'];exact fun z=>by cases z
 ·have fin:∃o',s.heap.get? b=some o'∧b∉frs (envOfC qual scope s0.heap.objs.size f cd::outer):=by
   rcases hq with z | ⟨o0,z⟩
   ·cases e1:H b with
    | none=>exact absurd e1 z
    | some u =>
      obtain⟨o',e2⟩:=(I.hok b u e1).at
      exact⟨o',e2,trk b z⟩
   ·obtain⟨o',e2⟩:=I.base.there b o0 z (by simp[cxOf]);exact⟨o',e2,old b o0 z nb⟩
  obtain⟨o',e1,nb'⟩:=fin;have e2:=kB b o' e1 nb';rw[q]at e2;cases e2;exact PySem.W.hideAll_get _ e1 nb'
 ·cases e1:H e with
  | none=>rfl
  | some u =>
    obtain⟨o',e2⟩:=(I.hok e u e1).at
    rw[hx.new]at e2
    cases e2
 ·cases e1:s0.heap.get? e with
  | none=>rfl
  | some o =>
    obtain⟨o',e2⟩:=I.base.there e o e1 (by simp[cxOf])
    rw[hx.new]at e2
    cases e2
def qfF(t:TA)(C:Addr)(E:XK):TS:=fun _ σ H=>t σ H fun vs H1=>vs.length≤sizeLine∧E (.ref C) none H1
theorem ps_raise{x:Str}{C:Addr}{bm:List Value}{B newId initId:String}{e0:Expr}{rest:List Expr}{np cpos pos:Pos}{t:TA}(O:OwnCls x C bm newId mg base)(FB:ExcBaseFacts B newId initId bm)(hA:A.handled=none)(hg:Gl (cxOf (CX1 P w) P w K mg base N qual scope f cd A outer s0 H0 E) x)(ha:PA (cxOf (CX1 P w) P w K mg base N qual scope f cd A outer s0 H0 E).nox (e0::rest) t)(he:starEach (e0::rest) (envOfC qual scope s0.heap.objs.size f cd)=(false,eval e0 (envOfC qual scope s0.heap.objs.size f cd))::starEach rest (envOfC qual scope s0.heap.objs.size f cd):=by rfl)(hpl:(backTo cpos (starEach rest (envOfC qual scope s0.heap.objs.size f cd))).any (·.1)=false:=by rfl)(hd:(x == ("__debug__" : Str))=false:=by decide) :
  PS (cxOf (CX1 P w) P w K mg base N qual scope f cd A outer s0 H0 E) (.Raise (some (.Call (.Name x np) (e0::rest) [] cpos)) none pos) (qfF t C E):=by
 intro pins s σ H D I h;obtain⟨tl,N',nm,q,bs,hdct,sn,sub,ab,col,dd,k0,k1,k2,k3,k5,mN,hC,hN,hni,T⟩:=O.obj;refine wpAny_Raise_call_subT (C:=C) (nm:=nm) (q:=q) (N:=N') (bs:=bs) (bm:=tl) (hdct:=hdct) (sn:=sn) (sub:=sub) (ab:=ab) (col:=col) (dd:=dd) (k0:=k0) (k1:=k1) (k2:=k2) (k3:=k3) (k5:=k5)
  FB (mN:=mN) (T.hasType FB.hasBase) hA (by show(backTo cpos (starEach (e0::rest) (envOfC qual scope s0.heap.objs.size f cd))).any (·.1)=false;rw[he];show(false || (backTo cpos (starEach rest (envOfC qual scope s0.heap.objs.size f cd))).any (·.1))=false;rw[hpl];rfl) hni
  (qed I hg O.bound ⟨rfl,?_⟩ hd)
 have run:=ha cpos pins s σ H _ (I.wish fun _ _=>False) h;have he':starEach (e0::rest) (cxOf (CX1 P w) P w K mg base N qual scope f cd A outer s0 H0 E).env=(false,eval e0 (envOfC qual scope s0.heap.objs.size f cd))::starEach rest (envOfC qual scope s0.heap.objs.size f cd):=he;have he'':starEach (e0::rest) (cxOf (CX1 P w) P w K mg base N qual scope f cd A outer s0 H0 E).nox.env=(false,eval e0 (envOfC qual scope s0.heap.objs.size f cd))::starEach rest (envOfC qual scope s0.heap.objs.size f cd):=he;rw[he'']  at run;rw[he'];refine Calls.evalArgs_plain (wpAny_mono run (fun us s1 q1=>?_) fun _ _ z=>z.elim);obtain⟨vs,H1,I1,rv,hz,hE⟩:=q1;have I1:=I1.unwish;have kb:=I1.bk;refine⟨rfl,by rw[←rv.length];exact hz,kb _ _ hC,hN.keeps kb,T.keeps kb,fun h' e hm=>?_⟩;exact xe_raise I1 hm hE
end
end L2
namespace L2
open PySem PySem.Spec PyProof.Rows
section
variable{X:Cx}{pins:List (Addr×Obj)}{σ:St}{H:Hp}{s:Shared}{D:Addr}{o:HO}
theorem Inv.track(I:Inv X pins σ H s)(h0:X.s₀.heap.get? D=none)(hn:H D=none)(hL:D≠X.env.locals)(hc:∀x c,X.env.cells.lookup x=some c→c≠D)(hp:∀p∈X.pn++pins,p.1≠D)(new:ObjOk X.prog X.w (upd H D o) s.heap D o):Inv X pins σ (upd H D o) s:=by
 refine⟨I.ok,I.os,I.bare,⟨I.base.keep,I.base.slot,fun b ob q n hx=>?_,I.base.there,fun b xs q=>?_,fun b ob xs q=>?_,fun b ps q=>?_⟩,I.loc,I.cell,?_,fun x c e=>?_,fun p z=>?_,HOk.track I.hok hn new,I.len⟩
 ·rw[qap (fun z=>by rw[z,h0]at q;cases q)];exact I.base.free b ob q n hx
 ·have r:=I.base.tups b xs q;rw[qap (fun z=>by rw[z,hn]at r;cases r)];exact r
 ·have r:=I.base.frzs b ob xs q;rw[qap (fun z=>by rw[z,hn]at r;cases r)];exact r
 ·obtain⟨more,r⟩:=I.base.tbls b ps q;exact⟨more,by rw[qap (fun z=>by rw[z,hn]at r;cases r)];exact r⟩
 ·rw[qap (Ne.symm hL)];exact I.free
 ·rw[qap (hc x c e)];exact I.freeC x c e
 ·obtain⟨q1,q2,q3,q4,q5⟩:=I.pin p z;exact⟨q1,by rw[qap (hp p z)];exact q2,q3,q4,q5⟩
end
mutual
inductive DIn(H:Hp):V→PySem.W.Dat→Prop
 | non:DIn H .non .none
 | int (i):DIn H (.int i) (.int i)
 | str (x):DIn H (.str x) (.str x)
 | tup {a xs ds}:H a=some (.tup xs)→DAll H xs ds→DIn H (.ref a) (.tuple ds)
 | lst {a xs ds}:H a=some (.lst xs)→DAll H xs ds→DIn H (.ref a) (.list ds)
inductive DAll(H:Hp):List V→List PySem.W.Dat→Prop
 | nil:DAll H [] []
 | cons {x d xs ds}:DIn H x d→DAll H xs ds→DAll H (x::xs) (d::ds)
end
section
variable{P:Program}{w:World}{H:Hp}{h:Heap}
mutual
theorem qbU(ok:HOk P w H h):∀{v:V} {d:PySem.W.Dat} {u:Value} (n:Nat),DIn H v d→RelV v u→PySem.W.kqdOk n d=true→∃as,Reads h u (PySem.W.kqdP d) as
 | _,_,_,_,.non,r,_=>by cases r;exact⟨_,Reads.none⟩
 | _,_,_,_,.int i,r,_=>by obtain⟨t,rfl⟩:=r;exact⟨_,Reads.int i t⟩
 | _,_,_,_,.str x,r,_=>by obtain⟨t,rfl⟩:=r;exact⟨_,Reads.str x t⟩
 | _,_,_,0,.tup _ _,_,hk=>by simp[PySem.W.kqdOk]at hk
 | _,_,_,0,.lst _ _,_,hk=>by simp[PySem.W.kqdOk]at hk
 | _, _, _, n + 1, .tup (a := a) e q, r, hk => by
   cases r
   obtain⟨_,its,rv,o,e1,e2,k,e3⟩:=ok a _ e
   obtain⟨as,z⟩:=qcv ok n q rv (by simpa[PySem.W.kqdOk]using hk)
   rw[PySem.W.kqdP]
   exact⟨as,reads_tuple_at e1 e2 e3 (by simpa using z)⟩
 | _, _, _, n + 1, .lst (a := a) e q, r, hk => by
   cases r
   obtain⟨_,its,k,rv,e1⟩:=ok a _ e
   obtain⟨as,z⟩:=qcv ok n q rv (by simpa[PySem.W.kqdOk]using hk)
   rw[PySem.W.kqdP]
   exact⟨_,reads_list_at e1 rfl rfl (by simpa using z)⟩
theorem qcv(ok:HOk P w H h):∀{vs:List V} {ds:List PySem.W.Dat} {us:List Value} (n:Nat),DAll H vs ds→Vals vs us→(∀d∈ds,PySem.W.kqdOk n d=true)→∃as,ReadsAll h us (PySem.W.kqdPs ds) as
 | _,_,_,_,.nil,r,_=>by cases r;exact⟨_,ReadsAll.nil⟩
 | _, _, _, n, .cons q qs, r, hk => by
   cases r with
   | cons r1 r2 =>
     obtain⟨as,z⟩:=qbU ok n q r1 (hk _ (.head _))
     obtain⟨bs,y⟩:=qcv ok n qs r2 fun d hd=>hk d (.tail _ hd)
     rw[PySem.W.kqdPs]
     exact⟨_,ReadsAll.cons z y⟩
end
end
theorem qeW{d e:PySem.W.Dat}{n k:Nat}(h1:PySem.W.kqdOk n d=true)(h2:PySem.W.kqdOk k e=true)[Decidable (d=e)]:PyData.eqv (PySem.W.kqdP d) (PySem.W.kqdP e)=decide (d=e):=by
 have q:=PySem.W.kqd_eqv n d e k h1 h2
 by_cases z:d=e
 ·rw[decide_eq_true z];exact q.mpr z
 ·rw[decide_eq_false z];exact Bool.eq_false_iff.mpr fun x=>z (q.mp x)
theorem qb4{d:PySem.W.Dat}(h:PySem.W.kqdOk 9 d=true):SeqAt.shaped (PySem.W.kqdP d)=true:=by
 have q:=PySem.W.kqd_lay 9 d h;unfold SeqAt.shaped;rw[q.1,Bool.true_and];exact decide_eq_true (Nat.le_trans q.2 (by decide))
section
variable{X:Cx}
open Classical in
def rEqD(neg:Bool):R2:=fun x y H Q=>∃d e,DIn H x d∧DIn H y e∧PySem.W.kqdOk 9 d=true∧PySem.W.kqdOk 9 e=true∧Q (.bl (if neg=true then !decide (d=e)else decide (d=e))) H
open Classical in
theorem op_eqD(hu:X.A.units+64<cLine):OpR X (compareOp .Eq) (rEqD false):=by
 intro pins s σ H x y v u Q I rx ry h;obtain⟨d,e,h1,h2,k1,k2,q⟩:=h;obtain⟨as,r1⟩:=qbU I.hok 9 h1 rx k1;obtain⟨bs,r2⟩:=qbU I.hok 9 h2 ry k2;exact eq_dataH r1 r2 (qb4 k1) (qb4 k2) hu (qaL I q (by rw[qeW k1 k2];simp))
open Classical in
theorem op_neD(hu:X.A.units+64<cLine):OpR X (compareOp .NotEq) (rEqD true):=by
 intro pins s σ H x y v u Q I rx ry h;obtain⟨d,e,h1,h2,k1,k2,q⟩:=h;obtain⟨as,r1⟩:=qbU I.hok 9 h1 rx k1;obtain⟨bs,r2⟩:=qbU I.hok 9 h2 ry k2;exact ne_dataH r1 r2 (qb4 k1) (qb4 k2) hu (qaL I q (by rw[qeW k1 k2];simp))
def CDivL(i j:Int):Prop:=0<j∧j<18446744073709551616
theorem op_fdivL:OpR X (binaryOp .FloorDiv) (rI CDivL fun i j=>.int (i / j)):=opI fun i j _ _ _ _ _ hc q=>by
 have h1:(0:Int)<j:=hc.1;have h2:j<18446744073709551616:=hc.2;refine floordiv_int (by omega) ?_ (.inl (PyProof.noPylong_of_log2 ?_))
 ·rw[Int.fdiv_eq_ediv_of_nonneg i (by omega)];exact q
 ·have h3:j.natAbs<2 ^ 64:=by omega
  exact Nat.lt_of_lt_of_le ((Nat.log2_lt (by omega)).mpr h3) (by decide)
theorem call_isinst:qcd X (.builtin "isinstance") (fun xs H Q=>∃x c t b,xs=[x,c]∧TyOf X.K H x t∧(∃cv,(∀u,RelV c u→u=cv)∧PySem.W.kitOne X.K t cv=some b)∧Q (.bl b) H):=by
 intro pins s σ H xs us Q I r h;obtain⟨x,c,t,b,rfl,ty,⟨cv,hcv,e⟩,q⟩:=h;obtain⟨u,w',rfl,r1,r2⟩:=qfW r;obtain rfl:=hcv _ r2;exact isinst_ok I r1 ty e fun tk=>⟨.bl b,H,I.tok _,rfl,q⟩
theorem qcI(hc:X.calm=true):qcd X (.builtin "all") (fun xs H Q=>∃(p:Addr) (bs:List Bool),xs=[.ref p]∧SqL X.K H p (bs.map V.bl)∧Q (.bl (bs.all id)) H):=by
 intro pins s σ H xs us Q I r h;obtain⟨p,bs,rfl,hp,q⟩:=h;obtain⟨u,rfl,rx⟩:=qdo r;cases rx;obtain⟨its,rv,pl,hz⟩:=I.list hp;have hh:=I.ok.hd hc;refine call_all_walk (wpAny_pyIter_list pl.isList ?_);have lp:p<s.heap.objs.size:=by
  obtain⟨o,e,_⟩:=pl.isList;exact Heap.lt_size e
 have atB:∀(i:Nat) (v:Value),its.toArray[i]?=some v→v=.bool (bs.getD i false):=fun i v e=>by
  have e':its[i]?=some v:=by simpa using e
  cases z:bs[i]? with
  | none =>
    have h1:=rv.length
    rw[List.length_map]at h1
    have h2:=(List.getElem?_eq_some_iff.mp e').1
    have h3:=List.getElem?_eq_none_iff.mp z
    omega
  | some b =>
    obtain⟨u,e2,r2⟩:=rv.get (i:=i) (x:=.bl b) (by rw[List.getElem?_map,z];rfl)
    rw[e']at e2
    cases e2
    cases r2
    rw[List.getD_eq_getElem?_getD,z]
    rfl
 refine⟨s.heap.objs.size,_,_,_,_,_,fun i=>bs.getD i false,rfl,Walks.list (by simpa using hh) s.heap.objs.size p (Nat.ne_of_lt lp) its.toArray,⟨⟨_,Heap.get?_push_size _ rfl,rfl,rfl⟩,pl.isList.push _⟩,fun i v s' Q' E' e hq=>?_,fun h' tk k=>?_⟩
 ·rw[atB i v e];exact wpAny_truthy_bool hq
 ·have ev:(List.range its.toArray.size).all (fun i=>bs.getD i false)=bs.all id:=by
   have hl:its.toArray.size=bs.length:=by rw[List.size_toArray,←rv.length,List.length_map]
   rw[hl];rw[Bool.eq_iff_iff];simp only[List.all_eq_true,List.mem_range,id];constructor
   ·intro z x hx;obtain⟨i,hi,e⟩:=List.mem_iff_getElem.mp hx;have:=z i hi;rw[List.getD_eq_getElem?_getD,List.getElem?_eq_getElem hi,e]at this;exact this
   ·intro z i hi;rw[List.getD_eq_getElem?_getD,List.getElem?_eq_getElem hi];exact z _ (List.getElem_mem hi)
  rw[ev];exact⟨.bl (bs.all id),H,I.kept fun b o e=>k b o (by simpa using Nat.ne_of_lt (Heap.lt_size e)) (Heap.get?_push_of_some _ e),rfl,q⟩
end
end L2
namespace Bk
open PySem
inductive Kd
 | body | case | shelf | grid | text | head | picture | aside | note | leaf | no
 deriving DecidableEq
def Kd.s:Kd→Str
 | .body=>Str.ofString "body"
 | .case=>Str.ofString "case"
 | .shelf=>Str.ofString "shelf"
 | .grid=>Str.ofString "grid"
 | .text=>Str.ofString "text"
 | .head=>Str.ofString "head"
 | .picture=>Str.ofString "picture"
 | .aside=>Str.ofString "aside"
 | .note=>Str.ofString "note"
 | .leaf=>Str.ofString "leaf"
 | .no=>Str.ofString ""
theorem Kd.inj(a b:Kd):(a.s=b.s)=(a=b):=by
 cases a<;>cases b<;>first | exact propext ⟨fun _=>rfl,fun _=>rfl⟩ | exact propext ⟨fun h=>absurd h (by decide +kernel),fun h=>by cases h⟩
inductive So
 | word | page | note | sign
 deriving DecidableEq
def So.s:So→Str
 | .word=>Str.ofString "word"
 | .page=>Str.ofString "page"
 | .note=>Str.ofString "note"
 | .sign=>Str.ofString "sign"
inductive Th
 | int (n:Int) | tri (s:So) (x:Sum Str Int) (t:Int)
structure Nd where
 e:Int
 k:Kd
 nm:Str
 mks:List Str
 st:List Th
def wordSigns:List Nat:=[97,98,99,100,101,102,103,104,105,106,107,108,109,110,111,112,113,114,115,116,117,118,119,120,121,122,
 65,66,67,68,69,70,71,72,73,74,75,76,77,78,79,80,81,82,83,84,85,86,87,88,89,90,48,49,50,51,52,53,54,55,56,57,46,44,45,59,58,39,40,41,33,63]
def qeh(c:Nat):Prop:=97≤c∧c≤122
def Word(w:Str):Prop:=1≤w.length∧w.length≤20∧∀c∈w.cps.toList,c∈wordSigns
def Name(n:Str):Prop:=1≤n.length∧n.length≤8∧∀c∈n.cps.toList,qeh c
def isNote:Th→Bool
 | .tri .note _ _=>true
 | _=>false
def PcOk:Th→Prop
 | .tri .word (.inl w) t=>Word w∧0≤t∧t≤3
 | .tri .page (.inl n) t=>Name n∧0≤t∧t≤3
 | .tri .note (.inr k) t=>0≤k∧k≤60∧t=0
 | _=>False
def noteNum:Th→Option Int
 | .tri .note (.inr k) _=>some k
 | _=>none
def qaY(l:List Th):List Int:=l.filterMap noteNum
def nums(n:Nat):List Int:=(List.range n).map fun(i:Nat)=>(i:Int)
theorem qcR(n:Nat):nums (n+1)=nums n++[(n:Int)]:=by unfold nums;rw[List.range_succ,List.map_append];rfl
structure Pieces(n:Nat)(l:List Th):Prop where
 ok:∀x∈l,PcOk x
 ne:∃x r,l=x::r∧isNote x=false
 nn:qaY l=nums n
 le:l.length≤60
def mayHold:Kd→Kd→Bool
 | .body,.case | .body,.shelf | .body,.grid | .body,.text | .body,.head | .body,.picture | .body,.aside=>true
 | .case,.case | .case,.shelf | .case,.grid | .case,.text | .case,.head | .case,.picture | .case,.aside=>true
 | .shelf,.case | .shelf,.shelf | .shelf,.grid | .shelf,.text | .shelf,.picture=>true
 | .grid,.case | .grid,.shelf | .grid,.grid | .grid,.text | .grid,.picture=>true
 | .text,.note | .head,.note=>true
 | .aside,.case | .aside,.shelf | .aside,.grid | .aside,.text | .aside,.head | .aside,.picture=>true
 | _,_=>false
def neverEmpty:Kd→Bool
 | .body | .shelf | .grid | .aside=>true
 | _=>false
def ofPieces:Kd→Bool
 | .text | .head | .note=>true
 | _=>false
def Nexts:List Kd→Prop
 | []=>True
 | .aside :: .text::r=>Nexts r
 | .aside::_=>False
 | _::r=>Nexts r
def Holds(k:Kd)(ks:List Kd)(st:List Th):Prop:=(∀c∈ks,mayHold k c=true)∧(neverEmpty k=true→ks≠[])∧Nexts ks∧(ofPieces k=true→qaY st=nums ks.length)
def qd5(l:List Str):Prop:=l.length≤4∧(∀m∈l,Name m)∧l.Pairwise fun a b=>a.cps.toList<b.cps.toList
def Stuff:Kd→List Th→Prop
 | .picture,l=>∃a b:Int,l=[.int a,.int b]∧1≤a∧a≤2000∧1≤b∧b≤2000
 | .text,l | .head,l | .note,l=>(∀x∈l,PcOk x)∧(∃x r,l=x::r∧isNote x=false)∧l.length≤60
 | _,l=>l=[]
def noName:Str:=Str.ofString ""
structure Form(d:Nd):Prop where
 nm:d.nm=noName∨Name d.nm
 mks:qd5 d.mks
 st:Stuff d.k d.st
inductive Forest:Nat→Nat→Nat→List Nd→List Kd→Prop
 | nil {e i lv:Nat}:Forest e i lv [] []
 | cons {e i lv:Nat} {d:Nd} {sub rest:List Nd} {ks ks':List Kd}:d.e=(e:Int)→lv≤6→d.k≠.body→Forest i (i+1) (lv+1) sub ks→Holds d.k ks d.st→Forest e (i+1+sub.length) lv rest ks'→Forest e i lv (d::(sub++rest)) (d.k::ks')
theorem Forest.append{e lv:Nat}{a b:List Nd}{ks ks':List Kd}{i:Nat}(x:Forest e i lv a ks):Forest e (i+a.length) lv b ks'→Forest e i lv (a++b) (ks++ks'):=by
 induction x with
 | nil=>intro y;exact y
 | @cons e i lv d sub rest ks ks1 h1 h2 h3 f1 h4 f2 ih1 ih2 =>
   intro y
   have y':Forest e (i+1+sub.length+rest.length) lv b ks':=by
     have:i+(d::(sub++rest)).length=i+1+sub.length+rest.length:=by simp;omega
     rw[←this];exact y
   have:=ih2 y'
   rw[List.cons_append,List.append_assoc,List.cons_append]
   exact .cons h1 h2 h3 f1 h4 this
theorem Forest.one{e i lv:Nat}{d:Nd}{sub:List Nd}{ks:List Kd}(h1:d.e=(e:Int))(h2:lv≤6)(h3:d.k≠.body)(f:Forest i (i+1) (lv+1) sub ks)(h4:Holds d.k ks d.st):Forest e i lv (d::sub) [d.k]:=by
 have:=Forest.cons (rest:=[]) h1 h2 h3 f h4 .nil
 rwa [List.append_nil]at this
def ItemKs(ke:Kd)(ks:List Kd):Prop:=(∃k,ks=[k]∧k≠.aside∧mayHold ke k=true)∨(ks=[.aside,.text]∧mayHold ke .aside=true∧mayHold ke .text=true)
theorem Nexts.append:∀{a b:List Kd},Nexts a→Nexts b→Nexts (a++b)
 | [],b,_,h=>h
 | [.aside],b,h,_=>by cases h
 | .aside :: k :: r, b, h, h' => by
   cases k<;>first | (exact Nexts.append (a:=r) h h') | cases h
 | .body::r,b,h,h'=>Nexts.append (a:=r) h h'
 | .case::r,b,h,h'=>Nexts.append (a:=r) h h'
 | .shelf::r,b,h,h'=>Nexts.append (a:=r) h h'
 | .grid::r,b,h,h'=>Nexts.append (a:=r) h h'
 | .text::r,b,h,h'=>Nexts.append (a:=r) h h'
 | .head::r,b,h,h'=>Nexts.append (a:=r) h h'
 | .picture::r,b,h,h'=>Nexts.append (a:=r) h h'
 | .note::r,b,h,h'=>Nexts.append (a:=r) h h'
 | .leaf::r,b,h,h'=>Nexts.append (a:=r) h h'
 | .no::r,b,h,h'=>Nexts.append (a:=r) h h'
theorem ItemKs.nexts{ke:Kd}{ks:List Kd}(h:ItemKs ke ks):Nexts ks:=by
 rcases h with⟨k,rfl,n,_⟩ | ⟨rfl,_⟩
 ·cases k<;>first | trivial | exact absurd rfl n
 ·trivial
theorem ItemKs.may{ke:Kd}{ks:List Kd}(h:ItemKs ke ks):∀k∈ks,mayHold ke k=true:=by
 rcases h with⟨k,rfl,_,m⟩ | ⟨rfl,m1,m2⟩
 ·intro k' hk;have:k'=k:=by simpa using hk
  rw[this];exact m
 ·intro k' hk;rcases List.mem_cons.mp hk with rfl | hk
  ·exact m1
  ·have:k'=.text:=by simpa using hk
   rw[this];exact m2
theorem ItemKs.ne{ke:Kd}{ks:List Kd}(h:ItemKs ke ks):ks≠[]:=by
 rcases h with⟨k,rfl,_⟩ | ⟨rfl,_⟩<;>simp
def Names(l:List Nd):Prop:=(l.filter fun d=>d.nm≠noName).map (·.nm) |>.Nodup
structure Book(l:List Nd):Prop where
 tree:∃d sub ks,l=d::sub∧d.e=-1∧d.k=.body∧Forest 0 1 1 sub ks∧Holds .body ks d.st
 form:∀d∈l,Form d
 names:Names l
def cap(R lv:Nat):Nat:=R+(if 4≤lv then 2 else if lv=3 then 12 else if lv=2 then 21 else 30)
end Bk
namespace L2
open PySem
theorem qad{H:Hp}{p:Addr}(h:H p=none)(o:HO):Same H (upd H p o):=fun b u q=>by rw[qap (qar q h)];exact q
def KeepN(N:Addr→Prop)(H H':Hp):Prop:=∀b o,N b→H b=some o→H' b=some o
theorem KeepN.trans{N:Addr→Prop}{H H1 H2:Hp}(a:KeepN N H H1)(b:KeepN N H1 H2):KeepN N H H2:=fun c o n h=>b c o n (a c o n h)
theorem KeepN.mono{N N':Addr→Prop}{H H1:Hp}(a:KeepN N H H1)(h:∀b,N' b→N b):KeepN N' H H1:=fun c o n e=>a c o (h c n) e
theorem Same.keep{N:Addr→Prop}{H H':Hp}(s:Same H H'):KeepN N H H':=fun b o _ e=>s b o e
theorem KeepN.refl{N:Addr→Prop}{H:Hp}:KeepN N H H:=fun _ _ _ e=>e
end L2
namespace Bk
open PySem L2
def thV:Sum Str Int→V
 | .inl x=>.str x
 | .inr k=>.int k
def ItAt(N:Addr→Prop)(H:Hp)(v:V):Th→Prop
 | .int n=>v=.int n
 | .tri s x t=>∃a,v=.ref a∧N a∧H a=some (.tup [.str s.s,thV x,.int t])
theorem ItAt.keep{N N':Addr→Prop}{H H':Hp}{v:V}{x:Th}(h:ItAt N H v x)(k:KeepN N H H')(sub:∀b,N b→(H b).isSome=true→N' b):ItAt N' H' v x:=by
 cases x with
 | int n=>exact h
 | tri s x t =>
   obtain⟨a,e,n,g⟩:=h
   exact⟨a,e,sub a n (by rw[g];rfl),k _ _ n g⟩
def StAt(N:Addr→Prop)(H:Hp)(s:Addr)(l:List Th):Prop:=N s∧∃vs,H s=some (.lst vs)∧Paired (ItAt N H) vs l
structure NdAt(N:Addr→Prop)(H:Hp)(a:Addr)(d:Nd):Prop where
 na:N a
 ex:∃m s,H a=some (.tup [.int d.e,.str d.k.s,.str d.nm,.ref m,.ref s])∧N m∧H m=some (.lst (d.mks.map V.str))∧StAt N H s d.st
theorem StAt.keep{N N':Addr→Prop}{H H':Hp}{s:Addr}{l:List Th}(h:StAt N H s l)(k:KeepN N H H')(sub:∀b,N b→(H b).isSome=true→N' b):StAt N' H' s l:=by
 obtain⟨n,vs,g,p⟩:=h;exact⟨sub s n (by rw[g];rfl),vs,k _ _ n g,p.mono fun v x q=>q.keep k sub⟩
theorem NdAt.keep{N N':Addr→Prop}{H H':Hp}{a:Addr}{d:Nd}(h:NdAt N H a d)(k:KeepN N H H')(sub:∀b,N b→(H b).isSome=true→N' b):NdAt N' H' a d:=by
 obtain⟨na,m,s,g,nm,gm,st⟩:=h;exact⟨sub a na (by rw[g];rfl),m,s,k _ _ na g,sub m nm (by rw[gm];rfl),k _ _ nm gm,st.keep k sub⟩
abbrev NdsAt(N:Addr→Prop)(H:Hp)(as:List Addr)(ds:List Nd):Prop:=Paired (NdAt N H) as ds
theorem NdsAt.keep{N N':Addr→Prop}{H H':Hp}{as:List Addr}{ds:List Nd}(h:NdsAt N H as ds)(k:KeepN N H H')(sub:∀b,N b→(H b).isSome=true→N' b):NdsAt N' H' as ds:=h.mono fun a d q=>q.keep k sub
theorem NdsAt.get{N:Addr→Prop}{H:Hp}{as:List Addr}{ds:List Nd}(h:NdsAt N H as ds){i:Nat}{d:Nd}(e:ds[i]?=some d):∃a,as[i]?=some a∧NdAt N H a d:=by
 induction h generalizing i with
 | nil=>cases e
 | @cons a b l1 l2 q t ih =>
   cases i with
   | zero=>cases e;exact⟨a,rfl,q⟩
   | succ i=>exact ih (by simpa using e)
theorem NdsAt.at{N:Addr→Prop}{H:Hp}{as:List Addr}{ds:List Nd}(h:NdsAt N H as ds){i:Nat}{a:Addr}(e:as[i]?=some a):∃d,ds[i]?=some d∧NdAt N H a d:=by
 induction h generalizing i with
 | nil=>cases e
 | @cons a b l1 l2 q t ih =>
   cases i with
   | zero=>cases e;exact⟨b,rfl,q⟩
   | succ i=>exact ih (by simpa using e)
theorem NdsAt.append{N:Addr→Prop}{H:Hp}{as bs:List Addr}{ds es:List Nd}(p:NdsAt N H as ds)(h:NdsAt N H bs es):NdsAt N H (as++bs) (ds++es):=by
 induction p with
 | nil=>exact h
 | cons q t ih=>exact .cons q ih
def qbd(N:Addr→Prop)(H:Hp)(p:Addr)(ds:List Nd):Prop:=∃as,H p=some (.lst (as.map V.ref))∧NdsAt N H as ds
theorem qay{as:List Addr}{i:Nat}{a:Addr}(e:as[i]?=some a):atI (as.map V.ref) ((i:Nat):Int)=some (.ref a):=qa6 (by rw[List.getElem?_map,e];rfl)
end Bk
namespace L2
open PySem PySem.Spec PyProof.Rows
theorem b_enumerate:bootBuiltins "enumerate" = some (.type "enumerate"):=by decide +kernel
section
variable{X:Cx}{pins:List (Addr×Obj)}{σ:St}{H:Hp}{s:Shared}{h':Heap}{fp:List Addr}
theorem Inv.moved{t':Nat}(I:Inv X pins σ H s)(hf:∀b∈fp,FpOk X pins H b)(k:∀b o,b∉fp→s.heap.get? b=some o→h'.get? b=some o):Inv X pins σ H {s with heap:=h',toks:=t'}:=by
 refine I.step (g':=s.gens) (d':=s.drawn) (ch:=fp) (fun b hb=>?_) (fun b o _ _ hc e _=>k b o hc e) (fun b o _ _ hc e _=>⟨o.slots,k b o hc e⟩) (fun _ _ _ _ n=>n) (fun b o hc e=>⟨o,k b o hc e⟩) (fun _ _ q=>q) (fun _ _ _ q=>q) (fun b ps q=>⟨#[],by rw[q];simp⟩) (fun m hn=>?_) (fun a u q=>?_) I.bare
 ·obtain⟨_,f1,_,f3,f4,f5⟩:=hf b hb;exact⟨f3,f1,f4,f5⟩
 ·obtain⟨o,es,ep,e,r⟩:=hn;exact⟨o,es,ep,k _ _ (fun z=>(hf _ z).2.1 rfl) e,r⟩
 ·refine(I.hok a u q).stay (fun b v hb e=>k b v (fun z=>?_) e) (fun _ z=>z) fun _ _ z=>z
  have:=(hf b z).1;rcases hb with rfl | hb
  ·rw[q]at this;cases this
  ·rw[hb]at this;cases this
end
def Ite(K:PySem.W.Frag)(a:Addr):It :=
 ⟨fun i H=>∃xs x,SqL K H a xs∧xs[i]?=some x,fun i H x H'=>∃T y,H T=none∧x=.ref T∧H'=upd H T (.tup [.int (i:Nat),y])∧∀xs,SqL K H a xs→xs[i]?=some y,fun i H=>∃xs,SqL K H a xs∧xs.length≤i⟩
theorem turn_enum{P:Program}{w:World}{K:PySem.W.Frag}{elts:List Expr}{k1:Nat}{tp:Pos}(a e it:Addr)(hei:e≠it):Turn P w K (.Tuple elts k1 tp) (Ite K a) [e,it] e (fun i h=>(∃old,IsEnum h e it ((i:Nat):Int) old)∧h.IsListIter it a i) where
 mem:=by simp
 obj:=fun i h st b hb=>by
  obtain⟨⟨old,x⟩,o,e1,c,d⟩:=st;rcases List.mem_cons.mp hb with rfl | hb
  ·exact⟨_,x,fun v z=>by cases z⟩
  ·have:b=it:=by simpa using hb
   subst this;exact⟨o,e1,fun v z=>by rw[d]at z;cases z⟩
 keep:=fun i h h' st k=>by
  obtain⟨⟨old,x⟩,y⟩:=st;exact⟨⟨old,k e (by simp) _ x⟩,y.at fun o z=>k it (by simp) o z⟩
 item:=by
  intro X hP hw hK hc i pins s σ H E I hf st hg;subst hP hw hK;obtain⟨xs,x,hq,hx⟩:=hg;obtain⟨⟨old,st1⟩,st2⟩:=st;obtain⟨its,rv,p,hz⟩:=I.list hq;obtain⟨u,hu,ru⟩:=rv.get hx;refine wpAny_pyNext_enum_item st1 st2 p.isList (x:=u) (by simpa using hu) hei fun h' ho hit' hT hsz hk=>?_
  refine⟨_,rfl,wpAny_letOwnedTupleGo_enum ho fun h2 he2 sb=>?_⟩;have k2:∀b o,b∉[e,it]→s.heap.get? b=some o→h2.get? b=some o:=fun b o hb z=>(sb.2 b (fun q=>hb (by simp[q]))).trans (hk b o (fun q=>hb (by simp[q])) (fun q=>hb (by simp[q])) z)
  have elt:e<s.heap.objs.size:=Heap.lt_size st1;have ilt:it<s.heap.objs.size:=by obtain⟨o,z,_⟩:=st2;exact Heap.lt_size z
  have gT:h2.get? s.heap.objs.size=some {cls:=.type "tuple",data:=.seq #[.int i s.toks,u]}:=(sb.2 _ (Nat.ne_of_gt elt)).trans hT;have I1:Inv X pins σ H {s with heap:=h2,toks:=s.toks+1}:=I.moved hf k2;have hn:H s.heap.objs.size=none:=I.hok.fresh (Nat.le_refl _);refine⟨.ref s.heap.objs.size,upd H s.heap.objs.size (.tup [.int (i:Nat),x]),I1.track ?_ hn (Nat.ne_of_gt I.lt) (fun y c ec z=>?_) (fun q hq z=>?_) ?_,rfl,⟨s.heap.objs.size,x,hn,rfl,rfl,fun ys hy=>by rw[I.list_inj hy hq];exact hx⟩,⟨⟨u,?_⟩,hit'.at fun o z=>(sb.2 it (Ne.symm hei)).trans z⟩,fun b hb=>?_⟩
  ·cases z:X.s₀.heap.get? s.heap.objs.size with
   | none=>rfl
   | some u=>exact absurd (Nat.lt_of_lt_of_le (Heap.lt_size z) I.sz) (Nat.lt_irrefl _)
  ·obtain⟨v,q⟩:=I.cell y c ec;exact absurd q.lt (by rw[z];exact Nat.lt_irrefl _)
  ·exact absurd (Heap.lt_size (I.pin q hq).1) (by rw[z];exact Nat.lt_irrefl _)
  ·exact⟨by show 2≤sizeLine;decide,[.int i s.toks,u],.cons ⟨_,rfl⟩ (.cons ru .nil),_,gT,rfl,_,rfl⟩
  ·simpa using he2
  ·rw[qap (fun z=>by
    have:=hb;rw[z]at this;rcases List.mem_cons.mp this with q | q
    ·exact absurd elt (by rw[←q];exact Nat.lt_irrefl _)
    ·have q':s.heap.objs.size=it:=by simpa using q
     exact absurd ilt (by rw[←q'];exact Nat.lt_irrefl _))]
   exact(hf b hb).1
 done:=by
  intro X hP hw hK hc i pins s σ H E I hf st hg;subst hP hw hK;obtain⟨xs,hq,hx⟩:=hg;obtain⟨⟨old,st1⟩,st2⟩:=st;obtain⟨its,rv,p,hz⟩:=I.list hq;have hl:=rv.length;exact wpAny_pyNext_enum_end (I.ok.hd hc) st1 st2 p.isList (by simp;omega) fun h' eb=>⟨rfl,I.moved (t':=s.toks) hf fun b o hb z=>eb b o (fun q=>hb (by simp[q])) z⟩
 self:=fun _ _ _ _ _ st h=>by
  obtain⟨⟨old,x⟩,_⟩:=st;exact wpAny_pyIter_enum x h
section
variable{X:Cx}{tg:Expr}
def iEnum(K:PySem.W.Frag)(ta:TA):TI:=fun σ H R=>ta σ H fun vs H1=>∃a,vs=[.ref a]∧(∃xs,SqL K H1 a xs)∧R (Ite K a) H1
theorem qcr{a:Expr}{ta:TA}{p pos tp:Pos}{elts:List Expr}{k1:Nat}(hg:Gl X "enumerate")(hm:X.mg "enumerate" = none)(ha:PA X [a] ta)(hs:starEach [a] X.env=[(false,eval a X.env)]:=by rfl):PI X (.Tuple elts k1 tp) (.Call (.Name "enumerate" p) [a] [] pos) (iEnum X.K ta):=by
 intro pins s σ H R I h;refine Call_ (qcF I hg hm b_enumerate (PyProof.Rows.callWith_type1 (thn (ha pos pins s σ H _ I h) fun us s1 ⟨vs,H1,I1,r1,q1⟩=>?_) hs rfl));obtain⟨l,e,⟨xs,hq⟩,q⟩:=q1;subst e;cases r1 with
 | cons r rr =>
   cases rr
   cases r
   obtain⟨its,rv,pl,hz⟩:=I1.list hq
   refine call_enumerate_list pl.isList fun h' he hit hsz kp=>?_
   refine wpAny_pyIter_enum he ?_
   have I2:Inv X pins σ H1 {s1 with heap:=h'}:=I1.kept (t':=s1.toks) kp
   refine⟨s1.heap.objs.size+1,[s1.heap.objs.size+1,s1.heap.objs.size],_,_,H1,rfl,I2,turn_enum l _ _ (Nat.ne_of_gt (Nat.lt_succ_self _)),⟨⟨_,by simpa using he⟩,hit⟩,fun b hb=>?_,q⟩
   rcases List.mem_cons.mp hb with rfl | hb
   · exact I1.fpOk (Nat.le_succ _) (I1.hok.fresh (Nat.le_succ _))
   · have:b=s1.heap.objs.size:=by simpa using hb
     subst this
     exact I1.fpOk (Nat.le_refl _) (I1.hok.fresh (Nat.le_refl _))
end
end L2
namespace L2
open PySem PySem.Spec
end L2
namespace L2
open PySem
end L2
namespace L2
open PySem PySem.Spec
end L2
namespace L2
open PySem
end L2
namespace L2
open PySem
end L2
namespace L2
open PySem
end L2
namespace L2
open PySem
end L2
namespace L2
open PySem PyProof.Rows
end L2
namespace L2
open PySem PySem.Spec PyProof.Rows
end L2
namespace L2
open PySem PySem.Spec PyProof.Rows
structure Fx(P:Program)(w:World)(K:PySem.W.Frag)(mg:Str→Option Value)(base:Heap)(CX:CXT)(k:Nat)(x:Str)(ps:List Str)(sp:Sp):Prop where
 ex:∃f fd,FnOk P w K mg base CX k f fd ps sp∧Binds K fd ps []∧PySem.W.keepIn K (.ref f)=true∧mg x=some (.ref f)
section
variable{X:Cx}{CX:CXT}{k:Nat}{ps:List Str}{sp:Sp}{E:XK}{x:Str}{p pos:Pos}{e:Expr}{es:List Expr}{t:TA}
theorem qan(F:Fx X.prog X.w X.K X.mg X.base CX k x ps sp)(hr:Room k X.A)(hg:Gl X x)(hx:qdF CX X E)(ha:PA X (e::es) t)(hdb:(x == ("__debug__" : Str))=false:=by decide)(he:starEach (e::es) X.env=(false,eval e X.env)::starEach es X.env:=by rfl)(hpl:(backTo pos (starEach es X.env)).any (·.1)=false:=by rfl):PE X (.Call (.Name x p) (e::es) [] pos) (qfT sp [] E t):=by
 obtain⟨f,fd,G,b,kp,m⟩:=F.ex;exact pe_call G hr hg m kp b .nil hx ha hdb he hpl
end
theorem CompScope.plain{X:Cx}{scope:Scope}{own:List Str}(h1:scope.kind=.function)(h2:∀y∈scope.names,y.2≠.cell)(h3:∀y∈scope.names,y.2=.local→scope.names.lookup y.1=some .local)(h4:∀y∈scope.names,y.2≠.free):CompScope X scope own [] [] :=
 ⟨h1,h2,h3,fun y hy hf=>absurd hf (h4 y hy),rfl,fun _ z=>nomatch z⟩
theorem qbc{names:List (Str×NameKind)}{a:Str}(h:names.lookup a=some .cell):∀x∈[a],names.lookup x=some .cell∨names.lookup x=some .free:=fun x hx=>by
 have:x=a:=by simpa using hx
 rw[this];exact .inl h
theorem qa9{names:List (Str×NameKind)}{a b:Str}(h:names.lookup a=some .cell)(h':names.lookup b=some .cell):∀x∈[a,b],names.lookup x=some .cell∨names.lookup x=some .free:=fun x hx=>by
 rcases List.mem_cons.mp hx with rfl | hx
 ·exact .inl h
 ·exact qbc h' x hx
theorem CompScope.frees{X:Cx}{scope:Scope}{own fr:List Str}{ix:List Nat}(h1:scope.kind=.function)(h2:∀y∈scope.names,y.2≠.cell)(h3:∀y∈scope.names,y.2=.local→scope.names.lookup y.1=some .local)(h4:∀y∈scope.names,y.2=.free→y.1∈fr)(h5:ix.map (fun j=>X.N[j]?)=fr.map some)(h6:∀x∈fr,scope.names.lookup x=some .free)(h7:∀x∈fr,X.env.scope.names.lookup x=some .cell∨X.env.scope.names.lookup x=some .free):CompScope X scope own fr ix :=
 ⟨h1,h2,h3,fun y hy hf=>h7 _ (h4 y hy hf),h5,h6⟩
theorem qa7{lo:Int}{n own:Nat}{ix:List Nat}{g:TG}{tt:TT}{te:TE}{σ:St}{H:Hp}{Q:VK}(Pv:Nat→List V→St→Hp→Prop)(hz:n<sizeLine)(h0:Pv 0 [] (qbN own ix σ) H)(hl:∀i ys σ' H',i≤n→Pv i ys σ' H'→ys.length≤i)(hs:∀i ys σ' H',i<n→Pv i ys σ' H'→g (.int (lo+i)) σ' H' fun σ2 H3=>tt σ2 H3 fun b H4=>if b=true then te σ2 H4 fun v H5=>Pv (i+1) (ys++[v]) σ2 H5 else Pv (i+1) ys σ2 H4)(hd:∀ys σ' H',Pv n ys σ' H'→∀D,H' D=none→Q (.ref D) (upd H' D (.lst ys))):qb5 own ix g tt te (Itr lo n) σ H Q:=by
 refine⟨fun i m ys σ H=>m=n-i∧i≤n∧Pv i ys σ H,⟨n,by simp,Nat.zero_le _,h0⟩,?_⟩;rintro i m ys σ H ⟨rfl,hi,p⟩;have hy:=hl i ys σ H hi p;refine⟨by omega,?_⟩
 by_cases hlt:i<n
 ·refine .inr ⟨hlt,Pv (i+1),fun zs σ' H' p'=>⟨n-(i+1),by omega,rfl,hlt,p'⟩,fun x H' y=>?_⟩;obtain⟨e,y⟩:=y;subst e y;exact hs i ys σ _ hlt p
 ·have e:i=n:=by omega
  subst e;exact .inl ⟨Nat.le_refl _,hd ys σ H p⟩
theorem qck{K:PySem.W.Frag}{a:Addr}{xs:List V}{own:Nat}{ix:List Nat}{g:TG}{tt:TT}{te:TE}{σ:St}{H:Hp}{Q:VK}(Pv:Nat→List V→St→Hp→Prop)(hz:xs.length<sizeLine)(h0:Pv 0 [] (qbN own ix σ) H)(hl:∀i ys σ' H',i≤xs.length→Pv i ys σ' H'→SqL K H' a xs∧ys.length≤i)(hs:∀i x ys σ' H' T,xs[i]?=some x→H' T=none→Pv i ys σ' H'→g (.ref T) σ' (upd H' T (.tup [.int (i:Nat),x])) fun σ2 H3=>tt σ2 H3 fun b H4=>if b=true then te σ2 H4 fun v H5=>Pv (i+1) (ys++[v]) σ2 H5 else Pv (i+1) ys σ2 H4)(hd:∀ys σ' H',Pv xs.length ys σ' H'→∀D,H' D=none→Q (.ref D) (upd H' D (.lst ys))):qb5 own ix g tt te (Ite K a) σ H Q:=by
 refine⟨fun i m ys σ H=>m=xs.length-i∧i≤xs.length∧Pv i ys σ H,⟨xs.length,by simp,Nat.zero_le _,h0⟩,?_⟩;rintro i m ys σ H ⟨rfl,hi,p⟩;obtain⟨q,hy⟩:=hl i ys σ H hi p;refine⟨by omega,?_⟩
 by_cases hlt:i<xs.length
 ·refine .inr ⟨⟨xs,xs[i],q,by simp[hlt]⟩,Pv (i+1),fun zs σ' H' p'=>⟨xs.length-(i+1),by omega,rfl,hlt,p'⟩,fun x H' y=>?_⟩;obtain⟨T,z,hT,e1,e2,y⟩:=y;subst e1 e2;exact hs i z ys σ _ T (y xs q) hT p
 ·have e:i=xs.length:=by omega
  subst e;exact .inl ⟨⟨xs,q,Nat.le_refl _⟩,hd ys σ H p⟩
def rEqP(neg:Bool):R2:=fun x y H Q=>∃d e,DIn H x d∧DIn H y e∧PySem.W.kqdOk 9 d=true∧PySem.W.kqdOk 9 e=true∧(d=e→Q (.bl (!neg)) H)∧(d≠e→Q (.bl neg) H)
section
variable{X:Cx}
open Classical in
theorem qex(hu:X.A.units+64<cLine):OpR X (compareOp .Eq) (rEqP false):=by
 intro pins s σ H x y v u Q I rx ry h;obtain⟨d,e,h1,h2,k1,k2,q1,q2⟩:=h;refine op_eqD hu pins s σ H x y v u Q I rx ry ⟨d,e,h1,h2,k1,k2,?_⟩;rw[if_neg Bool.false_ne_true]
 by_cases z:d=e
 ·rw[decide_eq_true z];exact q1 z
 ·rw[decide_eq_false z];exact q2 z
open Classical in
theorem qdj(hu:X.A.units+64<cLine):OpR X (compareOp .NotEq) (rEqP true):=by
 intro pins s σ H x y v u Q I rx ry h;obtain⟨d,e,h1,h2,k1,k2,q1,q2⟩:=h;refine op_neD hu pins s σ H x y v u Q I rx ry ⟨d,e,h1,h2,k1,k2,?_⟩;rw[if_pos rfl]
 by_cases z:d=e
 ·rw[decide_eq_true z];exact q1 z
 ·rw[decide_eq_false z];exact q2 z
end
theorem qf2{H:Hp}:∀(nms:List Str),DAll H (nms.map V.str) (nms.map PySem.W.Dat.str)
 | []=>.nil
 | x::l=>.cons (.str x) (qf2 l)
end L2
namespace Gen
open PySem L2 Bk
theorem b_isinstance:bootBuiltins "isinstance" = some (.builtin "isinstance"):=by decide +kernel
theorem b_len:bootBuiltins "len" = some (.builtin "len"):=by decide +kernel
theorem b_all:bootBuiltins "all" = some (.builtin "all"):=by decide +kernel
theorem b_sorted:bootBuiltins "sorted" = some (.builtin "sorted"):=by decide +kernel
theorem b_int:bootBuiltins "int" = some (.type "int"):=by decide +kernel
theorem b_bool:bootBuiltins "bool" = some (.type "bool"):=by decide +kernel
theorem b_list:bootBuiltins "list" = some (.type "list"):=by decide +kernel
structure Bn(mg:Str→Option Value):Prop where
 isinstance:mg "isinstance" = none
 len:mg "len" = none
 range:mg "range" = none
 sorted:mg "sorted" = none
 int:mg "int" = none
 bool:mg "bool" = none
 list:mg "list" = none
 tuple:mg "tuple" = none
 str:mg "str" = none
 set:mg "set" = none
 enumerate:mg "enumerate" = none
 all:mg "all" = none
 ver:mg "ValueError" = none
def StOk(H:Hp)(st:Addr):Prop:=∃x y:Int,H st=some (.lst [.int x,.int y])∧0≤y∧y<4294967296
abbrev Keep1(st:Addr)(H H':Hp):Prop:=KeepN (fun b=>b≠st) H H'
abbrev qcm(st p:Addr)(H H':Hp):Prop:=KeepN (fun b=>b≠st∧b≠p) H H'
theorem Keep1.two{st p:Addr}{H H':Hp}(k:Keep1 st H H'):qcm st p H H':=k.mono fun _ n=>n.1
theorem StOk.same{H H':Hp}{st:Addr}(h:StOk H st)(s:Same H H'):StOk H' st:=by
 obtain⟨x,y,e,z⟩:=h;exact⟨x,y,s _ _ e,z⟩
theorem StOk.some{H:Hp}{st:Addr}(h:StOk H st):∃o,H st=some o:=by
 obtain⟨x,y,e,z⟩:=h;exact⟨_,e⟩
theorem qaw{H:Hp}{a b:Addr}(h:∃o,H a=some o)(n:H b=none):b≠a:=by
 obtain⟨o,e⟩:=h;exact Ne.symm (qar e n)
def qen(K:PySem.W.Frag):Sp:=fun vs H Q _=>∃(a:Addr) (ns:List Int) (k:Int),vs=[.ref a,.int k]∧SqL K H a (ns.map V.int)∧0≤k∧k≤100∧∀(st:Addr) (H':Hp),H st=none→StOk H' st→Same H H'→Q (.ref st) H'
def spTake:Sp:=fun vs H Q _=>∃(st:Addr) (m:Int),vs=[.ref st,.int m]∧StOk H st∧0<m∧m≤1000000000000∧∀(r:Int) (H':Hp),0≤r→r<m→StOk H' st→Keep1 st H H'→Q (.int r) H'
def spWord:Sp:=fun vs H Q _=>∃(st:Addr) (m:Int),vs=[.ref st,.int m]∧StOk H st∧1≤m∧m≤20∧∀(x:Str) (H':Hp),Word x→(x.length:Int)≤m→StOk H' st→Keep1 st H H'→Q (.str x) H'
def qfX(H:Hp):Addr→Prop:=fun b=>H b=none
def New(H0:Hp)(p:Addr):Addr→Prop:=fun b=>H0 b=none∧b≠p
structure Gs(H0:Hp)(st p:Addr)(H:Hp)(ds:List Nd):Prop where
 so:StOk H st
 s0:∃o,H0 st=some o
 p0:H0 p=none
 old:Keep1 st H0 H
 bk:qbd (New H0 p) H p ds
section
variable{H0 H H':Hp}{st p:Addr}{ds:List Nd}
theorem Gs.pne(g:Gs H0 st p H ds):p≠st:=by
 obtain⟨o,e⟩:=g.s0;exact Ne.symm (qar e g.p0)
theorem Gs.nst(g:Gs H0 st p H ds){b:Addr}(h:New H0 p b):b≠st:=by
 obtain⟨o,e⟩:=g.s0;exact Ne.symm (qar e h.1)
theorem Gs.psome(g:Gs H0 st p H ds):∃o,H p=some o:=by
 obtain⟨as,e,_⟩:=g.bk;exact⟨_,e⟩
theorem Gs.fresh(g:Gs H0 st p H ds){b:Addr}(h:H b=none):New H0 p b:=by
 refine⟨?_,qaw g.psome h⟩;cases e:H0 b with
 | none=>rfl
 | some o =>
   have:=g.old b o (qaw g.so.some h) e
   rw[h]at this
   cases this
theorem Gs.keep1(g:Gs H0 st p H ds)(k:Keep1 st H H')(so:StOk H' st):Gs H0 st p H' ds:=by
 obtain⟨as,e,q⟩:=g.bk;exact⟨so,g.s0,g.p0,g.old.trans k,as,k _ _ g.pne e,q.keep (k.mono fun b n=>g.nst n) fun _ n _=>n⟩
theorem Gs.same(g:Gs H0 st p H ds)(s:Same H H'):Gs H0 st p H' ds:=g.keep1 s.keep (g.so.same s)
theorem Gs.push(g:Gs H0 st p H ds){as:List Addr}{a:Addr}{d:Nd}(e:H p=some (.lst (as.map V.ref)))(q:NdsAt (New H0 p) H as ds)(x:NdAt (New H0 p) H a d):Gs H0 st p (upd H p (.lst (as.map V.ref++[.ref a]))) (ds++[d]):=by
 have k:KeepN (New H0 p) H (upd H p (.lst (as.map V.ref++[.ref a]))):=fun b o n e=>by rw[qap n.2];exact e
 refine⟨?_,g.s0,g.p0,fun b o n e=>?_,as++[a],by rw[qac];simp,(q.keep k fun _ n _=>n).append (.cons (x.keep k fun _ n _=>n) .nil)⟩
 ·obtain⟨x,y,z,w⟩:=g.so;exact⟨x,y,by rw[qap (Ne.symm g.pne)];exact z,w⟩
 ·rw[qap (fun z=>by rw[z,g.p0]at e;cases e)];exact g.old b o n e
end
def NmOk(ds:List Nd)(x:Str):Prop:=x=noName∨(Name x∧∀c∈ds,c.nm≠x)
def qd7(ds:List Nd):Prop:=∀d∈ds,d.nm=noName∨Name d.nm
structure More(e lv:Nat)(ds more:List Nd)(ks:List Kd):Prop where
 fo:Forest e ds.length lv more ks
 fm:∀d∈more,Form d
 nm:Names (ds++more)
def spText:Sp:=fun vs H Q _=>∃(H0:Hp) (p st:Addr) (e lv:Nat) (k:Kd) (ds:List Nd),vs=[.ref p,.int e,.str k.s,.ref st]∧Gs H0 st p H ds∧(k=.text∨k=.head)∧ds.length≤190∧lv≤5∧qd7 ds∧Names ds ∧
 ∀(more:List Nd) (H':Hp),More e lv ds more [k]→more.length≤3→Gs H0 st p H' (ds++more)→qcm st p H H'→Q .non H'
def Cont(k:Kd):Prop:=k=.body∨k=.case∨k=.shelf∨k=.grid∨k=.aside
theorem Names.nil:Names []:=List.nodup_nil
theorem qbr{ds:List Nd}{d:Nd}(h:Names ds)(n:NmOk ds d.nm):Names (ds++[d]):=by
 unfold Names;rw[List.filter_append,List.map_append]
 by_cases z:d.nm=noName
 ·have:([d].filter fun d=>decide (d.nm≠noName))=[]:=by simp[z]
  rw[this,List.map_nil,List.append_nil];exact h
 ·have:([d].filter fun d=>decide (d.nm≠noName))=[d]:=by simp[z]
  rw[this,List.nodup_append];refine⟨h,by simp,fun a ha b hb=>?_⟩;have hb':b=d.nm:=by simpa using hb
  subst hb';obtain⟨c,hc,rfl⟩:=List.mem_map.mp ha;rcases n with n | n
  ·exact absurd n z
  ·exact n.2 c (List.mem_filter.mp hc).1
theorem qeN{ds:List Nd}{d:Nd}(h:qd7 ds)(n:NmOk ds d.nm):qd7 (ds++[d]):=fun c hc=>by
 rcases List.mem_append.mp hc with hc | hc
 ·exact h c hc
 ·have:c=d:=by simpa using hc
  subst this;rcases n with n | n
  ·exact .inl n
  ·exact .inr n.1
end Gen
namespace Gen
open PySem L2 Bk
theorem int_at{ns:List Int}{k:Int}(h0:0≤k)(h:k<(ns.length:Int)):∃v:Int,atI (ns.map V.int) k=some (.int v):=by
 have hk:k.toNat<ns.length:=by omega
 have ek:k=((k.toNat:Nat):Int):=by omega
 have q:atI (ns.map V.int) ((k.toNat:Nat):Int)=some (.int ns[k.toNat]):=qa6 (by rw[List.getElem?_map,List.getElem?_eq_getElem hk]<;>rfl);rw[←ek]at q;exact⟨_,q⟩
def signs:Str:=Str.ofString "abcdefghijklmnopqrstuvwxyzABCDEFGHIJKLMNOPQRSTUVWXYZ0123456789.,-;:'()!?"
def sg(c:Nat):Str:=⟨#[c]⟩
theorem signs_is:signs.cps.toList=wordSigns:=by decide +kernel
theorem signs_le:signs.length≤sizeLine:=by decide +kernel
theorem qfL{α:Type}{l:List α}{i:Int}(h0:0≤i)(h1:i<(l.length:Int)):∃c,atI l i=some c∧c∈l:=by
 have hi:i.toNat<l.length:=by omega
 have ei:i=((i.toNat:Nat):Int):=by omega
 have q:atI l ((i.toNat:Nat):Int)=some l[i.toNat]:=qa6 (List.getElem?_eq_getElem hi);rw[←ei]at q;exact⟨_,q,List.getElem_mem hi⟩
theorem signs_at{i:Int}(h0:0≤i)(h1:i<72):∃c,atI signs.cps.toList i=some c∧c∈wordSigns:=by
 rw[signs_is];exact qfL h0 h1
theorem noName_nil:noName.cps.toList=[]:=by decide +kernel
theorem qeX(x y:Str):(x++y).length=x.length+y.length:=by
 show(x.cps++y.cps).size=_;rw[Array.size_append];rfl
theorem app_list(x y:Str):(x++y).cps.toList=x.cps.toList++y.cps.toList:=by
 show(x.cps++y.cps).toList=_;exact Array.toList_append
theorem mem_sg{p:Nat→Prop}{c:Nat}(h:p c):∀d∈(sg c).cps.toList,p d:=fun d hd=>by
 have:d=c:=by simpa[sg]using hd
 rw[this];exact h
theorem mem_app2{p:Nat→Prop}{x y:Str}(h1:∀c∈x.cps.toList,p c)(h2:∀c∈y.cps.toList,p c):∀c∈(x++y).cps.toList,p c:=fun c hc=>by
 rw[app_list]at hc;rcases List.mem_append.mp hc with h | h
 ·exact h1 c h
 ·exact h2 c h
theorem mem_app{p:Nat→Prop}{x:Str}{c:Nat}(h1:∀c∈x.cps.toList,p c)(h2:p c):∀d∈(x++sg c).cps.toList,p d:=mem_app2 h1 (mem_sg h2)
end Gen
namespace Gen
open PySem L2 Bk
theorem small_str{x:Str}(h:∀c∈x.cps.toList,qeh c):PyData.strOk x=true:=by
 show(x.cps.all fun c=>decide (c<0x110000))=true;rw[Array.all_eq_true'];intro c hc;have:=h c (by simpa using hc);unfold qeh at this;exact decide_eq_true (by omega)
theorem qfc{nms:List Str}{i:Int}(h0:0≤i)(h1:i<((nms.map V.str).length:Int)):∃y,atI (nms.map V.str) i=some (.str y)∧y∈nms:=by
 obtain⟨v,e,m⟩:=qfL h0 h1;obtain⟨y,my,rfl⟩:=List.mem_map.mp m;exact⟨y,e,my⟩
theorem back{st:Addr}{H H':Hp}{b:Addr}(k:Keep1 st H H')(n:b≠st)(h:H' b=none):H b=none:=by
 cases e:H b with
 | none=>rfl
 | some o =>
   rw[k b o n e]at h
   cases h
theorem qbZ(a b:List Th):qaY (a++b)=qaY a++qaY b:=List.filterMap_append
theorem notes_of(l:List Int):qaY (l.map fun k=>Th.tri .note (.inr k) 0)=l:=by
 unfold qaY;rw[List.filterMap_map];exact List.filterMap_some
theorem nums_take{n m:Nat}(h:m≤n):nums m=(nums n).take m:=by
 unfold nums;rw[←List.map_take,List.take_range,Nat.min_eq_left h]
theorem note_more(dn i:Nat):((nums (dn+(i+1))).drop dn).map (fun k=>Th.tri .note (.inr k) 0)=((nums (dn+i)).drop dn).map (fun k=>Th.tri .note (.inr k) 0)++[Th.tri .note (.inr ((dn+i:Nat):Int)) 0]:=by
 rw[←Nat.add_assoc,qcR,List.drop_append_of_le_length (by simp[nums]),List.map_append];rfl
theorem qb3{α β:Type}{F:α→β→Prop}:∀{a b:List α} {c d:List β},Paired F a c→Paired F b d→Paired F (a++b) (c++d)
 | _,_,_,_,.nil,h=>h
 | _,_,_,_,.cons q t,h=>.cons q (qb3 t h)
end Gen
namespace L2
theorem KeepN.back{st:PySem.Addr}{H H':Hp}{b:PySem.Addr}(k:KeepN (fun b=>b≠st) H H')(n:b≠st)(h:H' b=none):H b=none:=Gen.back k n h
end L2
namespace Gen
open PySem L2 Bk PyProof.Rows PySem.Spec
theorem inV_strs{x:Str}{nms:List Str}(h:inV (.str x) (nms.map V.str)=false):∀y∈nms,y≠x:=by
 intro y hy z;have:inV (.str x) (nms.map V.str)=true:=by
  unfold inV;rw[List.any_eq_true];exact⟨.str y,List.mem_map_of_mem hy,by show(y == x)=true;rw[z];simp⟩
 rw[h]at this;cases this
theorem qdK(nms:List Str):(nms.map V.str).all flatV=true:=by
 rw[List.all_eq_true];intro v hv;obtain⟨x,_,rfl⟩:=List.mem_map.mp hv;rfl
theorem qci{as:List Addr}{i:Nat}{x:V}(h:(as.map V.ref)[i]?=some x):∃a,as[i]?=some a∧x=.ref a:=by
 rw[List.getElem?_map]at h;cases e:as[i]? with
 | none=>rw[e]at h;cases h
 | some t=>rw[e]at h;cases h;exact⟨t,rfl,rfl⟩
end Gen
namespace Gen
open PySem L2 Bk PyProof.Rows
theorem nmok_of{ds:List Nd}{nm:Str}(h:nm=noName∨Name nm)(n:∀y∈ds.map (·.nm),y≠nm):NmOk ds nm:=by
 rcases h with h | h
 ·exact .inl h
 ·exact .inr ⟨h,fun c hc=>n _ (List.mem_map_of_mem hc)⟩
end Gen
namespace Gen
open PySem L2 Bk
theorem qcB{e lv:Nat}(hl:lv≤6):∀(nts:List Nd) (i:Nat),(∀c∈nts,c.e=(e:Int)∧c.k=.note∧qaY c.st=[])→Forest e i lv nts (List.replicate nts.length .note)
 | [],i,_=>.nil
 | c :: nts, i, h => by
   obtain⟨h1,h2,h3⟩:=h c List.mem_cons_self
   have f:=qcB hl nts (i+1) fun d hd=>h d (List.mem_cons_of_mem _ hd)
   have:=Forest.cons (d:=c) (sub:=[]) (ks:=[]) h1 hl (by rw[h2];decide) .nil ⟨(fun c hc=>nomatch hc),(by rw[h2];intro z;cases z),trivial,(fun _=>h3)⟩ (show Forest e (i+1+([]:List Nd).length) lv nts _ from f)
   rw[h2,List.nil_append]at this
   exact this
theorem nexts_notes:∀n,Nexts (List.replicate n .note)
 | 0=>trivial
 | n+1=>nexts_notes n
theorem holds_notes{k:Kd}{n:Nat}{st:List Th}(hk:k=.text∨k=.head)(h:qaY st=nums n):Holds k (List.replicate n .note) st:=by
 refine⟨fun c hc=>?_,fun z=>?_,nexts_notes n,fun _=>by rw[List.length_replicate];exact h⟩
 ·rw[List.eq_of_mem_replicate hc];rcases hk with rfl | rfl<;>rfl
 ·rcases hk with rfl | rfl<;>cases z
theorem qfl{d:Nd}{n:Nat}(hk:d.k=.text∨d.k=.head∨d.k=.note)(p:Pieces n d.st)(m:qd5 d.mks)(nm:d.nm=noName∨Name d.nm):Form d:=by
 refine⟨nm,m,?_⟩;rcases hk with h | h | h<;>rw[h]<;>exact⟨p.ok,p.ne,p.le⟩
theorem NmOk.or{ds:List Nd}{x:Str}(h:NmOk ds x):x=noName∨Name x:=by
 rcases h with h | h
 ·exact .inl h
 ·exact .inr h.1
theorem notes_at{r:Int}(h0:0≤r)(h1:r<5):∃n:Nat,n≤2∧atI [V.int 0,V.int 0,V.int 1,V.int 0,V.int 2] r=some (.int n):=by
 rcases(by omega:r=0∨r=1∨r=2∨r=3∨r=4)with rfl | rfl | rfl | rfl | rfl
 ·exact⟨0,by decide,rfl⟩
 ·exact⟨0,by decide,rfl⟩
 ·exact⟨1,by decide,rfl⟩
 ·exact⟨0,by decide,rfl⟩
 ·exact⟨2,by decide,rfl⟩
theorem text_more{e lv n:Nat}{k:Kd}{ds nts:List Nd}{d:Nd}(hk:k=.text∨k=.head)(hl:lv≤5)(he:d.e=(e:Int))(hdk:d.k=k)(p:Pieces n d.st)(m:qd5 d.mks)(nm:NmOk ds d.nm)(hn:nts.length=n)(hc:∀c∈nts,c.e=(ds.length:Int)∧c.k=.note∧Pieces 0 c.st∧qd5 c.mks∧(c.nm=noName∨Name c.nm))(na:Names (ds++(d::nts))):More e lv ds (d::nts) [k]:=by
 refine⟨?_,fun c hc'=>?_,na⟩
 ·have f:=qcB (e:=ds.length) (lv:=lv+1) (by omega) nts (ds.length+1) fun c h=>⟨(hc c h).1,(hc c h).2.1,(hc c h).2.2.1.nn⟩
  have:=Forest.one (d:=d) he (by omega) (by rw[hdk];rcases hk with rfl | rfl<;>decide) f (by rw[hdk];exact holds_notes hk (by rw[hn];exact p.nn));rw[hdk]at this;exact this
 ·rcases List.mem_cons.mp hc' with rfl | h
  ·exact qfl (by rw[hdk];rcases hk with rfl | rfl<;>simp) p m nm.or
  ·obtain⟨_,h2,h3,h4,h5⟩:=hc c h;exact qfl (by rw[h2];simp) h3 h4 h5
end Gen
namespace L2
theorem qbA{t u:TS}{D:Ends}{σ:St}{H:Hp}(P:St→Hp→Prop)(h:∀D':Ends,(∀σ' H',P σ' H'→D'.nx σ' H')→t D' σ H)(k:∀σ' H',P σ' H'→u D σ' H'):tSeq t u D σ H:=h _ k
theorem qbI{c:TT}{t u:TS}{D:Ends}{σ:St}{H:Hp}(P:Bool→Hp→Prop)(h:∀Q:Bool→Hp→Prop,(∀b H',P b H'→Q b H')→c σ H Q)(k:∀b H',P b H'→if b=true then t D σ H' else u D σ H'):tIfS c t u D σ H:=h _ k
end L2
namespace Gen
open PySem L2 Bk
theorem kdt(k k':Kd):decide (V.str k.s=V.str k'.s)=decide (k=k'):=by
 by_cases h:k=k'
 ·rw[decide_eq_true h,h];simp
 ·rw[decide_eq_false h];exact decide_eq_false fun z=>h ((Kd.inj k k').mp (V.str.inj z))
def Leaf(k:Kd):Prop:=k=.text∨k=.head∨k=.picture
def qfQ(ke k:Kd):Prop:=(mayHold ke k=true∨(k=.aside∧ke=.aside))∧(k=.text∨k=.picture∨k=.case∨k=.shelf∨k=.grid∨k=.head∨k=.aside)
theorem kind0_of{ke k:Kd}{sd:Bool}{r:Int}(hc:Cont ke)(hs:sd=true↔ke=.shelf∨ke=.grid)(hr:r<if sd=true then 6 else 8)(hk:k=.text∨k=.picture∨k=.case∨k=.shelf∨k=.grid∨(6≤r∧(k=.head∨k=.aside))):qfQ ke k:=by
 unfold qfQ;have hsd:6≤r→¬(ke=.shelf∨ke=.grid):=fun h z=>by
  rw[if_pos (hs.mpr z)]at hr;omega
 rcases hc with rfl | rfl | rfl | rfl | rfl<;>rcases hk with rfl | rfl | rfl | rfl | rfl | ⟨h6,rfl | rfl⟩<;>first | exact⟨.inl rfl,by decide⟩ | exact⟨.inr ⟨rfl,rfl⟩,by decide⟩ | exact absurd (show _∨_ by first | exact .inl rfl | exact .inr rfl) (hsd h6)
instance (k:Kd):Decidable (Leaf k):=inferInstanceAs (Decidable (k=.text∨k=.head∨k=.picture))
def leafL:List Kd:=[.text,.head,.picture]
theorem qeJ(k:Kd):inV (.str k.s) (leafL.map fun k=>V.str k.s)=decide (Leaf k):=by
 unfold inV leafL Leaf;have e:∀a b:Kd,eqV (.str a.s) (.str b.s)=decide (a=b):=fun a b=>by
  show(a.s == b.s)=_;rw[Bool.eq_iff_iff];simp[Kd.inj]
 simp only[List.map_cons,List.map_nil,List.any_cons,List.any_nil,e];cases k<;>rfl
theorem qev{ke:Kd}(hc:Cont ke):mayHold ke .text=true:=by rcases hc with rfl | rfl | rfl | rfl | rfl<;>rfl
theorem may_picture{ke:Kd}(hc:Cont ke):mayHold ke .picture=true:=by rcases hc with rfl | rfl | rfl | rfl | rfl<;>rfl
structure Kind2(ke k:Kd)(lv R n:Nat):Prop where
 may:mayHold ke k=true
 lvl:3<lv→Leaf k
 room:R≤n→Leaf k
 one:k=.text∨k=.picture∨k=.case∨k=.shelf∨k=.grid∨k=.head∨k=.aside
theorem eight_six(sd:Bool):atI [V.int 8,V.int 6] (if sd=true then 1 else 0)=some (.int (if sd=true then 6 else 8)):=by cases sd<;>rfl
theorem qeF{R lv n:Nat}(h:n<R):n+3≤cap R lv:=by unfold cap;split<;>(try split)<;>(try split)<;>omega
def CapB(R lv j n:Nat):Prop:=n≤R+3*j∨(1≤j∧n≤cap R (lv+1)+3*(j-1))
theorem qdX{R lv j n n':Nat}(h:CapB R lv j n)(h1:R≤n→n'≤n+3)(h2:n<R→n'≤cap R (lv+1)):CapB R lv (j+1) n':=by
 unfold CapB at *
 by_cases z:n<R
 ·exact .inr ⟨by omega,by have:=h2 z;omega⟩
 ·have:=h1 (by omega);rcases h with h | ⟨h,h'⟩
  ·exact .inl (by omega)
  ·exact .inr ⟨by omega,by omega⟩
theorem capB_end{R lv j n:Nat}(h:CapB R lv j n)(hj:j≤3)(hl:1≤lv)(hl3:lv≤3):n+3≤cap R lv:=by
 unfold CapB cap at *;rcases(by omega:lv=1∨lv=2∨lv=3)with rfl | rfl | rfl<;>simp at*<;> omega
theorem qe3{R lv j n:Nat}(h:CapB R lv j n)(hj:j≤3)(hR:R≤12):n≤60:=by
 unfold CapB cap at h
 split at h<;>(try split at h)<;>(try split at h)<;>omega
structure Kids(at_ lv:Nat)(k:Kd)(pre sub:List Nd)(ks:List Kd):Prop where
 fo:Forest at_ (at_+1) (lv+1) sub ks
 fm:∀d∈sub,Form d
 nm:Names (pre++sub)
 ok:qd7 (pre++sub)
 may:∀c∈ks,mayHold k c=true
 nx:Nexts ks
theorem Kids.more{at_ lv:Nat}{k:Kd}{pre sub more:List Nd}{ks ks':List Kd}(x:Kids at_ lv k pre sub ks)(hl:(pre++sub).length=at_+1+sub.length)(m:More at_ (lv+1) (pre++sub) more ks')(i:ItemKs k ks'):Kids at_ lv k pre (sub++more) (ks++ks'):=by
 refine⟨x.fo.append (by have:=m.fo;rw[hl]at this;exact this),fun d hd=>?_,by rw[←List.append_assoc];exact m.nm,fun d hd=>?_,fun c hc=>?_,x.nx.append i.nexts⟩
 ·rcases List.mem_append.mp hd with h | h
  ·exact x.fm d h
  ·exact m.fm d h
 ·rw[←List.append_assoc]at hd;rcases List.mem_append.mp hd with h | h
  ·exact x.ok d h
  ·exact(m.fm d h).nm
 ·rcases List.mem_append.mp hc with h | h
  ·exact x.may c h
  ·exact i.may c h
theorem More.nms{e lv:Nat}{ds more:List Nd}{ks:List Kd}(m:More e lv ds more ks)(h:qd7 ds):qd7 (ds++more):=fun d hd=>by
 rcases List.mem_append.mp hd with z | z
 ·exact h d z
 ·exact(m.fm d z).nm
theorem qet{e lv:Nat}{ds sub:List Nd}{d:Nd}{ks:List Kd}(he:d.e=(e:Int))(hl:lv≤6)(hk:d.k=.case∨d.k=.shelf∨d.k=.grid∨d.k=.aside)(hst:d.st=[])(hm:qd5 d.mks)(nm:NmOk ds d.nm)(x:Kids ds.length lv d.k (ds++[d]) sub ks)(hne:d.k≠.case→ks≠[]):More e lv ds (d::sub) [d.k]:=by
 refine⟨Forest.one he hl (by rcases hk with h | h | h | h<;>rw[h]<;>decide) x.fo ⟨x.may,fun z=>?_,x.nx,fun z=>?_⟩,fun c hc=>?_,by have:=x.nm;simpa using this⟩
 ·refine hne fun q=>?_
  rw[q]at z;cases z
 ·rcases hk with h | h | h | h<;>rw[h]at z<;>cases z
 ·rcases List.mem_cons.mp hc with rfl | h
  ·refine⟨nm.or,hm,?_⟩;rcases hk with h | h | h | h<;>rw[h]<;>exact hst
  ·exact x.fm c h
theorem pic_more{e lv:Nat}{ds:List Nd}{d:Nd}{a b:Int}(he:d.e=(e:Int))(hl:lv≤6)(hk:d.k=.picture)(hst:d.st=[.int a,.int b])(ha:1≤a∧a≤2000)(hb:1≤b∧b≤2000)(hm:qd5 d.mks)(nm:NmOk ds d.nm)(na:Names ds):More e lv ds [d] [.picture]:=by
 refine⟨?_,fun c hc=>?_,qbr na nm⟩
 ·have:=Forest.one (i:=ds.length) (lv:=lv) (sub:=[]) (ks:=[]) he hl (by rw[hk];decide) .nil ⟨(fun c hc=>nomatch hc),(by rw[hk];intro z;cases z),trivial,(by rw[hk];intro z;cases z)⟩;rw[hk]at this;exact this
 ·have:c=d:=by simpa using hc
  subst this;refine⟨nm.or,hm,?_⟩;rw[hk,hst];exact⟨a,b,rfl,ha.1,ha.2,hb.1,hb.2⟩
theorem More.cat{e lv:Nat}{ds a b:List Nd}{ks ks':List Kd}(x:More e lv ds a ks)(y:More e lv (ds++a) b ks'):More e lv ds (a++b) (ks++ks'):=by
 refine⟨x.fo.append (by have:=y.fo;rw[List.length_append]at this;exact this),fun d hd=>?_,by rw[←List.append_assoc];exact y.nm⟩;rcases List.mem_append.mp hd with h | h
 ·exact x.fm d h
 ·exact y.fm d h
end Gen
namespace Bk
open PySem L2
open PySem.W (Dat kqdOk)
def thgD:Sum Str Int→Dat
 | .inl w=>.str w
 | .inr k=>.int k
def thD:Th→Dat
 | .int n=>.int n
 | .tri s x t=>.tuple [.str s.s,thgD x,.int t]
def ndD(d:Nd):Dat:=.tuple [.int d.e,.str d.k.s,.str d.nm,.list (d.mks.map Dat.str),.list (d.st.map thD)]
def bkD(ds:List Nd):Dat:=.list (ds.map ndD)
section
variable{N:Addr→Prop}{H:Hp}
theorem th_in{v:V}{x:Th}(h:ItAt N H v x):DIn H v (thD x):=by
 cases x with
 | int n=>cases h;exact .int n
 | tri s x t =>
   obtain⟨a,rfl,_,e⟩:=h
   refine .tup e (.cons (.str _) (.cons ?_ (.cons (.int _) .nil)))
   cases x with
   | inl w=>exact .str w
   | inr k=>exact .int k
theorem ths_in{vs:List V}{l:List Th}(p:Paired (ItAt N H) vs l):DAll H vs (l.map thD):=by
 induction p with
 | nil=>exact .nil
 | cons q t ih=>exact .cons (th_in q) ih
theorem nd_in{a:Addr}{d:Nd}(h:NdAt N H a d):DIn H (.ref a) (ndD d):=by
 obtain⟨_,m,s,e,_,em,_,vs,es,p⟩:=h;exact .tup e (.cons (.int _) (.cons (.str _) (.cons (.str _) (.cons (.lst em (qf2 _)) (.cons (.lst es (ths_in p)) .nil)))))
theorem nds_in{as:List Addr}{ds:List Nd}(p:NdsAt N H as ds):DAll H (as.map V.ref) (ds.map ndD):=by
 induction p with
 | nil=>exact .nil
 | cons q t ih=>exact .cons (nd_in q) ih
theorem bk_in{p:Addr}{ds:List Nd}(h:qbd N H p ds):DIn H (.ref p) (bkD ds):=by
 obtain⟨as,e,q⟩:=h;exact .lst e (nds_in q)
end
theorem low_str{x:Str}(h:∀c∈x.cps.toList,c<128):PyData.strOk x=true:=by
 show(x.cps.all fun c=>decide (c<0x110000))=true;rw[Array.all_eq_true'];intro c hc;have:=h c (by simpa using hc);exact decide_eq_true (by omega)
theorem kd_str(k:Kd):PyData.strOk k.s=true:=by cases k<;>decide +kernel
theorem qfe(s:So):PyData.strOk s.s=true:=by cases s<;>decide +kernel
theorem word_low:∀c∈wordSigns,c<128:=by decide
theorem word_str{w:Str}(h:Word w):PyData.strOk w=true:=low_str fun c hc=>word_low c (h.2.2 c hc)
theorem qdq{n:Str}(h:n=noName∨Name n):PyData.strOk n=true:=by
 rcases h with rfl | h
 ·decide +kernel
 ·exact Gen.small_str h.2.2
def bodyNd:Nd:=⟨-1,.body,noName,[],[]⟩
theorem body_form:Form bodyNd:=⟨.inl rfl,⟨by decide,(fun m hm=>nomatch hm),List.Pairwise.nil⟩,rfl⟩
end Bk
namespace Gen
open PySem L2 Bk
theorem kids0:Kids 0 0 .body [bodyNd] [] []:=by
 refine⟨.nil,(fun d hd=>nomatch hd),?_,fun d hd=>?_,(fun c hc=>nomatch hc),trivial⟩
 ·show Names ([]++[bodyNd]);exact qbr Names.nil (.inl rfl)
 ·have:d=bodyNd:=by simpa using hd
  subst this;exact .inl rfl
end Gen
namespace L2
open PySem PySem.Spec PyProof.Rows
def TJ:=Str→St→Hp→VK→Prop
def PJ(X:Cx)(es:List Expr)(t:TJ):Prop :=
 ∀(out:Str) (pins:List (Addr×Obj)) (s:Shared) (σ:St) (H:Hp) (Q:VK),Inv X pins σ H s→t out σ H Q→wpAny (model X.prog X.w) X.A (joinParts out (evalEach es X.env)) (EP X pins σ Q) X.xe s
def tJnil:TJ:=fun out _ H Q=>out.length≤sizeLine∧Q (.str out) H
def qeR(te:TE)(t:TJ):TJ:=fun out σ H Q=>te σ H fun x H1=>∃y,x=.str y∧(out++y).length≤sizeLine∧t (out++y) σ H1 Q
section
variable{X:Cx}{e a b:Expr}{es:List Expr}{te:TE}{t:TJ}{pos:Pos}
theorem pj_nil:PJ X [] tJnil:=fun out pins s σ H Q I h=>joinParts_nil ⟨.str out,H,I.tok _,⟨_,rfl⟩,h.2⟩ h.1
theorem qfo(he:PE X e te)(hr:PJ X es t)(hs:evalEach (e::es) X.env=eval e X.env::evalEach es X.env:=by rfl):PJ X (e::es) (qeR te t):=by
 intro out pins s σ H Q I h;rw[hs];refine joinParts_cons (thn (he pins s σ H _ I h) fun v s1 ⟨x,H1,I1,r1,q1⟩=>?_);obtain⟨y,rfl,hz,q⟩:=q1;obtain⟨tk,rfl⟩:=r1;exact⟨hz,hr (out++y) pins s1 σ H1 Q I1 q⟩
theorem pe_joined(h:PJ X (a::b::es) t)(hs:evalEach (a::b::es) X.env=eval a X.env::eval b X.env::evalEach es X.env:=by rfl):PE X (.JoinedStr (a::b::es) pos) (fun σ H Q=>t Str.empty σ H Q):=by
 intro pins s σ H Q I hq;refine JoinedStr_many ?_;rw[←hs];exact h Str.empty pins s σ H Q I hq
end
end L2
namespace L2
open PySem PySem.Spec PyProof.Rows
structure FunD(K:PySem.W.Frag)(x qual:Str)(st:Stmt)(f:Addr)(fd:FuncData):Prop where
 ex:∃(oc:Value) (od:Option Addr) (dV kV doc pm:Value) (an:Option Addr) (cdv ct:Value) (osl:Array (Option Value)),
  fd=PySem.W.fnOf x qual (qa5 st) (qaZ st) (qag st) dV kV doc pm an cdv ct∧K.lookup f=some ⟨oc,od,.func fd,osl⟩∧PySem.W.codeIn K cdv qual=true
 kp:PySem.W.keepIn K (.ref f)=true
theorem FunD.ok{P:Program}{w:World}{K:PySem.W.Frag}{mg:Str→Option Value}{base:Heap}{CX:CXT}{x qual:Str}{st:Stmt}{f:Addr}{fd:FuncData}{N ps:List Str}{k:Nat}{sp:Sp}(F:FunD K x qual st f fd)(S:FnScope N ps (qag st))(len:∀vs H Q E,sp vs H Q E→vs.length=ps.length)(hbody:∀(cdv:Value) (A:Around) (outer:List Env) (s:Shared) (H:Hp) (vs:List V) (Q:VK) (E:XK),Room k (A.deeper (envOfC qual (qag st) s.heap.objs.size f cdv))→sp vs H Q E →
   ∃t,PSs (cxOf CX P w K mg base N qual (qag st) f cdv A outer s H E) (qaZ st) t∧t {nx:=fun _ H'=>Q .non H',rt:=Q} (qdm N vs) H):FnOk P w K mg base CX (k+1) f fd ps sp:=by
 obtain⟨oc,od,dV,kV,doc,pm,an,cdv,ct,osl,rfl,lk,hcd⟩:=F.ex;exact qf1 lk hcd S len fun A outer s H vs Q E hr hsp=>hbody cdv A outer s H vs Q E hr hsp
theorem fund_mk{K:PySem.W.Frag}{x qual:Str}{st:Stmt}{f:Addr}{oc:Value}{od an:Option Addr}{osl:Array (Option Value)}{dV kV doc pm cdv ct:Value}(l:K.lookup f=some ⟨oc,od,.func (PySem.W.fnOf x qual (qa5 st) (qaZ st) (qag st) dV kV doc pm an cdv ct),osl⟩)(c:PySem.W.codeIn K cdv qual=true)(k:PySem.W.keepIn K (.ref f)=true):FunD K x qual st f (PySem.W.fnOf x qual (qa5 st) (qaZ st) (qag st) dV kV doc pm an cdv ct) :=
 ⟨⟨oc,od,dV,kV,doc,pm,an,cdv,ct,osl,rfl,l,c⟩,k⟩
theorem own_at{K:PySem.W.Frag}{h:Heap}{mg:Str→Option Value}{x:Str}{C:Addr}{bm:List Value}{newId:String}(X:K.In h)(G:h.Ns mainGlobals mg)(e:PySem.W.nsIn K mainGlobals x=some (some (.ref C)))(q:PySem.W.excIn K C bm newId=true):OwnCls x C bm newId mg h:=by
 refine⟨PySem.W.mg_of X G e,?_⟩;simp only[PySem.W.excIn]at q
 split at q
 case h_2=>exact absurd q Bool.false_ne_true
 case h_1 dd cd sl hK =>
  split at q
  case h_2=>exact absurd q Bool.false_ne_true
  case h_1 C2 tl a0 a1 a2 a3 nn a5 em es =>
   simp only[Bool.and_eq_true,beq_iff_eq,Bool.not_eq_true']at q;have q1:=q.1.1.1.1.1;have q2:=q.1.1.1.1.2;have q3:=q.1.1.1.2;have q4:=q.1.1.2;have q5:=q.1.2;have q6:=q.2;subst q1 q2;cases cd;cases sl;simp only at em q3 q5 q6 es;subst em q3 es;exact⟨tl,_,_,_,_,_,_,_,_,_,dd,a0,a1,a2,a3,a5,_,X _ _ hK,.of_isNs (PySem.W.isNs_of_in X q5),PySem.W.nsMap_none_of_in X q5 q6,PySem.W.tail_of_in X q4⟩
section
variable{X:Cx}{e:Expr}{te:TE}{pos:Pos}
theorem qdb{i:Int}(h:i.natAbs<10 ^ 100):i.natAbs.log2<1920:=by
 by_cases z:i.natAbs=0
 ·rw[z];decide
 ·exact(Nat.log2_lt z).mpr (Nat.lt_of_lt_of_le h (by decide +kernel))
theorem pe_fmtI(he:PE X e te):PE X (.FormattedValue e (-1) none pos) (fun σ H Q=>te σ H fun x H1=>∃i:Int,x=.int i∧i.natAbs<10 ^ 100∧((Str.ofString (toString i)).length≤1921→Q (.str (Str.ofString (toString i))) H1)):=by
 intro pins s σ H Q I hq;refine FormattedValue_plain (thn (he pins s σ H _ I hq) fun v s1 ⟨x,H1,I1,r1,q1⟩=>?_);obtain⟨i,rfl,hz,q⟩:=q1;obtain⟨tk,rfl⟩:=r1;refine formatField_int_small (qdb hz) ⟨.str (Str.ofString (toString i)),H1,(I1.tok _).tok _,⟨_,rfl⟩,q ?_⟩;rw[PySem.ofString_length];exact PySem.int_text_length_le (k:=1920) (by decide) (qdb hz)
end
def rList(K:PySem.W.Frag):List V→Hp→VK→Prop:=fun xs H Q=>∃p ys,xs=[.ref p]∧(SqL K H p ys∨SqT K H p ys)∧∀l,H l=none→Q (.ref l) (upd H l (.lst ys))
theorem call_listK{X:Cx}(K:PySem.W.Frag)(hK:X.K=K):qcd X (.type "list") (rList K):=by
 subst hK;exact call_list_of
theorem Fx.none{P:Program}{w:World}{K:PySem.W.Frag}{mg:Str→Option Value}{base:Heap}{CX:CXT}{k:Nat}{x:Str}{ps:List Str}{f:Addr}{fd:FuncData}{sp:Sp}(b:Binds K fd ps [])(kp:PySem.W.keepIn K (.ref f)=true)(m:mg x=some (.ref f))(no:∀vs H Q E,¬sp vs H Q E):Fx P w K mg base CX k x ps sp :=
 ⟨f,fd,⟨fun _ _ _ _ h=>(no _ _ _ _ h).elim,fun _ _ _ _ _ _ _ _ _ _ _ _ _ h=>(no _ _ _ _ h).elim⟩,b,kp,m⟩
theorem qcs{X:Cx}{es:List Expr}{k:Nat}{t:TGs}{n:Nat}{pos:Pos}(K:PySem.W.Frag)(hK:X.K=K)(hc:X.calm=true)(h:PGs X es t)(hn:(assignEach es X.env).length=n:=by rfl)(hst:(assignEach es X.env).findIdx? (·.1)=none:=by rfl):PG X (.Tuple es k pos) (gTup K n t):=by
 subst hK;exact qcD hc h hn hst
end L2
namespace Gen
open PySem L2 Bk
section
variable{X:Cx}
theorem pe_isi{e:Expr}{te:TE}{T:Str}{T':String}{p1 p2 pos:Pos}(hi:X.mg "isinstance" = none)(g1:Gl X "isinstance")(hT:X.mg T=none)(gT:Gl X T)(bT:bootBuiltins T=some (.type T'))(he:PE X e te)(hn:T ≠ "__name__":=by decide)(hd:(T == ("__debug__" : Str))=false:=by decide)(h1:starEach [e,.Name T p2] X.env=(false,eval e X.env)::starEach [.Name T p2] X.env:=by rfl)(h2:starEach [.Name T p2] X.env=(false,eval (.Name T p2) X.env)::starEach [] X.env:=by rfl)(h3:(backTo pos (starEach [.Name T p2] X.env)).any (·.1)=false:=by rfl) :
  PE X (.Call (.Name "isinstance" p1) [e,.Name T p2] [] pos) (tCB (fun xs H Q=>∃x c t b,xs=[x,c]∧TyOf X.K H x t∧(∃cv,(∀u,RelV c u→u=cv)∧PySem.W.kitOne X.K t cv=some b)∧Q (.bl b) H) (qcH te (qcH (tC (.ty T')) tNil))) :=
 qal call_isinst g1 hi b_isinstance (qaa he (qaa (pe_bltn (v:=.ty T') gT hT bT rfl hn hd) pa_nil h2) h1) (by decide) (by decide) h1 h3
end
end Gen
namespace Gen
open PySem L2 Bk
def qbO(ds:List Nd)(n:Int)(i:Nat):List Int:=((List.range i).filter fun j=>decide (ds[j]?.map Nd.e=some n)).map fun(j:Nat)=>(j:Int)
theorem qdd{ds:List Nd}{n:Int}{i:Nat}{d:Nd}(h:ds[i]?=some d)(e:d.e=n):qbO ds n (i+1)=qbO ds n i++[(i:Int)]:=by
 unfold qbO;rw[List.range_succ,List.filter_append,List.map_append];simp[h,e]
theorem qdZ{ds:List Nd}{n:Int}{i:Nat}{d:Nd}(h:ds[i]?=some d)(e:¬d.e=n):qbO ds n (i+1)=qbO ds n i:=by
 unfold qbO;rw[List.range_succ,List.filter_append,List.map_append];simp[h,e]
theorem qdP(ds:List Nd)(n:Int)(i:Nat):(qbO ds n i).length≤i:=by
 unfold qbO;rw[List.length_map];exact Nat.le_trans (List.length_filter_le ..) (by simp)
def qdu(C:Addr):Sp:=fun vs H Q E=>∃(p:Addr) (n:Int) (ds:List Nd) (N:Addr→Prop),vs=[.ref p,.int n]∧qbd N H p ds∧ds.length≤1000∧n.natAbs<10 ^ 50 ∧
 ((¬ (0≤n∧n < ds.length)∧∀ H',Same H H'→E (.ref C) none H') ∨
  ((0≤n∧n<ds.length)∧∀l H',H l=none→Same H H'→H' l=some (.lst ((qbO ds n ds.length).map V.int))→Q (.ref l) H'))
theorem qfU{H:Hp}:∀(xs:List Int),DAll H (xs.map V.int) (xs.map PySem.W.Dat.int)
 | []=>.nil
 | x::l=>.cons (.int x) (qfU l)
theorem qbR(xs:List Int):PySem.W.kqdOk 9 (.list (xs.map PySem.W.Dat.int))=true:=by
 simp only[PySem.W.kqdOk,List.all_eq_true,List.mem_map];rintro x ⟨d,hd,rfl⟩;rfl
end Gen
namespace L2
open PySem PySem.Spec PyProof.Rows
end L2
namespace Bk
open PySem L2 Gen
inductive Lev(ds:List Nd):Nat→Nat→Prop
 | top {i:Nat} {d:Nd}:ds[i]?=some d→d.e=-1→Lev ds i 0
 | up {i j l:Nat} {d:Nd}:ds[i]?=some d→d.e=(j:Int)→j<i→Lev ds j l→Lev ds i (l+1)
theorem Forest.elds{e i lv:Nat}{l:List Nd}{ks:List Kd}(x:Forest e i lv l ks):e<i→∀(k:Nat) (d:Nd),l[k]?=some d→∃j:Nat,d.e=(j:Int)∧j<i+k:=by
 induction x with
 | nil=>intro _ k d h;cases h
 | @cons e i lv d sub rest ks ks' h1 h2 h3 f1 h4 f2 ih1 ih2 =>
   intro he k c hk
   cases k with
   | zero=>cases hk;exact⟨e,h1,by omega⟩
   | succ k =>
     rw[List.getElem?_cons_succ]at hk
     by_cases hs:k<sub.length
     · rw[List.getElem?_append_left hs]at hk
       obtain⟨j,ej,hj⟩:=ih1 (by omega) k c hk
       exact⟨j,ej,by omega⟩
     · rw[List.getElem?_append_right (by omega)]at hk
       obtain⟨j,ej,hj⟩:=ih2 (by omega) _ c hk
       exact⟨j,ej,by omega⟩
end Bk
namespace Gen
open PySem L2 Bk
end Gen
namespace Gen
open PySem L2 Bk
end Gen
namespace Bk
open PySem L2 Gen
open PySem.W (Dat kqdOk)
end Bk
namespace Bk
open PySem L2
theorem qbq{H H':Hp}{L:Addr}{o:HO}(s:Same H H')(h:H L=none):Same H (upd H' L o):=fun b u e=>by rw[qap (qar e h)];exact s b u e
end Bk
namespace Gen
open PySem L2 Bk
end Gen
namespace L2
open PySem PySem.Spec PyProof.Rows
end L2
namespace Bk
open PySem L2
theorem qbM{α β:Type}{F:α→β→Prop}{l1:List α}{l2:List β}(h:Paired F l1 l2){i:Nat}{a:α}(e:l1[i]?=some a):∃b,l2[i]?=some b∧F a b:=by
 induction h generalizing i with
 | nil=>cases e
 | @cons a b l1 l2 q t ih =>
   cases i with
   | zero=>cases e;exact⟨b,rfl,q⟩
   | succ i=>exact ih (by simpa using e)
theorem inV_strD(x:Str)(l:List Str):inV (.str x) (l.map V.str)=decide (x∈l):=by
 by_cases h:x∈l
 ·rw[decide_eq_true h];unfold inV;rw[List.any_eq_true];exact⟨.str x,List.mem_map_of_mem h,by show(x == x)=true;simp⟩
 ·rw[decide_eq_false h];unfold inV;rw[List.any_eq_false];intro v hv;obtain⟨y,hy,rfl⟩:=List.mem_map.mp hv;show¬(y == x)=true;intro z;exact h ((beq_iff_eq.mp z) ▸ hy)
def props:List (Str×Int×Int×Int):=[("face",0,99,0),("align",0,3,0),("above",0,400,0),("inset",0,400,0),("weight",1,9,1),("least",0,4000,0),("most",0,4000,4000),("columns",1,6,2),("span",1,6,1),("deep",1,4,1),("side",0,1,0),("wide",1,4000,100),("fresh",0,1,0)].map fun y=>(Str.ofString y.1,y.2.1,y.2.2.1,y.2.2.2)
end Bk
namespace Bk
open PySem L2
open PySem.W (Dat kqdOk)
end Bk
namespace Gen
open PySem L2 Bk
end Gen
namespace L2
open PySem PySem.Spec PyProof.Rows
section
variable{κ:Type}[DecidableEq κ]
def valV(kvs:List (κ×V))(k:κ):Option V:=(kvs.find? fun kv=>decide (kv.1=k)).map (·.2)
def putK(kvs:List (κ×V))(k:κ)(v:V):List (κ×V) :=
 if(kvs.any fun kv=>decide (kv.1=k))=true then kvs.map (fun kv=>if kv.1=k then(kv.1,v)else kv)else kvs++[(k,v)]
theorem qa8{p:κ×V}{r:List (κ×V)}{k:κ}(e:p.1=k):valV (p::r) k=some p.2:=by simp[valV,List.find?_cons,e]
theorem qbb{p:κ×V}{r:List (κ×V)}{k:κ}(e:¬p.1=k):valV (p::r) k=valV r k:=by simp[valV,List.find?_cons,e]
theorem qcP(k:κ):∀kvs:List (κ×V),(kvs.any fun kv=>decide (kv.1=k))=(valV kvs k).isSome
 | []=>rfl
 | p :: r => by
   rw[List.any_cons]
   by_cases e:p.1=k
   · simp only[qa8 e,decide_eq_true e,Bool.true_or,Option.isSome_some]
   · rw[qbb e,decide_eq_false e,Bool.false_or];exact qcP k r
theorem qeH(k j:κ)(y:V):∀kvs:List (κ×V),valV (kvs.map fun kv=>if kv.1=k then(kv.1,y)else kv) j=(valV kvs j).map fun x=>if j=k then y else x
 | []=>rfl
 | p :: r => by
   have ih:=qeH k j y r
   rw[List.map_cons]
   by_cases h:p.1=k
   · rw[if_pos h]
     by_cases e:p.1=j
     · rw[qa8 (p:=(p.1,y)) e,qa8 e,Option.map_some,if_pos (e.symm.trans h)]
     · rw[qbb (p:=(p.1,y)) e,qbb e,ih]
   · rw[if_neg h]
     by_cases e:p.1=j
     · rw[qa8 (p:=p) e,qa8 e,Option.map_some,if_neg (fun z=>h (e.trans z))]
     · rw[qbb (p:=p) e,qbb e,ih]
theorem qdL(k j:κ)(y:V):∀kvs:List (κ×V),valV kvs k=none→valV (kvs++[(k,y)]) j=if j=k then some y else valV kvs j
 | [], _ => by
   by_cases e:k=j
   · rw[if_pos e.symm];exact qa8 (p:=(k,y)) e
   · rw[if_neg (fun z=>e z.symm)];exact qbb (p:=(k,y)) e
 | p :: r, hn => by
   rw[List.cons_append]
   have hk:¬p.1=k:=fun z=>by rw[qa8 z]at hn;cases hn
   rw[qbb hk]at hn
   have ih:=qdL k j y r hn
   by_cases e:p.1=j
   · rw[qa8 e,qa8 e,if_neg (fun z=>hk (e.trans z))]
   · rw[qbb e,qbb e,ih]
theorem valV_put(kvs:List (κ×V))(k j:κ)(y:V):valV (putK kvs k y) j=if j=k then some y else valV kvs j:=by
 unfold putK
 by_cases a:(kvs.any fun kv=>decide (kv.1=k))=true
 ·rw[if_pos a,qeH];rw[qcP]at a
  by_cases e:j=k
  ·obtain⟨x,hx⟩:=Option.isSome_iff_exists.mp a;rw[if_pos e,e,hx,Option.map_some,if_pos rfl]
  ·rw[if_neg e];cases valV kvs j with
   | none=>rfl
   | some x=>rw[Option.map_some,if_neg e]
 ·rw[if_neg a];refine qdL k j y kvs ?_;rw[qcP]at a;cases q:valV kvs k with
  | none=>rfl
  | some x=>rw[q]at a;exact(a rfl).elim
theorem qcf(kvs:List (κ×V))(k:κ)(v:V):(putK kvs k v).length≤kvs.length+1:=by
 unfold putK
 split
 ·rw[List.length_map];omega
 ·rw[List.length_append,List.length_cons,List.length_nil];omega
theorem RelO.isSome_eq{o:Option V}{u:Option Value}(r:RelO o u):o.isSome=u.isSome:=by
 cases o with
 | none => cases u with
   | none=>rfl
   | some _=>exact(show False from r).elim
 | some _ => cases u with
   | none=>exact(show False from r).elim
   | some _=>rfl
theorem KV.val{kvs:List (κ×V)}{vs:List (κ×Value)}(r:KV kvs vs)(k:κ):RelO (valV kvs k) (valueAt vs k):=by
 unfold KV at r
 induction r with
 | nil=>exact True.intro
 | @cons p q ps qs h t ih =>
   obtain⟨h1,h2⟩:=h
   by_cases e:p.1=k
   · have e':q.1=k:=h1.symm.trans e
     have b:valueAt (q::qs) k=some q.2:=by simp[valueAt,List.find?_cons,e']
     rw[qa8 e,b];exact h2
   · have e':¬q.1=k:=fun z=>e (h1.trans z)
     have b:valueAt (q::qs) k=valueAt qs k:=by simp[valueAt,List.find?_cons,e']
     rw[qbb e,b];exact ih
theorem KV.any{kvs:List (κ×V)}{vs:List (κ×Value)}(r:KV kvs vs)(k:κ):(kvs.any fun kv=>decide (kv.1=k))=vs.any fun kv=>decide (kv.1=k):=by
 unfold KV at r
 induction r with
 | nil=>rfl
 | cons h t ih=>rw[List.any_cons,List.any_cons,ih,h.1]
theorem KV.repl{kvs:List (κ×V)}{vs:List (κ×Value)}(r:KV kvs vs)(k:κ){y:V}{u:Value}(ry:RelV y u) :
  KV (kvs.map fun kv=>if kv.1=k then(kv.1,y)else kv) (vs.map fun kv=>if kv.1=k then(kv.1,u)else kv):=by
 unfold KV at r⊢
 induction r with
 | nil=>exact .nil
 | @cons p q ps qs h t ih =>
   rw[List.map_cons,List.map_cons]
   refine .cons ?_ ih
   obtain⟨h1,h2⟩:=h
   by_cases e:p.1=k
   · rw[if_pos e,if_pos (h1.symm.trans e)];exact⟨h1,ry⟩
   · rw[if_neg e,if_neg (fun z=>e (h1.trans z))];exact⟨h1,h2⟩
theorem KV.put{kvs:List (κ×V)}{vs:List (κ×Value)}(r:KV kvs vs)(k:κ){y:V}{u:Value}(ry:RelV y u):KV (putK kvs k y) (stored vs k u):=by
 unfold putK stored;rw[r.any k]
 by_cases e:(vs.any fun kv=>decide (kv.1=k))=true
 ·rw[if_pos e,if_pos e];exact r.repl k ry
 ·rw[if_neg e,if_neg e];exact Paired.snoc r ⟨rfl,ry⟩
theorem KV.length{kvs:List (κ×V)}{vs:List (κ×Value)}(r:KV kvs vs):kvs.length=vs.length:=Paired.length r
end
theorem qfV{P:Program}{w:World}{k:Key}{u:Value}(r:RelV (kV k) u):(qbi P w).is k u=true:=by
 cases k with
 | inl i=>obtain⟨t,e⟩:=(show∃t,u=Value.int i t from r);subst e;exact mixKind_int P w i t
 | inr x=>obtain⟨t,e⟩:=(show∃t,u=Value.str x t from r);subst e;exact mixKind_str P w x t
theorem qdC{P:Program}{w:World}:∀{ks:List Key} {us:List Value},Vals (ks.map kV) us→ItemsAre (qbi P w) ks us
 | [],_,r=>by rw[List.map_nil]at r;cases r;exact .nil
 | k :: ks, _, r => by
   rw[List.map_cons]at r
   cases r with
   | cons h t=>exact .cons (qfV h) (qdC t)
abbrev KT(H:Hp):List (List Key×V)→List (List Key×Addr×Value)→Prop:=Paired fun p q=>p.1=q.1∧H q.2.1=some (.tup (p.1.map kV))∧RelV p.2 q.2.2
theorem KT.val{H:Hp}{kvs:List (List Key×V)}{xs:List (List Key×Addr×Value)}(r:KT H kvs xs)(k:List Key):RelO (valV kvs k) ((atKey xs k).map (·.2)):=by
 induction r with
 | nil=>exact True.intro
 | @cons p q ps qs h t ih =>
   obtain⟨h1,_,h2⟩:=h
   by_cases e:p.1=k
   · have e':q.1=k:=h1.symm.trans e
     have b:atKey (q::qs) k=some q.2:=by simp[atKey,List.find?_cons,e']
     rw[qa8 e,b];exact h2
   · have e':¬q.1=k:=fun z=>e (h1.trans z)
     have b:atKey (q::qs) k=atKey qs k:=by simp[atKey,List.find?_cons,e']
     rw[qbb e,b];exact ih
theorem KT.repl{H:Hp}{kvs:List (List Key×V)}{xs:List (List Key×Addr×Value)}(r:KT H kvs xs)(k:List Key){y:V}{u:Value}(ry:RelV y u) :
  KT H (kvs.map fun kv=>if kv.1=k then(kv.1,y)else kv) (xs.map (putAt k u)):=by
 induction r with
 | nil=>exact .nil
 | @cons p q ps qs h t ih =>
   rw[List.map_cons,List.map_cons]
   refine .cons ?_ ih
   obtain⟨h1,h2,h3⟩:=h
   unfold putAt
   by_cases e:p.1=k
   · rw[if_pos e,if_pos (h1.symm.trans e)];exact⟨h1,h2,ry⟩
   · rw[if_neg e,if_neg (fun z=>e (h1.trans z))];exact⟨h1,h2,h3⟩
theorem KT.put{H:Hp}{kvs:List (List Key×V)}{xs:List (List Key×Addr×Value)}(r:KT H kvs xs)(k:List Key){b:Addr}{y:V}{u:Value}(hb:H b=some (.tup (k.map kV)))(ry:RelV y u) :
  KT H (putK kvs k y) (storedH xs k b u):=by
 have e:(kvs.any fun kv=>decide (kv.1=k))=(atKey xs k).isSome:=by
  rw[qcP,(r.val k).isSome_eq,Option.isSome_map]
 unfold putK storedH;rw[e]
 by_cases q:(atKey xs k).isSome=true
 ·rw[if_pos q,if_pos q];exact r.repl k ry
 ·rw[if_neg q,if_neg q];exact Paired.snoc r ⟨rfl,hb,ry⟩
theorem KT.keeps{H H':Hp}{kvs:List (List Key×V)}{xs:List (List Key×Addr×Value)}(r:KT H kvs xs)(ht:∀b ys,H b=some (.tup ys)→H' b=some (.tup ys)):KT H' kvs xs :=
 Paired.mapP r fun _ _ z=>⟨z.1,ht _ _ z.2.1,z.2.2⟩
section
variable{P:Program}{w:World}{H:Hp}{h:Heap}{a:Addr}
theorem qf4{u:HO}(ok:HOk P w H h)(e:Rd H a u):ObjOk P w H h a u:=e.ok ok
theorem qfY{kvs:List (Key×V)}(ok:HOk P w H h)(e:Rd H a (.dK kvs)):kvs.length≤sizeLine∧(a == sysModules)=false∧∃vs,KV kvs vs∧h.DictOf (qbi P w) a vs :=
 show ObjOk P w H h a (.dK kvs)from qf4 ok e
theorem dk_of{kvs:List (Key×V)}(ok:HOk P w H h)(e:H a=some (.dK kvs)):kvs.length≤sizeLine∧(a == sysModules)=false∧∃vs,KV kvs vs∧h.DictOf (qbi P w) a vs:=qfY ok (.inl e)
theorem qe6{ks:List Key}(ok:HOk P w H h)(e:H a=some (.tup (ks.map kV))):(tupleKind (qbi P w)).is h ks a:=by
 obtain⟨_,its,r,o,h1,h2,n,h3⟩:=(show ObjOk P w H h a (.tup (ks.map kV))from ok a _ e);exact⟨o,its.toArray,n,h1,h2,h3,by simpa using qdC r⟩
theorem qf3{kvs:List (List Key×V)}(ok:HOk P w H h)(e:Rd H a (.dT kvs)):kvs.length≤sizeLine∧(a == sysModules)=false ∧
  ∃xs,KT H kvs xs∧h.DictOfH (tupleKind (qbi P w)) a xs:=by
 obtain⟨z,y,xs,r,o,es,ep,h1,h2,h3,h4,h5⟩:=(show ObjOk P w H h a (.dT kvs)from qf4 ok e);refine⟨z,y,xs,r,o,es,ep,h1,h2,h3,h4,fun x hx=>?_,h5⟩;have all:∀{l:List (List Key×V)} {m:List (List Key×Addr×Value)},KT H l m→∀x∈m,(tupleKind (qbi P w)).is h x.1 x.2.1:=by
  intro l m q
  induction q with
  | nil=>intro x hx;exact nomatch hx
  | @cons p q ps qs hq t ih =>
    intro x hx
    rcases List.mem_cons.mp hx with e | hx
    · subst e
      exact qe6 ok (by rw[←hq.1];exact hq.2.1)
    · exact ih x hx
 exact all r x hx
theorem dt_of{kvs:List (List Key×V)}(ok:HOk P w H h)(e:H a=some (.dT kvs)):kvs.length≤sizeLine∧(a == sysModules)=false ∧
  ∃xs,KT H kvs xs∧h.DictOfH (tupleKind (qbi P w)) a xs:=qf3 ok (.inl e)
end
def DGet(H:Hp)(a:Addr)(y:V)(r:Option V):Prop :=
 (∃kvs k,Rd H a (.dK kvs)∧y=kV k∧r=valV kvs k)∨∃kvs k b,Rd H a (.dT kvs)∧y=.ref b∧H b=some (.tup (k.map kV))∧r=valV kvs k
def DPut(H:Hp)(a:Addr)(y v:V)(H':Hp):Prop :=
 (∃kvs k,H a=some (.dK kvs)∧y=kV k∧kvs.length<sizeLine∧H'=upd H a (.dK (putK kvs k v))) ∨
 ∃kvs k b,H a=some (.dT kvs)∧y=.ref b∧H b=some (.tup (k.map kV))∧kvs.length<sizeLine∧H'=upd H a (.dT (putK kvs k v))
theorem DGet.t{H:Hp}{a b:Addr}{kvs:List (List Key×V)}{k:List Key}(e:H a=some (.dT kvs))(eb:H b=some (.tup (k.map kV))):DGet H a (.ref b) (valV kvs k):=.inr ⟨kvs,k,b,.inl e,rfl,eb,rfl⟩
theorem DPut.t{H:Hp}{a b:Addr}{kvs:List (List Key×V)}{k:List Key}{v:V}(e:H a=some (.dT kvs))(eb:H b=some (.tup (k.map kV)))(hl:kvs.length<sizeLine) :
  DPut H a (.ref b) v (upd H a (.dT (putK kvs k v))):=.inr ⟨kvs,k,b,e,rfl,eb,hl,rfl⟩
section
variable{X:Cx}{pins:List (Addr×Obj)}{σ:St}{H:Hp}{s:Shared}{a:Addr}{y v:V}{u r:Value}{o:Option V}{A:Around}{E:Value→Shared→Prop}
theorem Inv.big(I:Inv X pins σ H s):sysModules<s.heap.objs.size:=by
 have h:mainGlobals<s.heap.objs.size:=(I.mod.glob.keeps I.bk).lt;exact Nat.lt_trans (by decide) h
theorem d_in{Q:Value→Shared→Prop}(hu:A.units+1<cLine)(I:Inv X pins σ H s)(g:DGet H a y o)(ry:RelV y u)(h:∀s',Inv X pins σ H s'→Q (.bool o.isSome) s') :
  wpAny (model X.prog X.w) A (compareOp .In u (.ref a)) Q E s:=by
 rcases g with⟨kvs,k,e,ey,l⟩ | ⟨kvs,k,b,e,ey,eb,l⟩
 ·subst ey;obtain⟨z,hd,vs,rel,dd⟩:=qfY I.hok e;refine wpAny_in_of (qfV ry) hd dd.mapOf ?_;rw[←(rel.val k).isSome_eq,←l];exact h _ (I.tok _)
 ·subst ey;cases(show u=Value.ref b from ry);obtain⟨z,hd,xs,rel,dd⟩:=qf3 I.hok e;refine wpAny_in_heap (tupleKind_room_in1 hu) (qe6 I.hok eb) hd dd ?_;have q:=(rel.val k).isSome_eq;rw[Option.isSome_map]at q;rw[←q,←l];exact h _ (I.tok _)
theorem qfk{h':Heap}{t':Nat}{ob:HO}(I:Inv X pins σ H s)(mu:Mut (H a))(hs:Heap.SameBut a s.heap h')(he:∃q,h'.get? a=some q)(new:ObjOk X.prog X.w (upd H a ob) h' a ob) :
  Inv X pins σ (upd H a ob) {s with heap:=h',toks:=t'} :=
 I.write (x:=a) (e:=a) mu (.inl rfl) (fun b q hb z=>(hs.2 b hb).trans z) he new
theorem dk_new{P:Program}{w:World}{H':Hp}{h':Heap}{kvs:List (Key×V)}{vs:List (Key×Value)}(z:kvs.length≤sizeLine)(hd:(a == sysModules)=false)(rel:KV kvs vs)(dd:h'.DictOf (qbi P w) a vs) :
  ObjOk P w H' h' a (.dK kvs):=⟨z,hd,vs,rel,dd⟩
theorem d_setItem{H':Hp}{Q:Unit→Shared→Prop}(hu:A.units+1<cLine)(I:Inv X pins σ H s)(g:DPut H a y v H')(ry:RelV y u)(rv:RelV v r)(h:∀s',Inv X pins σ H' s'→Q () s') :
  wpAny (model X.prog X.w) A (setItem (.ref a) u r) Q E s:=by
 rcases g with⟨kvs,k,e,ey,l,eH⟩ | ⟨kvs,k,b,e,ey,eb,l,eH⟩
 ·subst ey eH;obtain⟨z,hd,vs,rel,dd⟩:=dk_of I.hok e;have hz:vs.length≤sizeLine:=by rw[←rel.length];exact z
  have hl:(putK kvs k v).length≤sizeLine:=by have:=qcf kvs k v;omega
  refine wpAny_setItem_pairs (hsz:=hz) (qfV ry) dd fun h' dd' hs=>h _ ?_
  have he:∃q,h'.get? a=some q:=let⟨q,_,_,hq,_⟩:=dd';⟨q,hq⟩;exact qfk I (by rw[e];exact True.intro) hs he (dk_new hl hd (rel.put k rv) dd')
 ·subst ey eH;cases(show u=Value.ref b from ry);obtain⟨z,hd,xs,rel,dd⟩:=dt_of I.hok e;have hz:xs.length≤sizeLine:=by rw[←Paired.length rel];exact z
  have hl:(putK kvs k v).length≤sizeLine:=by have:=qcf kvs k v;omega
  refine wpAny_setItem_heap (hsz:=hz) (tupleKind_room_in1 hu) (qe6 I.hok eb) dd fun h' dd' hs=>h _ ?_
  obtain⟨q,es,ep,hq,h2,h3,h4,_,h5⟩:=dd';refine qfk I (by rw[e];exact True.intro) hs ⟨q,hq⟩ ⟨hl,hd,_,(rel.put k eb rv).keeps fun c ys ec=>?_,q,es,ep,hq,h2,h3,h4,h5⟩;rw[qap (qga ec e (fun z=>nomatch z))];exact ec
end
def tDIn(ty td:TE):TE:=fun σ H Q=>ty σ H fun y H1=>td σ H1 fun x H2=>∃a o,x=.ref a∧DGet H2 a y o∧Q (.bl o.isSome) H2
def sDPut(td ty tv:TE):TS:=fun D σ H=>tv σ H fun v H1=>td σ H1 fun x H2=>ty σ H2 fun y H3=>∃a H4,x=.ref a∧DPut H3 a y v H4∧D.nx σ H4
section
variable{X:Cx}{o i e value:Expr}{pos pos' tpos:Pos}{td ty tv:TE}
theorem pc_din(hu:X.A.units+1<cLine)(hi:PE X i ty)(ho:PE X o td):PC X .In i o (tDIn ty td):=by
 intro pins s σ H Q I h;refine thn (hi pins s σ H _ I h) fun iv s1 ⟨y,H1,I1,ry,q1⟩=>thn (ho pins s1 σ H1 _ I1 q1) fun u s2 ⟨x,H2,I2,rx,a,ov,ex,g,q2⟩=>?_
 subst ex;obtain rfl:u=Value.ref a:=rx;exact d_in hu I2 g ry fun s3 I3=>⟨.bl ov.isSome,H2,I3,rfl,q2⟩
theorem ps_dput(hu:X.A.units+1<cLine)(ho:PE X o td)(hi:PE X i ty)(hv:PE X value tv)(hs:swapsWith value (some (.Subscript o i pos')) pos.line X.env=pure false) :
  PS X (.Assign [.Subscript o i pos'] value pos) (sDPut td ty tv):=by
 intro pins s σ H D I h;refine wpAny_Assign_Subscript (thn (hv pins s σ H _ I h) fun r s1 ⟨v,H1,I1,rv,q1⟩=>thn (ho pins s1 σ H1 _ I1 q1) fun u s2 ⟨x,H2,I2,rx,q2⟩=>thn (hi pins s2 σ H2 _ I2 q2) fun iv s3 ⟨y,H3,I3,ry,a,H4,ex,g,q3⟩=>?_) hs;subst ex;obtain rfl:u=Value.ref a:=rx;exact d_setItem hu I3 g ry rv fun s4 I4=>⟨σ,H4,I4,q3⟩
end
theorem dt_empty{P:Program}{w:World}{H:Hp}(h:Heap)(hb:sysModules<h.objs.size):ObjOk P w H (h.push {cls:=.type "dict",data:=.dict #[]}) h.objs.size (.dT []) :=
 ⟨Nat.zero_le _,beq_eq_false_iff_ne.mpr (Ne.symm (Nat.ne_of_lt hb)),[],.nil,_,#[],0,Heap.get?_push_size _ rfl,⟨rfl,rfl,rfl⟩,rfl,rfl,List.nodup_nil⟩
def tDNewT:TE:=fun _ H Q=>∀p,H p=none→Q (.ref p) (upd H p (.dT []))
section
variable{X:Cx}{pos:Pos}
theorem pe_dnewT:PE X (.Dict [] [] pos) tDNewT:=fun pins s σ H Q I h =>
 wpAny_Dict_empty ⟨.ref s.heap.objs.size,_,I.laid (a:=s.heap.objs.size) (o:=.dT []) (t':=s.toks) (fun _ _ q=>Heap.get?_push_of_some _ q) (Nat.le_refl _) (dt_empty s.heap I.big),rfl,h _ (I.hok.fresh (Nat.le_refl _))⟩
end
end L2
namespace Gd
open PySem L2 Gen
structure Pl where
 r:Nat
 c:Nat
 s:Nat
 d:Nat
def Pl.vs(p:Pl):List V:=[.int p.r,.int p.c,.int p.s,.int p.d]
def meet(p q:Pl):Bool:=decide (q.r<p.r+p.d∧p.r<q.r+q.d∧q.c<p.c+p.s∧p.c<q.c+q.s)
def free(ps:List Pl)(q:Pl):Bool:=ps.all fun p=>!meet p q
def cov(p:Pl)(x:Nat×Nat):Bool:=decide (p.r≤x.1∧x.1<p.r+p.d∧p.c≤x.2∧x.2<p.c+p.s)
def qbp(p:Pl)(i:Nat):List (Nat×Nat):=(List.range p.s).map fun j=>(p.r+i,p.c+j)
def qbn(p:Pl)(n:Nat):List (Nat×Nat):=((List.range n).map (qbp p)).flatten
def spots(p:Pl):List (Nat×Nat):=qbn p p.d
theorem qb0(p:Pl)(n:Nat):qbn p (n+1)=qbn p n++qbp p n:=by simp[qbn,List.range_succ]
theorem qbV(p:Pl)(i:Nat):(qbp p i).length=p.s:=by simp[qbp]
theorem qcW(p:Pl):∀n,(qbn p n).length=n*p.s
 | 0=>by simp[qbn]
 | n+1=>by rw[qb0,List.length_append,qcW p n,qbV,Nat.succ_mul]
theorem qbs{p:Pl}{n:Nat}(hn:n≤4)(hs:p.s≤6):(qbn p n).length≤24:=by
 rw[qcW];have:=Nat.mul_le_mul hn hs;omega
theorem mem_spots{p:Pl}{x:Nat×Nat}:x∈spots p↔cov p x=true:=by
 constructor
 ·intro h;unfold spots qbn at h;obtain⟨l,hl,hx⟩:=List.mem_flatten.mp h;obtain⟨i,hi,rfl⟩:=List.mem_map.mp hl;obtain⟨j,hj,rfl⟩:=List.mem_map.mp hx;have h1:=List.mem_range.mp hi;have h2:=List.mem_range.mp hj;exact decide_eq_true ⟨by show p.r≤p.r+i;omega,by show p.r+i<p.r+p.d;omega,by show p.c≤p.c+j;omega,by show p.c+j<p.c+p.s;omega⟩
 ·intro h;obtain⟨h1,h2,h3,h4⟩:=of_decide_eq_true h;refine List.mem_flatten.mpr ⟨qbp p (x.1-p.r),List.mem_map.mpr ⟨_,List.mem_range.mpr (by omega),rfl⟩,List.mem_map.mpr ⟨x.2-p.c,List.mem_range.mpr (by omega),?_⟩⟩;obtain⟨a,b⟩:=x;simp only at h1 h2 h3 h4⊢;rw[Prod.mk.injEq];omega
theorem qd2{ps:List Pl}{q:Pl}:(∀p∈ps,1≤p.s∧1≤p.d)→1≤q.s→1≤q.d→((spots q).any fun x=>ps.any fun p=>cov p x)=!free ps q:=by
 intro hp hs hd;rw[Bool.eq_iff_iff];constructor
 ·intro h;obtain⟨x,hx,h⟩:=List.any_eq_true.mp h;obtain⟨p,hp',hc⟩:=List.any_eq_true.mp h;obtain⟨a1,a2,a3,a4⟩:=of_decide_eq_true (mem_spots.mp hx);obtain⟨b1,b2,b3,b4⟩:=of_decide_eq_true hc;have m:meet p q=true:=decide_eq_true ⟨by omega,by omega,by omega,by omega⟩;cases e:free ps q with
  | false=>rfl
  | true =>
    have:=List.all_eq_true.mp e p hp'
    rw[m]at this
    cases this
 ·intro h;have h':free ps q=false:=by simpa using h
  have nz:¬∀p∈ps,(!meet p q)=true:=fun z=>by
   rw[show free ps q=true from List.all_eq_true.mpr z]at h';cases h'
  obtain⟨p,hz⟩:=Classical.not_forall.mp nz;obtain⟨hp',hm⟩:=Classical.not_imp.mp hz;have hm':meet p q=true:=by simpa using hm
  obtain⟨m1,m2,m3,m4⟩:=of_decide_eq_true hm';obtain⟨s1,d1⟩:=hp p hp';refine List.any_eq_true.mpr ⟨(max p.r q.r,max p.c q.c),mem_spots.mpr (decide_eq_true ?_),List.any_eq_true.mpr ⟨p,hp',decide_eq_true ?_⟩⟩
  ·show q.r≤max p.r q.r∧max p.r q.r<q.r+q.d∧q.c≤max p.c q.c∧max p.c q.c<q.c+q.s;omega
  ·show p.r≤max p.r q.r∧max p.r q.r<p.r+p.d∧p.c≤max p.c q.c∧max p.c q.c<p.c+p.s;omega
structure First(ps:List Pl)(cols s d:Nat)(q:Pl):Prop where
 es:q.s=s
 ed:q.d=d
 ec:q.c+s≤cols
 fr:free ps q=true
 lc:∀c,c<q.c→free ps ⟨q.r,c,s,d⟩=false
 lr:∀r,r<q.r→∀c,c+s≤cols→free ps ⟨r,c,s,d⟩=false
theorem First.eta{ps:List Pl}{cols s d:Nat}{q:Pl}(a:First ps cols s d q):q=⟨q.r,q.c,s,d⟩:=by
 have h1:=a.es;have h2:=a.ed;subst h1 h2;rfl
theorem First.uniq{ps:List Pl}{cols s d:Nat}{p q:Pl}(a:First ps cols s d p)(b:First ps cols s d q):p=q:=by
 have fa:=a.fr;have fb:=b.fr;rw[a.eta]at fa;rw[b.eta]at fb;have hr:p.r=q.r:=by
  rcases Nat.lt_trichotomy p.r q.r with h | h | h
  ·rw[b.lr p.r h p.c a.ec]at fa;cases fa
  ·exact h
  ·rw[a.lr q.r h q.c b.ec]at fb;cases fb
 have hc:p.c=q.c:=by
  rcases Nat.lt_trichotomy p.c q.c with h | h | h
  ·rw[hr,b.lc p.c h]at fa;cases fa
  ·exact h
  ·rw[←hr,a.lc q.c h]at fb;cases fb
 rw[a.eta,b.eta,hr,hc]
def PsOk(cols:Nat)(ps:List Pl):Prop:=∀p∈ps,1≤p.s∧1≤p.d∧p.d≤4∧p.s≤6∧p.r+p.d≤4*ps.length∧p.c+p.s≤cols
theorem PsOk.one{cols:Nat}{ps:List Pl}(ok:PsOk cols ps):∀p∈ps,1≤p.s∧1≤p.d:=fun p hp=>⟨(ok p hp).1,(ok p hp).2.1⟩
theorem qdz{cols:Nat}{ps:List Pl}(ok:PsOk cols ps){r c s d:Nat}(h:4*ps.length≤r):free ps ⟨r,c,s,d⟩=true:=by
 refine List.all_eq_true.mpr fun p hp=>?_
 have h1:=ok p hp;have:meet p ⟨r,c,s,d⟩=false:=decide_eq_false fun z=>by
  have z1:r<p.r+p.d:=z.1;omega
 rw[this];rfl
theorem First.row{ps:List Pl}{cols s d:Nat}{q:Pl}(a:First ps cols s d q)(ok:PsOk cols ps)(hs:s≤cols):q.r≤4*ps.length:=by
 refine Nat.le_of_not_lt fun z=>?_
 have h1:=a.lr _ z 0 (by omega);rw[qdz ok (Nat.le_refl _)]at h1;cases h1
theorem PsOk.snoc{ps:List Pl}{cols s d:Nat}{q:Pl}(ok:PsOk cols ps)(a:First ps cols s d q)(s1:1≤s)(s2:s≤cols)(s3:cols≤6)(d1:1≤d)(d2:d≤4):PsOk cols (ps++[q]):=by
 intro p hp;rw[List.length_append,List.length_singleton];rcases List.mem_append.mp hp with h | h
 ·have:=ok p h;omega
 ·have e:p=q:=by simpa using h
  have h1:=a.row ok s2;have h2:=a.es;have h3:=a.ed;have h4:=a.ec;subst e;omega
def qeQ(cs:List (Nat×Nat)):Prop:=∀c∈cs,1≤c.1∧c.1≤6∧1≤c.2∧c.2≤4
inductive Placed(cols:Nat):List (Nat×Nat)→List Pl→Prop
 | nil:Placed cols [] []
 | snoc {cs:List (Nat×Nat)} {ps:List Pl} {x:Nat×Nat} {q:Pl}:Placed cols cs ps→First ps cols (min x.1 cols) x.2 q→Placed cols (cs++[x]) (ps++[q])
theorem Placed.uniq{cols:Nat}{cs:List (Nat×Nat)}{ps:List Pl}(a:Placed cols cs ps):∀{qs:List Pl},Placed cols cs qs→ps=qs:=by
 induction a with
 | nil =>
   intro qs b
   generalize e:([]:List (Nat×Nat))=z at b
   cases b with
   | nil=>rfl
   | snoc _ _=>simp at e
 | @snoc cs ps x q a1 a2 ih =>
   intro qs b
   generalize e:cs++[x]=z at b
   cases b with
   | nil=>simp at e
   | @snoc cs' ps' x' q' b1 b2 =>
     obtain⟨e1,e2⟩:=List.append_inj' e rfl
     have e3:x=x':=by simpa using e2
     subst e1 e3
     have:=ih b1
     subst this
     rw[a2.uniq b2]
theorem Placed.len{cols:Nat}{cs:List (Nat×Nat)}{ps:List Pl}(a:Placed cols cs ps):ps.length=cs.length:=by
 induction a with
 | nil=>rfl
 | snoc _ _ ih=>rw[List.length_append,List.length_append,ih];rfl
section
variable{X:Cx}
open PySem PySem.Spec PyProof.Rows in
theorem call_any(hc:X.calm=true):qcd X (.builtin "any") (fun xs H Q=>∃(p:Addr) (bs:List Bool),xs=[.ref p]∧SqL X.K H p (bs.map V.bl)∧Q (.bl (bs.any id)) H):=by
 intro pins s σ H xs us Q I r h;obtain⟨p,bs,rfl,hp,q⟩:=h;obtain⟨u,rfl,rx⟩:=qdo r;cases rx;obtain⟨its,rv,pl,hz⟩:=I.list hp;have hh:=I.ok.hd hc;refine call_any_walk (wpAny_pyIter_list pl.isList ?_);have lp:p<s.heap.objs.size:=by
  obtain⟨o,e,_⟩:=pl.isList;exact Heap.lt_size e
 have atB:∀(i:Nat) (v:Value),its.toArray[i]?=some v→v=.bool (bs.getD i false):=fun i v e=>by
  have e':its[i]?=some v:=by simpa using e
  cases z:bs[i]? with
  | none =>
    have h1:=rv.length
    rw[List.length_map]at h1
    have h2:=(List.getElem?_eq_some_iff.mp e').1
    have h3:=List.getElem?_eq_none_iff.mp z
    omega
  | some b =>
    obtain⟨u,e2,r2⟩:=rv.get (i:=i) (x:=.bl b) (by rw[List.getElem?_map,z];rfl)
    rw[e']at e2
    cases e2
    cases r2
    rw[List.getD_eq_getElem?_getD,z]
    rfl
 refine⟨s.heap.objs.size,_,_,_,_,_,fun i=>bs.getD i false,rfl,Walks.list (by simpa using hh) s.heap.objs.size p (Nat.ne_of_lt lp) its.toArray,⟨⟨_,Heap.get?_push_size _ rfl,rfl,rfl⟩,pl.isList.push _⟩,fun i v s' Q' E' e hq=>?_,fun h' tk k=>?_⟩
 ·rw[atB i v e];exact wpAny_truthy_bool hq
 ·have ev:(List.range its.toArray.size).any (fun i=>bs.getD i false)=bs.any id:=by
   have hl:its.toArray.size=bs.length:=by rw[List.size_toArray,←rv.length,List.length_map]
   rw[hl];rw[Bool.eq_iff_iff];simp only[List.any_eq_true,List.mem_range,id];constructor
   ·rintro⟨i,hi,z⟩;rw[List.getD_eq_getElem?_getD,List.getElem?_eq_getElem hi]at z;exact⟨_,List.getElem_mem hi,z⟩
   ·rintro⟨x,hx,z⟩;obtain⟨i,hi,e⟩:=List.mem_iff_getElem.mp hx;refine⟨i,hi,?_⟩;rw[List.getD_eq_getElem?_getD,List.getElem?_eq_getElem hi,e];exact z
  rw[ev];exact⟨.bl (bs.any id),H,I.kept fun b o e=>k b o (by simpa using Nat.ne_of_lt (Heap.lt_size e)) (Heap.get?_push_of_some _ e),rfl,q⟩
end
def TupAt(H:Hp)(a:Addr)(x:Nat×Nat):Prop:=H a=some (.tup [.int x.1,.int x.2])
def PlAt(H:Hp)(a:Addr)(p:Pl):Prop:=H a=some (.tup p.vs)
def LstAt{β:Type}(F:Hp→Addr→β→Prop)(H:Hp)(L:Addr)(xs:List β):Prop:=∃as:List Addr,H L=some (.lst (as.map V.ref))∧Paired (F H) as xs
def Tups(H H':Hp):Prop:=∀b xs,H b=some (.tup xs)→H' b=some (.tup xs)
theorem Tups.of{H H':Hp}(s:Same H H'):Tups H H':=fun b _ e=>s b _ e
theorem Tups.trans{H H1 H2:Hp}(a:Tups H H1)(b:Tups H1 H2):Tups H H2:=fun c xs e=>b c xs (a c xs e)
theorem Tups.lst{H:Hp}{L:Addr}{ys:List V}{o:HO}(h:H L=some (.lst ys)):Tups H (upd H L o):=fun b xs e=>by
 rw[qap (fun z=>by rw[z,h]at e;cases e)];exact e
theorem Tups.dct{H:Hp}{L:Addr}{kvs:List (List Key×V)}{o:HO}(h:H L=some (.dT kvs)):Tups H (upd H L o):=fun b xs e=>by
 rw[qap (fun z=>by rw[z,h]at e;cases e)];exact e
theorem PlAt.keep{H H':Hp}(t:Tups H H'){a:Addr}{x:Pl}(h:PlAt H a x):PlAt H' a x:=t _ _ h
theorem qbD{H H':Hp}(t:Tups H H'){as:List Addr}{xs:List (Nat×Nat)}(h:Paired (TupAt H) as xs):Paired (TupAt H') as xs:=h.mono fun _ _ z=>t _ _ z
theorem qeE{H H':Hp}(t:Tups H H'){as:List Addr}{xs:List Pl}(h:Paired (PlAt H) as xs):Paired (PlAt H') as xs:=h.mono fun _ _ z=>t _ _ z
theorem LstAt.tup{H H':Hp}(s:Same H H'){L:Addr}{xs:List (Nat×Nat)}(h:LstAt TupAt H L xs):LstAt TupAt H' L xs:=by
 obtain⟨as,e,p⟩:=h;exact⟨as,s _ _ e,qbD (.of s) p⟩
def Tk(H:Hp)(a:Addr)(ps:List Pl)(n:Nat):Prop:=∃kvs,H a=some (.dT kvs)∧kvs.length≤n∧∀x:Nat×Nat,(valV kvs [.inl x.1,.inl x.2]).isSome=ps.any fun p=>cov p x
def spSpots:Sp:=fun vs H Q _=>∃(t:Addr) (p:Pl),vs=[.ref t]∧PlAt H t p∧p.d≤4∧p.s≤6∧p.r≤1000∧p.c≤1000∧∀(L:Addr) (H':Hp),H L=none→Same H H'→LstAt TupAt H' L (spots p)→Q (.ref L) H'
def spFirst:Sp:=fun vs H Q _=>∃(tk:Addr) (cols s d n:Nat) (ps:List Pl),vs=[.int cols,.ref tk,.int s,.int d]∧Tk H tk ps n∧PsOk cols ps∧ps.length≤100∧1≤s∧s≤cols∧cols≤6∧1≤d∧d≤4 ∧
 ∀(t:Addr) (H':Hp) (q:Pl),First ps cols s d q→PlAt H' t q→Same H H'→Q (.ref t) H'
def spPlaces:Sp:=fun vs H Q _=>∃(cl:Addr) (cols:Nat) (cs:List (Nat×Nat)),vs=[.int cols,.ref cl]∧LstAt TupAt H cl cs∧qeQ cs∧cs.length≤100∧1≤cols∧cols≤6 ∧
 ∀(L:Addr) (H':Hp) (ps:List Pl),H L=none→Same H H'→LstAt PlAt H' L ps→Placed cols cs ps→PsOk cols ps→Q (.ref L) H'
structure BnG(mg:Str→Option Value):Prop where
 isinstance:mg "isinstance" = none
 len:mg "len" = none
 range:mg "range" = none
 int:mg "int" = none
 bool:mg "bool" = none
 list:mg "list" = none
 tuple:mg "tuple" = none
 any:mg "any" = none
 min:mg "min" = none
 max:mg "max" = none
 sum:mg "sum" = none
 zip:mg "zip" = none
structure NumsG(mg:Str→Option Value):Prop where
 row:∃t,mg "ROW" = some (.int 0 t)
 column:∃t,mg "COLUMN" = some (.int 1 t)
 span:∃t,mg "SPAN" = some (.int 2 t)
 deep:∃t,mg "DEEP" = some (.int 3 t)
theorem b_any:bootBuiltins "any" = some (.builtin "any"):=by decide +kernel
theorem b_min:bootBuiltins "min" = some (.builtin "min"):=by decide +kernel
theorem b_max:bootBuiltins "max" = some (.builtin "max"):=by decide +kernel
theorem b_sum:bootBuiltins "sum" = some (.builtin "sum"):=by decide +kernel
end Gd
namespace L2
open PySem PySem.Spec PyProof.Rows
theorem qem{K:PySem.W.Frag}{a:Addr}{xs:List V}{g:TG}{tb:TS}{D:Ends}{σ:St}{H:Hp}(Pv:Nat→St→Hp→Prop)(h0:Pv 0 σ H)(hl:∀i σ H,i≤xs.length→Pv i σ H→SqL K H a xs)(hs:∀i x σ H T,xs[i]?=some x→H T=none→Pv i σ H→g (.ref T) σ (upd H T (.tup [.int (i:Nat),x])) fun σ2 H2=>tb {D with nx:=Pv (i+1),ct:=Pv (i+1),bk:=D.nx} σ2 H2)(hd:∀σ H,Pv xs.length σ H→D.nx σ H) :
  ∃W:Nat→Nat→St→Hp→Prop,(∃m,W 0 m σ H)∧∀i m σ H,W i m σ H →
   ((Ite K a).stop i H∧D.nx σ H)∨((Ite K a).go i H∧∃N:St→Hp→Prop,(∀σ' H',N σ' H'→∃m',m'<m∧W (i+1) m' σ' H')∧∀x H',(Ite K a).yld i H x H'→g x σ H' fun σ2 H2=>tb {D with nx:=N,ct:=N,bk:=D.nx} σ2 H2):=by
 refine⟨fun i m σ H=>m=xs.length-i∧i≤xs.length∧Pv i σ H,⟨xs.length,by simp,Nat.zero_le _,h0⟩,?_⟩;rintro i m σ H ⟨rfl,hi,p⟩;have q:=hl i σ H hi p
 by_cases hlt:i<xs.length
 ·refine .inr ⟨⟨xs,xs[i],q,by simp[hlt]⟩,Pv (i+1),fun σ' H' p'=>⟨xs.length-(i+1),by omega,rfl,hlt,p'⟩,fun x H' y=>?_⟩;obtain⟨T,z,hT,e1,e2,y⟩:=y;subst e1 e2;exact hs i z σ _ T (y xs q) hT p
 ·have e:i=xs.length:=by omega
  subst e;exact .inl ⟨⟨xs,q,Nat.le_refl _⟩,hd σ H p⟩
end L2
namespace L2
open PySem PySem.Spec PyProof.Rows
end L2
namespace L2
open PySem PySem.Spec PyProof.Rows
end L2
namespace L2
open PySem PySem.Spec PyProof.Rows
def Itz(K:PySem.W.Frag)(a b:Addr):It :=
 ⟨fun i H=>∃xs ys x y,SqL K H a xs∧SqL K H b ys∧xs[i]?=some x∧ys[i]?=some y,
  fun i H v H'=>∃T x y,H T=none∧v=.ref T∧H'=upd H T (.tup [x,y])∧∀xs ys,SqL K H a xs→SqL K H b ys→xs[i]?=some x∧ys[i]?=some y,
  fun i H=>∃xs ys,SqL K H a xs∧SqL K H b ys∧(xs.length≤i∨ys.length≤i)⟩
structure ZipSt(h:Heap)(z TI TO i1 i2 l1 l2:Addr)(i:Nat):Prop where
 hz:IsZip h z TI TO .none
 ti:IsPair h TI (.ref i1) (.ref i2)
 to:∃a b,IsPair h TO a b
 it1:h.IsListIter i1 l1 i
 it2:h.IsListIter i2 l2 i
theorem qaQ{h:Heap}{l b:Addr}{xs:Array Value}{o:Obj}(hl:h.IsList l xs)(hb:h.get? b=some o)(hc:o.cls≠.type "list"):l≠b:=by
 rintro rfl;obtain⟨o',e,c,_⟩:=hl;rw[hb]at e;cases e;exact hc c
theorem turn_zip{P:Program}{w:World}{K:PySem.W.Frag}{elts:List Expr}{k1:Nat}{tp:Pos}(l1 l2 z TI TO i1 i2:Addr)(d1:TI≠z)(d2:TO≠z)(d3:i1≠z)(d4:i2≠z)(d5:TI≠TO)(d6:TI≠i1)(d7:TI≠i2)(d8:TO≠i1)(d9:TO≠i2)(d10:i1≠i2) :
  Turn P w K (.Tuple elts k1 tp) (Itz K l1 l2) [z,TI,TO,i1,i2] z (fun i h=>ZipSt h z TI TO i1 i2 l1 l2 i) where
 mem:=by simp
 obj:=fun i h st b hb=>by
  have c1:=st.hz;have c2:=st.ti;obtain⟨a,b',c3⟩:=st.to;obtain⟨o4,e4,_,g4⟩:=st.it1;obtain⟨o5,e5,_,g5⟩:=st.it2;rcases List.mem_cons.mp hb with rfl | hb
  ·exact⟨_,c1,fun v z=>by cases z⟩
  rcases List.mem_cons.mp hb with rfl | hb
  ·exact⟨_,c2,fun v z=>by cases z⟩
  rcases List.mem_cons.mp hb with rfl | hb
  ·exact⟨_,c3,fun v z=>by cases z⟩
  rcases List.mem_cons.mp hb with rfl | hb
  ·exact⟨_,e4,fun v z=>by rw[g4]at z;cases z⟩
  ·have:b=i2:=by simpa using hb
   subst this;exact⟨_,e5,fun v z=>by rw[g5]at z;cases z⟩
 keep:=fun i h h' st k=>by
  obtain⟨a,b',c3⟩:=st.to;exact⟨k z (by simp) _ st.hz,k TI (by simp) _ st.ti,⟨a,b',k TO (by simp) _ c3⟩,st.it1.at fun o e=>k i1 (by simp) o e,st.it2.at fun o e=>k i2 (by simp) o e⟩
 item:=by
  intro X hP hw hK hc i pins s σ H E I hf st hg;subst hP hw hK;obtain⟨xs,ys,x,y,hq1,hq2,hx,hy⟩:=hg;obtain⟨its1,rv1,p1,hz1⟩:=I.list hq1;obtain⟨its2,rv2,p2,hz2⟩:=I.list hq2;obtain⟨u1,hu1,ru1⟩:=rv1.get hx;obtain⟨u2,hu2,ru2⟩:=rv2.get hy;obtain⟨ta,tb,to⟩:=st.to;obtain⟨o4,e4,c4,g4⟩:=id st.it1;obtain⟨o5,e5,c5,g5⟩:=id st.it2;have nz:Value.type "zip" ≠ Value.type "list":=by decide
  have nt:Value.type "tuple" ≠ Value.type "list":=by decide
  have n4:o4.cls≠.type "list":=by rw[c4];decide
  have n5:o5.cls≠.type "list":=by rw[c5];decide
  have D:ZipApart z TI TO i1 i2 l1 l2:=⟨d1,d2,d3,d4,d5,d6,d7,d8,d9,d10,qaQ p1.isList st.hz nz,qaQ p1.isList to nt,qaQ p1.isList e4 n4,qaQ p1.isList e5 n5,qaQ p2.isList st.hz nz,qaQ p2.isList to nt,qaQ p2.isList e4 n4,qaQ p2.isList e5 n5⟩;refine wpAny_pyNext_zip_item D st.hz st.ti to st.it1 st.it2 p1.isList p2.isList (x:=u1) (y:=u2) (by simpa using hu1) (by simpa using hu2) fun h' hz' to' it1' it2' hT hsz hk=>?_
  refine⟨_,rfl,wpAny_letOwnedTupleGo_zip hz' fun h2 hz2 sb=>?_⟩;have zlt:z<s.heap.objs.size:=Heap.lt_size st.hz;have tlt:TO<s.heap.objs.size:=Heap.lt_size to;have alt:i1<s.heap.objs.size:=Heap.lt_size e4;have blt:i2<s.heap.objs.size:=Heap.lt_size e5;have ilt:TI<s.heap.objs.size:=Heap.lt_size st.ti;have k2:∀b o,b∉[z,TI,TO,i1,i2]→s.heap.get? b=some o→h2.get? b=some o:=fun b o hb e=>(sb.2 b (fun q=>hb (by simp[q]))).trans (hk b o (fun q=>hb (by simp[q])) (fun q=>hb (by simp[q])) (fun q=>hb (by simp[q])) (fun q=>hb (by simp[q])) e)
  have gT:h2.get? s.heap.objs.size=some {cls:=.type "tuple",data:=.seq #[u1,u2]}:=(sb.2 _ (Nat.ne_of_gt zlt)).trans hT;have I1:Inv X pins σ H {s with heap:=h2,toks:=s.toks}:=I.moved hf k2;have hn:H s.heap.objs.size=none:=I.hok.fresh (Nat.le_refl _);refine⟨.ref s.heap.objs.size,upd H s.heap.objs.size (.tup [x,y]),I1.track ?_ hn (Nat.ne_of_gt I.lt) (fun y c ec z=>?_) (fun q hq z=>?_) ?_,rfl,⟨s.heap.objs.size,x,y,hn,rfl,rfl,fun xs' ys' h1 h2=>by rw[I.list_inj h1 hq1,I.list_inj h2 hq2];exact⟨hx,hy⟩⟩,?_,fun b hb=>?_⟩
  ·cases z:X.s₀.heap.get? s.heap.objs.size with
   | none=>rfl
   | some u=>exact absurd (Nat.lt_of_lt_of_le (Heap.lt_size z) I.sz) (Nat.lt_irrefl _)
  ·obtain⟨v,q⟩:=I.cell y c ec;exact absurd q.lt (by rw[z];exact Nat.lt_irrefl _)
  ·exact absurd (Heap.lt_size (I.pin q hq).1) (by rw[z];exact Nat.lt_irrefl _)
  ·exact⟨by show 2≤sizeLine;decide,[u1,u2],.cons ru1 (.cons ru2 .nil),_,gT,rfl,_,rfl⟩
  ·have hti:h'.get? TI=some _:=hk TI _ d1 d5 d6 d7 st.ti;exact⟨hz2,(sb.2 _ d1).trans hti,⟨_,_,(sb.2 _ d2).trans to'⟩,it1'.at fun o e=>(sb.2 _ d3).trans e,it2'.at fun o e=>(sb.2 _ d4).trans e⟩
  ·have blt':b<s.heap.objs.size:=by
    rcases List.mem_cons.mp hb with rfl | hb
    ·exact zlt
    rcases List.mem_cons.mp hb with rfl | hb
    ·exact ilt
    rcases List.mem_cons.mp hb with rfl | hb
    ·exact tlt
    rcases List.mem_cons.mp hb with rfl | hb
    ·exact alt
    ·have:b=i2:=by simpa using hb
     rw[this];exact blt
   rw[qap (Nat.ne_of_lt blt')];exact(hf b hb).1
 done:=by
  intro X hP hw hK hc i pins s σ H E I hf st hg;subst hP hw hK;obtain⟨xs,ys,hq1,hq2,hx⟩:=hg;obtain⟨its1,rv1,p1,hz1⟩:=I.list hq1;obtain⟨its2,rv2,p2,hz2⟩:=I.list hq2;have hl1:=rv1.length;have hl2:=rv2.length;obtain⟨ta,tb,to⟩:=st.to;obtain⟨o4,e4,c4,g4⟩:=id st.it1;obtain⟨o5,e5,c5,g5⟩:=id st.it2;have nz:Value.type "zip" ≠ Value.type "list":=by decide
  have nt:Value.type "tuple" ≠ Value.type "list":=by decide
  have n4:o4.cls≠.type "list":=by rw[c4];decide
  have n5:o5.cls≠.type "list":=by rw[c5];decide
  have D:ZipApart z TI TO i1 i2 l1 l2:=⟨d1,d2,d3,d4,d5,d6,d7,d8,d9,d10,qaQ p1.isList st.hz nz,qaQ p1.isList to nt,qaQ p1.isList e4 n4,qaQ p1.isList e5 n5,qaQ p2.isList st.hz nz,qaQ p2.isList to nt,qaQ p2.isList e4 n4,qaQ p2.isList e5 n5⟩;refine wpAny_pyNext_zip_end (I.ok.hd hc) D st.hz st.ti to st.it1 st.it2 p1.isList p2.isList ?_ fun h' eb=>⟨rfl,I.moved (t':=s.toks) hf fun b o hb e=>eb b o (fun q=>hb (by simp[q])) (fun q=>hb (by simp[q])) (fun q=>hb (by simp[q])) (fun q=>hb (by simp[q])) e⟩
  rcases hx with hx | hx
  ·exact .inl (by simp;omega)
  ·exact .inr (by simp;omega)
 self:=fun _ _ _ _ _ st h=>wpAny_pyIter_zip st.hz h
theorem b_zip:bootBuiltins "zip" = some (.type "zip"):=by decide +kernel
def iZip(K:PySem.W.Frag)(ta:TA):TI:=fun σ H R=>ta σ H fun vs H1=>∃a b,vs=[.ref a,.ref b]∧(∃xs,SqL K H1 a xs)∧(∃ys,SqL K H1 b ys)∧R (Itz K a b) H1
section
variable{X:Cx}
theorem pi_zip{a b:Expr}{ta:TA}{p pos tp:Pos}{elts:List Expr}{k1:Nat}(hg:Gl X "zip")(hm:X.mg "zip" = none)(ha:PA X [a,b] ta)(hs:starEach [a,b] X.env=[(false,eval a X.env),(false,eval b X.env)]:=by rfl)(hs2:starEach [b] X.env=[(false,eval b X.env)]:=by rfl) :
  PI X (.Tuple elts k1 tp) (.Call (.Name "zip" p) [a,b] [] pos) (iZip X.K ta):=by
 intro pins s σ H R I h;refine Call_ (qcF I hg hm b_zip (PyProof.Rows.callWith_type1 (thn (ha pos pins s σ H _ I h) fun us s1 ⟨vs,H1,I1,r1,q1⟩=>?_) (by rw[hs,hs2]) (by rw[hs2];rfl)));obtain⟨l1,l2,e,⟨xs,hq1⟩,⟨ys,hq2⟩,q⟩:=q1;subst e;cases r1 with
 | cons r rr =>
   cases rr with
   | cons r' rr' =>
     cases rr'
     cases r
     cases r'
     obtain⟨its1,rv1,p1,hz1⟩:=I1.list hq1
     obtain⟨its2,rv2,p2,hz2⟩:=I1.list hq2
     refine call_zip_2 p1.isList p2.isList fun h' hz hTI hTO it1 it2 hsz hk=>?_
     have I2:Inv X pins σ H1 {s1 with heap:=h'}:=I1.kept (t':=s1.toks) hk
     refine wpAny_pyIter_zip hz ⟨s1.heap.objs.size+4,[s1.heap.objs.size+4,s1.heap.objs.size+2,s1.heap.objs.size+3,s1.heap.objs.size,s1.heap.objs.size+1],_,_,H1,rfl,I2,
       turn_zip l1 l2 (s1.heap.objs.size+4) (s1.heap.objs.size+2) (s1.heap.objs.size+3) s1.heap.objs.size (s1.heap.objs.size+1) (show(s1.heap.objs.size+2:Nat)≠s1.heap.objs.size+4 by omega) (show(s1.heap.objs.size+3:Nat)≠s1.heap.objs.size+4 by omega) (show(s1.heap.objs.size  : Nat)≠s1.heap.objs.size+4 by omega) (show(s1.heap.objs.size+1:Nat)≠s1.heap.objs.size+4 by omega) (show(s1.heap.objs.size+2:Nat)≠s1.heap.objs.size+3 by omega) (show(s1.heap.objs.size+2:Nat)≠s1.heap.objs.size  by omega) (show(s1.heap.objs.size+2:Nat)≠s1.heap.objs.size+1 by omega) (show(s1.heap.objs.size+3:Nat)≠s1.heap.objs.size  by omega) (show(s1.heap.objs.size+3:Nat)≠s1.heap.objs.size+1 by omega) (show(s1.heap.objs.size  : Nat)≠s1.heap.objs.size+1 by omega),⟨hz,hTI,⟨_,_,hTO⟩,it1,it2⟩,fun b hb=>?_,q⟩
     have hb':s1.heap.objs.size≤b:=by
       rcases List.mem_cons.mp hb with rfl | hb
       · exact Nat.le_add_right _ _
       rcases List.mem_cons.mp hb with rfl | hb
       · exact Nat.le_add_right _ _
       rcases List.mem_cons.mp hb with rfl | hb
       · exact Nat.le_add_right _ _
       rcases List.mem_cons.mp hb with rfl | hb
       · exact Nat.le_refl _
       · have:b=s1.heap.objs.size+1:=by simpa using hb
         rw[this];exact Nat.le_add_right _ _
     exact I1.fpOk hb' (I1.hok.fresh hb')
end
end L2
namespace L2
open PySem PySem.Spec PyProof.Rows
theorem qcV(ns:List Int):∀j,preSum (fun i=>ns.getD i 0) j=(ns.take j).sum
 | 0=>by simp[preSum]
 | j + 1 => by
   rw[preSum,qcV ns j,List.take_succ,List.sum_append,List.getD_eq_getElem?_getD]
   cases ns[j]?<;>simp
def rMax(K:PySem.W.Frag):List V→Hp→VK→Prop:=fun xs H Q=>∃(p:Addr) (ns:List Int) (m:Int),xs=[.ref p]∧SqL K H p (ns.map V.int)∧m∈ns∧(∀x∈ns,x≤m)∧Q (.int m) H
theorem qec{ns:List Int}{its:List Value}(rv:Vals (ns.map V.int) its):∀(i:Nat) (v:Value),its.toArray[i]?=some v→∃t,v=.int (ns.getD i 0) t:=fun i v e=>by
 have e':its[i]?=some v:=by simpa using e
 cases z:ns[i]? with
 | none =>
   have h1:=rv.length
   rw[List.length_map]at h1
   have h2:=(List.getElem?_eq_some_iff.mp e').1
   have h3:=List.getElem?_eq_none_iff.mp z
   omega
 | some n =>
   obtain⟨u,e2,r2⟩:=rv.get (i:=i) (x:=.int n) (by rw[List.getElem?_map,z];rfl)
   rw[e']at e2
   cases e2
   obtain⟨t,r3⟩:=r2
   rw[List.getD_eq_getElem?_getD,z]
   exact⟨t,r3⟩
section
variable{X:Cx}
theorem qeq(K:PySem.W.Frag)(hK:X.K=K):SlR X (rSlL K):=by
 subst hK;exact sl_list
theorem best_is{ns:List Int}{m:Int}{n:Nat}(hn:n=ns.length)(hm:m∈ns)(le:∀x∈ns,x≤m):ns.getD (argBest (fun i j=>decide (ns.getD i 0>ns.getD j 0)) (n-1)) 0=m:=by
 obtain⟨h1,h2⟩:=argBest_gt (fun i=>ns.getD i 0) (n-1);obtain⟨j,hj,e⟩:=List.mem_iff_getElem.mp hm;have h3:=h2 j (by omega);have e1:ns.getD j 0=m:=by rw[List.getD_eq_getElem?_getD,List.getElem?_eq_getElem hj,e];rfl
 have h4:argBest (fun i j=>decide (ns.getD i 0>ns.getD j 0)) (n-1)<ns.length:=by omega
 have h5:=le _ (List.getElem_mem h4);have e2:ns.getD (argBest (fun i j=>decide (ns.getD i 0>ns.getD j 0)) (n-1)) 0=ns[argBest (fun i j=>decide (ns.getD i 0>ns.getD j 0)) (n-1)]:=by
  rw[List.getD_eq_getElem?_getD,List.getElem?_eq_getElem h4];rfl
 rw[e2]at h3⊢;rw[e1]at h3;omega
theorem call_maxL(hc:X.calm=true):qcd X (.builtin "max") (rMax X.K):=by
 intro pins s σ H xs us Q I r h;obtain⟨p,ns,m,rfl,hp,hm,le,q⟩:=h;obtain⟨u,rfl,rx⟩:=qdo r;cases rx;obtain⟨its,rv,pl,hz⟩:=I.list hp;have hh:=I.ok.hd hc;have lp:p<s.heap.objs.size:=by
  obtain⟨o,e,_⟩:=pl.isList;exact Heap.lt_size e
 have hn:its.toArray.size=ns.length:=by rw[List.size_toArray,←rv.length,List.length_map]
 have h0:0<its.toArray.size:=by rw[hn];exact List.length_pos_of_mem hm
 refine call_max_walk (wpAny_pyIter_list pl.isList ?_);refine⟨s.heap.objs.size,_,_,_,_,_,_,rfl,Walks.list (by simpa using hh) s.heap.objs.size p (Nat.ne_of_lt lp) its.toArray,⟨⟨_,Heap.get?_push_size _ rfl,rfl,rfl⟩,pl.isList.push _⟩,fun b hb'=>?_,h0,CmpOf.ints_gt (fun i=>ns.getD i 0) (qec rv),fun v h' tk hP k=>?_⟩
 ·rw[Heap.size_push];rcases List.mem_cons.mp hb' with rfl | hb'
  ·exact Nat.lt_succ_self _
  ·rcases List.mem_cons.mp hb' with rfl | hb'
   ·exact Nat.lt_succ_of_lt lp
   ·cases hb'
 ·obtain⟨t,rfl⟩:=qec rv _ _ hP;rw[best_is hn hm le];exact⟨.int m,H,I.kept fun b o e=>k b o (by simpa using Nat.ne_of_lt (Heap.lt_size e)) (Heap.get?_push_of_some _ e),⟨t,rfl⟩,q⟩
end
theorem comp_zip{K:PySem.W.Frag}{a b:Addr}{xs ys:List V}{own:Nat}{ix:List Nat}{g:TG}{tt:TT}{te:TE}{σ:St}{H:Hp}{Q:VK}(hlen:xs.length=ys.length)(Pv:Nat→List V→St→Hp→Prop)(hz:xs.length<sizeLine)(h0:Pv 0 [] (qbN own ix σ) H)(hl:∀i zs σ' H',i≤xs.length→Pv i zs σ' H'→SqL K H' a xs∧SqL K H' b ys∧zs.length≤i)(hs:∀i x y zs σ' H' T,xs[i]?=some x→ys[i]?=some y→H' T=none→Pv i zs σ' H'→g (.ref T) σ' (upd H' T (.tup [x,y])) fun σ2 H3=>tt σ2 H3 fun b H4=>if b=true then te σ2 H4 fun v H5=>Pv (i+1) (zs++[v]) σ2 H5 else Pv (i+1) zs σ2 H4)(hd:∀zs σ' H',Pv xs.length zs σ' H'→∀D,H' D=none→Q (.ref D) (upd H' D (.lst zs))):qb5 own ix g tt te (Itz K a b) σ H Q:=by
 refine⟨fun i m zs σ H=>m=xs.length-i∧i≤xs.length∧Pv i zs σ H,⟨xs.length,by simp,Nat.zero_le _,h0⟩,?_⟩;rintro i m zs σ H ⟨rfl,hi,p⟩;obtain⟨q1,q2,hy⟩:=hl i zs σ H hi p;refine⟨by omega,?_⟩
 by_cases hlt:i<xs.length
 ·refine .inr ⟨⟨xs,ys,xs[i],ys[i],q1,q2,by simp[hlt],by simp[←hlen,hlt]⟩,Pv (i+1),fun ws σ' H' p'=>⟨xs.length-(i+1),by omega,rfl,hlt,p'⟩,fun x H' y=>?_⟩;obtain⟨T,x1,y1,hT,e1,e2,y⟩:=y;subst e1 e2;obtain⟨z1,z2⟩:=y xs ys q1 q2;exact hs i x1 y1 zs σ _ T z1 z2 hT p
 ·have e:i=xs.length:=by omega
  subst e;exact .inl ⟨⟨xs,ys,q1,q2,.inl (Nat.le_refl _)⟩,hd zs σ H p⟩
end L2
namespace Gen
open PySem L2 Bk
structure BnX(mg:Str→Option Value):Prop extends Bn mg where
 any:mg "any" = none
 min:mg "min" = none
 max:mg "max" = none
 sum:mg "sum" = none
 zip:mg "zip" = none
def fourNames:List Str:=[Str.ofString "one",Str.ofString "two",Str.ofString "far",Str.ofString "nowhere"]
def fiveNames:List Str:=[Str.ofString "",Str.ofString "one",Str.ofString "two",Str.ofString "far",Str.ofString ""]
theorem four_name:∀x∈fourNames,Name x:=by
 intro x hx;simp only[fourNames,List.mem_cons,List.not_mem_nil,or_false]at hx;rcases hx with rfl | rfl | rfl | rfl<;>(unfold Name qeh;decide +kernel)
theorem five_name:∀x∈fiveNames,x=noName∨Name x:=by
 intro x hx;simp only[fiveNames,List.mem_cons,List.not_mem_nil,or_false]at hx;rcases hx with rfl | rfl | rfl | rfl | rfl
 ·exact .inl rfl
 ·right;unfold Name qeh;decide +kernel
 ·right;unfold Name qeh;decide +kernel
 ·right;unfold Name qeh;decide +kernel
 ·exact .inl rfl
def kindsL2:List Kd:=[.text,.shelf,.picture,.case,.grid,.text,.head,.aside]
theorem kinds_at2{r:Int}(h0:0≤r)(h1:r<8):∃k:Kd,atI (kindsL2.map fun k=>V.str k.s) r=some (.str k.s)∧(k=.text∨k=.picture∨k=.case∨k=.shelf∨k=.grid∨(6≤r∧(k=.head∨k=.aside))):=by
 rcases(by omega:r=0∨r=1∨r=2∨r=3∨r=4∨r=5∨r=6∨r=7)with rfl | rfl | rfl | rfl | rfl | rfl | rfl | rfl
 ·exact⟨.text,rfl,.inl rfl⟩
 ·exact⟨.shelf,rfl,.inr (.inr (.inr (.inl rfl)))⟩
 ·exact⟨.picture,rfl,.inr (.inl rfl)⟩
 ·exact⟨.case,rfl,.inr (.inr (.inl rfl))⟩
 ·exact⟨.grid,rfl,.inr (.inr (.inr (.inr (.inl rfl))))⟩
 ·exact⟨.text,rfl,.inl rfl⟩
 ·exact⟨.head,rfl,.inr (.inr (.inr (.inr (.inr ⟨by decide,.inl rfl⟩))))⟩
 ·exact⟨.aside,rfl,.inr (.inr (.inr (.inr (.inr ⟨by decide,.inr rfl⟩))))⟩
def spPieces2:Sp:=fun vs H Q _=>∃(st:Addr) (n:Nat),vs=[.ref st,.int n]∧StOk H st∧n≤2 ∧
 ∀(s:Addr) (its:List Th) (H':Hp),Pieces n its→StAt (qfX H) H' s its→StOk H' st→Keep1 st H H'→Q (.ref s) H'
def spAdd2:Sp:=fun vs H Q _=>∃(H0:Hp) (p st s:Addr) (e:Int) (k:Kd) (its:List Th) (ds:List Nd),vs=[.ref p,.int e,.str k.s,.ref s]∧Gs H0 st p H ds∧StAt (New H0 p) H s its∧ds.length≤200 ∧
 ∀(d:Nd) (H':Hp),d.e=e→d.k=k→d.st=its→qd5 d.mks→NmOk ds d.nm→Gs H0 st p H' (ds++[d])→qcm st p H H'→Q (.int ds.length) H'
def qbK(n:Nat):Sp:=fun vs H Q _=>∃(H0:Hp) (p st:Addr) (e lv:Nat) (de:Nd) (ds:List Nd),vs=[.ref p,.int e,.int lv,.ref st]∧Gs H0 st p H ds∧ds[e]?=some de∧Cont de.k∧1≤lv∧lv≤4∧5≤lv+n∧ds.length≤100 ∧
 qd7 ds∧Names ds∧∀(more:List Nd) (ks:List Kd) (H':Hp),More e lv ds more ks→ItemKs de.k ks→(12≤ds.length→more.length≤3)→(ds.length<12→ds.length+more.length≤cap 12 lv)→Gs H0 st p H' (ds++more)→qcm st p H H'→Q .non H'
theorem item2_none:∀vs H Q E,¬qbK 0 vs H Q E:=by
 rintro vs H Q E ⟨H0,p,st,e,lv,de,ds,rfl,_,_,_,h1,h2,h3,_⟩;omega
end Gen
namespace K22
open PySem L2 Bk Gen
def top(i:Nat):Stmt:=PySem.Challenge.pw_leafpress_k22_whole_spans_hold.main.body.getD i (.Pass ⟨0,0,0,0⟩)
abbrev sStream:Stmt:=top 48
abbrev sTake:Stmt:=top 49
abbrev sWord:Stmt:=top 51
abbrev sPieces:Stmt:=top 52
abbrev sAdd:Stmt:=top 53
abbrev sText:Stmt:=top 54
abbrev sItem:Stmt:=top 55
abbrev sBook:Stmt:=top 56
section
variable{P:Program}{w:World}{K:PySem.W.Frag}{mg:Str→Option Value}{base:Heap}
theorem scStream:FnScope ["_law_script", "_law_k"] ["_law_script", "_law_k"] (qag sStream):=⟨rfl,rfl,rfl,by decide +kernel,rfl,by decide +kernel,by decide +kernel⟩
theorem ok_stream{f:Addr}{fd:FuncData}(F:Fun K "_law_stream" "_law_stream" sStream f fd)(T:Bn mg):FnOk P w K mg base CX0 1 f fd ["_law_script", "_law_k"] (qen K):=by
 refine F.ok scStream (fun vs H Q E h=>?_) (fun cdv A outer s H vs Q E hr h=>?_)
 ·obtain⟨a,ns,k,rfl,_⟩:=h;rfl
 ·obtain⟨a,ns,k,rfl,hS,k0,k1,q⟩:=h;refine⟨_,(qab (qaM (qam op_lt (pv 1) (qal call_len_seq (by rfl) T.len b_len (qaa (pv 0) pa_nil)) (qaq _)) (qaf (qat (qaB (qaa (qaj ix_list (pv 0) (pv 1) (fun _ _=>rfl)) (qaa (qas op_add (qas op_add (qas op_mod (qaj ix_list (pv 0) (pv 1) (fun _ _=>rfl)) qae) (qas op_mul (pv 1) (pv 1))) qae) pa_nil))))) pss_nil)
   (qaf (qat (qaB (qaa (qas op_add (qas op_mul (qas op_mul (pv 1) (pv 1)) qae) qae) (qaa (qas op_add (pv 1) qae) pa_nil)))))),?_⟩
  have kk:0≤k*k∧k*k≤10000:=by
   have h1:=Int.mul_nonneg k0 k0;have h2:k*k≤100*100:=Int.mul_le_mul k1 k1 k0 (by decide);omega
  refine⟨_,rfl,_,rfl,a,_,rfl,.inl hS,_,_,rfl,rfl,_,rfl,?_⟩;refine ite2 (fun c=>?_) (fun c=>?_)
  ·have c':k<(((ns.map V.int).length:Nat):Int):=of_decide_eq_true c;rw[List.length_map]at c';obtain⟨v,hv⟩:=int_at (ns:=ns) k0 c';refine⟨_,rfl,_,rfl,a,_,_,_,rfl,rfl,hS,hv,?_⟩;refine⟨_,rfl,_,rfl,a,_,_,_,rfl,rfl,hS,hv,_,_,rfl,rfl,(by show(0:Int)<2147483629;decide),_,rfl,_,rfl,_,_,rfl,rfl,.inl ⟨by omega,by omega⟩,_,_,rfl,rfl,_,_,rfl,rfl,(by show 2≤sizeLine;decide),fun l hl=>?_⟩;have m1:=Int.emod_nonneg v (show(2147483629:Int)≠0 by decide);have m2:=Int.emod_lt_of_pos v (show(0:Int)<2147483629 by decide);exact q l _ hl ⟨v,_,qac,by omega,by omega⟩ (qad hl _)
  ·refine⟨_,rfl,_,rfl,_,_,rfl,rfl,.inl ⟨by omega,by omega⟩,_,_,rfl,rfl,.inl ⟨by omega,by omega⟩,_,_,rfl,rfl,_,rfl,_,_,rfl,rfl,(by show 2≤sizeLine;decide),fun l hl=>?_⟩;exact q l _ hl ⟨_,_,qac,by omega,by omega⟩ (qad hl _)
theorem scTake:FnScope ["_law_stream_here", "_law_most", "_law_digit"] ["_law_stream_here", "_law_most"] (qag sTake):=⟨rfl,rfl,rfl,by decide +kernel,rfl,by decide +kernel,by decide +kernel⟩
theorem ok_take{f:Addr}{fd:FuncData}(F:Fun K "_law_take" "_law_take" sTake f fd):FnOk P w K mg base CX0 1 f fd ["_law_stream_here", "_law_most"] spTake:=by
 refine F.ok scTake (fun vs H Q E h=>?_) (fun cdv A outer s H vs Q E hr h=>?_)
 ·obtain⟨st,m,rfl,_⟩:=h;rfl
 ·obtain⟨st,m,rfl,⟨x,y,hst,y0,y1⟩,m0,m1,q0⟩:=h;have q:∀r x' y':Int,0≤r→r<m→0≤y'→y'<4294967296→Q (.int r) (upd H st (.lst [.int x',.int y'])):=fun r x' y' r0 r1 z0 z1=>q0 r _ r0 r1 ⟨x',y',qac,z0,z1⟩ fun b o n e=>by rw[qap n];exact e
  refine⟨_,(qab (qaM (PW.pt (qdW (qam op_eq (qaj ix_list (pv 0) qae (fun _ _=>rfl)) qae (qaq _)) (qcZ (qam op_eq (qaj ix_list (pv 0) qae (fun _ _=>rfl)) (qe4 un_neg qae) (qaq _))))) (qab (qbF (qas op_mod (qas op_add (qas op_mul (qaj ix_list (pv 0) qae (fun _ _=>rfl)) qae) qae) qae) (qbP (pv 0) qae set_list))
   (qaf (qat (qas op_mod (qas op_mod (qas op_mul (qaj ix_list (pv 0) qae (fun _ _=>rfl)) (qaj ix_list (pv 0) qae (fun _ _=>rfl))) qae) (pv 1))))) pss_nil)
   (qab (qah (i:=2) scTake.nd (by rfl) (by trivial) (qas op_mod (qaj ix_list (pv 0) qae (fun _ _=>rfl)) (pv 1)))
   (qab (qbF (qas op_fdivL (qaj ix_list (pv 0) qae (fun _ _=>rfl)) (pv 1)) (qbP (pv 0) qae set_list))
   (qaf (qat (pv 2)))))),?_⟩
  have mm:∀v:Int,0≤v % m∧v % m<m:=fun v=>⟨Int.emod_nonneg v (by omega),Int.emod_lt_of_pos v m0⟩
  have empty:∀Q':VK,Q'=Q→tSeq (tAsg (tOp (rI (fun _ j=>0<j) fun i j=>.int (i % j)) (tOp (rI0 fun i j=>.int (i+j)) (tOp (rI CMul fun i j=>.int (i*j)) (tOp (rIxL K) (tVar 0) (tC (.int 1))) (tC (.int 48271))) (tC (.int 12345))) (tC (.int 2147483647))) (gSub (tVar 0) (tC (.int 1)) rSetL))
    (tRet (tOp (rI (fun _ j=>0<j) fun i j=>.int (i % j)) (tOp (rI (fun _ j=>0<j) fun i j=>.int (i % j)) (tOp (rI CMul fun i j=>.int (i*j)) (tOp (rIxL K) (tVar 0) (tC (.int 1))) (tOp (rIxL K) (tVar 0) (tC (.int 1)))) (tC (.int 2147483629))) (tVar 1)))
    {nx:=fun _ _=>False,rt:=Q'} [some (.ref st),some (.int m),none] H:=by
   rintro Q' rfl;refine⟨_,rfl,st,_,_,_,rfl,rfl,SqL.of hst,rfl,_,_,rfl,rfl,.inl ⟨by omega,by omega⟩,_,_,rfl,rfl,_,_,rfl,rfl,(by show(0:Int)<2147483647;decide),_,rfl,st,_,1,1,rfl,rfl,hst,rfl,?_⟩;have z0:=Int.emod_nonneg (y*48271+12345) (show(2147483647:Int)≠0 by decide);have z1:=Int.emod_lt_of_pos (y*48271+12345) (show(0:Int)<2147483647 by decide);have hst':upd H st (.lst [.int x,.int ((y*48271+12345) % 2147483647)]) st=some (.lst [.int x,.int ((y*48271+12345) % 2147483647)]):=qac;refine⟨_,rfl,st,_,_,_,rfl,rfl,SqL.of hst',rfl,_,rfl,st,_,_,_,rfl,rfl,SqL.of hst',rfl,_,_,rfl,rfl,.inl (show -(2 ^ 64)<(y*48271+12345) % 2147483647∧(y*48271+12345) % 2147483647<2 ^ 64 from⟨by omega,by omega⟩),_,_,rfl,rfl,(by show(0:Int)<2147483629;decide),_,rfl,_,_,rfl,rfl,m0,?_⟩;exact q _ x _ (mm _).1 (mm _).2 z0 (by omega)
  refine⟨_,rfl,st,_,_,_,rfl,rfl,SqL.of hst,rfl,rfl,_,rfl,?_⟩
  by_cases x0:x=0
  ·rw[decide_eq_true (show V.int x=V.int 0 by rw[x0])];refine iteT (iteT ?_);exact empty _ rfl
  ·rw[decide_eq_false (show¬V.int x=V.int 0 from fun z=>x0 (V.int.inj z))];refine iteF ⟨_,rfl,st,_,_,_,rfl,rfl,SqL.of hst,rfl,_,rfl,rfl,_,rfl,?_⟩
   by_cases x1:x=-1
   ·rw[decide_eq_true (show V.int x=V.int (-1) by rw[x1])];refine iteT ?_;exact empty _ rfl
   ·rw[decide_eq_false (show¬V.int x=V.int (-1)from fun z=>x1 (V.int.inj z))];refine iteF ?_;refine⟨_,rfl,st,_,_,_,rfl,rfl,SqL.of hst,rfl,_,rfl,_,_,rfl,rfl,m0,?_⟩;refine⟨_,rfl,st,_,_,_,rfl,rfl,SqL.of hst,rfl,_,rfl,_,_,rfl,rfl,⟨m0,by omega⟩,_,rfl,st,_,0,0,rfl,rfl,hst,rfl,?_⟩;refine⟨_,rfl,?_⟩;exact q _ (x / m) y (mm x).1 (mm x).2 y0 y1
theorem scWord:FnScope ["_law_stream_here", "_law_most", "_law_signs", "_law_word_here", "_law_k"] ["_law_stream_here", "_law_most"] (qag sWord):=⟨rfl,rfl,rfl,by decide +kernel,rfl,by decide +kernel,by decide +kernel⟩
theorem ok_word{f:Addr}{fd:FuncData}(F:Fun K "_law_word" "_law_word" sWord f fd)(T:Bn mg)(F_take:Fx P w K mg base CX0 1 "_law_take" ["_law_stream_here", "_law_most"] spTake):FnOk P w K mg base CX0 2 f fd ["_law_stream_here", "_law_most"] spWord:=by
 refine F.ok scWord (fun vs H Q E h=>?_) (fun cdv A outer s H vs Q E hr h=>?_)
 ·obtain⟨st,m,rfl,_⟩:=h;rfl
 ·obtain⟨st,m,rfl,S,m1,m2,q⟩:=h;have hr_take:=hr;refine⟨_,(qab (qah (i:=2) scWord.nd (by rfl) (by trivial) qau)
   (qab (qah (i:=3) scWord.nd (by rfl) (by trivial) qau)
   (qab (qaR PassesOwn.never (by rfl) (qaH (by rfl) T.range (qaa (qas op_add qae (qan F_take hr_take (by rfl) qao (qaa (pv 0) (qaa (pv 1) pa_nil)))) pa_nil)) (qai (i:=4) scWord.nd (by rfl) (by trivial))
   (qaf (qah (i:=3) scWord.nd (by rfl) (by trivial) (qas op_add_str (pv 3) (qaj ix_str (pv 2) (qan F_take hr_take (by rfl) qao (qaa (pv 0) (qaa qae pa_nil))) (fun _ _=>rfl))))))
   (qaf (qat (pv 3)))))),?_⟩
  refine⟨_,rfl,_,rfl,st,m,rfl,S,by omega,by omega,fun r H1 r0 r1 S1 K1=>⟨_,_,rfl,rfl,_,rfl,by omega,by omega,qaN (fun i σ H2=>∃(x:Str) (v:Option V),σ=[some (.ref st),some (.int m),some (.str signs),some (.str x),v]∧x.length=i∧(∀c∈x.cps.toList,c∈wordSigns)∧StOk H2 st∧Keep1 st H H2)
   ⟨noName,none,rfl,rfl,(fun c hc=>by rw[noName_nil]at hc;cases hc),S1,K1⟩ ?_ ?_⟩⟩
  ·rintro i σ H2 hi ⟨x,v,rfl,lx,cx,S2,K2⟩;refine⟨_,rfl,_,rfl,_,rfl,st,72,rfl,S2,by decide,by decide,fun r2 H3 r20 r21 S3 K3=>?_⟩;obtain⟨c,ec,ic⟩:=signs_at r20 r21;refine⟨_,_,_,rfl,rfl,signs_le,ec,_,_,rfl,rfl,?_,?_⟩
   ·show x.length+1≤sizeLine;exact Nat.le_of_lt (qak (by omega))
   exact⟨x++sg c,_,rfl,by rw[qeX,lx];rfl,mem_app cx ic,S3,K2.trans K3⟩
  ·rintro σ H2 ⟨x,v,rfl,lx,cx,S2,K2⟩;refine⟨_,rfl,?_⟩;exact q x H2 ⟨by omega,by omega,cx⟩ (by omega) S2 K2
end
end K22
namespace K22
open PySem L2 Bk Gen
section
variable{P:Program}{w:World}{K:PySem.W.Frag}{mg:Str→Option Value}{base:Heap}
theorem scPieces:FnScope ["_law_stream_here", "_law_notes", "_law_pieces_here", "_law_done", "_law_k"] ["_law_stream_here", "_law_notes"] (qag sPieces):=⟨rfl,rfl,rfl,by decide +kernel,rfl,by decide +kernel,by decide +kernel⟩
theorem ok_pieces{f:Addr}{fd:FuncData}(F:Fun K "_law_pieces" "_law_pieces" sPieces f fd)(T:Bn mg)(F_take:Fx P w K mg base CX0 1 "_law_take" ["_law_stream_here", "_law_most"] spTake)(F_word:Fx P w K mg base CX0 2 "_law_word" ["_law_stream_here", "_law_most"] spWord):FnOk P w K mg base CX0 3 f fd ["_law_stream_here", "_law_notes"] spPieces2:=by
 refine F.ok scPieces (fun vs H Q E h=>?_) (fun cdv A outer s H vs Q E hr h=>?_)
 ·obtain⟨st,n,rfl,_⟩:=h;rfl
 ·obtain⟨st,n,rfl,S,n2,q⟩:=h;have hr_take:Room 1 _:=hr.mono (by decide);have hr_word:=hr;have hu:=hr.units;refine⟨_,(qab (qah (i:=2) scPieces.nd (by rfl) (by trivial) (qaB pa_nil))
   (qab (qah (i:=3) scPieces.nd (by rfl) (by trivial) qae)
   (qab (qaR PassesOwn.never (by rfl) (qaH (by rfl) T.range (qaa (qas op_add qae (qan F_take hr_take (by rfl) qao (qaa (pv 0) (qaa qae pa_nil)))) pa_nil)) (qai (i:=4) scPieces.nd (by rfl) (by trivial))
   (qab (qaM (qam op_eq (qan F_take hr_take (by rfl) qao (qaa (pv 0) (qaa qae pa_nil))) qae (qaq _)) (qaf (qaP (qb6 PySem.F.plainAttrs_list PySem.F.slot_list_append PySem.F.type_list_append mt_append (pv 2) (qaa (qaO (qaa qau (qaa (qaj ix_list (qaB (qaa qau (qaa qau (qaa qau (qaa qau pa_nil))))) (qan F_take hr_take (by rfl) qao (qaa (pv 0) (qaa qae pa_nil))) (fun _ _=>rfl)) (qaa (qan F_take hr_take (by rfl) qao (qaa (pv 0) (qaa qae pa_nil))) pa_nil)))) pa_nil)))) (qaf (qaP (qb6 PySem.F.plainAttrs_list PySem.F.slot_list_append PySem.F.type_list_append mt_append (pv 2) (qaa (qaO (qaa qau (qaa (qan F_word hr_word (by rfl) qao (qaa (pv 0) (qaa qae pa_nil))) (qaa (qan F_take hr_take (by rfl) qao (qaa (pv 0) (qaa qae pa_nil))) pa_nil)))) pa_nil)))))
   (qaf (qaM (PW.pt (qbT (qam op_lt (pv 3) (pv 1) (qaq _)) (qbB (qam op_eq (qan F_take hr_take (by rfl) qao (qaa (pv 0) (qaa qae pa_nil))) qae (qaq _))))) (qab (qaP (qb6 PySem.F.plainAttrs_list PySem.F.slot_list_append PySem.F.type_list_append mt_append (pv 2) (qaa (qaO (qaa qau (qaa (pv 3) (qaa qae pa_nil)))) pa_nil)))
   (qaf (qah (i:=3) scPieces.nd (by rfl) (by trivial) (qas op_add (pv 3) qae)))) pss_nil))))
   (qaf (qat (qas op_cat (pv 2) (qaI (own:=["_law_k"]) (by rfl) (CompScope.plain (by rfl) (by decide +kernel) (by decide +kernel) (by decide +kernel)) (qbQ (by rfl) T.range (qaa (pv 3) (qaa (pv 1) pa_nil))) (fun cl C s2 H2 fp=>(qai (i:=0) (by show(["_law_k"]:List Str).Nodup;decide +kernel) (by rfl) (by trivial) (by trivial))) (fun cl C s2 H2 fp=>qaG) (fun cl C s2 H2 fp=>(qaO (qaa qau (qaa (pv 0) (qaa qae pa_nil)))))))))))),?_⟩
  refine⟨by show 0≤sizeLine;decide,fun l hl=>?_⟩;have lst:l≠st:=qaw S.some hl;have s0:=qad hl (.lst []);refine⟨_,rfl,st,7,rfl,S.same s0,by decide,by decide,fun r H1 r0 r1 S1 K1=>⟨_,_,rfl,rfl,_,rfl,by omega,by omega,qaN (fun i σ H2=>∃(dn:Nat) (v:Option V) (vs:List V) (its:List Th),σ=[some (.ref st),some (.int n),some (.ref l),some (.int dn),v]∧dn≤n∧H2 l=some (.lst vs)∧Paired (ItAt (fun b=>H b=none∧b≠l) H2) vs its∧(∀x∈its,PcOk x) ∧
   (i=0→its=[])∧(0<i→∃x r,its=x::r∧isNote x=false)∧qaY its=nums dn∧its.length≤i+dn∧StOk H2 st∧Keep1 st H H2)
   ⟨0,none,[],[],rfl,Nat.zero_le _,K1 _ _ lst qac,.nil,(fun x hx=>nomatch hx),(fun _=>rfl),(fun z=>absurd z (Nat.lt_irrefl 0)),rfl,Nat.zero_le _,S1,s0.keep.trans K1⟩ ?_ ?_⟩⟩
  ·rintro i σ H2 hi ⟨dn,v,vs,its,rfl,hdn,hl2,pr,ok,h0,h1,nn,le,S2,K2⟩;have lenv:vs.length=its.length:=pr.length;refine⟨_,rfl,st,4,rfl,S2,by decide,by decide,fun r3 H3 r30 r31 S3 K23=>⟨rfl,_,rfl,?_⟩⟩;have hl3:=K23 _ _ lst hl2;refine ite2 (fun _=>?_) (fun _=>?_)
   ·-- a name
    refine⟨_,rfl,.inl ⟨rfl,_,SqL.of hl3⟩,by show 4≤sizeLine;decide,fun t0 ht0=>?_⟩;have s30:=qad ht0 (.lst (fourNames.map V.str));have t0st:t0≠st:=qaw S3.some ht0;have ht00:upd H3 t0 (.lst (fourNames.map V.str)) t0=some (.lst (fourNames.map V.str)):=qac;refine⟨_,rfl,st,4,rfl,S3.same s30,by decide,by decide,fun r4 H4 r40 r41 S4 K40=>?_⟩;have K4:Keep1 st H3 H4:=s30.keep.trans K40;obtain⟨y,ey,my⟩:=qfc (nms:=fourNames) r40 r41;refine⟨t0,_,_,_,rfl,rfl,SqL.of (K40 _ _ t0st ht00),ey,_,rfl,st,4,rfl,S4,by decide,by decide,fun r5 H5 r50 r51 S5 K5=>⟨by show 3≤sizeLine;decide,fun t ht=>?_⟩⟩;have s5:=qad ht (.tup [.str (Str.ofString "page"),.str y,.int r5]);have K25:Keep1 st H2 _:=((K23.trans K4).trans K5).trans s5.keep;have hl5:=K25 _ _ lst hl2;refine⟨l,_,_,rfl,rfl,hl5,qak (by omega),?_⟩;have it5:ItAt (fun b=>H b=none∧b≠l) (upd H5 t (.tup [.str (Str.ofString "page"),.str y,.int r5])) (.ref t) (.tri .page (.inl y) r5):=⟨t,rfl,⟨(K2.trans ((K23.trans K4).trans K5)).back (qaw S5.some ht) ht,qaw ⟨_,((K23.trans K4).trans K5) _ _ lst hl2⟩ ht⟩,qac⟩;have S6:=S5.same s5;have pk:PcOk (.tri .page (.inl y) r5):=⟨four_name y my,by omega,by omega⟩;have nt:isNote (.tri .page (.inl y) r5)=false:=rfl;have nu:noteNum (.tri .page (.inl y) r5)=none:=rfl;generalize (Th.tri .page (.inl y) r5)=x0 at it5 pk nt nu;generalize upd H5 t (.tup [.str (Str.ofString "page"),.str y,.int r5])=H6 at K25 hl5 it5 S6⊢;have k6:KeepN (fun b=>H b=none∧b≠l) H2 (upd H6 l (.lst (vs++[.ref t]))):=fun b o nb e=>by
     rw[qap nb.2];exact K25 _ _ (fun z=>by obtain⟨o',e'⟩:=S.some;rw[z,e']at nb;cases nb.1) e
    have it6:ItAt (fun b=>H b=none∧b≠l) (upd H6 l (.lst (vs++[.ref t]))) (.ref t) x0:=it5.keep (fun b o nb e=>by rw[qap nb.2];exact e) fun _ n _=>n
    have pr6:=(pr.mono fun v x q=>q.keep k6 fun _ n _=>n).snoc it6;have S7:StOk (upd H6 l (.lst (vs++[.ref t]))) st:=by
     obtain⟨x,y,e,z⟩:=S6;exact⟨x,y,by rw[qap (Ne.symm lst)];exact e,z⟩
    have K7:Keep1 st H (upd H6 l (.lst (vs++[.ref t]))):=fun b o nb e=>by
     rw[qap (qar e hl)];exact K25 _ _ nb (K2 _ _ nb e)
    have hl7:upd H6 l (.lst (vs++[.ref t])) l=some (.lst (vs++[.ref t])):=qac;have ok7:∀x∈its++[x0],PcOk x:=fun x hx=>by
     rcases List.mem_append.mp hx with hx | hx
     ·exact ok x hx
     ·have:x=x0:=by simpa using hx
      rw[this];exact pk
    have nn7:qaY (its++[x0])=nums dn:=by
     rw[qbZ,nn];simp[qaY,nu]
    have h17:∃x r,its++[x0]=x::r∧isNote x=false:=by
     cases its with
     | nil=>exact⟨x0,[],rfl,nt⟩
     | cons a b =>
       obtain⟨x,r,ex,nx⟩:=h1 (by
         rcases Nat.eq_zero_or_pos i with z | z
         · exact absurd (h0 z) (by simp)
         · exact z)
       cases ex
       exact⟨a,b++[x0],rfl,nx⟩
    generalize upd H6 l (.lst (vs++[.ref t]))=H7 at it6 pr6 S7 K7 hl7 k6⊢;refine⟨_,rfl,_,rfl,_,_,rfl,rfl,_,rfl,?_⟩;refine ite2 (fun cdn=>?_) (fun _=>?_)
    case' _ =>
     have cdn':dn<n:=by
      have:=of_decide_eq_true cdn;omega
     refine⟨_,rfl,st,2,rfl,S7,by decide,by decide,fun r8 H8 r80 r81 S8 K8=>⟨rfl,_,rfl,?_⟩⟩;have hl8:=K8 _ _ lst hl7;have pr8:=pr6.mono fun v x q=>q.keep (K8.mono (N':=fun b=>H b=none∧b≠l) fun b nb z=>by obtain⟨o',e'⟩:=S.some;rw[z,e']at nb;cases nb.1) fun _ n _=>n
     refine ite2 (fun _=>?_) (fun _=>?_)
     case' _ =>
      refine⟨_,rfl,.inl ⟨rfl,_,SqL.of hl8⟩,_,rfl,by show 3≤sizeLine;decide,fun t9 ht9=>?_⟩;have s9:=qad ht9 (.tup [.str (Str.ofString "note"),.int (dn:Int),.int 0]);refine⟨l,_,_,rfl,rfl,s9 _ _ hl8,qak (by rw[List.length_append,lenv];simp;omega),_,rfl,_,_,rfl,rfl,?_⟩;have t9l:t9≠l:=qaw ⟨_,hl8⟩ ht9;have it9:ItAt (fun b=>H b=none∧b≠l) (upd (upd H8 t9 (.tup [.str (Str.ofString "note"),.int (dn:Int),.int 0])) l (.lst (vs++[.ref t]++[.ref t9]))) (.ref t9) (.tri .note (.inr dn) 0):=⟨t9,rfl,⟨(K7.trans K8).back (qaw S8.some ht9) ht9,t9l⟩,by rw[qap t9l];exact qac⟩;refine⟨dn+1,_,_,its++[x0]++[.tri .note (.inr dn) 0],rfl,cdn',qac,(pr8.mono fun v x q=>q.keep (fun b o nb e=>by rw[qap nb.2];exact s9 _ _ e) fun _ n _=>n).snoc it9,?_,(fun z=>absurd z (Nat.succ_ne_zero _)),?_,?_,?_,?_,?_⟩
      ·intro x hx;rcases List.mem_append.mp hx with hx | hx
       ·exact ok7 x hx
       ·have:x=.tri .note (.inr dn) 0:=by simpa using hx
        rw[this];exact⟨by omega,by omega,rfl⟩
      ·intro _;obtain⟨x,r,e,nx⟩:=h17;rw[e];exact⟨x,_,rfl,nx⟩
      ·rw[qbZ,nn7,qcR];rfl
      ·rw[List.length_append,List.length_append];simp;omega
      ·obtain⟨x,y,e,z⟩:=S8.same s9;exact⟨x,y,by rw[qap (Ne.symm lst)];exact e,z⟩
      ·intro b o nb e;rw[qap (qar e hl)];exact s9 _ _ (K8 _ _ nb (K7 _ _ nb e))
     ·exact⟨dn,_,_,its++[x0],rfl,hdn,hl8,pr8,ok7,(fun z=>absurd z (Nat.succ_ne_zero _)),(fun _=>h17),nn7,by rw[List.length_append];simp;omega,S8,K7.trans K8⟩
    ·exact⟨dn,_,_,its++[x0],rfl,hdn,hl7,pr6,ok7,(fun z=>absurd z (Nat.succ_ne_zero _)),(fun _=>h17),nn7,by rw[List.length_append];simp;omega,S7,K7⟩
   ·refine⟨_,rfl,.inl ⟨rfl,_,SqL.of hl3⟩,_,rfl,st,20,rfl,S3,by decide,by decide,fun y H4 wy _ S4 K4=>?_⟩;refine⟨_,rfl,st,4,rfl,S4,by decide,by decide,fun r5 H5 r50 r51 S5 K5=>⟨by show 3≤sizeLine;decide,fun t ht=>?_⟩⟩;have s5:=qad ht (.tup [.str (Str.ofString "word"),.str y,.int r5]);have K25:Keep1 st H2 _:=((K23.trans K4).trans K5).trans s5.keep;have hl5:=K25 _ _ lst hl2;refine⟨l,_,_,rfl,rfl,hl5,qak (by omega),?_⟩;have it5:ItAt (fun b=>H b=none∧b≠l) (upd H5 t (.tup [.str (Str.ofString "word"),.str y,.int r5])) (.ref t) (.tri .word (.inl y) r5):=⟨t,rfl,⟨(K2.trans ((K23.trans K4).trans K5)).back (qaw S5.some ht) ht,qaw ⟨_,((K23.trans K4).trans K5) _ _ lst hl2⟩ ht⟩,qac⟩;have S6:=S5.same s5;have pk:PcOk (.tri .word (.inl y) r5):=⟨wy,by omega,by omega⟩;have nt:isNote (.tri .word (.inl y) r5)=false:=rfl;have nu:noteNum (.tri .word (.inl y) r5)=none:=rfl;generalize (Th.tri .word (.inl y) r5)=x0 at it5 pk nt nu;generalize upd H5 t (.tup [.str (Str.ofString "word"),.str y,.int r5])=H6 at K25 hl5 it5 S6⊢;have k6:KeepN (fun b=>H b=none∧b≠l) H2 (upd H6 l (.lst (vs++[.ref t]))):=fun b o nb e=>by
     rw[qap nb.2];exact K25 _ _ (fun z=>by obtain⟨o',e'⟩:=S.some;rw[z,e']at nb;cases nb.1) e
    have it6:ItAt (fun b=>H b=none∧b≠l) (upd H6 l (.lst (vs++[.ref t]))) (.ref t) x0:=it5.keep (fun b o nb e=>by rw[qap nb.2];exact e) fun _ n _=>n
    have pr6:=(pr.mono fun v x q=>q.keep k6 fun _ n _=>n).snoc it6;have S7:StOk (upd H6 l (.lst (vs++[.ref t]))) st:=by
     obtain⟨x,y,e,z⟩:=S6;exact⟨x,y,by rw[qap (Ne.symm lst)];exact e,z⟩
    have K7:Keep1 st H (upd H6 l (.lst (vs++[.ref t]))):=fun b o nb e=>by
     rw[qap (qar e hl)];exact K25 _ _ nb (K2 _ _ nb e)
    have hl7:upd H6 l (.lst (vs++[.ref t])) l=some (.lst (vs++[.ref t])):=qac;have ok7:∀x∈its++[x0],PcOk x:=fun x hx=>by
     rcases List.mem_append.mp hx with hx | hx
     ·exact ok x hx
     ·have:x=x0:=by simpa using hx
      rw[this];exact pk
    have nn7:qaY (its++[x0])=nums dn:=by
     rw[qbZ,nn];simp[qaY,nu]
    have h17:∃x r,its++[x0]=x::r∧isNote x=false:=by
     cases its with
     | nil=>exact⟨x0,[],rfl,nt⟩
     | cons a b =>
       obtain⟨x,r,ex,nx⟩:=h1 (by
         rcases Nat.eq_zero_or_pos i with z | z
         · exact absurd (h0 z) (by simp)
         · exact z)
       cases ex
       exact⟨a,b++[x0],rfl,nx⟩
    generalize upd H6 l (.lst (vs++[.ref t]))=H7 at it6 pr6 S7 K7 hl7 k6⊢;refine⟨_,rfl,_,rfl,_,_,rfl,rfl,_,rfl,?_⟩;refine ite2 (fun cdn=>?_) (fun _=>?_)
    case' _ =>
     have cdn':dn<n:=by
      have:=of_decide_eq_true cdn;omega
     refine⟨_,rfl,st,2,rfl,S7,by decide,by decide,fun r8 H8 r80 r81 S8 K8=>⟨rfl,_,rfl,?_⟩⟩;have hl8:=K8 _ _ lst hl7;have pr8:=pr6.mono fun v x q=>q.keep (K8.mono (N':=fun b=>H b=none∧b≠l) fun b nb z=>by obtain⟨o',e'⟩:=S.some;rw[z,e']at nb;cases nb.1) fun _ n _=>n
     refine ite2 (fun _=>?_) (fun _=>?_)
     case' _ =>
      refine⟨_,rfl,.inl ⟨rfl,_,SqL.of hl8⟩,_,rfl,by show 3≤sizeLine;decide,fun t9 ht9=>?_⟩;have s9:=qad ht9 (.tup [.str (Str.ofString "note"),.int (dn:Int),.int 0]);refine⟨l,_,_,rfl,rfl,s9 _ _ hl8,qak (by rw[List.length_append,lenv];simp;omega),_,rfl,_,_,rfl,rfl,?_⟩;have t9l:t9≠l:=qaw ⟨_,hl8⟩ ht9;have it9:ItAt (fun b=>H b=none∧b≠l) (upd (upd H8 t9 (.tup [.str (Str.ofString "note"),.int (dn:Int),.int 0])) l (.lst (vs++[.ref t]++[.ref t9]))) (.ref t9) (.tri .note (.inr dn) 0):=⟨t9,rfl,⟨(K7.trans K8).back (qaw S8.some ht9) ht9,t9l⟩,by rw[qap t9l];exact qac⟩;refine⟨dn+1,_,_,its++[x0]++[.tri .note (.inr dn) 0],rfl,cdn',qac,(pr8.mono fun v x q=>q.keep (fun b o nb e=>by rw[qap nb.2];exact s9 _ _ e) fun _ n _=>n).snoc it9,?_,(fun z=>absurd z (Nat.succ_ne_zero _)),?_,?_,?_,?_,?_⟩
      ·intro x hx;rcases List.mem_append.mp hx with hx | hx
       ·exact ok7 x hx
       ·have:x=.tri .note (.inr dn) 0:=by simpa using hx
        rw[this];exact⟨by omega,by omega,rfl⟩
      ·intro _;obtain⟨x,r,e,nx⟩:=h17;rw[e];exact⟨x,_,rfl,nx⟩
      ·rw[qbZ,nn7,qcR];rfl
      ·rw[List.length_append,List.length_append];simp;omega
      ·obtain⟨x,y,e,z⟩:=S8.same s9;exact⟨x,y,by rw[qap (Ne.symm lst)];exact e,z⟩
      ·intro b o nb e;rw[qap (qar e hl)];exact s9 _ _ (K8 _ _ nb (K7 _ _ nb e))
     ·exact⟨dn,_,_,its++[x0],rfl,hdn,hl8,pr8,ok7,(fun z=>absurd z (Nat.succ_ne_zero _)),(fun _=>h17),nn7,by rw[List.length_append];simp;omega,S8,K7.trans K8⟩
    ·exact⟨dn,_,_,its++[x0],rfl,hdn,hl7,pr6,ok7,(fun z=>absurd z (Nat.succ_ne_zero _)),(fun _=>h17),nn7,by rw[List.length_append];simp;omega,S7,K7⟩
  ·rintro σ H2 ⟨dn,v,vs,its,rfl,hdn,hl2,pr,ok,h0,h1,nn,le,S2,K2⟩;have lenv:vs.length=its.length:=pr.length;have npos:0<(1+r).toNat:=by omega
   obtain⟨x1,rs,ei,ni⟩:=h1 npos;refine⟨_,rfl,_,rfl,_,rfl,_,_,rfl,⟨by omega,by omega,by omega,by omega⟩,qa7 (fun i ys σ' H3=>(∃z,σ'=[z])∧ys.length=i∧Same H2 H3∧Paired (ItAt (fun b=>H b=none∧b≠l) H3) ys ((nums (dn+i)).drop dn |>.map fun k=>Th.tri .note (.inr k) 0)) (by have:=qak (n:=100) (by decide);omega) ⟨⟨none,rfl⟩,rfl,Same.refl _,?_⟩ ?_ ?_ ?_⟩
   ·rw[show(nums (dn+0)).drop dn=[]from by rw[List.drop_eq_nil_iff];simp[nums]];exact .nil
   ·rintro i ys σ' H3 hi ⟨_,e,_⟩;omega
   ·rintro i ys σ' H3 hi ⟨⟨z,rfl⟩,e,s3,p3⟩;refine⟨_,rfl,by show 3≤sizeLine;decide,fun t ht=>?_⟩;have s4:=qad ht (.tup [.str (Str.ofString "note"),.int ((dn:Int)+i),.int 0]);refine⟨⟨_,rfl⟩,by rw[List.length_append,e];rfl,s3.trans s4,?_⟩;rw[note_more];refine(p3.mono fun v x q=>q.keep s4.keep fun _ n _=>n).snoc ⟨t,rfl,⟨(K2.trans s3.keep).back (qaw (S2.same s3).some ht) ht,qaw ⟨_,s3 _ _ hl2⟩ ht⟩,?_⟩;rw[qac];show some (HO.tup [.str (Str.ofString "note"),.int ((dn:Int)+i),.int 0])=some (HO.tup [.str (Str.ofString "note"),.int ((dn+i:Nat):Int),.int 0]);rw[Int.natCast_add]
   ·rintro ys σ' H3 ⟨_,e,s3,p3⟩ D hD;have sD:=qad hD (.lst ys);have hl4:=sD _ _ (s3 _ _ hl2);refine⟨l,D,_,_,rfl,rfl,hl4,qac,?_,fun s hs=>?_⟩
    ·rw[lenv,e];exact Nat.le_of_lt (qak (by omega))
    have sE:=qad hs (.lst (vs++ys));have s3E:Same H2 _:=(s3.trans sD).trans sE;have en:dn+((n:Int)-dn).toNat=n:=by omega
    rw[en]at p3;refine q s (its++((nums n).drop dn).map fun k=>Th.tri .note (.inr k) 0) _ ⟨?_,?_,?_,?_⟩ ⟨?_,vs++ys,qac,?_⟩ (S2.same s3E) (K2.trans s3E.keep)
    ·intro x hx;rcases List.mem_append.mp hx with hx | hx
     ·exact ok x hx
     ·obtain⟨k,hk,rfl⟩:=List.mem_map.mp hx;have hk':=List.mem_of_mem_drop hk;obtain⟨j,hj,rfl⟩:=List.mem_map.mp (show k∈(List.range n).map fun(i:Nat)=>(i:Int)from hk');have:=List.mem_range.mp hj;exact⟨by omega,by omega,rfl⟩
    ·rw[ei];exact⟨x1,_,rfl,ni⟩
    ·rw[qbZ,nn,notes_of];have:nums dn=(nums n).take dn:=nums_take hdn;rw[this,List.take_append_drop]
    ·rw[List.length_append,List.length_map,List.length_drop];have:(nums n).length=n:=by simp[nums]
     omega
    ·exact(K2.trans (s3.trans sD).keep).back (qaw (S2.same (s3.trans sD)).some hs) hs
    ·refine qb3 (pr.mono fun v x q=>q.keep s3E.keep fun b n _=>n.1) (p3.mono fun v x q=>q.keep (sD.trans sE).keep fun b n _=>n.1)
end
end K22
namespace K22
open PySem L2 Bk Gen
section
variable{P:Program}{w:World}{K:PySem.W.Frag}{mg:Str→Option Value}{base:Heap}
theorem scAdd:FnScope ["_law_nodes", "_law_elder", "_law_kind", "_law_stuff", "_law_name"] ["_law_nodes", "_law_elder", "_law_kind", "_law_stuff"] (qag sAdd):=⟨rfl,rfl,rfl,by decide +kernel,rfl,by decide +kernel,by decide +kernel⟩
theorem ok_add{f:Addr}{fd:FuncData}(F:Fun K "_law_add" "_law_add" sAdd f fd)(T:Bn mg):FnOk P w K mg base CX0 1 f fd ["_law_nodes", "_law_elder", "_law_kind", "_law_stuff"] spAdd2:=by
 refine F.ok scAdd (fun vs H Q E h=>?_) (fun cdv A outer s H vs Q E hr h=>?_)
 ·obtain⟨H0,p,st,s,e,k,its,ds,rfl,_⟩:=h;rfl
 ·obtain⟨H0,p,st,s,e,k,its,ds,rfl,G,hst,hlen,q⟩:=h;refine⟨_,(qab (qah (i:=4) scAdd.nd (by rfl) (by trivial) (qaj ix_list (qaB (qaa qau (qaa qau (qaa qau (qaa qau (qaa qau pa_nil)))))) (qas op_mod (qal call_len_seq (by rfl) T.len b_len (qaa (pv 0) pa_nil)) qae) (fun _ _=>rfl)))
   (qab (qaM (qam op_in_seq (pv 4) (qaI (own:=["_law_row"]) (by rfl) (CompScope.plain (by rfl) (by decide +kernel) (by decide +kernel) (by decide +kernel)) (qaE (pv 0)) (fun cl C s2 H2 fp=>(qai (i:=0) (by show(["_law_row"]:List Str).Nodup;decide +kernel) (by rfl) (by trivial) (by trivial))) (fun cl C s2 H2 fp=>qaG) (fun cl C s2 H2 fp=>(qaj (r:=rIxT K) ix_tup (pv 0) qae (fun _ _=>rfl)))) (by with_unfolding_all rfl)) (qaf (qah (i:=4) scAdd.nd (by rfl) (by trivial) qau)) pss_nil)
   (qab (qaP (qb6 PySem.F.plainAttrs_list PySem.F.slot_list_append PySem.F.type_list_append mt_append (pv 0) (qaa (qaO (qaa (pv 1) (qaa (pv 2) (qaa (pv 4) (qaa (qaB pa_nil) (qaa (pv 3) pa_nil)))))) pa_nil)))
   (qaf (qat (qas op_sub (qal call_len_seq (by rfl) T.len b_len (qaa (pv 0) pa_nil)) qae)))))),?_⟩
  obtain⟨as,hp,nd⟩:=G.bk;have lenas:as.length=ds.length:=nd.length;have zl:(as.map V.ref).length<sizeLine:=by rw[List.length_map];exact qak (by omega)
  refine⟨by show 5≤sizeLine;decide,fun t0 ht0=>?_⟩;have s0:=qad ht0 (.lst (fiveNames.map V.str));have ht00:upd H t0 (.lst (fiveNames.map V.str)) t0=some (.lst (fiveNames.map V.str)):=qac;have r0:=Int.emod_nonneg (((as.map V.ref).length:Nat):Int) (show(5:Int)≠0 by decide);have r1:=Int.emod_lt_of_pos (((as.map V.ref).length:Nat):Int) (show(0:Int)<5 by decide);obtain⟨y,ey,my⟩:=qfc (nms:=fiveNames) r0 r1;refine⟨_,rfl,p,_,rfl,.inl (SqL.of (s0 _ _ hp)),_,_,rfl,rfl,(by show(0:Int)<5;decide),t0,_,_,_,rfl,rfl,SqL.of ht00,ey,?_⟩;have hp0:=s0 _ _ hp;have G0:=G.same s0;have hst0:=hst.keep (N':=New H0 p) s0.keep fun _ n _=>n
  have nd0:=nd.keep (N':=New H0 p) s0.keep fun _ n _=>n
  dsimp only[qa1];show tSeq _ _ _ [some (.ref p),some (.int e),some (.str k.s),some (.ref s),some (.str y)] (upd H t0 (.lst (fiveNames.map V.str)));generalize upd H t0 (.lst (fiveNames.map V.str))=H1 at s0 ht00 hp0 G0 hst0 nd0⊢;refine qbA (fun σ' H'=>∃nm:Str,σ'=[some (.ref p),some (.int e),some (.str k.s),some (.ref s),some (.str nm)]∧Same H1 H'∧NmOk ds nm) (fun D' hD=>?_) ?_
  ·refine qbI (fun b H'=>Same H1 H'∧(b=false→NmOk ds y)) (fun Q' hQ=>?_) (fun b H' hb=>?_)
   ·refine⟨_,rfl,_,rfl,p,rfl,⟨_,SqL.of hp0⟩,qaF (xs:=as.map V.ref) (fun i ys σ' H'=>H'=H1∧ys=((ds.take i).map (·.nm)).map V.str∧∃z,σ'=[z]) zl ⟨rfl,rfl,none,rfl⟩ ?_ ?_ ?_⟩
    ·rintro i ys σ' H' hi ⟨rfl,rfl,_⟩;refine⟨SqL.of hp0,?_⟩;rw[List.length_map,List.length_map,List.length_take];exact Nat.min_le_left _ _
    ·rintro i x ys σ' H' hx ⟨rfl,rfl,z,rfl⟩;obtain⟨a,ea,rfl⟩:=qci hx;obtain⟨d,ed,na,m,s',ha,_⟩:=nd0.at ea;refine⟨_,rfl,a,_,_,_,rfl,rfl,SqT.of ha,rfl,rfl,?_,_,rfl⟩;rw[List.take_succ,ed,List.map_append,List.map_append];rfl
    ·rintro ys σ' H' ⟨rfl,rfl,_⟩ D hD';rw[List.length_map,lenas,List.take_length];refine⟨D,_,rfl,.inl (SqL.of qac),rfl,qdK _,_,rfl,?_⟩;refine hQ _ _ ⟨qad hD' _,fun z=>?_⟩;rw[if_neg Bool.false_ne_true]at z;exact nmok_of (five_name y my) (inV_strs z)
   ·obtain⟨sb,hb⟩:=hb;cases b with
    | true=>exact iteT (hD _ _ ⟨noName,rfl,sb,.inl rfl⟩)
    | false=>exact iteF (hD _ _ ⟨y,rfl,sb,hb rfl⟩)
  rintro _ H2 ⟨nm,rfl,s12,nk⟩;have G2:=G0.same s12;have hp2:=s12 _ _ hp0;have nd2:=nd0.keep (N':=New H0 p) s12.keep fun _ n _=>n
  have hst2:=hst0.keep (N':=New H0 p) s12.keep fun _ n _=>n
  refine⟨_,rfl,.inl ⟨rfl,_,SqL.of hp2⟩,_,rfl,_,rfl,_,rfl,by show 0≤sizeLine;decide,fun m hm=>?_⟩;have s3:=qad hm (.lst []);refine⟨_,rfl,by show 5≤sizeLine;decide,fun a ha=>?_⟩;have s4:=qad ha (.tup [.int e,.str k.s,.str nm,.ref m,.ref s]);have s24:=s3.trans s4;have G4:=G2.same s24;have hp4:=s24 _ _ hp2;have nd4:=nd2.keep (N':=New H0 p) s24.keep fun _ n _=>n
  refine⟨p,_,_,rfl,rfl,hp4,qak (by rw[List.length_map];omega),?_⟩;have na:NdAt (New H0 p) (upd (upd H2 m (.lst [])) a (.tup [.int e,.str k.s,.str nm,.ref m,.ref s])) a ⟨e,k,nm,[],its⟩:=⟨(G2.same s3).fresh ha,m,s,qac,G2.fresh hm,s4 _ _ qac,hst2.keep (N':=New H0 p) s24.keep fun _ n _=>n⟩;have G5:=G4.push hp4 nd4 na;refine⟨_,rfl,p,_,rfl,.inl (SqL.of qac),_,_,rfl,rfl,?_⟩;have el:((as.map V.ref++[V.ref a]).length:Int)-1=ds.length:=by
   rw[List.length_append,List.length_map,lenas];simp
  show Q (.int (((as.map V.ref++[V.ref a]).length:Int)-1)) _;rw[el];refine q ⟨e,k,nm,[],its⟩ _ rfl rfl rfl ⟨by show 0≤4;decide,(fun m hm=>nomatch hm),.nil⟩ nk G5 fun b o n eb=>?_
  rw[qap n.2];exact s24 _ _ (s12 _ _ (s0 _ _ eb))
end
end K22
namespace K22
open PySem L2 Bk Gen
section
variable{P:Program}{w:World}{K:PySem.W.Frag}{mg:Str→Option Value}{base:Heap}
theorem scText:FnScope ["_law_nodes", "_law_elder", "_law_kind", "_law_stream_here", "_law_notes", "_law_at", "_law_k"] ["_law_nodes", "_law_elder", "_law_kind", "_law_stream_here"] (qag sText):=⟨rfl,rfl,rfl,by decide +kernel,rfl,by decide +kernel,by decide +kernel⟩
theorem ok_text{f:Addr}{fd:FuncData}(F:Fun K "_law_text" "_law_text" sText f fd)(T:Bn mg)(F_take:Fx P w K mg base CX0 1 "_law_take" ["_law_stream_here", "_law_most"] spTake)(F_pieces:Fx P w K mg base CX0 3 "_law_pieces" ["_law_stream_here", "_law_notes"] spPieces2)(F_add:Fx P w K mg base CX0 1 "_law_add" ["_law_nodes", "_law_elder", "_law_kind", "_law_stuff"] spAdd2):FnOk P w K mg base CX0 4 f fd ["_law_nodes", "_law_elder", "_law_kind", "_law_stream_here"] spText:=by
 refine F.ok scText (fun vs H Q E h=>?_) (fun cdv A outer s H vs Q E hr h=>?_)
 ·obtain⟨H0,p,st,e,lv,k,ds,rfl,_⟩:=h;rfl
 ·obtain⟨H0,p,st,e,lv,k,ds,rfl,G,hk,hlen,hlv,nok,nms,q⟩:=h;have hr_take:Room 1 _:=hr.mono (by decide);have hr_pieces:=hr;have hr_add:Room 1 _:=hr.mono (by decide);refine⟨_,(qab (qah (i:=4) scText.nd (by rfl) (by trivial) (qaj ix_list (qaB (qaa qae (qaa qae (qaa qae (qaa qae (qaa qae pa_nil)))))) (qan F_take hr_take (by rfl) qao (qaa (pv 3) (qaa qae pa_nil))) (fun _ _=>rfl)))
   (qab (qaM (qam op_gt (qal call_len_seq (by rfl) T.len b_len (qaa (pv 0) pa_nil)) qae (qaq _)) (qaf (qah (i:=4) scText.nd (by rfl) (by trivial) qae)) pss_nil)
   (qab (qah (i:=5) scText.nd (by rfl) (by trivial) (qan F_add hr_add (by rfl) qao (qaa (pv 0) (qaa (pv 1) (qaa (pv 2) (qaa (qan F_pieces hr_pieces (by rfl) qao (qaa (pv 3) (qaa (pv 4) pa_nil))) pa_nil))))))
   (qaf (qaR PassesOwn.never (by rfl) (qaH (by rfl) T.range (qaa (pv 4) pa_nil)) (qai (i:=6) scText.nd (by rfl) (by trivial))
   (qaf (qaP (qan F_add hr_add (by rfl) qao (qaa (pv 0) (qaa (pv 5) (qaa qau (qaa (qan F_pieces hr_pieces (by rfl) qao (qaa (pv 3) (qaa qae pa_nil))) pa_nil)))))))))))),?_⟩
  obtain⟨as,hp,nd⟩:=G.bk;have lenas:as.length=ds.length:=nd.length;refine⟨by show 5≤sizeLine;decide,fun t2 ht2=>?_⟩;have s4:=qad ht2 (.lst [V.int 0,V.int 0,V.int 1,V.int 0,V.int 2]);refine⟨_,rfl,st,5,rfl,G.so.same s4,by decide,by decide,fun r5 H5 r50 r51 S5 K5=>?_⟩;obtain⟨n0,n02,en⟩:=notes_at r50 r51;refine⟨t2,_,_,_,rfl,rfl,SqL.of (K5 _ _ (qaw G.so.some ht2) qac),en,?_⟩;have K15:Keep1 st H H5:=s4.keep.trans K5;have G5:=G.keep1 K15 S5;obtain⟨as5,hp5,nd5⟩:=G5.bk;dsimp only[qa1];refine qbA (fun σ' H'=>∃n:Nat,σ'=[some (.ref p),some (.int e),some (.str k.s),some (.ref st),some (.int n),none,none]∧H'=H5∧n≤2) (fun D' hD=>?_) ?_
  ·refine⟨_,rfl,p,_,rfl,.inl (SqL.of hp5),_,_,rfl,rfl,_,rfl,?_⟩;refine ite2 (fun c=>?_) (fun c=>?_)
   ·exact hD _ _ ⟨0,rfl,rfl,by decide⟩
   ·exact hD _ _ ⟨n0,rfl,rfl,n02⟩
  rintro _ _ ⟨n,rfl,rfl,n2⟩;refine⟨_,rfl,_,rfl,_,rfl,_,rfl,_,rfl,st,n,rfl,S5,n2,fun s6 its H6 pc sa S6 K6=>?_⟩;have G6:=G5.keep1 K6 S6;refine⟨H0,p,st,s6,e,k,its,ds,rfl,G6,sa.keep (N':=New H0 p) KeepN.refl fun b nb _=>G5.fresh nb,by omega,fun d H7 de dk dst dm dn G7 K7=>?_⟩;have K17:qcm st p H H7:=(K15.two.trans K6.two).trans K7;refine⟨_,rfl,_,rfl,by omega,by omega,qaN (fun i σ H8=>∃(nts:List Nd) (v:Option V),σ=[some (.ref p),some (.int e),some (.str k.s),some (.ref st),some (.int n),some (.int ds.length),v]∧nts.length=i∧Gs H0 st p H8 (ds++(d::nts)) ∧
   (∀c∈nts,c.e=(ds.length:Int)∧c.k=.note∧Pieces 0 c.st∧qd5 c.mks∧(c.nm=noName∨Name c.nm))∧Names (ds++(d::nts))∧qcm st p H H8)
   ⟨[],none,rfl,rfl,G7,(fun c hc=>nomatch hc),qbr nms dn,K17⟩ ?_ ?_⟩
  ·rintro i σ H8 hi ⟨nts,v,rfl,ln,G8,hc,na,K8⟩;refine⟨_,rfl,_,rfl,_,rfl,st,0,rfl,G8.so,by decide,fun s9 its9 H9 pc9 sa9 S9 K9=>?_⟩;have G9:=G8.keep1 K9 S9;have l9:(ds++(d::nts)).length≤200:=by rw[List.length_append,List.length_cons];omega
   refine⟨H0,p,st,s9,(ds.length:Int),.note,its9,ds++(d::nts),rfl,G9,sa9.keep (N':=New H0 p) KeepN.refl fun b nb _=>G8.fresh nb,l9,fun c HA ce ck cst cm cn GA KA=>?_⟩;have ea:ds++(d::nts)++[c]=ds++(d::(nts++[c])):=by simp
   rw[ea]at GA;refine⟨nts++[c],_,rfl,by rw[List.length_append,ln];rfl,GA,fun c' hc'=>?_,by rw[←ea];exact qbr na cn,(K8.trans K9.two).trans KA⟩;rcases List.mem_append.mp hc' with h | h
   ·exact hc c' h
   ·have:c'=c:=by simpa using h
    subst this;exact⟨ce,ck,by rw[cst];exact pc9,cm,cn.or⟩
  ·rintro σ H8 ⟨nts,v,rfl,ln,G8,hc,na,K8⟩;refine q (d::nts) H8 (text_more hk hlv de dk (by rw[dst];exact pc) dm dn (by omega) hc na) ?_ G8 K8;rw[List.length_cons];omega
end
end K22
namespace K22
open PySem L2 Bk Gen
section
variable{P:Program}{w:World}{K:PySem.W.Frag}{mg:Str→Option Value}{base:Heap}
theorem scItem:FnScope ["_law_nodes", "_law_elder", "_law_level", "_law_stream_here", "_law_kinds", "_law_sides", "_law_kind", "_law_at", "_law_k"] ["_law_nodes", "_law_elder", "_law_level", "_law_stream_here"] (qag sItem):=⟨rfl,rfl,rfl,by decide +kernel,rfl,by decide +kernel,by decide +kernel⟩
theorem qdn{f:Addr}{fd:FuncData}{n:Nat}(F:Fun K "_law_item" "_law_item" sItem f fd)(T:Bn mg)(F_take:Fx P w K mg base CX0 1 "_law_take" ["_law_stream_here", "_law_most"] spTake)(F_add:Fx P w K mg base CX0 1 "_law_add" ["_law_nodes", "_law_elder", "_law_kind", "_law_stuff"] spAdd2)(F_text:Fx P w K mg base CX0 4 "_law_text" ["_law_nodes", "_law_elder", "_law_kind", "_law_stream_here"] spText)(F_item:Fx P w K mg base CX0 (5+n) "_law_item" ["_law_nodes", "_law_elder", "_law_level", "_law_stream_here"] (qbK n)):FnOk P w K mg base CX0 (5+n+1) f fd ["_law_nodes", "_law_elder", "_law_level", "_law_stream_here"] (qbK (n+1)):=by
 refine F.ok scItem (fun vs H Q E h=>?_) (fun cdv A outer s H vs Q E hr h=>?_)
 ·obtain⟨H0,p,st,e,lv,de,ds,rfl,_⟩:=h;rfl
 ·obtain⟨H0,p,st,e,lv,de,ds,rfl,G,hde,hct,l1,l4,hn,hlen,nok,nms,q⟩:=h;have hr_take:Room 1 _:=hr.mono (by omega);have hr_add:Room 1 _:=hr.mono (by omega);have hr_text:Room 4 _:=hr.mono (by omega);have hr_item:=hr;refine⟨_,(qab (qah (i:=4) scItem.nd (by rfl) (by trivial) (qaB (qaa qau (qaa qau (qaa qau (qaa qau (qaa qau (qaa qau (qaa qau (qaa qau pa_nil))))))))))
   (qab (qah (i:=5) scItem.nd (by rfl) (by trivial) (qf8 (qbf op_eq (qaj ix_tup (qaj ix_list (pv 0) (pv 1) (fun _ _=>rfl)) qae (fun _ _=>rfl)) qau (qaq _)) (qfq (qbf op_eq (qaj ix_tup (qaj ix_list (pv 0) (pv 1) (fun _ _=>rfl)) qae (fun _ _=>rfl)) qau (qaq _)))))
   (qab (qah (i:=6) scItem.nd (by rfl) (by trivial) (qaj ix_list (pv 4) (qan F_take hr_take (by rfl) qao (qaa (pv 3) (qaa (qaj ix_list (qaB (qaa qae (qaa qae pa_nil))) (qaJ call_int1 (by rfl) T.int b_int (qaa (pv 5) pa_nil)) (fun _ _=>rfl)) pa_nil))) (fun _ _=>rfl)))
   (qab (qaM (PW.pt (qdW (PW.pt (qbT (qam op_eq (pv 6) qau (qaq _)) (qbB (qam op_eq (qaj ix_tup (qaj ix_list (pv 0) (pv 1) (fun _ _=>rfl)) qae (fun _ _=>rfl)) qau (qaq _))))) (qcZ (PW.pt (qbT (qam op_gt (pv 2) qae (qaq _)) (qbB (qam op_notIn_seq (pv 6) (qaB (qaa qau (qaa qau (qaa qau pa_nil)))) (by with_unfolding_all rfl)))))))) (qaf (qah (i:=6) scItem.nd (by rfl) (by trivial) qau)) pss_nil)
   (qab (qaM (PW.pt (qbT (qam op_gt (qal call_len_seq (by rfl) T.len b_len (qaa (pv 0) pa_nil)) qae (qaq _)) (qbB (qam op_notIn_seq (pv 6) (qaB (qaa qau (qaa qau (qaa qau pa_nil)))) (by with_unfolding_all rfl))))) (qaf (qah (i:=6) scItem.nd (by rfl) (by trivial) qau)) pss_nil)
   (qab (qaM (PW.pt (qdW (qam op_eq (pv 6) qau (qaq _)) (qcZ (qam op_eq (pv 6) qau (qaq _))))) (qaf (qaP (qan F_text hr_text (by rfl) qao (qaa (pv 0) (qaa (pv 1) (qaa (pv 6) (qaa (pv 3) pa_nil))))))) (qaf (qaM (qam op_eq (pv 6) qau (qaq _)) (qaf (qaP (qan F_add hr_add (by rfl) qao (qaa (pv 0) (qaa (pv 1) (qaa (pv 6) (qaa (qaB (qaa (qas op_add qae (qan F_take hr_take (by rfl) qao (qaa (pv 3) (qaa qae pa_nil)))) (qaa (qas op_add qae (qan F_take hr_take (by rfl) qao (qaa (pv 3) (qaa qae pa_nil)))) pa_nil))) pa_nil))))))) (qab (qah (i:=7) scItem.nd (by rfl) (by trivial) (qan F_add hr_add (by rfl) qao (qaa (pv 0) (qaa (pv 1) (qaa (pv 6) (qaa (qaB pa_nil) pa_nil))))))
   (qaf (qaR PassesOwn.never (by rfl) (qaH (by rfl) T.range (qaa (qas op_add (qan F_take hr_take (by rfl) qao (qaa (pv 3) (qaa qae pa_nil))) (qaJ call_int1 (by rfl) T.int b_int (qaa (qbf op_ne (pv 6) qau (qaq _)) pa_nil))) pa_nil)) (qai (i:=8) scItem.nd (by rfl) (by trivial))
   (qaf (qaP (qan F_item hr_item (by rfl) qao (qaa (pv 0) (qaa (pv 7) (qaa (qas op_add (pv 2) qae) (qaa (pv 3) pa_nil)))))))))))))
   (qaf (qaM (qam op_eq (pv 6) qau (qaq _)) (qaf (qaP (qan F_text hr_text (by rfl) qao (qaa (pv 0) (qaa (pv 1) (qaa qau (qaa (pv 3) pa_nil))))))) pss_nil)))))))),?_⟩
  refine⟨by show 8≤sizeLine;decide,fun kl hkl=>?_⟩;have s1:=qad hkl (.lst (kindsL2.map fun k=>V.str k.s));have G1:=G.same s1;have hk1:upd H kl (.lst (kindsL2.map fun k=>V.str k.s)) kl=some (.lst (kindsL2.map fun k=>V.str k.s)):=qac;have kst:kl≠st:=qaw G.so.some hkl;have kp:kl≠p:=qaw G.psome hkl;have K1:qcm st p H (upd H kl (.lst (kindsL2.map fun k=>V.str k.s))):=s1.keep;dsimp only[qa1];show tSeq _ _ _ [some (.ref p),some (.int e),some (.int lv),some (.ref st),some (.ref kl),none,none,none,none] (upd H kl (.lst (kindsL2.map fun k=>V.str k.s)));generalize upd H kl (.lst (kindsL2.map fun k=>V.str k.s))=H1 at s1 G1 hk1 K1⊢;obtain⟨as,hp,nd⟩:=G1.bk;obtain⟨a,ea,na⟩:=nd.get hde;obtain⟨m,s',ha,_⟩:=na.ex;refine qbA (fun σ' H'=>∃sd:Bool,σ'=[some (.ref p),some (.int e),some (.int lv),some (.ref st),some (.ref kl),some (.bl sd),none,none,none]∧H1=H'∧(sd=true↔de.k=.shelf∨de.k=.grid)) (fun D' hD=>?_) ?_
  ·refine⟨_,rfl,_,rfl,p,_,_,_,rfl,rfl,SqL.of hp,qay ea,a,_,_,_,rfl,rfl,SqT.of ha,rfl,rfl,_,rfl,?_⟩;rw[show decide (V.str de.k.s=V.str (Str.ofString "shelf"))=decide (de.k=.shelf)from kdt de.k .shelf];refine ite2 (fun c=>?_) (fun c=>?_)
   ·exact hD _ _ ⟨true,rfl,rfl,⟨fun _=>.inl (of_decide_eq_true c),fun _=>rfl⟩⟩
   ·refine⟨_,rfl,_,rfl,p,_,_,_,rfl,rfl,SqL.of hp,qay ea,a,_,_,_,rfl,rfl,SqT.of ha,rfl,rfl,?_⟩;rw[show decide (V.str de.k.s=V.str (Str.ofString "grid"))=decide (de.k=.grid)from kdt de.k .grid];refine hD _ _ ⟨decide (de.k=.grid),rfl,rfl,⟨fun z=>.inr (of_decide_eq_true z),fun z=>?_⟩⟩;rcases z with z | z
    ·exact absurd (decide_eq_true z) c
    ·exact decide_eq_true z
  rintro _ _ ⟨sd,rfl,rfl,hsd⟩;refine qbA (fun σ' H'=>∃k:Kd,σ'=[some (.ref p),some (.int e),some (.int lv),some (.ref st),some (.ref kl),some (.bl sd),some (.str k.s),none,none]∧Keep1 st H1 H'∧StOk H' st∧qfQ de.k k) (fun D' hD=>?_) ?_
  ·refine⟨_,rfl,_,rfl,by show 2≤sizeLine;decide,fun t ht=>?_⟩;have s2:=qad ht (.lst [V.int 8,V.int 6]);refine⟨_,rfl,.inr ⟨sd,rfl,t,_,_,_,rfl,rfl,SqL.of qac,eight_six sd,st,_,rfl,G1.so.same s2,by split<;>decide,by split<;>decide,fun r H3 r0 r1 S3 K3=>?_⟩⟩;have r8:r<8:=by revert r1;split<;>omega
   obtain⟨k,ek,hk⟩:=kinds_at2 r0 r8;refine⟨kl,_,_,_,rfl,rfl,SqL.of (K3 _ _ kst (s2 _ _ hk1)),ek,?_⟩;exact hD _ _ ⟨k,rfl,s2.keep.trans K3,S3,kind0_of hct hsd r1 hk⟩
  rintro _ H3 ⟨k0,rfl,K13,S3,hk0⟩;have G3:=G1.keep1 K13 S3;have K03:qcm st p H H3:=K1.trans K13.two;obtain⟨as3,hp3,nd3⟩:=G3.bk;obtain⟨a3,ea3,na3⟩:=nd3.get hde;obtain⟨m3,s3',ha3,_⟩:=na3.ex;refine qbA (fun σ' H'=>∃k:Kd,σ'=[some (.ref p),some (.int e),some (.int lv),some (.ref st),some (.ref kl),some (.bl sd),some (.str k.s),none,none]∧Same H3 H'∧mayHold de.k k=true∧(3<lv→Leaf k)∧(k=.text∨k=.picture∨k=.case∨k=.shelf∨k=.grid∨k=.head∨k=.aside)) (fun D' hD=>?_) ?_
  ·refine qbI (fun b H'=>Same H3 H'∧(b=false→mayHold de.k k0=true∧(3<lv→Leaf k0))) (fun Q' hQ=>?_) (fun b H' hb=>?_)
   ·refine⟨_,rfl,rfl,_,rfl,?_⟩;rw[show decide (V.str k0.s=V.str (Str.ofString "aside"))=decide (k0=.aside)from kdt k0 .aside];have second:∀(b1:Bool),(b1=false→mayHold de.k k0=true)→if b1=true then Q' true H3 else tAnd (qfy (tOp (rI0 fun i j=>.bl (decide (j<i))) (tVar 2) (tC (.int 3)))) (qfy (tOp (rIn K true) (tVar 6) (tLst (qcH (tC (.str (Str.ofString "text"))) (qcH (tC (.str (Str.ofString "head"))) (qcH (tC (.str (Str.ofString "picture"))) tNil))))))
      [some (.ref p),some (.int e),some (.int lv),some (.ref st),some (.ref kl),some (.bl sd),some (.str k0.s),none,none] H3 Q':=by
     intro b1 hm;cases b1 with
     | true=>exact iteT (hQ _ _ ⟨Same.refl _,(fun z=>nomatch z)⟩)
     | false =>
       refine iteF ⟨_,rfl,_,_,rfl,rfl,_,rfl,?_⟩
       refine ite2 (fun c=>?_) (fun c=>?_)
       · refine⟨_,rfl,by show 3≤sizeLine;decide,fun t ht=>⟨t,leafL.map (fun k=>V.str k.s),rfl,.inl (SqL.of qac),rfl,rfl,_,rfl,?_⟩⟩
         refine hQ _ _ ⟨qad ht _,fun z=>⟨hm rfl,fun _=>?_⟩⟩
         rw[if_pos rfl,qeJ]at z
         simpa using z
       · exact hQ _ _ ⟨Same.refl _,fun _=>⟨hm rfl,fun z=>absurd (decide_eq_true (show(3:Int)<(lv:Int) by omega)) c⟩⟩
    refine ite2 (fun c=>?_) (fun c=>?_)
    ·refine⟨_,rfl,_,rfl,p,_,_,_,rfl,rfl,SqL.of hp3,qay ea3,a3,_,_,_,rfl,rfl,SqT.of ha3,rfl,rfl,_,rfl,?_⟩;rw[show decide (V.str de.k.s=V.str (Str.ofString "aside"))=decide (de.k=.aside)from kdt de.k .aside];refine second _ fun z=>?_
     rcases hk0.1 with y | y
     ·exact y
     ·exact absurd y.2 (of_decide_eq_false z)
    ·refine second false fun _=>?_
     rcases hk0.1 with y | y
     ·exact y
     ·exact absurd (decide_eq_true y.1) c
   ·obtain⟨sb,hb⟩:=hb;cases b with
    | true=>exact iteT (hD _ _ ⟨.text,rfl,sb,qev hct,(fun _=>.inl rfl),.inl rfl⟩)
    | false=>exact iteF (hD _ _ ⟨k0,rfl,sb,(hb rfl).1,(hb rfl).2,hk0.2⟩)
  rintro _ H4 ⟨k1,rfl,s34,may1,lv1,one1⟩;have G4:=G3.same s34;have K04:qcm st p H H4:=K03.trans s34.keep;obtain⟨as4,hp4,nd4⟩:=G4.bk;have len4:as4.length=ds.length:=nd4.length;refine qbA (fun σ' H'=>∃k:Kd,σ'=[some (.ref p),some (.int e),some (.int lv),some (.ref st),some (.ref kl),some (.bl sd),some (.str k.s),none,none]∧Same H4 H'∧Kind2 de.k k lv 12 ds.length) (fun D' hD=>?_) ?_
  ·refine qbI (fun b H'=>Same H4 H'∧(b=false→12≤ds.length→Leaf k1)) (fun Q' hQ=>?_) (fun b H' hb=>?_)
   ·refine⟨_,rfl,p,_,rfl,.inl (SqL.of hp4),_,_,rfl,rfl,_,rfl,?_⟩;refine ite2 (fun c=>?_) (fun c=>?_)
    ·refine⟨_,rfl,by show 3≤sizeLine;decide,fun t ht=>⟨t,leafL.map (fun k=>V.str k.s),rfl,.inl (SqL.of qac),rfl,rfl,_,rfl,?_⟩⟩;refine hQ _ _ ⟨qad ht _,fun z _=>?_⟩;rw[if_pos rfl,qeJ]at z;simpa using z
    ·refine hQ _ _ ⟨Same.refl _,fun _ z=>absurd (decide_eq_true ?_) c⟩;rw[List.length_map,len4];omega
   ·obtain⟨sb,hb⟩:=hb;cases b with
    | true=>exact iteT (hD _ _ ⟨.picture,rfl,sb,may_picture hct,(fun _=>.inr (.inr rfl)),(fun _=>.inr (.inr rfl)),.inr (.inl rfl)⟩)
    | false=>exact iteF (hD _ _ ⟨k1,rfl,sb,may1,lv1,hb rfl,one1⟩)
  rintro _ H5 ⟨k2,rfl,s45,hk2⟩;have G5:=G4.same s45;have K05:qcm st p H H5:=K04.trans s45.keep;have notA:∀(k:Kd),k≠.aside→decide (V.str k.s=V.str (Str.ofString "aside"))=false:=fun k hk=>by
   rw[show decide (V.str k.s=V.str (Str.ofString "aside"))=decide (k=.aside)from kdt k .aside];exact decide_eq_false hk
  refine qbA (fun σ' H'=>∃(more:List Nd) (v8 v9:Option V),σ'=[some (.ref p),some (.int e),some (.int lv),some (.ref st),some (.ref kl),some (.bl sd),some (.str k2.s),v8,v9]∧More e lv ds more [k2]∧(12≤ds.length→more.length≤3)∧(ds.length<12→ds.length+more.length+(if k2=.aside then 3 else 0)≤cap 12 lv)∧ds.length+more.length≤103∧(k2=.aside→ds.length<12)∧Gs H0 st p H' (ds++more)∧qcm st p H5 H') (fun D' hD=>?_) ?_
  ·have texts:(k2=.text∨k2=.head)→spText ([.ref p,.int e,.str k2.s,.ref st]++[]) H5 (fun _ H'=>D'.nx [some (.ref p),some (.int e),some (.int lv),some (.ref st),some (.ref kl),some (.bl sd),some (.str k2.s),none,none] H') E0:=fun hk=>by
    have na:k2≠.aside:=by rcases hk with rfl | rfl<;>decide
    refine⟨H0,p,st,e,lv,k2,ds,rfl,G5,hk,by omega,by omega,nok,nms,fun more H6 mo m3 G6 K6=>?_⟩;refine hD _ _ ⟨more,none,none,rfl,mo,(fun _=>m3),(fun z=>?_),by omega,(fun z=>absurd z na),G6,K6⟩;rw[if_neg na];have:=qeF (R:=12) (lv:=lv) z;omega
   refine⟨_,rfl,rfl,_,rfl,?_⟩;rw[show decide (V.str k2.s=V.str (Str.ofString "text"))=decide (k2=.text)from kdt k2 .text];refine ite2 (fun c=>?_) (fun c=>?_)
   ·exact iteT ⟨_,rfl,_,rfl,_,rfl,_,rfl,texts (.inl (of_decide_eq_true c))⟩
   refine⟨_,rfl,rfl,_,rfl,?_⟩;rw[show decide (V.str k2.s=V.str (Str.ofString "head"))=decide (k2=.head)from kdt k2 .head];refine ite2 (fun c2=>?_) (fun c2=>?_)
   ·exact⟨_,rfl,_,rfl,_,rfl,_,rfl,texts (.inr (of_decide_eq_true c2))⟩
   refine⟨_,rfl,rfl,_,rfl,?_⟩;rw[show decide (V.str k2.s=V.str (Str.ofString "picture"))=decide (k2=.picture)from kdt k2 .picture];refine ite2 (fun c3=>?_) (fun c3=>?_)
   ·-- a picture
    have hkp:k2=.picture:=of_decide_eq_true c3;refine⟨_,rfl,_,rfl,_,rfl,_,rfl,st,2000,rfl,G5.so,by decide,by decide,fun r6 H6 r60 r61 S6 K6=>⟨_,_,rfl,rfl,_,rfl,st,2000,rfl,S6,by decide,by decide,fun r7 H7 r70 r71 S7 K7=>⟨_,_,rfl,rfl,by show 2≤sizeLine;decide,fun t ht=>?_⟩⟩⟩;have s8:=qad ht (.lst [.int (1+r6),.int (1+r7)]);have K58:Keep1 st H5 _:=(K6.trans K7).trans s8.keep;have G8:=G5.keep1 K58 (S7.same s8);refine⟨H0,p,st,t,e,k2,[.int (1+r6),.int (1+r7)],ds,rfl,G8,⟨(G5.keep1 (K6.trans K7) S7).fresh ht,_,qac,.cons rfl (.cons rfl .nil)⟩,by omega,fun d H9 de' dk dst dm dn G9 K9=>?_⟩;refine hD _ _ ⟨[d],none,none,rfl,by rw[hkp]at dk⊢;exact pic_more de' (by omega) dk dst ⟨by omega,by omega⟩ ⟨by omega,by omega⟩ dm dn nms,(fun _=>by simp),(fun z=>?_),by simp;omega,(fun z=>by rw[hkp]at z;cases z),G9,K58.two.trans K9⟩;rw[hkp,if_neg (by decide)];have:=qeF (R:=12) (lv:=lv) z;simp;omega
   ·-- a box
    have hb:k2=.case∨k2=.shelf∨k2=.grid∨k2=.aside:=by
     have n1:k2≠.text:=fun z=>c (decide_eq_true z)
     have n2:k2≠.head:=fun z=>c2 (decide_eq_true z)
     have n3:k2≠.picture:=fun z=>c3 (decide_eq_true z)
     rcases hk2.one with h | h | h | h | h | h | h<;>simp_all
    have nl:¬Leaf k2:=by rcases hb with h | h | h | h<;>rw[h]<;>decide
    have lv3:lv≤3:=Nat.le_of_not_lt fun z=>nl (hk2.lvl z)
    have hR:ds.length<12:=Nat.lt_of_not_le fun z=>nl (hk2.room z)
    have ct2:Cont k2:=by rcases hb with h | h | h | h<;>rw[h]<;>simp[Cont]
    refine⟨_,rfl,_,rfl,_,rfl,by show 0≤sizeLine;decide,fun t ht=>?_⟩;have s6:=qad ht (.lst []);refine⟨H0,p,st,t,e,k2,[],ds,rfl,G5.same s6,⟨G5.fresh ht,_,qac,.nil⟩,by omega,fun d H7 de' dk dst dm dn G7 K7=>?_⟩;have K57:qcm st p H5 H7:=s6.keep.trans K7;refine⟨_,rfl,st,3,rfl,G7.so,by decide,by decide,fun r8 H8 r80 r81 S8 K8=>⟨_,rfl,rfl,.inr ⟨_,rfl,_,_,rfl,rfl,?_⟩⟩⟩;rw[show decide (V.str k2.s=V.str (Str.ofString "case"))=decide (k2=.case)from kdt k2 .case];have G8:=G7.keep1 K8 S8;have cnt:∃c:Nat,r8+(if(!decide (k2=Kd.case))=true then 1 else 0)=(c:Int)∧c≤3∧(k2≠.case→1≤c):=by
     refine⟨(r8+(if(!decide (k2=Kd.case))=true then 1 else 0)).toNat,?_,?_,fun z=>?_⟩
     ·split<;>omega
     ·split<;>omega
     ·rw[decide_eq_false z];simp;omega
    obtain⟨c,ec,c3',c1⟩:=cnt;refine⟨(c:Int),congrArg (fun z=>[V.int z]) ec,by omega,by omega,qaN (fun j σ H9=>∃(sub:List Nd) (ks:List Kd) (v:Option V),σ=[some (.ref p),some (.int e),some (.int lv),some (.ref st),some (.ref kl),some (.bl sd),some (.str k2.s),some (.int ds.length),v]∧Kids ds.length lv k2 (ds++[d]) sub ks∧(0<j→ks≠[])∧CapB 12 lv j (ds.length+1+sub.length)∧Gs H0 st p H9 (ds++[d]++sub)∧qcm st p H5 H9)
     ⟨[],[],none,rfl,⟨.nil,(fun d hd=>nomatch hd),by rw[List.append_nil];exact qbr nms dn,by rw[List.append_nil];exact qeN nok dn,(fun c hc=>nomatch hc),trivial⟩,(fun z=>absurd z (Nat.lt_irrefl 0)),.inl (by simp;omega),by rw[List.append_nil];exact G8,K57.trans K8.two⟩ ?_ ?_⟩
    ·rintro j σ H9 hj ⟨sub,ks,v,rfl,kids,hks,cb,G9,K9⟩;have j3:j<3:=by simp at hj;omega
     have l9:(ds++[d]++sub).length=ds.length+1+sub.length:=by rw[List.length_append,List.length_append];rfl
     have le60:=qe3 cb (by omega) (by decide);refine⟨_,rfl,_,rfl,_,rfl,_,_,rfl,rfl,_,rfl,H0,p,st,ds.length,lv+1,d,ds++[d]++sub,rfl,G9,?_,by rw[dk];exact ct2,by omega,by omega,by omega,by omega,kids.ok,kids.nm,fun more ks' HA mo ik m3 mc GA KA=>?_⟩
     ·rw[List.append_assoc,List.getElem?_append_right (Nat.le_refl _)];simp
     rw[dk]at ik;refine⟨sub++more,ks++ks',_,rfl,kids.more l9 mo ik,(fun _=>by have:=ik.ne;simp[this]),?_,by rw[←List.append_assoc];exact GA,K9.trans KA⟩;refine qdX cb (fun z=>?_) (fun z=>?_)
     ·have:=m3 (by omega);rw[List.length_append];omega
     ·have:=mc (by omega);rw[List.length_append];omega
    ·rintro σ H9 ⟨sub,ks,v,rfl,kids,hks,cb,G9,K9⟩;have cc:((c:Int)).toNat≤3:=by simpa using c3'
     have cb':=capB_end cb cc l1 lv3;have le60:=qe3 cb cc (by decide);have ee:ds++(d::sub)=ds++[d]++sub:=by simp
     refine hD _ _ ⟨d::sub,_,v,rfl,?_,(fun z=>absurd z (by omega)),(fun _=>?_),by rw[List.length_cons];omega,(fun _=>hR),by rw[ee];exact G9,K9⟩
     ·have:=qet (lv:=lv) de' (by omega) (by rw[dk];exact hb) dst dm dn (by rw[dk];exact kids) (by rw[dk];exact fun z=>hks (by have:=c1 z;simp;omega));rw[dk]at this;exact this
     ·rw[List.length_cons]
      split<;>omega
  rintro _ H6 ⟨more,v8,v9,rfl,mo,m3,mc,ml,hA,G6,K6⟩;have K06:qcm st p H H6:=K05.trans K6;refine⟨_,rfl,rfl,_,rfl,?_⟩;rw[show decide (V.str k2.s=V.str (Str.ofString "aside"))=decide (k2=.aside)from kdt k2 .aside];refine ite2 (fun c=>?_) (fun c=>?_)
  ·have hk:k2=.aside:=of_decide_eq_true c;refine⟨_,rfl,_,rfl,_,rfl,H0,p,st,e,lv,.text,ds++more,rfl,G6,.inl rfl,by rw[List.length_append];omega,by omega,mo.nms nok,mo.nm,fun more' H7 mo' m3' G7 K7=>?_⟩;have hR:=hA hk;have mc':=mc hR;rw[if_pos hk]at mc';refine q (more++more') ([k2]++[.text]) H7 (mo.cat mo') (.inr ⟨by rw[hk];rfl,by rw[←hk];exact hk2.may,qev hct⟩) (fun z=>absurd z (by omega)) (fun _=>by rw[List.length_append];omega) (by rw[←List.append_assoc];exact G7) (K06.trans K7)
  ·have hk:k2≠.aside:=fun z=>c (decide_eq_true z)
   refine q more [k2] H6 mo (.inl ⟨k2,rfl,hk,hk2.may⟩) m3 (fun z=>?_) G6 K06;have:=mc z;rw[if_neg hk]at this;omega
end
end K22
namespace L2
open PySem PySem.Spec PyProof.Rows
section
variable{prog:Program}{w:World}{A:Around}{E:Value→Shared→Prop}{s:Shared}
theorem tuple_index{a:Addr}{o:Obj}{its:Array Value}{n:Nat}{ks:List Str}{x:Str}{t:Tok}{j:Nat}{Q:Value→Shared→Prop}(ho:s.heap.get? a=some o)(hc:o.cls=.type "tuple")(hd:o.data=.seq its n)(hl:its.size=ks.length)(hk:∀(i:Nat) (y:Str),ks[i]?=some y→∃u,its[i]?=some (Value.str y u))(hj:ks[j]?=some x)(hlt:∀i:Nat,i<j→ks[i]?≠some x)(h:∀t',Q (.int j t') {s with toks:=s.toks+1}):wpAny (model prog w) A (call (.builtin "tuple.index") [.ref a,.str x t]) Q E s:=by
 refine wpAny_call_entry PySem.F.slot_tuple_index ⟨o,ho,hc⟩ PySem.F.entry_tuple_index ?_ (PySem.F.args_tuple_index_2 _ _);unfold Builtin.«tuple.index»;refine wpAny_bind (wpAny_of_eq (show selfAndSome "tuple.index" "index" 1 3 ⟨[.ref a,.str x t],[]⟩=pure (.ref a,[.str x t])from rfl) ?_);refine wpAny_bind (wpAny_tupleItemsOf ho hd ?_);refine wpAny_bind (wpAny_pure (wpAny_bind (wpAny_pure ?_)));dsimp only;rw[Nat.min_self,Std.Legacy.Range.forIn_eq_forIn_range'];refine wpAny_bind (wpAny_forIn_list _ (fun rest b s'=>b.1=none∧s'=s∧∃i,i≤j∧rest=List.range' i (its.size-i)) _ ?_ ?_ _ _ ⟨rfl,rfl,0,Nat.zero_le _,?_⟩)
 ·rintro i rest b s' ⟨hb,rfl,i',hi,er⟩;have jl:j<its.size:=by rw[hl];exact(List.getElem?_eq_some_iff.mp hj).1
  obtain⟨k,ek⟩:∃k,its.size-i'=k+1:=⟨its.size-i'-1,by omega⟩;rw[ek,List.range'_succ]at er;obtain⟨rfl,er⟩:=List.cons.inj er;have il:i<ks.length:=by omega
  obtain⟨u,eu⟩:=hk i ks[i] (List.getElem?_eq_getElem il);rw[eu];refine wpAny_bind (wpAny_eqBool_str ?_)
  by_cases e:ks[i]=x
  ·have ij:i=j:=by
    refine Nat.le_antisymm hi (Nat.le_of_not_lt fun z=>hlt i z ?_);rw[List.getElem?_eq_getElem il,e]
   subst ij;rw[decide_eq_true e];refine wpAny_bind (wpAny_bind (wpAny_mkInt (wpAny_pure (wpAny_pure ?_))));exact wpAny_pure ⟨_,rfl,h _⟩
  ·rw[decide_eq_false e];have ne:i≠j:=fun z=>e (by subst z;rw[List.getElem?_eq_getElem il]at hj;exact Option.some.inj hj)
   refine wpAny_pure ⟨rfl,rfl,i+1,by omega,?_⟩;rw[er,show its.size-(i+1)=k by omega]
 ·rintro b s' ⟨hb,rfl,i',hi,er⟩;have jl:j<its.size:=by rw[hl];exact(List.getElem?_eq_some_iff.mp hj).1
  have:=congrArg List.length er;rw[List.length_range']at this;simp at this;omega
 ·simp[Std.Legacy.Range.size]
end
def rIndex(K:PySem.W.Frag):V→List V→Hp→VK→Prop:=fun x vs H Q=>∃(a:Addr) (ks:List Str) (y:Str) (j:Nat),x=.ref a∧vs=[.str y]∧SqT K H a (ks.map V.str)∧ks[j]?=some y∧(∀i:Nat,i<j→ks[i]?≠some y)∧Q (.int j) H
section
variable{X:Cx}
theorem mt_index:MtR X "tuple.index" (rIndex X.K):=by
 intro pins s σ H x xs v us Q I rx rv h;obtain⟨a,ks,y,j,rfl,rfl,hq,hj,hlt,q⟩:=h;cases rx;obtain⟨u,rfl,ru⟩:=Vals.one rv;obtain⟨t,rfl⟩:=ru;obtain⟨its,rv',pl,hz⟩:=I.tuple hq;have hl:its.toArray.size=ks.length:=by rw[List.size_toArray,←rv'.length,List.length_map]
 obtain⟨o,ho,hc,n,hd⟩:=pl;refine tuple_index (ks:=ks) ho hc hd hl (fun i z e=>?_) hj hlt fun t'=>⟨.int j,H,I.tok _,⟨t',rfl⟩,q⟩
 obtain⟨u,e2,r2⟩:=rv'.get (i:=i) (x:=.str z) (by rw[List.getElem?_map,e];rfl);obtain⟨t2,rfl⟩:=r2;exact⟨t2,by simpa using e2⟩
end
end L2
namespace L2
open PySem PySem.Spec PyProof.Rows
def qfw(K:PySem.W.Frag):List V→Hp→VK→Prop:=fun xs H Q=>∃(p:Addr) (ns:List Int),xs=[.ref p]∧SqL K H p (ns.map V.int)∧Q (.int ns.sum) H
section
variable{X:Cx}
theorem qa4(hc:X.calm=true):qcd X (.builtin "sum") (qfw X.K):=by
 intro pins s σ H xs us Q I r h;obtain⟨p,ns,rfl,hp,q⟩:=h;obtain⟨u,rfl,rx⟩:=qdo r;cases rx;obtain⟨its,rv,pl,hz⟩:=I.list hp;have hh:=I.ok.hd hc;have lp:p<s.heap.objs.size:=by
  obtain⟨o,e,_⟩:=pl.isList;exact Heap.lt_size e
 have hn:its.toArray.size=ns.length:=by rw[List.size_toArray,←rv.length,List.length_map]
 refine call_sum_walkAnyS (wpAny_pyIter_list pl.isList ?_);refine⟨s.heap.objs.size,_,_,_,_,_,_,fun i=>ns.getD i 0,rfl,(Walks.list (by simpa using hh) s.heap.objs.size p (Nat.ne_of_lt lp) its.toArray).toS,⟨⟨_,Heap.get?_push_size _ rfl,rfl,rfl⟩,pl.isList.push _⟩,fun b hb'=>?_,qec rv,fun s' t' mv=>?_⟩
 ·rw[Heap.size_push];rcases List.mem_cons.mp hb' with rfl | hb'
  ·exact Nat.lt_succ_self _
  ·rcases List.mem_cons.mp hb' with rfl | hb'
   ·exact Nat.lt_succ_of_lt lp
   ·cases hb'
 ·rw[hn,qcV,List.take_length];obtain⟨h',g',dd,tk',os'⟩:=s';obtain rfl:g'=s.gens:=mv.gens;obtain rfl:dd=s.drawn:=mv.drawn;obtain rfl:os'=s.os:=mv.os;exact⟨.int ns.sum,H,I.kept fun b o e=>mv.heap b o (by simpa using Nat.ne_of_lt (Heap.lt_size e)) (Heap.get?_push_of_some _ e),⟨t',rfl⟩,q⟩
end
end L2
namespace L2
open PySem PySem.Spec PyProof.Rows
end L2
namespace Bk
open PySem L2 Gen
end Bk
namespace Gen
open PySem L2 Bk
end Gen
namespace Bk
open PySem L2 Gen
def qe5(n:Int)(d:Nd):Bool:=decide (d.e=n)
def kk(l:List Nd)(n:Int):List Kd:=(l.filter (qe5 n)).map (·.k)
theorem qfG(a b:List Nd)(n:Int):kk (a++b) n=kk a n++kk b n:=by unfold kk;rw[List.filter_append,List.map_append]
theorem qdt{l:List Nd}{n:Int}(h:∀d∈l,d.e≠n):kk l n=[]:=by
 unfold kk;rw[List.filter_eq_nil_iff.mpr fun d hd=>by simp[qe5,h d hd]];rfl
theorem qeb(d:Nd)(l:List Nd)(n:Int):kk (d::l) n=(if d.e=n then[d.k]else[])++kk l n:=by
 unfold kk;rw[List.filter_cons]
 by_cases h:d.e=n
 ·simp[qe5,h]
 ·simp[qe5,h]
structure FoAll(e i:Nat)(l:List Nd)(ks:List Kd):Prop where
 el:∀d∈l,d.e=(e:Int)∨((i:Int)≤d.e∧d.e<i+l.length)
 top:kk l e=ks
 each:∀k d,l[k]?=some d→Holds d.k (kk l ((i+k:Nat):Int)) d.st∧d.k≠.body
theorem Forest.all{e i lv:Nat}{l:List Nd}{ks:List Kd}(x:Forest e i lv l ks):e<i→FoAll e i l ks:=by
 induction x with
 | nil=>intro _;exact⟨(fun d hd=>nomatch hd),rfl,(fun k d h=>nomatch h)⟩
 | @cons e i lv d sub rest ks ks' h1 h2 h3 f1 h4 f2 ih1 ih2 =>
   intro he
   have A:=ih1 (by omega)
   have B:=ih2 (by omega)
   have bel:∀c∈rest,c.e=(e:Int)∨((i+1+sub.length:Nat):Int)≤c.e:=fun c hc=>(B.el c hc).imp id And.left
   refine⟨fun c hc=>?_,?_,fun k c hk=>?_⟩
   · rw[List.length_cons,List.length_append]
     rcases List.mem_cons.mp hc with rfl | hc
     · exact .inl h1
     · rcases List.mem_append.mp hc with hc | hc
       · rcases A.el c hc with z | z<;>right<;>omega
       · rcases B.el c hc with z | z
         · exact .inl z
         · right;omega
   · rw[qeb,if_pos h1,qfG,qdt (l:=sub) fun c hc=>by rcases A.el c hc with z | z<;>omega,B.top]
     rfl
   · rw[qeb,qfG,if_neg (by omega)]
     cases k with
     | zero =>
       cases hk
       rw[show((i+0:Nat):Int)=(i:Int) by simp,A.top,qdt (l:=rest) fun c hc=>by rcases bel c hc with z | z<;>omega,List.append_nil]
       exact⟨h4,h3⟩
     | succ k =>
       rw[List.getElem?_cons_succ]at hk
       by_cases hs:k<sub.length
       · rw[List.getElem?_append_left hs]at hk
         obtain⟨q1,q2⟩:=A.each k c hk
         rw[qdt (l:=rest) fun c hc=>by rcases bel c hc with z | z<;>omega,List.append_nil,show i+(k+1)=i+1+k by omega]
         exact⟨q1,q2⟩
       · rw[List.getElem?_append_right (by omega)]at hk
         obtain⟨q1,q2⟩:=B.each _ c hk
         rw[qdt (l:=sub) fun c hc=>by rcases A.el c hc with z | z<;>omega,show i+(k+1)=i+1+sub.length+(k-sub.length) by omega]
         exact⟨q1,q2⟩
theorem Forest.lev{ds:List Nd}{e i lv:Nat}{l:List Nd}{ks:List Kd}(x:Forest e i lv l ks):e<i→(∀k d,l[k]?=some d→ds[i+k]?=some d)→(∃u,lv=u+1∧Lev ds e u)→∀k,k<l.length→∃u,u≤6∧Lev ds (i+k) u:=by
 induction x with
 | nil=>intro _ _ _ k hk;exact absurd hk (Nat.not_lt_zero _)
 | @cons e i lv d sub rest ks ks' h1 h2 h3 f1 h4 f2 ih1 ih2 =>
   rintro he hp ⟨u,rfl,le⟩ k hk
   have ld:Lev ds i (u+1):=.up (hp 0 d rfl) h1 he le
   have hs1:∀k c,sub[k]?=some c→ds[i+1+k]?=some c:=fun k c hc=>by
     have hk':k<sub.length:=(List.getElem?_eq_some_iff.mp hc).1
     have:=hp (k+1) c (by rw[List.getElem?_cons_succ,List.getElem?_append_left hk'];exact hc)
     rw[show i+1+k=i+(k+1) by omega];exact this
   have hs2:∀k c,rest[k]?=some c→ds[i+1+sub.length+k]?=some c:=fun k c hc=>by
     have:=hp (sub.length+k+1) c (by rw[List.getElem?_cons_succ,List.getElem?_append_right (by omega)];rw[show sub.length+k-sub.length=k by omega];exact hc)
     rw[show i+1+sub.length+k=i+(sub.length+k+1) by omega];exact this
   cases k with
   | zero=>exact⟨u+1,h2,ld⟩
   | succ k =>
     rw[List.length_cons,List.length_append]at hk
     by_cases hs:k<sub.length
     · obtain⟨v,v1,v2⟩:=ih1 (by omega) hs1 ⟨u+1,rfl,ld⟩ k hs
       exact⟨v,v1,by rw[show i+(k+1)=i+1+k by omega];exact v2⟩
     · obtain⟨v,v1,v2⟩:=ih2 (by omega) hs2 ⟨u,rfl,le⟩ (k-sub.length) (by omega)
       exact⟨v,v1,by rw[show i+(k+1)=i+1+sub.length+(k-sub.length) by omega];exact v2⟩
inductive Up(ds:List Nd):Nat→Nat→Nat→Prop
 | here {a:Nat}:Up ds a a 0
 | step {a b j m:Nat} {d:Nd}:ds[a]?=some d→d.e=(j:Int)→Up ds j b m→Up ds a b (m+1)
theorem Up.trans{ds:List Nd}{a b m:Nat}(x:Up ds a b m):∀{c n:Nat},Up ds b c n→∃k,Up ds a c k:=by
 induction x with
 | here=>intro c n y;exact⟨n,y⟩
 | step h1 h2 _ ih =>
   intro c n y
   obtain⟨k,z⟩:=ih y
   exact⟨k+1,.step h1 h2 z⟩
theorem Forest.up{ds:List Nd}{e i lv:Nat}{l:List Nd}{ks:List Kd}(x:Forest e i lv l ks):e<i→(∀k d,l[k]?=some d→ds[i+k]?=some d)→(∃m,Up ds (i-1) e m) →
  (∀k d,l[k]?=some d→∃j m:Nat,d.e=(j:Int)∧Up ds (i+k-1) j m)∧∃m,Up ds (i+l.length-1) e m:=by
 induction x with
 | nil=>rintro _ _ hu;exact⟨(fun k d h=>nomatch h),hu⟩
 | @cons e i lv d sub rest ks ks' h1 h2 h3 f1 h4 f2 ih1 ih2 =>
   rintro he hp hu
   have hs1:∀k c,sub[k]?=some c→ds[i+1+k]?=some c:=fun k c hc=>by
     have hk':k<sub.length:=(List.getElem?_eq_some_iff.mp hc).1
     have:=hp (k+1) c (by rw[List.getElem?_cons_succ,List.getElem?_append_left hk'];exact hc)
     rw[show i+1+k=i+(k+1) by omega];exact this
   have hs2:∀k c,rest[k]?=some c→ds[i+1+sub.length+k]?=some c:=fun k c hc=>by
     have:=hp (sub.length+k+1) c (by rw[List.getElem?_cons_succ,List.getElem?_append_right (by omega)];rw[show sub.length+k-sub.length=k by omega];exact hc)
     rw[show i+1+sub.length+k=i+(sub.length+k+1) by omega];exact this
   obtain⟨a1,m1,a2⟩:=ih1 (by omega) hs1 ⟨0,by rw[show i+1-1=i by omega];exact .here⟩
   have ie:Up ds i e 1:=.step (hp 0 d rfl) h1 .here
   obtain⟨m2,u2⟩:=a2.trans ie
   obtain⟨b1,m3,b2⟩:=ih2 (by omega) hs2 ⟨m2,u2⟩
   refine⟨fun k c hk=>?_,m3,?_⟩
   · cases k with
     | zero =>
       cases hk
       obtain⟨m,u⟩:=hu
       exact⟨e,m,h1,u⟩
     | succ k =>
       rw[List.getElem?_cons_succ]at hk
       by_cases hs:k<sub.length
       · rw[List.getElem?_append_left hs]at hk
         obtain⟨j,m,q1,q2⟩:=a1 k c hk
         exact⟨j,m,q1,by rw[show i+(k+1)-1=i+1+k-1 by omega];exact q2⟩
       · rw[List.getElem?_append_right (by omega)]at hk
         obtain⟨j,m,q1,q2⟩:=b1 _ c hk
         exact⟨j,m,q1,by rw[show i+(k+1)-1=i+1+sub.length+(k-sub.length)-1 by omega];exact q2⟩
   · rw[List.length_cons,List.length_append,show i+(sub.length+rest.length+1)-1=i+1+sub.length+rest.length-1 by omega]
     exact b2
structure NdOf(ds:List Nd)(n:Nat)(d:Nd):Prop where
 kids:Holds d.k (kk ds n) d.st
 body:d.k=.body↔n=0
 lev:∃u,u≤6∧Lev ds n u
 up:(n=0∧d.e=-1)∨(0<n∧∃j m:Nat,d.e=(j:Int)∧j<n∧Up ds (n-1) j m)
theorem Book.each{ds:List Nd}(b:Book ds){n:Nat}{d:Nd}(h:ds[n]?=some d):NdOf ds n d:=by
 obtain⟨d0,sub,ks,rfl,e0,k0,f,hh⟩:=b.tree;have A:=f.all (by decide);have hp:∀k c,sub[k]?=some c→(d0::sub)[1+k]?=some c:=fun k c hc=>by rw[Nat.add_comm,List.getElem?_cons_succ];exact hc
 have l0:Lev (d0::sub) 0 0:=.top rfl e0;have kc:∀n:Nat,kk (d0::sub) n=kk sub n:=fun n=>by rw[qeb,if_neg (by omega)];rfl
 cases n with
 | zero =>
   cases h
   refine⟨?_,by simp[k0],⟨0,by decide,l0⟩,.inl ⟨rfl,e0⟩⟩
   rw[k0,kc,show((0:Nat):Int)=((0:Nat):Int)from rfl,A.top]
   exact hh
 | succ k =>
   rw[List.getElem?_cons_succ]at h
   obtain⟨q1,q2⟩:=A.each k d h
   have hk:k<sub.length:=(List.getElem?_eq_some_iff.mp h).1
   obtain⟨u,u1,u2⟩:=f.lev (by decide) hp ⟨0,rfl,l0⟩ k hk
   obtain⟨c1,_⟩:=f.up (ds:=d0::sub) (by decide) hp ⟨0,.here⟩
   obtain⟨j,m,ej,uj⟩:=c1 k d h
   obtain⟨j',ej',lt⟩:=f.elds (by decide) k d h
   have:j=j':=by omega
   subst this
   refine⟨?_,⟨fun z=>absurd z q2,fun z=>absurd z (by omega)⟩,⟨u,u1,by rw[Nat.add_comm];exact u2⟩,.inr ⟨by omega,j,m,ej,by omega,?_⟩⟩
   · rw[kc,show((k+1:Nat):Int)=((1+k:Nat):Int) by omega]
     exact q1
   · rw[show k+1-1=1+k-1 by omega]
     exact uj
end Bk
namespace Gen
open PySem L2 Bk
end Gen
namespace Bk
open PySem L2
def propNames:List Str:=props.map (·.1)
end Bk
namespace L2
open PySem PySem.Spec PyProof.Rows
end L2
namespace Gen
open PySem L2 Bk
end Gen
namespace Bd
open PySem L2 Bk Gen Gd
def lkA(ls:List (List Int))(n i:Nat):Int:=((ls[n]?).getD []).getD i 0
def bsA(bs:List (Int×Int))(n:Nat):Int×Int:=(bs[n]?).getD (0,0)
def qav(ds:List Nd)(n:Nat):List Nat:=(List.range ds.length).filter fun j=>decide (ds[j]?.map Nd.e=some (n:Int))
def qaS(ls:List (List Int))(bs:List (Int×Int))(m:Nat):Int:=max (bsA bs m).1 (lkA ls m 5)
def qbC(ls:List (List Int))(bs:List (Int×Int))(m:Nat):Int:=max (lkA ls m 6) (qaS ls bs m)
section
variable{ds:List Nd}{ls:List (List Int)}
theorem bsA_set{bs:List (Int×Int)}{i m:Nat}{v:Int×Int}(h:i≠m):bsA (bs.set i v) m=bsA bs m:=by
 unfold bsA;rw[List.getElem?_set_ne h]
theorem bsA_self{bs:List (Int×Int)}{i:Nat}{v:Int×Int}(h:i<bs.length):bsA (bs.set i v) i=v:=by
 unfold bsA;rw[List.getElem?_set_self h];rfl
theorem qbv{n m:Nat}(h:m∈qav ds n):m<ds.length:=List.mem_range.mp (List.mem_filter.mp h).1
theorem qfP{n m:Nat}(h:m∈qav ds n):∃d,ds[m]?=some d∧d.e=(n:Int):=by
 have h2:=of_decide_eq_true (List.mem_filter.mp h).2;obtain⟨d,e1,e2⟩:=Option.map_eq_some_iff.mp h2;exact⟨d,e1,e2⟩
def qdU(ds:List Nd):Prop:=∀(m:Nat) (d:Nd),ds[m]?=some d→d.e<(m:Int)
end
theorem qcj(ds:List Nd)(n:Nat):qbO ds n ds.length=(qav ds n).map fun(j:Nat)=>(j:Int):=rfl
theorem qcO(ds:List Nd)(n:Nat):(qav ds n).length≤ds.length:=Nat.le_trans (List.length_filter_le _ _) (by simp)
theorem qft{names:List (Str×NameKind)}{a b c:Str}(h:names.lookup a=some .cell)(h':names.lookup b=some .cell)(h'':names.lookup c=some .cell):∀x∈[a,b,c],names.lookup x=some .cell∨names.lookup x=some .free:=fun x hx=>by
 rcases List.mem_cons.mp hx with rfl | hx
 ·exact .inl h
 ·exact qa9 h' h'' x hx
theorem pget{α β:Type}{F:α→β→Prop}{l1:List α}{l2:List β}(h:Paired F l1 l2){i:Nat}{b:β}(e:l2[i]?=some b):∃a,l1[i]?=some a∧F a b:=by
 induction h generalizing i with
 | nil=>cases e
 | @cons a b l1 l2 q t ih =>
   cases i with
   | zero=>cases e;exact⟨a,rfl,q⟩
   | succ i=>exact ih (by simpa using e)
theorem _root_.PySem.Paired.set{α β:Type}{F:α→β→Prop}{l1:List α}{l2:List β}(h:Paired F l1 l2){a:α}{b:β}(q:F a b):∀i,Paired F (l1.set i a) (l2.set i b):=by
 induction h with
 | nil=>intro i;exact .nil
 | cons q' t ih =>
   intro i
   cases i with
   | zero=>exact .cons q t
   | succ i=>exact .cons q' (ih i)
def PrAt(H:Hp)(a:Addr)(x:Int×Int):Prop:=H a=some (.tup [.int x.1,.int x.2])
def LkAt(H:Hp)(a:Addr)(l:List Int):Prop:=H a=some (.lst (l.map V.int))
theorem PrAt.same{H H':Hp}(s:Same H H'){a:Addr}{x:Int×Int}(h:PrAt H a x):PrAt H' a x:=s _ _ h
theorem LkAt.same{H H':Hp}(s:Same H H'){a:Addr}{x:List Int}(h:LkAt H a x):LkAt H' a x:=s _ _ h
theorem qeO{β:Type}{F:Hp→Addr→β→Prop}{H H':Hp}(hF:∀a x,F H a x→F H' a x)(s:Same H H'){L:Addr}{xs:List β}(h:LstAt F H L xs):LstAt F H' L xs:=by
 obtain⟨as,e,p⟩:=h;exact⟨as,s _ _ e,p.mono hF⟩
theorem qaA{H H':Hp}(s:Same H H'){p:Addr}{ls:List (List Int)}(h:LstAt LkAt H p ls):LstAt LkAt H' p ls:=qeO (fun _ _=>LkAt.same s) s h
theorem qaK{H H':Hp}(s:Same H H'){p:Addr}{bs:List (Int×Int)}(h:LstAt PrAt H p bs):LstAt PrAt H' p bs:=qeO (fun _ _=>PrAt.same s) s h
structure LkOk(l:List Int):Prop where
 len:l.length=13
 ins:0≤l.getD 3 0
 least:0≤l.getD 5 0
 most:0≤l.getD 6 0
 cols:1≤l.getD 7 0∧l.getD 7 0≤6
 span:1≤l.getD 8 0∧l.getD 8 0≤6
 wide:0≤l.getD 11 0
def qb9(y:Str)(j:Nat):Prop:=propNames[j]?=some y∧∀i:Nat,i<j→propNames[i]?≠some y
structure PropT(K:PySem.W.Frag)(a:Addr):Prop where
 tup:∀H:Hp,SqT K H a (propNames.map V.str)
 ob:∃o,K.lookup a=some o∧o.cls=.type "tuple" ∧ o.dict=none
def spLook:Sp:=fun vs H Q _=>∃(p:Addr) (n j:Nat) (y:Str) (ls:List (List Int)),vs=[.ref p,.int n,.str y]∧LstAt LkAt H p ls∧n<ls.length∧(∀l∈ls,l.length=13)∧j<13∧qb9 y j∧Q (.int (lkA ls n j)) H
def spOf(f:List (List Int)→List (Int×Int)→Nat→Int):Sp:=fun vs H Q _=>∃(p L:Addr) (m:Nat) (ls:List (List Int)) (bs:List (Int×Int)),vs=[.ref p,.ref L,.int m]∧LstAt LkAt H p ls∧LstAt PrAt H L bs∧m<ls.length∧m<bs.length∧(∀l∈ls,l.length=13)∧Q (.int (f ls bs m)) H
end Bd
namespace Bd
open PySem L2 Bk Gen Gd
theorem book_behind{ds:List Nd}(b:Book ds):qdU ds:=fun m d h=>by
 rcases(Bk.Book.each b h).up with⟨rfl,e⟩ | ⟨pos,j,x,ej,lt,_⟩
 ·omega
 ·omega
def LkN(N:Addr→Prop)(H:Hp)(a:Addr)(l:List Int):Prop:=N a∧H a=some (.lst (l.map V.int))
theorem LkN.keep{N N':Addr→Prop}{H H':Hp}{a:Addr}{l:List Int}(h:LkN N H a l)(k:KeepN N H H')(sub:∀b,N b→(H b).isSome=true→N' b):LkN N' H' a l:=⟨sub _ h.1 (by rw[h.2];rfl),k _ _ h.1 h.2⟩
def spHeld:Sp:=fun vs H Q _=>∃(B:Addr) (n:Nat) (ds:List Nd),vs=[.ref B,.int n]∧qbd (fun _=>True) H B ds∧ds.length≤100∧∀(L:Addr) (H':Hp),H L=none→Same H H'→H' L=some (.lst (((qav ds n).map fun(j:Nat)=>(j:Int)).map V.int))→Q (.ref L) H'
open PySem.W (Dat kqdOk) in
def lkD(l:List Int):Dat:=.list (l.map Dat.int)
open PySem.W (Dat kqdOk) in
def prD(x:Int×Int):Dat:=.tuple [.int x.1,.int x.2]
theorem qfb{H:Hp}{a:Addr}{x:Int×Int}(h:PrAt H a x):DIn H (.ref a) (prD x):=.tup h (.cons (.int _) (.cons (.int _) .nil))
theorem qbY{H:Hp}:∀{as:List Addr} {xs:List (Int×Int)},Paired (PrAt H) as xs→DAll H (as.map V.ref) (xs.map prD)
 | _,_,.nil=>.nil
 | _,_,.cons h t=>.cons (qfb h) (qbY t)
theorem qfH{H:Hp}:∀{as:List Addr} {xs:List (List Int)},Paired (LkAt H) as xs→DAll H (as.map V.ref) (xs.map lkD)
 | _,_,.nil=>.nil
 | _,_,.cons h t=>.cons (.lst h (qfU _)) (qfH t)
theorem qfv(x:Int×Int):PySem.W.kqdOk 9 (prD x)=true:=by simp[prD,PySem.W.kqdOk]
theorem qcE(xs:List (Int×Int)):PySem.W.kqdOk 9 (.list (xs.map prD))=true:=by
 simp only[PySem.W.kqdOk,List.all_eq_true,List.mem_map];rintro _ ⟨x,_,rfl⟩;simp[prD,PySem.W.kqdOk]
theorem pc_ok5{x:Th}(h:PcOk x):PySem.W.kqdOk 5 (thD x)=true:=by
 cases x with
 | int n=>cases h
 | tri s x t =>
   cases s<;>cases x<;>first | (exfalso;exact h) | skip
   · have:=word_str h.1
     simp[thD,thgD,PySem.W.kqdOk,this,qfe]
   · have:=qdq (.inr h.1)
     simp[thD,thgD,PySem.W.kqdOk,this,qfe]
   · simp[thD,thgD,PySem.W.kqdOk,qfe]
theorem stuff_ok5{k:Kd}{l:List Th}(h:Stuff k l):∀x∈l,PySem.W.kqdOk 5 (thD x)=true:=by
 intro x hx;cases k<;>first
  | (obtain⟨h1,_⟩:=h;exact pc_ok5 (h1 x hx))
  | (obtain⟨a,b,rfl,_⟩:=h;rcases List.mem_cons.mp hx with rfl | hx;rfl;have:x=.int b:=(by simpa using hx);subst this;rfl)
  | (have:l=[]:=h;subst this;cases hx)
theorem bk_ok8{ds:List Nd}(h:∀d∈ds,Form d):PySem.W.kqdOk 8 (bkD ds)=true:=by
 simp only[bkD,PySem.W.kqdOk,List.all_eq_true,List.mem_map];rintro _ ⟨d,hd,rfl⟩;have f:=h d hd;have h1:=qdq f.nm;have h2:∀m∈d.mks,PyData.strOk m=true:=fun m hm=>qdq (.inr (f.mks.2.1 m hm))
 have h3:=stuff_ok5 f.st;simp only[ndD,PySem.W.kqdOk,List.all_cons,List.all_nil,Bool.and_true,Bool.and_eq_true,List.all_eq_true,List.mem_map];refine⟨trivial,kd_str _,h1,?_,?_⟩
 ·rintro x ⟨m,hm,rfl⟩;exact h2 m hm
 ·rintro x ⟨m,hm,rfl⟩;exact h3 m hm
end Bd
namespace L2
open PySem PySem.Spec PyProof.Rows
end L2
namespace Gen
open PySem L2 Bk
theorem _root_.Bk.Forest.lower{e i lv:Nat}{l:List Nd}{ks:List Kd}(x:Forest e i lv l ks):∀{lv':Nat},lv'≤lv→Forest e i lv' l ks:=by
 induction x with
 | nil=>intro lv' h;exact .nil
 | cons h1 h2 h3 f1 h4 f2 ih1 ih2 =>
   intro lv' h
   exact .cons h1 (Nat.le_trans h h2) h3 (ih1 (Nat.succ_le_succ h)) h4 (ih2 h)
theorem More.lower{e lv lv':Nat}{ds more:List Nd}{ks:List Kd}(m:More e lv ds more ks)(h:lv'≤lv):More e lv' ds more ks:=⟨m.fo.lower h,m.fm,m.nm⟩
def spBook3:Sp:=fun vs H Q _=>∃(st:Addr),vs=[.ref st]∧StOk H st∧∀(p:Addr) (ds:List Nd) (H':Hp),Book ds→ds.length≤100→H p=none→qbd (qfX H) H' p ds→StOk H' st→Keep1 st H H'→Q (.ref p) H'
end Gen
namespace Bd
open PySem L2 Bk Gen Gd
end Bd
namespace K22
open PySem L2 Bk Gen
section
variable{P:Program}{w:World}{K:PySem.W.Frag}{mg:Str→Option Value}{base:Heap}
theorem scBook:FnScope ["_law_stream_here", "_law_nodes", "_law_k", "_law_at"] ["_law_stream_here"] (qag sBook):=⟨rfl,rfl,rfl,by decide +kernel,rfl,by decide +kernel,by decide +kernel⟩
theorem ok_book{f:Addr}{fd:FuncData}(F:Fun K "_law_book" "_law_book" sBook f fd)(T:Bn mg)(F_take:Fx P w K mg base CX0 1 "_law_take" ["_law_stream_here", "_law_most"] spTake)(F_add:Fx P w K mg base CX0 1 "_law_add" ["_law_nodes", "_law_elder", "_law_kind", "_law_stuff"] spAdd2)(F_item:Fx P w K mg base CX0 9 "_law_item" ["_law_nodes", "_law_elder", "_law_level", "_law_stream_here"] (qbK 4)):FnOk P w K mg base CX0 10 f fd ["_law_stream_here"] spBook3:=by
 refine F.ok scBook (fun vs H Q E h=>?_) (fun cdv A outer s H vs Q E hr h=>?_)
 ·obtain⟨st,rfl,_⟩:=h;rfl
 ·obtain⟨st,rfl,S,q⟩:=h;have hr_take:Room 1 _:=hr.mono (by decide);have hr_add:Room 1 _:=hr.mono (by decide);have hr_item:=hr;refine⟨_,(qab (qah (i:=1) scBook.nd (by rfl) (by trivial) (qaB (qaa (qaO (qaa (qe4 un_neg qae) (qaa qau (qaa qau (qaa (qaB pa_nil) (qaa (qaB pa_nil) pa_nil)))))) pa_nil)))
   (qab (qaR PassesOwn.never (by rfl) (qaH (by rfl) T.range (qaa (qas op_add qae (qan F_take hr_take (by rfl) qao (qaa (pv 0) (qaa qae pa_nil)))) pa_nil)) (qai (i:=2) scBook.nd (by rfl) (by trivial))
   (qaf (qaP (qan F_item hr_item (by rfl) qao (qaa (pv 1) (qaa qae (qaa qae (qaa (pv 0) pa_nil))))))))
   (qab (qaM (PW.pt (qbT (qam op_eq (qan F_take hr_take (by rfl) qao (qaa (pv 0) (qaa qae pa_nil))) qae (qaq _)) (qbB (qam op_lt (qal call_len_seq (by rfl) T.len b_len (qaa (pv 1) pa_nil)) qae (qaq _))))) (qab (qah (i:=3) scBook.nd (by rfl) (by trivial) (qan F_add hr_add (by rfl) qao (qaa (pv 1) (qaa qae (qaa (qaj ix_list (qaB (qaa qau (qaa qau pa_nil))) (qan F_take hr_take (by rfl) qao (qaa (pv 0) (qaa qae pa_nil))) (fun _ _=>rfl)) (qaa (qaB pa_nil) pa_nil))))))
   (qaf (qaR PassesOwn.never (by rfl) (qaH (by rfl) T.range (qaa (qas op_add qae (qan F_take hr_take (by rfl) qao (qaa (pv 0) (qaa qae pa_nil)))) pa_nil)) (qai (i:=2) scBook.nd (by rfl) (by trivial))
   (qaf (qaP (qan F_item hr_item (by rfl) qao (qaa (pv 1) (qaa (pv 3) (qaa qae (qaa (pv 0) pa_nil)))))))))) pss_nil)
   (qaf (qat (pv 1)))))),?_⟩
  refine⟨_,rfl,by show 0≤sizeLine;decide,fun mk hmk=>⟨by show 0≤sizeLine;decide,fun sf hsf=>⟨by show 5≤sizeLine;decide,fun a ha=>⟨by show 1≤sizeLine;decide,fun p hp=>?_⟩⟩⟩⟩;have s1:=qad hmk (.lst []);have s2:=qad hsf (.lst []);have s3:=qad ha (.tup [.int (-1),.str (Str.ofString "body"),.str (Str.ofString ""),.ref mk,.ref sf]);have s4:=qad hp (.lst [V.ref a]);have s14:Same H _:=((s1.trans s2).trans s3).trans s4;have hp0:H p=none:=((s1.trans s2).trans s3).free hp;have G1:Gs H st p (upd (upd (upd (upd H mk (.lst [])) sf (.lst [])) a (.tup [.int (-1),.str (Str.ofString "body"),.str (Str.ofString ""),.ref mk,.ref sf])) p (.lst [V.ref a])) [bodyNd]:=by
   refine⟨S.same s14,S.some,hp0,s14.keep,[a],qac,.cons ⟨⟨(s1.trans s2).free ha,qga (s4 _ _ qac) qac (by intro z;cases z)⟩,mk,sf,s4 _ _ qac,⟨hmk,qaw ⟨_,(s2.trans s3) _ _ qac⟩ hp |>.symm⟩,(s2.trans (s3.trans s4)) _ _ qac,⟨s1.free hsf,(qaw ⟨_,s3 _ _ qac⟩ hp).symm⟩,[],(s3.trans s4) _ _ qac,.nil⟩ .nil⟩
  generalize upd (upd (upd (upd H mk (.lst [])) sf (.lst [])) a (.tup [.int (-1),.str (Str.ofString "body"),.str (Str.ofString ""),.ref mk,.ref sf])) p (.lst [V.ref a])=H1 at G1 s14⊢;refine⟨_,rfl,st,4,rfl,G1.so,by decide,by decide,fun r HB r0 r1 SB KB=>?_⟩;have GB:=G1.keep1 KB SB;refine⟨_,_,rfl,rfl,_,rfl,by omega,by omega,qaN (fun j σ H2=>∃(sub:List Nd) (ks:List Kd) (v:Option V),σ=[some (.ref st),some (.ref p),v,none]∧Kids 0 0 .body [bodyNd] sub ks∧(0<j→ks≠[])∧CapB 12 0 j (1+sub.length)∧Gs H st p H2 (bodyNd::sub))
   ⟨[],[],none,rfl,kids0,(fun z=>absurd z (Nat.lt_irrefl 0)),.inl (by simp),GB⟩ ?_ ?_⟩
  ·rintro j σ H2 hj ⟨sub,ks,v,rfl,kids,hks,cb,G2⟩;have j4:j<4:=by simp at hj;omega
   have le60:1+sub.length≤60:=by
    unfold CapB cap at cb;simp at cb;omega
   refine⟨_,rfl,_,rfl,H,p,st,0,1,bodyNd,bodyNd::sub,rfl,G2,rfl,.inl rfl,by decide,by decide,by decide,by rw[List.length_cons];omega,kids.ok,kids.nm,fun more ks' H3 mo ik m3 mc G3 K3=>?_⟩;refine⟨sub++more,ks++ks',_,rfl,kids.more (by show(bodyNd::sub).length=0+1+sub.length;rw[List.length_cons];omega) mo ik,(fun _=>by have:=ik.ne;simp[this]),?_,G3⟩
   ·refine qdX cb (fun z=>?_) (fun z=>?_)
    ·have:=m3 (by rw[List.length_cons];omega);rw[List.length_append];omega
    ·have:=mc (by rw[List.length_cons];omega);rw[List.length_cons]at this;rw[List.length_append];show 1+(sub.length+more.length)≤cap 12 1;omega
  ·rintro σ H2 ⟨sub,ks,v,rfl,kids,hks,cb,G2⟩;have kne:=hks (by simp;omega);have le:1+sub.length≤51:=by
    unfold CapB cap at cb;simp at cb;omega
   dsimp only;refine qbA (fun σ' H'=>∃(sub':List Nd) (ks':List Kd) (v3 v4:Option V),σ'=[some (.ref st),some (.ref p),v3,v4]∧Kids 0 0 .body [bodyNd] sub' ks'∧ks'≠[]∧1+sub'.length≤100∧Gs H st p H' (bodyNd::sub')) (fun D' hD=>?_) ?_
   ·refine⟨_,rfl,st,8,rfl,G2.so,by decide,by decide,fun r8 H3 r80 r81 S3 K3=>⟨rfl,_,rfl,?_⟩⟩;have G3:=G2.keep1 K3 S3;refine ite2 (fun _=>?_) (fun _=>?_)
    rotate_left
    ·exact iteF (hD _ _ ⟨sub,ks,_,_,rfl,kids,kne,by omega,G3⟩)
    obtain⟨as3,hp3,nd3⟩:=G3.bk;have las:as3.length=1+sub.length:=by rw[nd3.length,List.length_cons];omega
    refine⟨_,rfl,p,_,rfl,.inl (SqL.of hp3),_,_,rfl,rfl,_,rfl,?_⟩;refine ite2 (fun _=>?_) (fun _=>?_)
    rotate_left
    ·exact hD _ _ ⟨sub,ks,_,_,rfl,kids,kne,by omega,G3⟩
    refine⟨_,rfl,by show 2≤sizeLine;decide,fun t ht=>?_⟩;have s4:=qad ht (.lst [V.str (Str.ofString "shelf"),V.str (Str.ofString "grid")]);have tst:t≠st:=qaw G3.so.some ht;refine⟨_,rfl,st,2,rfl,G3.so.same s4,by decide,by decide,fun r9 H5 r90 r91 S5 K5=>?_⟩;obtain⟨k2,ek2,hk2⟩:∃k2:Kd,atI [V.str (Str.ofString "shelf"),V.str (Str.ofString "grid")] r9=some (.str k2.s)∧(k2=.shelf∨k2=.grid):=by
     rcases(by omega:r9=0∨r9=1)with rfl | rfl
     ·exact⟨.shelf,rfl,.inl rfl⟩
     ·exact⟨.grid,rfl,.inr rfl⟩
    refine⟨t,_,_,_,rfl,rfl,SqL.of (K5 _ _ tst qac),ek2,by show 0≤sizeLine;decide,fun sf2 hsf2=>?_⟩;have G5:=G3.keep1 (s4.keep.trans K5) S5;have s6:=qad hsf2 (.lst []);refine⟨H,p,st,sf2,0,k2,[],bodyNd::sub,rfl,G5.same s6,⟨G5.fresh hsf2,_,qac,.nil⟩,by rw[List.length_cons];omega,fun d H7 de' dk dst dm dn G7 K7=>?_⟩;have ct2:Cont k2:=by rcases hk2 with h | h<;>rw[h]<;>simp[Cont]
    refine⟨_,rfl,st,6,rfl,G7.so,by decide,by decide,fun r10 H8 r100 r101 S8 K8=>⟨_,_,rfl,rfl,_,rfl,by omega,by omega,?_⟩⟩;have G8:=G7.keep1 K8 S8;refine qaN (fun j σ H9=>∃(sb:List Nd) (kl:List Kd) (v:Option V),σ=[some (.ref st),some (.ref p),v,some (.int ((bodyNd::sub).length:Nat))]∧Kids (bodyNd::sub).length 1 k2 ((bodyNd::sub)++[d]) sb kl∧(0<j→kl≠[])∧sb.length≤14+3*j∧Gs H st p H9 ((bodyNd::sub)++[d]++sb))
     ⟨[],[],_,rfl,⟨.nil,(fun d hd=>nomatch hd),by rw[List.append_nil];exact qbr kids.nm dn,by rw[List.append_nil];exact qeN kids.ok dn,(fun c hc=>nomatch hc),trivial⟩,(fun z=>absurd z (Nat.lt_irrefl 0)),Nat.zero_le _,by rw[List.append_nil];exact G8⟩ ?_ ?_
    ·rintro j σ H9 hj ⟨sb,kl,v,rfl,kd2,hks2,sl,G9⟩;have j9:j<9:=by omega
     have l9:((bodyNd::sub)++[d]++sb).length=(bodyNd::sub).length+1+sb.length:=by rw[List.length_append,List.length_append];rfl
     have lb:(bodyNd::sub).length=1+sub.length:=by rw[List.length_cons];omega
     refine⟨_,rfl,_,rfl,_,rfl,H,p,st,(bodyNd::sub).length,4,d,(bodyNd::sub)++[d]++sb,rfl,G9,?_,by rw[dk];exact ct2,by decide,by decide,by decide,by omega,kd2.ok,kd2.nm,fun more ks' HA mo ik m3 mc GA KA=>?_⟩
     ·rw[List.append_assoc,List.getElem?_append_right (Nat.le_refl _)];simp
     rw[dk]at ik;refine⟨sb++more,kl++ks',_,rfl,kd2.more l9 (mo.lower (by decide)) ik,(fun _=>by have:=ik.ne;simp[this]),?_,by rw[←List.append_assoc];exact GA⟩;rw[List.length_append]
     by_cases z:12≤((bodyNd::sub)++[d]++sb).length
     ·have:=m3 z;omega
     ·have:=mc (by omega);rw[show cap 12 4=14 from rfl]at this;omega
    ·rintro σ H9 ⟨sb,kl,v,rfl,kd2,hks2,sl,G9⟩;have ee:(bodyNd::sub)++(d::sb)=(bodyNd::sub)++[d]++sb:=by simp
     have mo:=qet (e:=0) (lv:=1) de' (by decide) (by rw[dk];rcases hk2 with h | h<;>rw[h]<;>simp) dst dm dn (by rw[dk];exact kd2) (fun _=>hks2 (by omega));rw[dk]at mo;have nb:(bodyNd::sub).length=0+1+sub.length:=by rw[List.length_cons];omega
     refine hD _ _ ⟨sub++(d::sb),ks++[k2],_,_,rfl,kids.more nb mo (.inl ⟨k2,rfl,by rcases hk2 with h | h<;>rw[h]<;>decide,by rcases hk2 with h | h<;>rw[h]<;>rfl⟩),by simp,by rw[List.length_append,List.length_cons];omega,?_⟩;have e2:bodyNd::(sub++d::sb)=(bodyNd::sub)++[d]++sb:=by simp
     rw[e2];exact G9
   rintro _ H3 ⟨sub',ks',v3,v4,rfl,kids',kne',le',G3⟩;have fms:∀d∈bodyNd::sub',Form d:=fun d hd=>by
    rcases List.mem_cons.mp hd with rfl | h
    ·exact body_form
    ·exact kids'.fm d h
   obtain⟨as,hp2,nd⟩:=G3.bk;refine⟨_,rfl,q p (bodyNd::sub') _ ⟨⟨bodyNd,sub',ks',rfl,rfl,rfl,kids'.fo,kids'.may,(fun _=>kne'),kids'.nx,(fun z=>nomatch z)⟩,fms,kids'.nm⟩ (by rw[List.length_cons];omega) hp0 ⟨as,hp2,nd.keep (N':=qfX H) KeepN.refl fun b n _=>n.1⟩ G3.so G3.old⟩
end
end K22
namespace Tim
open PySem PyProof.Rows
abbrev SM:=StateT SortSt Sem
def gal:Bool→Keyed→Array Keyed→Nat→Nat→Nat→SM (Option Nat):=sortPriv% PySem.Builtin.gallop
def askG(l:Bool)(k:Keyed)(xs:Array Keyed)(b i:Nat):SM (Option Bool):=do
 let x ← elem' xs (b+i); if l then lt' x k else return (← lt' k x).map (!·)
theorem gal_eq(l:Bool)(k:Keyed)(xs:Array Keyed)(b n h:Nat):gal l k xs b n h=(do
  let mut u:=0; let mut v:=1; let mut p:=0; let mut q:=0
  let some r ← askG l k xs b h | return none
  if r then
   let m:=n - h
   for _ in [0:n] do
    if v ≥ m then break
    let some c ← askG l k xs b (h+v) | return none
    if !c then break
    u:=v; v:=2*v+1
   p:=h+u+1; q:=h+min v m
  else
   let m:=h+1
   for _ in [0:n] do
    if v ≥ m then break
    let some c ← askG l k xs b (h - v) | return none
    if c then break
    u:=v; v:=2*v+1
   p:=h+1 - min v m; q:=h - u
  for _ in [0:n] do
   if p ≥ q then break
   let m:=p+(q - p) / 2
   let some c ← askG l k xs b m | return none
   if c then p:=m+1 else q:=m
  return some q):=rfl
structure Ord(prog:Program)(w:World)(A:Around)(s:Shared)(κ:SortKind)(D:Keyed→Prop)(L:Keyed→Keyed→Bool):Prop where
 ask:∀(E:Value→Shared→Prop) (x y:Keyed) (Q:Option Bool→SortSt→Prop) (st:SortSt),kindOf st=κ→D x→D y→Q (some (L x y)) st→wpS (model prog w) A E s (lt' x y) Q st
 irr:∀x,D x→L x x=false
 tr:∀x y z,D x→D y→D z→L x y=false→L y z=false→L x z=false
 asy:∀x y,D x→D y→L x y=true→L y x=false
section
variable{prog:Program}{w:World}{A:Around}{E:Value→Shared→Prop}{s:Shared}{κ:SortKind}{D:Keyed→Prop}{L:Keyed→Keyed→Bool}
def bey(L:Keyed→Keyed→Bool)(l:Bool)(k x:Keyed):Bool:=if l then L x k else !L k x
theorem qdB(O:Ord prog w A s κ D L){l:Bool}{k x:Keyed}{xs:Array Keyed}{b i:Nat}{Q:Option Bool→SortSt→Prop}{st:SortSt}(hk:kindOf st=κ)(dk:D k)(hx:xs[b+i]?=some x)(dx:D x)(h:Q (some (bey L l k x)) st):wpS (model prog w) A E s (askG l k xs b i) Q st:=by
 unfold askG;rw[elem'_eq,hx];refine wpS_bind (wpS_pure ?_);cases l with
 | true=>exact O.ask E x k Q st hk dx dk h
 | false=>exact wpS_bind (O.ask E k x _ st hk dk dx (wpS_pure h))
def Cut(L:Keyed→Keyed→Bool)(l:Bool)(k:Keyed)(xs:Array Keyed)(b n c:Nat):Prop:=c≤n∧(∀i x,i<c→xs[b+i]?=some x→bey L l k x=true)∧∀i x,c≤i→i<n→xs[b+i]?=some x→bey L l k x=false
structure Run(D:Keyed→Prop)(L:Keyed→Keyed→Bool)(xs:Array Keyed)(b n:Nat):Prop where
 has:∀i,i<n→∃x,xs[b+i]?=some x∧D x
 ord:∀i j x y,i≤j→j<n→xs[b+i]?=some x→xs[b+j]?=some y→L y x=false
theorem Run.bey_up(O:Ord prog w A s κ D L){xs:Array Keyed}{b n:Nat}(R:Run D L xs b n){l:Bool}{k:Keyed}(dk:D k){i j:Nat}{x y:Keyed}(hij:i≤j)(hj:j<n)(ex:xs[b+i]?=some x)(ey:xs[b+j]?=some y)(h:bey L l k y=true):bey L l k x=true:=by
 obtain⟨x',ex',dx⟩:=R.has i (by omega);rw[ex]at ex';cases ex';obtain⟨y',ey',dy⟩:=R.has j hj;rw[ey]at ey';cases ey';have o:=R.ord i j x y hij hj ex ey;cases l with
 | true =>
   show L x k=true
   have h':L y k=true:=h
   cases e:L x k with
   | true=>rfl
   | false=>rw[O.tr y x k dy dx dk o e]at h';cases h'
 | false =>
   show(!L k x)=true
   have h':(!L k y)=true:=h
   have h2:L k y=false:=by simpa using h'
   rw[O.tr k y x dk dy dx h2 o]
   rfl
theorem qdk(O:Ord prog w A s κ D L){l:Bool}{k:Keyed}{xs:Array Keyed}{b n h:Nat}{Q:Option Nat→SortSt→Prop}{st:SortSt}(hk:kindOf st=κ)(dk:D k)(R:Run D L xs b n)(hh:h < n)(q:∀ c,Cut L l k xs b n c→Q (some c) st):wpS (model prog w) A E s (gal l k xs b n h) Q st:=by
 rw [gal_eq]
 have up:=fun {i j:Nat} {x y:Keyed}=>Run.bey_up O R (l:=l) (k:=k) dk (i:=i) (j:=j) (x:=x) (y:=y)
 have last:∀ (p0 q0:Nat),p0≤q0→q0≤n→(∀ i x,i < p0→xs[b+i]?=some x→bey L l k x=true)→(∀ i x,q0≤i→i < n→xs[b+i]?=some x→bey L l k x=false)→∀ (G:_→SM (Option Nat)),(∀ c,Cut L l k xs b n c→wpS (model prog w) A E s (G (none,c,c)) Q st)→wpS (model prog w) A E s (forIn [0:n] ((none:Option (Option Nat)),p0,q0) (fun _ r=>do
   if r.2.1 ≥ r.2.2 then pure (ForInStep.done (none,r.2.1,r.2.2)) else do
    let o ← askG l k xs b (r.2.1+(r.2.2 - r.2.1) / 2)
    match o with
    | some c=>if c=true then pure (ForInStep.yield (none,r.2.1+(r.2.2 - r.2.1) / 2+1,r.2.2)) else pure (ForInStep.yield (none,r.2.1,r.2.1+(r.2.2 - r.2.1) / 2))
    | _=>pure (ForInStep.done (some none,r.2.1,r.2.2))) >>= G) Q st:=by
  intro p0 q0 hpq hqn hp hq G hG
  refine wpS_bind (wpS_mono (wpS_forRange (I:=fun t r st'=>st'=st∧∃ p q,r=(none,p,q)∧p≤q∧q≤n∧q - p+t≤n+(0:Nat)∧(∀ i x,i < p→xs[b+i]?=some x→bey L l k x=true)∧(∀ i x,q≤i→i < n→xs[b+i]?=some x→bey L l k x=false)) (Q:=fun r st'=>st'=st∧∃ c,r=(none,c,c)∧Cut L l k xs b n c) ?step ?fin ⟨rfl,p0,q0,rfl,hpq,hqn,by omega,hp,hq⟩) ?post)
  case step =>
   rintro t r st' _ ht ⟨rfl,p,q,rfl,hpq,hqn,hm,hp,hq⟩
   dsimp only
   by_cases c:p ≥ q
   ·rw [if_pos c]
    have:p=q:=by omega
    subst this
    exact wpS_pure ⟨rfl,p,rfl,hqn,hp,hq⟩
   ·rw [if_neg c]
    obtain ⟨x,ex,dx⟩:=R.has (p+(q - p) / 2) (by omega)
    refine wpS_bind (qdB O hk dk ex dx ?_)
    dsimp only
    cases hb:bey L l k x with
    | true =>
      rw [if_pos rfl]
      refine wpS_pure ⟨rfl,_,_,rfl,by omega,hqn,by omega,fun i y hi ey=>?_,hq⟩
      exact up (by omega) (by omega) ey ex hb
    | false =>
      rw [if_neg Bool.false_ne_true]
      refine wpS_pure ⟨rfl,_,_,rfl,by omega,by omega,by omega,hp,fun i y hi hn ey=>?_⟩
      cases e:bey L l k y with
      | false=>rfl
      | true=>rw [up (by omega) hn ex ey e] at hb; cases hb
  case fin =>
   rintro r st' ⟨rfl,p,q,rfl,hpq,hqn,hm,hp,hq⟩
   have:p=q:=by omega
   subst this
   exact ⟨rfl,p,rfl,hqn,hp,hq⟩
  case post =>
   rintro r st' ⟨rfl,c,rfl,hc⟩
   exact hG c hc
 obtain ⟨x0,e0,d0⟩:=R.has h hh
 refine wpS_bind (qdB O hk dk e0 d0 ?_)
 dsimp only
 have fin2:∀ c,Cut L l k xs b n c→wpS (model prog w) A E s ((fun r:Option (Option Nat) × Nat × Nat=>match r.fst with | some r=>(pure r:SM (Option Nat)) | none=>pure (some r.snd.snd)) (none,c,c)) Q st:=fun c hc=>wpS_pure (q c hc)
 cases hb:bey L l k x0 with
 | true =>
   rw [if_pos rfl]
   refine wpS_bind (wpS_mono (wpS_forRange (I:=fun t r st'=>st'=st∧∃ u v,r=(none,u,v)∧t+1≤v∧u < v∧h+u < n∧(∀ i x,i≤h+u→xs[b+i]?=some x→bey L l k x=true)) (Q:=fun r st'=>st'=st∧∃ u v,r=(none,u,v)∧u < v∧h+u < n∧(∀ i x,i≤h+u→xs[b+i]?=some x→bey L l k x=true)∧(v ≥ n - h∨∀ i x,h+v≤i→i < n→xs[b+i]?=some x→bey L l k x=false)) ?step ?fin ⟨rfl,0,1,rfl,by omega,by omega,by omega,fun i x hi ex=>up (by omega) hh ex e0 hb⟩) ?post)
   case step =>
     rintro t r st' _ ht ⟨rfl,u,v,rfl,htv,huv,hun,hall⟩
     dsimp only
     by_cases c:v ≥ n - h
     · rw [if_pos c]
       exact wpS_pure ⟨rfl,u,v,rfl,huv,hun,hall,.inl c⟩
     · rw [if_neg c]
       obtain ⟨x,ex,dx⟩:=R.has (h+v) (by omega)
       refine wpS_bind (qdB O hk dk ex dx ?_)
       dsimp only
       cases hx:bey L l k x with
       | true =>
         rw [if_neg (by decide)]
         exact wpS_pure ⟨rfl,v,2*v+1,rfl,by omega,by omega,by omega,fun i y hi ey=>up (by omega) (by omega) ey ex hx⟩
       | false =>
         rw [if_pos (by decide)]
         refine wpS_pure ⟨rfl,u,v,rfl,huv,hun,hall,.inr fun i y hi hn ey=>?_⟩
         cases e:bey L l k y with
         | false=>rfl
         | true=>rw [up hi hn ex ey e] at hx; cases hx
   case fin =>
     rintro r st' ⟨rfl,u,v,rfl,htv,huv,hun,hall⟩
     exact ⟨rfl,u,v,rfl,huv,hun,hall,.inl (by omega)⟩
   case post =>
     rintro r st' ⟨rfl,u,v,rfl,huv,hun,hall,stop⟩
     dsimp only
     refine last (h+u+1) (h+min v (n - h)) (by omega) (by omega) (fun i x hi ex=>hall i x (by omega) ex) (fun i x hi hn ex=>?_) _ fin2
     rcases stop with z | z
     · omega
     · exact z i x (by omega) hn ex
 | false =>
   rw [if_neg Bool.false_ne_true]
   have low:∀ i x,h - 0≤i→i < n→xs[b+i]?=some x→bey L l k x=false:=fun i x hi hn ex=>by
     cases e:bey L l k x with
     | false=>rfl
     | true=>rw [up (by omega) hn e0 ex e] at hb; cases hb
   refine wpS_bind (wpS_mono (wpS_forRange (I:=fun t r st'=>st'=st∧∃ u v,r=(none,u,v)∧t+1≤v∧u < v∧u≤h∧(∀ i x,h - u≤i→i < n→xs[b+i]?=some x→bey L l k x=false)) (Q:=fun r st'=>st'=st∧∃ u v,r=(none,u,v)∧u < v∧u≤h∧(∀ i x,h - u≤i→i < n→xs[b+i]?=some x→bey L l k x=false)∧(v ≥ h+1∨∀ i x,i≤h - v→xs[b+i]?=some x→bey L l k x=true)) ?step2 ?fin2 ⟨rfl,0,1,rfl,by omega,by omega,by omega,low⟩) ?post2)
   case step2 =>
     rintro t r st' _ ht ⟨rfl,u,v,rfl,htv,huv,huh,hall⟩
     dsimp only
     by_cases c:v ≥ h+1
     · rw [if_pos c]
       exact wpS_pure ⟨rfl,u,v,rfl,huv,huh,hall,.inl c⟩
     · rw [if_neg c]
       obtain ⟨x,ex,dx⟩:=R.has (h - v) (by omega)
       refine wpS_bind (qdB O hk dk ex dx ?_)
       dsimp only
       cases hx:bey L l k x with
       | true =>
         rw [if_pos rfl]
         exact wpS_pure ⟨rfl,u,v,rfl,huv,huh,hall,.inr fun i y hi ey=>up (by omega) (by omega) ey ex hx⟩
       | false =>
         rw [if_neg Bool.false_ne_true]
         refine wpS_pure ⟨rfl,v,2*v+1,rfl,by omega,by omega,by omega,fun i y hi hn ey=>?_⟩
         cases e:bey L l k y with
         | false=>rfl
         | true=>rw [up (by omega) hn ex ey e] at hx; cases hx
   case fin2 =>
     rintro r st' ⟨rfl,u,v,rfl,htv,huv,huh,hall⟩
     exact ⟨rfl,u,v,rfl,huv,huh,hall,.inl (by omega)⟩
   case post2 =>
     rintro r st' ⟨rfl,u,v,rfl,huv,huh,hall,stop⟩
     dsimp only
     refine last (h+1 - min v (h+1)) (h - u) (by omega) (by omega) (fun i x hi ex=>?_) (fun i x hi hn ex=>hall i x (by omega) hn ex) _ fin2
     rcases stop with z | z
     · omega
     · exact z i x (by omega) ex
end
end Tim
namespace Tim
open PySem PyProof.Rows
def mlo:Array Keyed→Array Keyed→SM (Array Keyed):=sortPriv% PySem.Builtin.mergeLo
def setG:Nat→SM Unit:=sortPriv% PySem.Builtin.setMinGallop
theorem mlo_eq(a b:Array Keyed):mlo a b=(do
  rule "list.sort.merge-lo"; let T:=a.size+b.size
  let dn (o:Array Keyed) (i j:Nat):=o++a.extract i a.size++b.extract j b.size
  let la (o:Array Keyed) (i j:Nat):=o++b.extract j b.size++a.extract i a.size
  let mut o:Array Keyed:=#[← elem' b 0]; let mut i:=0; let mut j:=1
  if j == b.size then return dn o i j
  if i+1 == a.size then return la o i j
  let mut g:=gallopOf (← get)
  for _ in [0:T] do
   let mut c:=0; let mut d:=0
   for _ in [0:T] do
    let some z ← lt' (← elem' b j) (← elem' a i) | return dn o i j
    if z then
     o:=o.push (← elem' b j); j:=j+1; d:=d+1; c:=0
     if j == b.size then return dn o i j
     if d ≥ g then break
    else
     o:=o.push (← elem' a i); i:=i+1; c:=c+1; d:=0
     if i+1 == a.size then return la o i j
     if c ≥ g then break
   rule "list.sort.gallop"; g:=g+1
   for _ in [0:T] do
    if g > 1 then g:=g - 1
    setG g
    let some k ← gal false (← elem' b j) a i (a.size - i) 0 | return dn o i j
    c:=k
    if k > 0 then
     o:=o++a.extract i (i+k); i:=i+k
     if i+1 == a.size then return la o i j
     if i == a.size then return dn o i j
    o:=o.push (← elem' b j); j:=j+1
    if j == b.size then return dn o i j
    let some k ← gal true (← elem' a i) b j (b.size - j) 0 | return dn o i j
    d:=k
    if k > 0 then
     o:=o++b.extract j (j+k); j:=j+k
     if j == b.size then return dn o i j
    o:=o.push (← elem' a i); i:=i+1
    if i+1 == a.size then return la o i j
    if c < 7 && d < 7 then break
   g:=g+1; setG g
  unsupported "internal:list.sort.merge-bound"):=rfl
def Le(L:Keyed→Keyed→Bool)(x y:Keyed):Prop:=L y x=false
structure Mid(L:Keyed→Keyed→Bool)(A B o:List Keyed)(i j:Nat):Prop where
 pa:(o++A.drop i).Pairwise (Le L)
 pb:(o++B.drop j).Pairwise (Le L)
 pm:o.Perm (A.take i++B.take j)
 la:i≤A.length
 lb:j≤B.length
def Merged(L:Keyed→Keyed→Bool)(A B:List Keyed)(m:Array Keyed):Prop:=m.toList.Pairwise (Le L)∧m.toList.Perm (A++B)
section
variable{L:Keyed→Keyed→Bool}{A B o:List Keyed}{i j k:Nat}
theorem qcy(l:List Keyed)(i k:Nat):l.drop i=(l.drop i).take k++l.drop (i+k):=by
 rw[←List.drop_drop,List.take_append_drop]
theorem take_split(l:List Keyed)(i k:Nat):l.take (i+k)=l.take i++(l.drop i).take k:=List.take_add
theorem Mid.swap(h:Mid L A B o i j):Mid L B A o j i:=⟨h.pb,h.pa,h.pm.trans List.perm_append_comm,h.lb,h.la⟩
theorem Mid.push(h:Mid L A B o i j)(hk:i+k≤A.length)(c:∀x∈(A.drop i).take k,∀y∈B.drop j,Le L x y):Mid L A B (o++(A.drop i).take k) (i+k) j:=by
 refine⟨?_,?_,?_,hk,h.lb⟩
 ·rw[List.append_assoc,←qcy];exact h.pa
 ·have h1:=h.pa;rw[qcy A i k,←List.append_assoc]at h1;have h2:=(List.pairwise_append.mp h1).1;have h3:=List.pairwise_append.mp h.pb;refine List.pairwise_append.mpr ⟨h2,h3.2.1,fun x hx y hy=>?_⟩;rcases List.mem_append.mp hx with z | z
  ·exact h3.2.2 x z y hy
  ·exact c x z y hy
 ·rw[take_split];refine(h.pm.append_right _).trans ?_;rw[List.append_assoc,List.append_assoc];exact List.Perm.append_left _ List.perm_append_comm
theorem Mid.endB(h:Mid L A B o i j)(e:j=B.length){m:Array Keyed}(hm:m.toList=o++A.drop i):Merged L A B m:=by
 refine⟨by rw[hm];exact h.pa,?_⟩;rw[hm];have p:=h.pm;rw[e,List.take_length]at p;refine(p.append_right _).trans ?_;rw[List.append_assoc];refine(List.Perm.append_left _ List.perm_append_comm).trans ?_;rw[←List.append_assoc,List.take_append_drop]
theorem Merged.swap{m:Array Keyed}(h:Merged L A B m):Merged L B A m:=⟨h.1,h.2.trans List.perm_append_comm⟩
theorem Mid.last(h:Mid L A B o i j)(c:∀y∈B.drop j,∀x∈A.drop i,Le L y x){m:Array Keyed}(hm:m.toList=o++B.drop j++A.drop i):Merged L A B m:=by
 have h1:=h.swap.push (k:=B.length-j) (by have:=h.lb;omega) (fun x hx y hy=>c x (List.mem_of_mem_take hx) y hy);have e:(B.drop j).take (B.length-j)=B.drop j:=List.take_of_length_le (by rw[List.length_drop];exact Nat.le_refl _);rw[e]at h1;exact h1.swap.endB (by have:=h.lb;omega) (by rw[hm])
end
def SG(st st':SortSt):Prop:=kindOf st'=kindOf st∧arrOf st'=arrOf st∧pendingOf st'=pendingOf st∧failedOf st'=failedOf st
theorem SG.refl(st:SortSt):SG st st:=⟨rfl,rfl,rfl,rfl⟩
theorem qdh(a:Array Keyed)(i:Nat):(a.extract i a.size).toList=a.toList.drop i:=by
 rw[Array.toList_extract];unfold List.extract;rw[List.take_of_length_le (by rw[List.length_drop];simp)]
theorem qfj(a:Array Keyed)(i k:Nat):(a.extract i (i+k)).toList=(a.toList.drop i).take k:=by
 rw[Array.toList_extract];unfold List.extract;rw[Nat.add_sub_cancel_left]
theorem qew{a:Array Keyed}{i:Nat}{x:Keyed}(h:a[i]?=some x):(a.toList.drop i).take 1=[x]:=by
 have h':a.toList[i]?=some x:=by simpa using h
 obtain⟨hi,e⟩:=List.getElem?_eq_some_iff.mp h';rw[List.drop_eq_getElem_cons hi,e];rfl
section
variable{prog:Program}{w:World}{A:Around}{E:Value→Shared→Prop}{s:Shared}{κ:SortKind}{D:Keyed→Prop}{L:Keyed→Keyed→Bool}
theorem qby{xs:Array Keyed}{i:Nat}{x:Keyed}{Q:Keyed→SortSt→Prop}{st:SortSt}(hx:xs[i]?=some x)(h:Q x st):wpS (model prog w) A E s (elem' xs i) Q st:=by
 rw[elem'_eq,hx];exact wpS_pure h
theorem qdp{g:Nat}{Q:Unit→SortSt→Prop}{st st0:SortSt}(sg:SG st0 st)(h:∀st',SG st0 st'→Q () st'):wpS (model prog w) A E s (setG g) Q st:=by
 show wpS (model prog w) A E s (modify fun s=>SortSt.mk' (kindOf s) (arrOf s) (pendingOf s) g (failedOf s)) Q st;exact wpS_modify (h _ sg)
theorem qcz{x:String}{Q:Unit→SortSt→Prop}{st:SortSt}(h:Q () st):wpS (model prog w) A E s (liftM (rule x):SM Unit) Q st:=wpS_lift (wpAny_rule ⟨rfl,h⟩)
end
end Tim
namespace Tim
open PySem PyProof.Rows
structure Srt(D:Keyed→Prop)(L:Keyed→Keyed→Bool)(a:Array Keyed):Prop where
 all:∀x∈a.toList,D x
 ord:a.toList.Pairwise (Le L)
theorem qce{a:Array Keyed}{i:Nat}(h:i<a.size):∃x,a[i]?=some x∧x∈a.toList:=⟨a[i],Array.getElem?_eq_getElem h,by simp⟩
theorem qaW{a:Array Keyed}{i:Nat}{x:Keyed}(h:a[i]?=some x):x∈a.toList:=by
 have h':a.toList[i]?=some x:=by simpa using h
 exact List.mem_of_getElem? h'
theorem qd8{a:Array Keyed}{i k:Nat}{x:Keyed}(h:x∈(a.toList.drop i).take k):∃t,t<k∧a[i+t]?=some x:=by
 obtain⟨t,ht,e⟩:=List.mem_iff_getElem.mp h;rw[List.length_take,List.length_drop]at ht;refine⟨t,by omega,?_⟩;rw[List.getElem_take,List.getElem_drop]at e;have:i+t<a.size:=by simp only[Array.length_toList]at ht;omega
 rw[Array.getElem?_eq_getElem this,←e];simp
theorem qei{a:Array Keyed}{i:Nat}{x:Keyed}(h:x∈a.toList.drop i):∃t,i≤t∧a[t]?=some x:=by
 obtain⟨t,ht,e⟩:=List.mem_iff_getElem.mp h;rw[List.length_drop]at ht;rw[List.getElem_drop]at e;refine⟨i+t,by omega,?_⟩;have:i+t<a.size:=by simp only[Array.length_toList]at ht;omega
 rw[Array.getElem?_eq_getElem this,←e];simp
section
variable{prog:Program}{w:World}{A:Around}{E:Value→Shared→Prop}{s:Shared}{κ:SortKind}{D:Keyed→Prop}{L:Keyed→Keyed→Bool}
theorem Srt.le(O:Ord prog w A s κ D L){a:Array Keyed}(S:Srt D L a){i j:Nat}{x y:Keyed}(hij:i≤j)(ex:a[i]?=some x)(ey:a[j]?=some y):L y x=false:=by
 by_cases e:i=j
 ·subst e;rw[ex]at ey;cases ey;exact O.irr _ (S.all _ (qaW ex))
 ·have h1:a.toList[i]?=some x:=by simpa using ex
  have h2:a.toList[j]?=some y:=by simpa using ey
  obtain⟨hi,e1⟩:=List.getElem?_eq_some_iff.mp h1;obtain⟨hj,e2⟩:=List.getElem?_eq_some_iff.mp h2;have:=List.pairwise_iff_getElem.mp S.ord i j hi hj (by omega);rw[e1,e2]at this;exact this
theorem Srt.run(O:Ord prog w A s κ D L){a:Array Keyed}(S:Srt D L a){i n:Nat}(h:i+n≤a.size):Run D L a i n :=
 ⟨fun t ht=>by
  obtain⟨x,ex,mx⟩:=qce (a:=a) (i:=i+t) (by omega);exact⟨x,ex,S.all x mx⟩,fun t u x y htu _ ex ey=>S.le O (by omega) ex ey⟩
theorem lem1(O:Ord prog w A s κ D L){a:Array Keyed}(S:Srt D L a){i:Nat}{x y:Keyed}(dy:D y)(ex:a[i]?=some x)(h:L y x=true):∀x'∈a.toList.drop i,Le L y x':=fun x' hx'=>by
 obtain⟨t,ht,et⟩:=qei hx';have dx:=S.all _ (qaW ex);exact O.tr x' x y (S.all _ (qaW et)) dx dy (S.le O ht ex et) (O.asy y x dy dx h)
theorem lem2(O:Ord prog w A s κ D L){b:Array Keyed}(S:Srt D L b){j:Nat}{x y:Keyed}(dx:D x)(ey:b[j]?=some y)(h:L y x=false):∀y'∈b.toList.drop j,Le L x y':=fun y' hy'=>by
 obtain⟨t,ht,et⟩:=qei hy';exact O.tr y' y x (S.all _ (qaW et)) (S.all _ (qaW ey)) dx (S.le O ht ey et) h
theorem Mid.pushA1{a:Array Keyed}{B o:List Keyed}{i j:Nat}{x:Keyed}(h:Mid L a.toList B o i j)(ex:a[i]?=some x)(c:∀y∈B.drop j,Le L x y):Mid L a.toList B (o++[x]) (i+1) j:=by
 have hi:=(Array.getElem?_eq_some_iff.mp ex).1;have:=h.push (k:=1) (by simp;omega) (fun z hz y hy=>by rw[qew ex]at hz;rw[List.mem_singleton.mp hz];exact c y hy);rw[qew ex]at this;exact this
theorem Mid.pushB1{b:Array Keyed}{A' o:List Keyed}{i j:Nat}{y:Keyed}(h:Mid L A' b.toList o i j)(ey:b[j]?=some y)(c:∀x∈A'.drop i,Le L y x):Mid L A' b.toList (o++[y]) i (j+1):=(h.swap.pushA1 ey c).swap
theorem wp_mlo(O:Ord prog w A s κ D L){a b:Array Keyed}{Q:Array Keyed→SortSt→Prop}{st:SortSt}(hk:kindOf st=κ)(Sa:Srt D L a)(Sb:Srt D L b)(a1:1≤a.size)(b1:1≤b.size)(h0:∀y,b[0]?=some y→∀x∈a.toList,Le L y x)(hl:∀x,a[a.size-1]?=some x→∀y∈b.toList,Le L y x)(q:∀m st',SG st st'→Merged L a.toList b.toList m→Q m st'):wpS (model prog w) A E s (mlo a b) Q st:=by
 rw[mlo_eq];have endJ:∀(o:Array Keyed) (i j:Nat),Mid L a.toList b.toList o.toList i j→j=b.size→Merged L a.toList b.toList (o++a.extract i a.size++b.extract j b.size):=fun o i j M e=>by
  refine M.endB (by simp[e]) ?_;rw[Array.toList_append,Array.toList_append,qdh,qdh,e,show b.toList.drop b.size=[] by simp,List.append_nil]
 have endI:∀(o:Array Keyed) (i j:Nat),Mid L a.toList b.toList o.toList i j→i=a.size→Merged L a.toList b.toList (o++a.extract i a.size++b.extract j b.size):=fun o i j M e=>by
  refine(M.swap.endB (by simp[e]) ?_).swap;rw[Array.toList_append,Array.toList_append,qdh,qdh,e,show a.toList.drop a.size=[] by simp,List.append_nil]
 have endL:∀(o:Array Keyed) (i j:Nat),Mid L a.toList b.toList o.toList i j→i+1=a.size→Merged L a.toList b.toList (o++b.extract j b.size++a.extract i a.size):=fun o i j M e=>by
  refine M.last (fun y hy x hx=>?_) (by rw[Array.toList_append,Array.toList_append,qdh,qdh]);obtain⟨t,ht,et⟩:=qei hx;have:=(Array.getElem?_eq_some_iff.mp et).1;have e2:t=a.size-1:=by omega
  rw[e2]at et;exact hl x et y (List.mem_of_mem_drop hy)
 refine wpS_bind (qcz ?_);dsimp only;obtain⟨y0,ey0,my0⟩:=qce (a:=b) (i:=0) (by omega);refine wpS_bind (qby ey0 ?_);have M0:Mid L a.toList b.toList (#[y0]:Array Keyed).toList 0 1:=by
  have hb:b.toList.drop 0=[y0]++b.toList.drop 1:=by
   rw[qcy b.toList 0 1,qew ey0]
  refine⟨?_,?_,?_,Nat.zero_le _,by simpa using b1⟩
  ·show([y0]++a.toList.drop 0).Pairwise (Le L);rw[List.drop_zero];refine List.pairwise_append.mpr ⟨List.pairwise_singleton _ _,Sa.ord,fun x hx y hy=>?_⟩;rw[List.mem_singleton.mp hx];exact h0 y0 ey0 y hy
  ·show([y0]++b.toList.drop 1).Pairwise (Le L);rw[←hb,List.drop_zero];exact Sb.ord
  ·show[y0].Perm (a.toList.take 0++b.toList.take 1);have:=qew ey0;rw[List.drop_zero]at this;rw[this];simp
 by_cases c1:1=b.size
 ·rw[if_pos (beq_iff_eq.mpr c1)];exact wpS_pure (q _ _ (SG.refl st) (endJ _ 0 1 M0 c1))
 rw[if_neg (by simpa using c1)]
 by_cases c2:0+1=a.size
 ·rw[if_pos (beq_iff_eq.mpr c2)];exact wpS_pure (q _ _ (SG.refl st) (endL _ 0 1 M0 c2))
 rw[if_neg (by simpa using c2)];refine wpS_bind (wpS_get ?_);refine wpS_bind (wpS_mono (wpS_forRange (I:=fun t r st'=>SG st st'∧∃o i j g,r=(none,o,i,j,g)∧Mid L a.toList b.toList o.toList i j∧i+1<a.size∧j<b.size∧t+1≤i+j) (Q:=fun r st'=>SG st st'∧∃m,r.1=some m∧Merged L a.toList b.toList m) ?step ?fin ⟨SG.refl st,_,_,_,_,rfl,M0,by omega,by omega,by omega⟩) ?post)
 case fin =>
  rintro r st' ⟨_,o,i,j,g,rfl,_,hi,hj,ht⟩;omega
 case post =>
  rintro r st' ⟨sg,m,e,hm⟩;rw[e];exact wpS_pure (q m st' sg hm)
 case step =>
  rintro t r st' _ ht ⟨sg,o0,i0,j0,g0,rfl,M0',hi0,hj0,ht0⟩;dsimp only;refine wpS_bind (wpS_mono (wpS_forRange (I:=fun t r st'=>SG st st'∧∃o i j c d,r=(none,o,i,j,c,d)∧Mid L a.toList b.toList o.toList i j∧i+1<a.size∧j<b.size∧i0+j0+t≤i+j) (Q:=fun r st'=>SG st st'∧((∃m,r.1=some m∧Merged L a.toList b.toList m)∨∃o i j c d,r=(none,o,i,j,c,d)∧Mid L a.toList b.toList o.toList i j∧i+1<a.size∧j<b.size∧i0+j0+1≤i+j)) ?step1 ?fin1 ⟨sg,_,_,_,_,_,rfl,M0',hi0,hj0,by omega⟩) ?post1)
  case fin1 =>
   rintro r st' ⟨_,o,i,j,c,d,rfl,_,hi,hj,ht⟩;omega
  case step1 =>
   rintro t1 r st1 _ ht1 ⟨sg1,o,i,j,c,d,rfl,M,hi,hj,hij⟩;dsimp only;obtain⟨y,ey,my⟩:=qce (a:=b) (i:=j) hj;obtain⟨x,ex,mx⟩:=qce (a:=a) (i:=i) (by omega);refine wpS_bind (qby ey (wpS_bind (qby ex (wpS_bind (O.ask E y x _ st1 (sg1.1.trans hk) (Sb.all _ my) (Sa.all _ mx) ?_)))));dsimp only;cases hz:L y x with
   | true =>
     rw[if_pos rfl]
     refine wpS_bind (qby ey ?_)
     have M1:Mid L a.toList b.toList (o.push y).toList i (j+1):=by
       rw[Array.toList_push]
       exact M.pushB1 ey (lem1 O Sa (Sb.all _ my) ex hz)
     by_cases e1:j+1=b.size
     · rw[if_pos (beq_iff_eq.mpr e1)]
       exact wpS_pure ⟨sg1,.inl ⟨_,rfl,endJ _ _ _ M1 e1⟩⟩
     · rw[if_neg (by simpa using e1)]
       by_cases e2:d+1≥g0
       · rw[if_pos e2]
         exact wpS_pure ⟨sg1,.inr ⟨_,_,_,_,_,rfl,M1,hi,by omega,by omega⟩⟩
       · rw[if_neg e2]
         exact wpS_pure ⟨sg1,_,_,_,_,_,rfl,M1,hi,by omega,by omega⟩
   | false =>
     rw[if_neg Bool.false_ne_true]
     refine wpS_bind (qby ex ?_)
     have M1:Mid L a.toList b.toList (o.push x).toList (i+1) j:=by
       rw[Array.toList_push]
       exact M.pushA1 ex (lem2 O Sb (Sa.all _ mx) ey hz)
     by_cases e1:i+1+1=a.size
     · rw[if_pos (beq_iff_eq.mpr e1)]
       exact wpS_pure ⟨sg1,.inl ⟨_,rfl,endL _ _ _ M1 e1⟩⟩
     · rw[if_neg (by simpa using e1)]
       by_cases e2:c+1≥g0
       · rw[if_pos e2]
         exact wpS_pure ⟨sg1,.inr ⟨_,_,_,_,_,rfl,M1,by omega,hj,by omega⟩⟩
       · rw[if_neg e2]
         exact wpS_pure ⟨sg1,_,_,_,_,_,rfl,M1,by omega,hj,by omega⟩
  case post1 =>
   rintro r st1 ⟨sg1,⟨m,e,hm⟩ | ⟨o1,i1,j1,c1,d1,rfl,M1,hi1,hj1,hij1⟩⟩
   ·rw[e];exact wpS_pure ⟨sg1,m,rfl,hm⟩
   dsimp only;refine wpS_bind (qcz ?_);refine wpS_bind (wpS_mono (wpS_forRange (I:=fun t r st'=>SG st st'∧∃o i j g c d,r=(none,o,i,j,g,c,d)∧Mid L a.toList b.toList o.toList i j∧i+1<a.size∧j<b.size∧i1+j1+t≤i+j) (Q:=fun r st'=>SG st st'∧((∃m,r.1=some m∧Merged L a.toList b.toList m)∨∃o i j g c d,r=(none,o,i,j,g,c,d)∧Mid L a.toList b.toList o.toList i j∧i+1<a.size∧j<b.size∧i1+j1≤i+j)) ?step2 ?fin2 ⟨sg1,_,_,_,_,_,_,rfl,M1,hi1,hj1,by omega⟩) ?post2)
   case fin2 =>
    rintro r st' ⟨_,o,i,j,g,c,d,rfl,_,hi,hj,ht⟩;omega
   case post2 =>
    rintro r st2 ⟨sg2,⟨m,e,hm⟩ | ⟨o,i,j,g,c,d,rfl,M,hi,hj,hij⟩⟩
    ·rw[e];exact wpS_pure ⟨sg2,m,rfl,hm⟩
    dsimp only;exact wpS_bind (qdp sg2 fun st3 sg3=>wpS_pure ⟨sg3,_,_,_,_,rfl,M,hi,hj,by omega⟩)
   case step2 =>
    rintro t2 r st2 _ ht2 ⟨sg2,o,i,j,g,c,d,rfl,M,hi,hj,hij⟩;dsimp only;obtain⟨y,ey,my⟩:=qce (a:=b) (i:=j) hj;have dy:=Sb.all _ my;have cutA:∀k,Cut L false y a i (a.size-i) k→(i+k≤a.size)∧Mid L a.toList b.toList (o++a.extract i (i+k)).toList (i+k) j∧∀x,a[i+k]?=some x→L y x=true:=fun k C=>by
     have ik:i+k≤a.size:=by have:=C.1;omega
     refine⟨ik,?_,fun x ex=>?_⟩
     ·rw[Array.toList_append,qfj];refine M.push (by simpa using ik) fun x hx y' hy'=>?_
      obtain⟨u,hu,eu⟩:=qd8 hx;have h1:(!L y x)=true:=C.2.1 u x hu eu;exact lem2 O Sb (Sa.all _ (qaW eu)) ey (by simpa using h1) y' hy'
     ·have lt:=(Array.getElem?_eq_some_iff.mp ex).1;have h1:(!L y x)=false:=C.2.2 k x (Nat.le_refl _) (by omega) ex;simpa using h1
    have cutB:∀(o':Array Keyed) (i' j':Nat) (x:Keyed),Mid L a.toList b.toList o'.toList i' j'→a[i']?=some x→∀k,Cut L true x b j' (b.size-j') k→(j'+k≤b.size)∧Mid L a.toList b.toList (o'++b.extract j' (j'+k)).toList i' (j'+k)∧∀y',b[j'+k]?=some y'→L y' x=false:=fun o' i' j' x M' ex k C=>by
     have lbj:=M'.lb;have jk:j'+k≤b.size:=by have:=C.1;simp only[Array.length_toList]at lbj;omega
     refine⟨jk,?_,fun y' ey'=>?_⟩
     ·rw[Array.toList_append,qfj];refine(M'.swap.push (by simpa using jk) fun y' hy' x' hx'=>?_).swap;obtain⟨u,hu,eu⟩:=qd8 hy';exact lem1 O Sa (Sb.all _ (qaW eu)) ex (C.2.1 u y' hu eu) x' hx'
     ·have lt:=(Array.getElem?_eq_some_iff.mp ey').1;exact C.2.2 k y' (Nat.le_refl _) (by omega) ey'
    by_cases hg:g>1
    case' pos=>rw[if_pos hg]
    case' neg=>rw[if_neg hg]
    all_goals
     refine wpS_bind (qdp sg2 fun st3 sg3=>?_);refine wpS_bind (qby ey ?_);refine wpS_bind (qdk O (sg3.1.trans hk) dy (Sa.run O (by omega)) (by omega) fun k C=>?_);dsimp only;obtain⟨ik,M2,nx⟩:=cutA k C;clear cutA C
     by_cases k0:k>0
     case' pos =>
      rw[if_pos k0]
      by_cases e1:i+k+1=a.size
      ·rw[if_pos (beq_iff_eq.mpr e1)];exact wpS_pure ⟨sg3,.inl ⟨_,rfl,endL _ _ _ M2 e1⟩⟩
      rw[if_neg (by simpa using e1)]
      by_cases e2:i+k=a.size
      ·rw[if_pos (beq_iff_eq.mpr e2)];exact wpS_pure ⟨sg3,.inl ⟨_,rfl,endI _ _ _ M2 e2⟩⟩
      rw[if_neg (by simpa using e2)];have hi':i+k+1<a.size:=by omega
      have hij':i1+j1+t2≤i+k+j:=by omega
      clear e1 e2 ik M hi hij k0;generalize o++a.extract i (i+k)=o' at M2⊢;generalize i+k=i' at M2 nx hi' hij'⊢
     case' neg =>
      rw[if_neg k0];obtain rfl:k=0:=by omega
      have M2':=M;have hi':=hi;have hij':=hij;have nx':∀x,a[i]?=some x→L y x=true:=fun x ex=>nx x (by simpa using ex)
      clear M2 nx M hi hij ik k0;generalize o=o' at M2'⊢;generalize i=i' at M2' nx' hi' hij'⊢;have M2:=M2';have nx:=nx';clear M2' nx'
     all_goals
      refine wpS_bind (qby ey ?_);obtain⟨x,ex,mx⟩:=qce (a:=a) (i:=i') (by omega);have dx:=Sa.all _ mx;have M3:Mid L a.toList b.toList (o'.push y).toList i' (j+1):=by
       rw[Array.toList_push];exact M2.pushB1 ey (lem1 O Sa dy ex (nx x ex))
      by_cases e3:j+1=b.size
      ·rw[if_pos (beq_iff_eq.mpr e3)];exact wpS_pure ⟨sg3,.inl ⟨_,rfl,endJ _ _ _ M3 e3⟩⟩
      rw[if_neg (by simpa using e3)];refine wpS_bind (qby ex ?_);refine wpS_bind (qdk O (sg3.1.trans hk) dx (Sb.run O (by omega)) (by omega) fun k' C'=>?_);dsimp only;obtain⟨jk,M4,ny⟩:=cutB _ _ _ x M3 ex k' C';clear C'
      by_cases k1:k'>0
      case' pos =>
       rw[if_pos k1]
       by_cases e4:j+1+k'=b.size
       ·rw[if_pos (beq_iff_eq.mpr e4)];exact wpS_pure ⟨sg3,.inl ⟨_,rfl,endJ _ _ _ M4 e4⟩⟩
       rw[if_neg (by simpa using e4)];have hj':j+1+k'<b.size:=by omega
       have hjj:j+1≤j+1+k':=by omega
       clear M3 e4 jk k1;generalize o'.push y++b.extract (j+1) (j+1+k')=o2 at M4⊢;generalize j+1+k'=j2 at M4 ny hj' hjj⊢
      case' neg =>
       rw[if_neg k1];obtain rfl:k'=0:=by omega
       have hj':j+1<b.size:=by omega
       have hjj:j+1≤j+1:=Nat.le_refl _;have M4':=M3;have ny':∀y',b[j+1]?=some y'→L y' x=false:=fun y' ey'=>ny y' (by simpa using ey')
       clear M4 ny M3 jk k1;generalize o'.push y=o2 at M4'⊢;have M4:=M4';have ny:=ny';clear M4' ny'
      all_goals
       refine wpS_bind (qby ex ?_);obtain⟨y2,ey2,my2⟩:=qce hj';have M5:=M4.pushA1 ex (lem2 O Sb dx ey2 (ny y2 ey2));rw[←Array.toList_push]at M5
       by_cases e5:i'+1+1=a.size
       ·rw[if_pos (beq_iff_eq.mpr e5)];exact wpS_pure ⟨sg3,.inl ⟨_,rfl,endL _ _ _ M5 e5⟩⟩
       rw[if_neg (by simpa using e5)]
       split
       ·exact wpS_pure ⟨sg3,.inr ⟨_,_,_,_,_,_,rfl,M5,by omega,by omega,by omega⟩⟩
       ·exact wpS_pure ⟨sg3,_,_,_,_,_,_,rfl,M5,by omega,by omega,by omega⟩
end
end Tim
namespace Tim
open PySem PyProof.Rows
def mhi:Array Keyed→Array Keyed→SM (Array Keyed):=sortPriv% PySem.Builtin.mergeHi
theorem mhi_eq(a b:Array Keyed):mhi a b=(do
  rule "list.sort.merge-hi"; let T:=a.size+b.size
  let dn (o:Array Keyed) (i j:Nat):=a.extract 0 i++b.extract 0 j++o.reverse
  let fb (o:Array Keyed) (i j:Nat):=b.extract 0 j++a.extract 0 i++o.reverse
  let mut i:=a.size - 1; let mut j:=b.size; let mut o:Array Keyed:=#[← elem' a i]
  if i == 0 then return dn o i j
  if j == 1 then return fb o i j
  let mut g:=gallopOf (← get)
  for _ in [0:T] do
   let mut c:=0; let mut d:=0
   for _ in [0:T] do
    let some z ← lt' (← elem' b (j - 1)) (← elem' a (i - 1)) | return dn o i j
    if z then
     i:=i - 1; o:=o.push (← elem' a i); c:=c+1; d:=0
     if i == 0 then return dn o i j
     if c ≥ g then break
    else
     j:=j - 1; o:=o.push (← elem' b j); d:=d+1; c:=0
     if j == 1 then return fb o i j
     if d ≥ g then break
   rule "list.sort.gallop"; g:=g+1
   for _ in [0:T] do
    if g > 1 then g:=g - 1
    setG g
    let some p ← gal false (← elem' b (j - 1)) a 0 i (i - 1) | return dn o i j
    let k:=i - p; c:=k
    if k > 0 then
     o:=o++(a.extract p i).reverse; i:=p
     if i == 0 then return dn o i j
    j:=j - 1; o:=o.push (← elem' b j)
    if j == 1 then return fb o i j
    let some p ← gal true (← elem' a (i - 1)) b 0 j (j - 1) | return dn o i j
    let k:=j - p; d:=k
    if k > 0 then
     o:=o++(b.extract p j).reverse; j:=p
     if j == 1 then return fb o i j
     if j == 0 then return dn o i j
    i:=i - 1; o:=o.push (← elem' a i)
    if i == 0 then return dn o i j
    if c < 7 && d < 7 then break
   g:=g+1; setG g
  unsupported "internal:list.sort.merge-bound"):=rfl
structure MidH(L:Keyed→Keyed→Bool)(A B r:List Keyed)(i j:Nat):Prop where
 pa:(A.take i++r).Pairwise (Le L)
 pb:(B.take j++r).Pairwise (Le L)
 pm:r.Perm (A.drop i++B.drop j)
 la:i≤A.length
 lb:j≤B.length
section
variable{L:Keyed→Keyed→Bool}{A B r:List Keyed}{i j k:Nat}
theorem MidH.swap(h:MidH L A B r i j):MidH L B A r j i:=⟨h.pb,h.pa,h.pm.trans List.perm_append_comm,h.lb,h.la⟩
theorem qeI(l:List Keyed)(hk:k≤i):l.take i=l.take k++(l.take i).drop k:=by
 have:=(List.take_append_drop k (l.take i)).symm;rw[List.take_take,Nat.min_eq_left hk]at this;exact this
theorem drop_cut(l:List Keyed)(hk:k≤i):l.drop k=(l.take i).drop k++l.drop i:=by
 have h:=(List.take_append_drop (i-k) (l.drop k)).symm;rw[List.drop_drop,show k+(i-k)=i by omega]at h;rw[h]
 congr 1
 rw[List.drop_take]
theorem MidH.push(h:MidH L A B r i j)(hk:k≤i)(c:∀y∈B.take j,∀x∈(A.take i).drop k,Le L y x):MidH L A B ((A.take i).drop k++r) k j:=by
 refine⟨?_,?_,?_,by have:=h.la;omega,h.lb⟩
 ·rw[←List.append_assoc,←qeI A hk];exact h.pa
 ·have h1:=h.pa;rw[qeI A hk,List.append_assoc]at h1;have h2:=(List.pairwise_append.mp h1).2.1;have h3:=List.pairwise_append.mp h.pb;refine List.pairwise_append.mpr ⟨h3.1,h2,fun y hy x hx=>?_⟩;rcases List.mem_append.mp hx with z | z
  ·exact c y hy x z
  ·exact h3.2.2 y hy x z
 ·rw[drop_cut A hk,List.append_assoc];exact List.Perm.append_left _ h.pm
theorem MidH.end0(h:MidH L A B r i j)(e:i=0){m:Array Keyed}(hm:m.toList=B.take j++r):Merged L A B m:=by
 refine⟨by rw[hm];exact h.pb,?_⟩;rw[hm];have p:=h.pm;rw[e,List.drop_zero]at p;refine(List.Perm.append_left _ p).trans ?_;refine List.perm_append_comm.trans ?_;rw[List.append_assoc];refine List.Perm.append_left _ ?_;exact List.perm_append_comm.trans (by rw[List.take_append_drop])
theorem MidH.fst(h:MidH L A B r i j)(c:∀y∈B.take j,∀x∈A.take i,Le L y x){m:Array Keyed}(hm:m.toList=B.take j++A.take i++r):Merged L A B m:=by
 have h1:=h.push (k:=0) (Nat.zero_le _) (fun y hy x hx=>c y hy x (by simpa using hx));rw[List.drop_zero]at h1;exact h1.end0 rfl (by rw[hm,List.append_assoc])
end
theorem qcq(a:Array Keyed)(i:Nat):(a.extract 0 i).toList=a.toList.take i:=by
 rw[Array.toList_extract];unfold List.extract;simp
theorem qff(a:Array Keyed)(p i:Nat):(a.extract p i).toList=(a.toList.take i).drop p:=by
 rw[Array.toList_extract];unfold List.extract;rw[List.drop_take]
theorem qfM{a:Array Keyed}{i:Nat}{x:Keyed}(h:a[i-1]?=some x)(hi:0<i):(a.toList.take i).drop (i-1)=[x]:=by
 have h':a.toList[i-1]?=some x:=by simpa using h
 obtain⟨hl,e⟩:=List.getElem?_eq_some_iff.mp h';rw[List.drop_take,show i-(i-1)=1 by omega,List.drop_eq_getElem_cons hl,e];rfl
theorem qdN{a:Array Keyed}{i:Nat}{x:Keyed}(h:x∈a.toList.take i):∃t,t<i∧a[t]?=some x:=by
 obtain⟨t,ht,e⟩:=List.mem_iff_getElem.mp h;rw[List.length_take]at ht;rw[List.getElem_take]at e;refine⟨t,by omega,?_⟩;have:t<a.size:=by simp only[Array.length_toList]at ht;omega
 rw[Array.getElem?_eq_getElem this,←e];simp
theorem qfB{a:Array Keyed}{p i:Nat}{x:Keyed}(h:x∈(a.toList.take i).drop p):∃t,p≤t∧t<i∧a[t]?=some x:=by
 obtain⟨t,ht,e⟩:=List.mem_iff_getElem.mp h;rw[List.length_drop,List.length_take]at ht;rw[List.getElem_drop,List.getElem_take]at e;refine⟨p+t,by omega,by omega,?_⟩;have:p+t<a.size:=by simp only[Array.length_toList]at ht;omega
 rw[Array.getElem?_eq_getElem this,←e];simp
section
variable{prog:Program}{w:World}{A:Around}{E:Value→Shared→Prop}{s:Shared}{κ:SortKind}{D:Keyed→Prop}{L:Keyed→Keyed→Bool}
theorem qf7(O:Ord prog w A s κ D L){b:Array Keyed}(S:Srt D L b){j:Nat}{x y:Keyed}(dx:D x)(ey:b[j-1]?=some y)(h:L y x=true):∀y'∈b.toList.take j,Le L y' x:=fun y' hy'=>by
 obtain⟨t,ht,et⟩:=qdN hy';have dy:=S.all _ (qaW ey);exact O.tr x y y' dx dy (S.all _ (qaW et)) (O.asy y x dy dx h) (S.le O (by omega) et ey)
theorem qfZ(O:Ord prog w A s κ D L){a:Array Keyed}(S:Srt D L a){i:Nat}{x y:Keyed}(dy:D y)(ex:a[i-1]?=some x)(h:L y x=false):∀x'∈a.toList.take i,Le L x' y:=fun x' hx'=>by
 obtain⟨t,ht,et⟩:=qdN hx';exact O.tr y x x' dy (S.all _ (qaW ex)) (S.all _ (qaW et)) h (S.le O (by omega) et ex)
theorem MidH.pushA1{a:Array Keyed}{B r:List Keyed}{i j:Nat}{x:Keyed}(h:MidH L a.toList B r i j)(hi:0<i)(ex:a[i-1]?=some x)(c:∀y∈B.take j,Le L y x):MidH L a.toList B (x::r) (i-1) j:=by
 have:=h.push (k:=i-1) (by omega) (fun y hy z hz=>by rw[qfM ex hi]at hz;rw[List.mem_singleton.mp hz];exact c y hy);rw[qfM ex hi]at this;exact this
theorem MidH.pushB1{b:Array Keyed}{A' r:List Keyed}{i j:Nat}{y:Keyed}(h:MidH L A' b.toList r i j)(hj:0<j)(ey:b[j-1]?=some y)(c:∀x∈A'.take i,Le L x y):MidH L A' b.toList (y::r) i (j-1):=(h.swap.pushA1 hj ey c).swap
theorem qcQ(o:Array Keyed)(x:Keyed):(o.push x).toList.reverse=x::o.toList.reverse:=by rw[Array.toList_push,List.reverse_append];rfl
theorem wp_mhi(O:Ord prog w A s κ D L){a b:Array Keyed}{Q:Array Keyed→SortSt→Prop}{st:SortSt}(hk:kindOf st=κ)(Sa:Srt D L a)(Sb:Srt D L b)(a1:1≤a.size)(b1:1≤b.size)(h0:∀y,b[0]?=some y→∀x∈a.toList,Le L y x)(hl:∀x,a[a.size-1]?=some x→∀y∈b.toList,Le L y x)(q:∀m st',SG st st'→Merged L a.toList b.toList m→Q m st'):wpS (model prog w) A E s (mhi a b) Q st:=by
 rw[mhi_eq];have endI:∀(o:Array Keyed) (i j:Nat),MidH L a.toList b.toList o.toList.reverse i j→i=0→Merged L a.toList b.toList (a.extract 0 i++b.extract 0 j++o.reverse):=fun o i j M e=>by
  refine M.end0 e ?_;rw[Array.toList_append,Array.toList_append,qcq,qcq,e,List.take_zero,List.nil_append,Array.toList_reverse]
 have endJ:∀(o:Array Keyed) (i j:Nat),MidH L a.toList b.toList o.toList.reverse i j→j=0→Merged L a.toList b.toList (a.extract 0 i++b.extract 0 j++o.reverse):=fun o i j M e=>by
  refine(M.swap.end0 e ?_).swap;rw[Array.toList_append,Array.toList_append,qcq,qcq,e,List.take_zero,List.append_nil,Array.toList_reverse]
 have endF:∀(o:Array Keyed) (i j:Nat),MidH L a.toList b.toList o.toList.reverse i j→j=1→Merged L a.toList b.toList (b.extract 0 j++a.extract 0 i++o.reverse):=fun o i j M e=>by
  refine M.fst (fun y hy x hx=>?_) (by rw[Array.toList_append,Array.toList_append,qcq,qcq,Array.toList_reverse]);obtain⟨t,ht,et⟩:=qdN hy;obtain rfl:t=0:=by omega
  exact h0 y et x (List.mem_of_mem_take hx)
 refine wpS_bind (qcz ?_);dsimp only;obtain⟨x0,ex0,mx0⟩:=qce (a:=a) (i:=a.size-1) (by omega);refine wpS_bind (qby ex0 ?_);have M0:MidH L a.toList b.toList (#[x0]:Array Keyed).toList.reverse (a.size-1) b.size:=by
  have ha:a.toList.take a.size=a.toList:=by rw[←Array.length_toList,List.take_length]
  have hb:b.toList.take b.size=b.toList:=by rw[←Array.length_toList,List.take_length]
  have S0:MidH L a.toList b.toList [] a.size b.size:=⟨by rw[ha,List.append_nil];exact Sa.ord,by rw[hb,List.append_nil];exact Sb.ord,by simp,by simp,by simp⟩;exact S0.pushA1 (by omega) ex0 fun y hy=>hl x0 ex0 y (List.mem_of_mem_take hy)
 by_cases c1:a.size-1=0
 ·rw[if_pos (beq_iff_eq.mpr c1)];exact wpS_pure (q _ _ (SG.refl st) (endI _ _ _ M0 c1))
 rw[if_neg (by simpa using c1)]
 by_cases c2:b.size=1
 ·rw[if_pos (beq_iff_eq.mpr c2)];exact wpS_pure (q _ _ (SG.refl st) (endF _ _ _ M0 c2))
 rw[if_neg (by simpa using c2)];refine wpS_bind (wpS_get ?_);refine wpS_bind (wpS_mono (wpS_forRange (I:=fun t r st'=>SG st st'∧∃i j o g,r=(none,i,j,o,g)∧MidH L a.toList b.toList (o:Array Keyed).toList.reverse i j∧0<i∧1<j∧i+j+t<a.size+b.size) (Q:=fun r st'=>SG st st'∧∃m,r.1=some m∧Merged L a.toList b.toList m) ?step ?fin ⟨SG.refl st,_,_,_,_,rfl,M0,by omega,by omega,by omega⟩) ?post)
 case fin =>
  rintro r st' ⟨_,i,j,o,g,rfl,_,hi,hj,ht⟩;omega
 case post =>
  rintro r st' ⟨sg,m,e,hm⟩;rw[e];exact wpS_pure (q m st' sg hm)
 case step =>
  rintro t r st' _ ht ⟨sg,i0,j0,o0,g0,rfl,M0',hi0,hj0,ht0⟩;dsimp only;refine wpS_bind (wpS_mono (wpS_forRange (I:=fun t r st'=>SG st st'∧∃i j o c d,r=(none,i,j,o,c,d)∧MidH L a.toList b.toList (o:Array Keyed).toList.reverse i j∧0<i∧1<j∧i+j+t≤i0+j0) (Q:=fun r st'=>SG st st'∧((∃m,r.1=some m∧Merged L a.toList b.toList m)∨∃i j o c d,r=(none,i,j,o,c,d)∧MidH L a.toList b.toList (o:Array Keyed).toList.reverse i j∧0<i∧1<j∧i+j+1≤i0+j0)) ?step1 ?fin1 ⟨sg,_,_,_,_,_,rfl,M0',hi0,hj0,by omega⟩) ?post1)
  case fin1 =>
   rintro r st' ⟨_,i,j,o,c,d,rfl,_,hi,hj,ht⟩;omega
  case step1 =>
   rintro t1 r st1 _ ht1 ⟨sg1,i,j,o,c,d,rfl,M,hi,hj,hij⟩;dsimp only;have la:=M.la;have lb:=M.lb;simp only[Array.length_toList]at la lb;obtain⟨y,ey,my⟩:=qce (a:=b) (i:=j-1) (by omega);obtain⟨x,ex,mx⟩:=qce (a:=a) (i:=i-1) (by omega);refine wpS_bind (qby ey (wpS_bind (qby ex (wpS_bind (O.ask E y x _ st1 (sg1.1.trans hk) (Sb.all _ my) (Sa.all _ mx) ?_)))));dsimp only;cases hz:L y x with
   | true =>
     rw[if_pos rfl]
     refine wpS_bind (qby ex ?_)
     have M1:MidH L a.toList b.toList (o.push x).toList.reverse (i-1) j:=by
       rw[qcQ]
       exact M.pushA1 hi ex (qf7 O Sb (Sa.all _ mx) ey hz)
     by_cases e1:i-1=0
     · rw[if_pos (beq_iff_eq.mpr e1)]
       exact wpS_pure ⟨sg1,.inl ⟨_,rfl,endI _ _ _ M1 e1⟩⟩
     · rw[if_neg (by simpa using e1)]
       by_cases e2:c+1≥g0
       · rw[if_pos e2]
         exact wpS_pure ⟨sg1,.inr ⟨_,_,_,_,_,rfl,M1,by omega,hj,by omega⟩⟩
       · rw[if_neg e2]
         exact wpS_pure ⟨sg1,_,_,_,_,_,rfl,M1,by omega,hj,by omega⟩
   | false =>
     rw[if_neg Bool.false_ne_true]
     refine wpS_bind (qby ey ?_)
     have M1:MidH L a.toList b.toList (o.push y).toList.reverse i (j-1):=by
       rw[qcQ]
       exact M.pushB1 (by omega) ey (qfZ O Sa (Sb.all _ my) ex hz)
     by_cases e1:j-1=1
     · rw[if_pos (beq_iff_eq.mpr e1)]
       exact wpS_pure ⟨sg1,.inl ⟨_,rfl,endF _ _ _ M1 e1⟩⟩
     · rw[if_neg (by simpa using e1)]
       by_cases e2:d+1≥g0
       · rw[if_pos e2]
         exact wpS_pure ⟨sg1,.inr ⟨_,_,_,_,_,rfl,M1,hi,by omega,by omega⟩⟩
       · rw[if_neg e2]
         exact wpS_pure ⟨sg1,_,_,_,_,_,rfl,M1,hi,by omega,by omega⟩
  case post1 =>
   rintro r st1 ⟨sg1,⟨m,e,hm⟩ | ⟨i1,j1,o1,c1,d1,rfl,M1,hi1,hj1,hij1⟩⟩
   ·rw[e];exact wpS_pure ⟨sg1,m,rfl,hm⟩
   dsimp only;refine wpS_bind (qcz ?_);refine wpS_bind (wpS_mono (wpS_forRange (I:=fun t r st'=>SG st st'∧∃i j o g c d,r=(none,i,j,o,g,c,d)∧MidH L a.toList b.toList (o:Array Keyed).toList.reverse i j∧0<i∧1<j∧i+j+t≤i1+j1) (Q:=fun r st'=>SG st st'∧((∃m,r.1=some m∧Merged L a.toList b.toList m)∨∃i j o g c d,r=(none,i,j,o,g,c,d)∧MidH L a.toList b.toList (o:Array Keyed).toList.reverse i j∧0<i∧1<j∧i+j≤i1+j1)) ?step2 ?fin2 ⟨sg1,_,_,_,_,_,_,rfl,M1,hi1,hj1,by omega⟩) ?post2)
   case fin2 =>
    rintro r st' ⟨_,i,j,o,g,c,d,rfl,_,hi,hj,ht⟩;omega
   case post2 =>
    rintro r st2 ⟨sg2,⟨m,e,hm⟩ | ⟨i,j,o,g,c,d,rfl,M,hi,hj,hij⟩⟩
    ·rw[e];exact wpS_pure ⟨sg2,m,rfl,hm⟩
    dsimp only;exact wpS_bind (qdp sg2 fun st3 sg3=>wpS_pure ⟨sg3,_,_,_,_,rfl,M,hi,hj,by omega⟩)
   case step2 =>
    rintro t2 r st2 _ ht2 ⟨sg2,i,j,o,g,c,d,rfl,M,hi,hj,hij⟩;dsimp only;have la:=M.la;have lb:=M.lb;simp only[Array.length_toList]at la lb;obtain⟨y,ey,my⟩:=qce (a:=b) (i:=j-1) (by omega);have dy:=Sb.all _ my;have cutA:∀p,Cut L false y a 0 i p→p≤i∧MidH L a.toList b.toList (o++(a.extract p i).reverse).toList.reverse p j∧∀x∈a.toList.take p,Le L x y:=fun p C=>by
     have pi:p≤i:=C.1;refine⟨pi,?_,fun x hx=>?_⟩
     ·rw[Array.toList_append,Array.toList_reverse,List.reverse_append,List.reverse_reverse,qff];refine M.push pi fun y' hy' x hx=>?_
      obtain⟨u,h1,h2,eu⟩:=qfB hx;have h3:(!L y x)=false:=C.2.2 u x h1 h2 (by rw[Nat.zero_add];exact eu);exact qf7 O Sb (Sa.all _ (qaW eu)) ey (by simpa using h3) y' hy'
     ·obtain⟨u,h1,eu⟩:=qdN hx;have h3:(!L y x)=true:=C.2.1 u x h1 (by rw[Nat.zero_add];exact eu);show L y x=false;simpa using h3
    have cutB:∀(o':Array Keyed) (i' j':Nat) (x:Keyed),D x→MidH L a.toList b.toList o'.toList.reverse i' j'→a[i'-1]?=some x→∀p,Cut L true x b 0 j' p→p≤j'∧MidH L a.toList b.toList (o'++(b.extract p j').reverse).toList.reverse i' p∧∀y'∈b.toList.take p,Le L y' x:=fun o' i' j' x dx M' ex p C=>by
     have pj:p≤j':=C.1;refine⟨pj,?_,fun y' hy'=>?_⟩
     ·rw[Array.toList_append,Array.toList_reverse,List.reverse_append,List.reverse_reverse,qff];refine(M'.swap.push pj fun x' hx' y' hy'=>?_).swap;obtain⟨u,h1,h2,eu⟩:=qfB hy';have h3:L y' x=false:=C.2.2 u y' h1 h2 (by rw[Nat.zero_add];exact eu);exact qfZ O Sa (Sb.all _ (qaW eu)) ex h3 x' hx'
     ·obtain⟨u,h1,eu⟩:=qdN hy';have h3:L y' x=true:=C.2.1 u y' h1 (by rw[Nat.zero_add];exact eu);exact O.asy y' x (Sb.all _ (qaW eu)) dx h3
    by_cases hg:g>1
    case' pos=>rw[if_pos hg]
    case' neg=>rw[if_neg hg]
    all_goals
     refine wpS_bind (qdp sg2 fun st3 sg3=>?_);refine wpS_bind (qby ey ?_);refine wpS_bind (qdk O (sg3.1.trans hk) dy (Sa.run O (by omega)) (by omega) fun p C=>?_);dsimp only;obtain⟨pi,M2,nx⟩:=cutA p C;clear cutA C
     by_cases k0:i-p>0
     case' pos =>
      rw[if_pos k0]
      by_cases e2:p=0
      ·rw[if_pos (beq_iff_eq.mpr e2)];exact wpS_pure ⟨sg3,.inl ⟨_,rfl,endI _ _ _ M2 e2⟩⟩
      rw[if_neg (by simpa using e2)];have hi':0<p:=by omega
      have hij':p+j+t2≤i1+j1:=by omega
      have la':p≤a.size:=by omega
      clear e2 M hi hij k0 la;generalize o++(a.extract p i).reverse=o' at M2⊢;generalize i-p=kk;generalize p=i' at M2 nx hi' hij' la'⊢
     case' neg =>
      rw[if_neg k0];obtain rfl:p=i:=by omega
      have hi':=hi;have hij':=hij;have la':=la;clear M2;have M2:=M;clear M hi hij k0 la;generalize o=o' at M2⊢;generalize p-p=kk;generalize p=i' at M2 nx hi' hij' la'⊢
     all_goals
      refine wpS_bind (qby ey ?_);obtain⟨x,ex,mx⟩:=qce (a:=a) (i:=i'-1) (by omega);have dx:=Sa.all _ mx;have M3:MidH L a.toList b.toList (o'.push y).toList.reverse i' (j-1):=by
       rw[qcQ];exact M2.pushB1 (by omega) ey nx
      by_cases e3:j-1=1
      ·rw[if_pos (beq_iff_eq.mpr e3)];exact wpS_pure ⟨sg3,.inl ⟨_,rfl,endF _ _ _ M3 e3⟩⟩
      rw[if_neg (by simpa using e3)];refine wpS_bind (qby ex ?_);refine wpS_bind (qdk O (sg3.1.trans hk) dx (Sb.run O (by omega)) (by omega) fun p' C'=>?_);dsimp only;obtain⟨pj,M4,ny⟩:=cutB _ _ _ x dx M3 ex p' C';clear C'
      by_cases k1:j-1-p'>0
      case' pos =>
       rw[if_pos k1]
       by_cases e4:p'=1
       ·rw[if_pos (beq_iff_eq.mpr e4)];exact wpS_pure ⟨sg3,.inl ⟨_,rfl,endF _ _ _ M4 e4⟩⟩
       rw[if_neg (by simpa using e4)]
       by_cases e6:p'=0
       ·rw[if_pos (beq_iff_eq.mpr e6)];exact wpS_pure ⟨sg3,.inl ⟨_,rfl,endJ _ _ _ M4 e6⟩⟩
       rw[if_neg (by simpa using e6)];have hj':1<p':=by omega
       have hjj:p'≤j:=by omega
       clear M3 e4 e6 k1;generalize o'.push y++(b.extract p' (j-1)).reverse=o2 at M4⊢;generalize j-1-p'=k2;generalize p'=j2 at M4 ny hj' hjj⊢
      case' neg =>
       rw[if_neg k1];obtain rfl:p'=j-1:=by omega
       have hj':1<j-1:=by omega
       have hjj:j-1≤j:=by omega
       clear M4;have M4:=M3;clear M3 k1;generalize o'.push y=o2 at M4⊢;generalize j-1-(j-1)=k2;generalize j-1=j2 at M4 ny hj' hjj⊢
      all_goals
       refine wpS_bind (qby ex ?_);have M5:=M4.pushA1 hi' ex ny;rw[←qcQ]at M5
       by_cases e5:i'-1=0
       ·rw[if_pos (beq_iff_eq.mpr e5)];exact wpS_pure ⟨sg3,.inl ⟨_,rfl,endI _ _ _ M5 e5⟩⟩
       rw[if_neg (by simpa using e5)]
       split
       ·exact wpS_pure ⟨sg3,.inr ⟨_,_,_,_,_,_,rfl,M5,by omega,by omega,by omega⟩⟩
       ·exact wpS_pure ⟨sg3,_,_,_,_,_,_,rfl,M5,by omega,by omega,by omega⟩
end
end Tim
namespace Tim
open PySem PyProof.Rows
theorem mat_eq(i:Nat):mergeAt' i=(do
  let t ← get
  let (some (u,n,pw),some (v,m,_)):=((pendingOf t)[i]?,(pendingOf t)[i+1]?) | unsupported "internal:list.sort.pending"
  set (setPending t (((pendingOf t).setIfInBounds i (u,n+m,pw)).eraseIdxIfInBounds (i+1)))
  let some k ← gal false (← elem' (arrOf t) v) (arrOf t) u n 0 | return false
  let (u,n):=(u+k,n - k)
  if n == 0 then return true
  let some m ← gal true (← elem' (arrOf t) (u+n - 1)) (arrOf t) v m (m - 1) | return false
  if m == 0 then return true
  let x:=(arrOf t).extract u v; let y:=(arrOf t).extract v (v+m)
  let z ← if n≤m then mlo x y else mhi x y
  modify fun t=>setArr t (z.toList.zipIdx.foldl (fun a (p,j)=>a.setIfInBounds (u+j) p) (arrOf t))
  return (failedOf (← get)).isNone):=rfl
def seg(l:List Keyed)(u n:Nat):List Keyed:=(l.drop u).take n
def put(l:List Keyed)(u:Nat)(N:List Keyed):List Keyed:=l.take u++N++l.drop (u+N.length)
theorem qee{l N:List Keyed}{u:Nat}(h:u+N.length≤l.length):(put l u N).length=l.length:=by
 unfold put;rw[List.length_append,List.length_append,List.length_take,List.length_drop];omega
theorem qbm{l:List Keyed}{u n:Nat}(h:u+n≤l.length):(seg l u n).length=n:=by
 unfold seg;rw[List.length_take,List.length_drop];omega
theorem qbo{l:List Keyed}{u n t:Nat}:(seg l u n)[t]?=if t<n then l[u+t]? else none:=by
 unfold seg;rw[List.getElem?_take]
 split
 ·rw[List.getElem?_drop]
 ·rfl
theorem qc2{l N:List Keyed}{u t:Nat}(h:u+N.length≤l.length):(put l u N)[t]?=if t<u then l[t]? else if t<u+N.length then N[t-u]? else l[t]?:=by
 unfold put;have e1:(l.take u).length=u:=by rw[List.length_take];omega
 by_cases c1:t<u
 ·rw[if_pos c1,List.append_assoc,List.getElem?_append_left (by omega),List.getElem?_take,if_pos c1]
 ·rw[if_neg c1]
  by_cases c2:t<u+N.length
  ·rw[if_pos c2,List.append_assoc,List.getElem?_append_right (by omega),e1,List.getElem?_append_left (by omega)]
  ·rw[if_neg c2,List.getElem?_append_right (by rw[List.length_append,e1];omega),List.length_append,e1,List.getElem?_drop]
   congr 1
   omega
theorem seg_put_in{l N:List Keyed}{u:Nat}(h:u+N.length≤l.length):seg (put l u N) u N.length=N:=by
 refine List.ext_getElem? fun t=>?_
 rw[qbo,qc2 h]
 split
 ·rw[if_neg (by omega),if_pos (by omega)]
  congr 1
  omega
 ·rw[List.getElem?_eq_none (by omega)]
theorem qc3{l N:List Keyed}{u v n:Nat}(h:u+N.length≤l.length)(o:v+n≤u∨u+N.length≤v):seg (put l u N) v n=seg l v n:=by
 refine List.ext_getElem? fun t=>?_
 rw[qbo,qbo]
 split
 ·rw[qc2 h]
  by_cases c1:v+t<u
  ·rw[if_pos c1]
  ·rw[if_neg c1,if_neg (by omega)]
 ·rfl
theorem qeC{l:List Keyed}{u n:Nat}(h:u+n≤l.length):put l u (seg l u n)=l:=by
 refine List.ext_getElem? fun t=>?_
 rw[qc2 (by rw[qbm h];exact h),qbm h]
 split
 ·rfl
 ·split
  ·rw[qbo,if_pos (by omega)]
   congr 1
   omega
  ·rfl
theorem put_perm{l N N':List Keyed}{u:Nat}(hp:N.Perm N'):(put l u N).Perm (put l u N'):=by
 unfold put;rw[hp.length_eq];exact(List.Perm.append_left _ hp).append_right _
theorem qdA{l:List Keyed}{u n m:Nat}:seg l u (n+m)=seg l u n++seg l (u+n) m:=by
 unfold seg;rw[List.take_add,List.drop_drop]
theorem qeM{u:Nat}:∀(M:List Keyed) (k:Nat) (a:Array Keyed),u+k+M.length≤a.size→((M.zipIdx k).foldl (fun a (pj:Keyed×Nat)=>a.setIfInBounds (u+pj.2) pj.1) a).toList=put a.toList (u+k) M
 | [], k, a, _ => by
   show a.toList=put a.toList (u+k) []
   unfold put
   rw[List.append_nil,List.length_nil,Nat.add_zero,List.take_append_drop]
 | p :: M, k, a, h => by
   rw[List.length_cons]at h
   rw[List.zipIdx_cons,List.foldl_cons]
   have ih:=qeM (u:=u) M (k+1) (a.setIfInBounds (u+k) p) (by rw[Array.size_setIfInBounds];omega)
   refine ih.trans ?_
   rw[Array.toList_setIfInBounds]
   refine List.ext_getElem? fun t=>?_
   rw[qc2 (by rw[List.length_set];simp;omega),qc2 (by rw[List.length_cons];simp;omega),List.getElem?_set]
   simp only[List.length_cons,Array.length_toList]
   by_cases c1:t<u+k
   · rw[if_pos (by omega),if_pos c1,if_neg (by omega)]
   · rw[if_neg c1]
     by_cases c2:t=u+k
     · subst c2
       rw[if_pos (by omega),if_pos rfl,if_pos (by omega),if_pos (by omega),Nat.sub_self]
       rfl
     · rw[if_neg (by omega)]
       by_cases c3:t<u+k+(M.length+1)
       · rw[if_pos (by omega),if_pos c3]
         obtain⟨q,hq⟩:∃q,t-(u+k)=q+1:=⟨t-(u+k)-1,by omega⟩
         rw[hq,List.getElem?_cons_succ]
         congr 1
         omega
       · rw[if_neg (by omega),if_neg c3,if_neg (by omega)]
section
variable{prog:Program}{w:World}{A:Around}{E:Value→Shared→Prop}{s:Shared}{κ:SortKind}{D:Keyed→Prop}{L:Keyed→Keyed→Bool}
theorem wpS_set{x:SortSt}{Q:PUnit→SortSt→Prop}{st:SortSt}(h:Q ⟨⟩ x):wpS (model prog w) A E s (set x:SM PUnit) Q st:=by
 unfold wpS;rw[StateT.run_set];exact wpAny_pure ⟨rfl,h⟩
structure SegOk(D:Keyed→Prop)(L:Keyed→Keyed→Bool)(l:List Keyed)(u n:Nat):Prop where
 fit:u+n≤l.length
 ord:(seg l u n).Pairwise (Le L)
theorem SegOk.run(O:Ord prog w A s κ D L){xs:Array Keyed}(all:∀x∈xs.toList,D x){u n:Nat}(h:SegOk D L xs.toList u n):Run D L xs u n:=by
 have fit:=h.fit;simp only[Array.length_toList]at fit;refine⟨fun t ht=>?_,fun t r x y htr hr ex ey=>?_⟩
 ·obtain⟨x,ex,mx⟩:=qce (a:=xs) (i:=u+t) (by omega);exact⟨x,ex,all x mx⟩
 ·by_cases e:t=r
  ·subst e;rw[ex]at ey;cases ey;exact O.irr _ (all _ (qaW ex))
  ·have h1:(seg xs.toList u n)[t]?=some x:=by rw[qbo,if_pos (by omega)];simpa using ex
   have h2:(seg xs.toList u n)[r]?=some y:=by rw[qbo,if_pos hr];simpa using ey
   obtain⟨p1,e1⟩:=List.getElem?_eq_some_iff.mp h1;obtain⟨p2,e2⟩:=List.getElem?_eq_some_iff.mp h2;have:=List.pairwise_iff_getElem.mp h.ord t r p1 p2 (by omega);rw[e1,e2]at this;exact this
theorem qfg(a:Array Keyed)(u v:Nat):(a.extract u v).toList=seg a.toList u (v-u):=by
 rw[Array.toList_extract];rfl
end
end Tim
namespace Tim
open PySem PyProof.Rows
section
variable{prog:Program}{w:World}{A:Around}{E:Value→Shared→Prop}{s:Shared}{κ:SortKind}{D:Keyed→Prop}{L:Keyed→Keyed→Bool}
theorem qbh{a:Array Keyed}{u n:Nat}{x:Keyed}(h:x∈seg a.toList u n):∃t,t<n∧a[u+t]?=some x:=qd8 h
theorem qdx{l:List Keyed}{u n k m:Nat}(h:k+m≤n):seg l (u+k) m=seg (seg l u n) k m:=by
 refine List.ext_getElem? fun t=>?_
 rw[qbo,qbo]
 split
 ·rw[qbo,if_pos (by omega),Nat.add_assoc]
 ·rfl
theorem put_mid{l z:List Keyed}{u k r:Nat}(h:u+k+z.length+r≤l.length):put l (u+k) z=put l u (seg l u k++z++seg l (u+k+z.length) r):=by
 have e1:(seg l u k).length=k:=qbm (by omega);have e2:(seg l (u+k+z.length) r).length=r:=qbm (by omega);have e3:(seg l u k++z++seg l (u+k+z.length) r).length=k+z.length+r:=by rw[List.length_append,List.length_append,e1,e2]
 refine List.ext_getElem? fun t=>?_
 rw[qc2 (by omega),qc2 (by rw[e3];omega),e3]
 by_cases c1:t<u
 ·rw[if_pos (by omega),if_pos c1]
 ·rw[if_neg c1]
  by_cases c2:t<u+k
  ·rw[if_pos c2,if_pos (by omega),List.append_assoc,List.getElem?_append_left (by rw[e1];omega),qbo,if_pos (by omega)]
   congr 1
   omega
  ·rw[if_neg c2]
   by_cases c3:t<u+k+z.length
   ·rw[if_pos c3,if_pos (by omega),List.append_assoc,List.getElem?_append_right (by rw[e1];omega),e1,List.getElem?_append_left (by omega)]
    congr 1
    omega
   ·rw[if_neg c3]
    by_cases c4:t<u+(k+z.length+r)
    ·rw[if_pos c4,List.getElem?_append_right (by rw[List.length_append,e1];omega),List.length_append,e1,qbo,if_pos (by omega)]
     congr 1
     omega
    ·rw[if_neg c4]
theorem qeB{l:List Keyed}(h:l.Pairwise (Le L))(k m:Nat):(seg l k m).Pairwise (Le L):=(h.sublist (List.drop_sublist _ _)).sublist (List.take_sublist _ _)
theorem wp_mat(O:Ord prog w A s κ D L){st:SortSt}{i u n v m pw pw':Nat}{Q:Bool→SortSt→Prop}(hk:kindOf st=κ)(hf:failedOf st=none)(all:∀ x∈(arrOf st).toList,D x)(e1:(pendingOf st)[i]?=some (u,n,pw))(e2:(pendingOf st)[i+1]?=some (v,m,pw'))(hv:v=u+n)(n1:1≤n)(m1:1≤m)(s1:SegOk D L (arrOf st).toList u n)(s2:SegOk D L (arrOf st).toList v m)(q:∀ (st':SortSt) (N:List Keyed),kindOf st'=κ→failedOf st'=none→pendingOf st'=((pendingOf st).setIfInBounds i (u,n+m,pw)).eraseIdxIfInBounds (i+1)→(arrOf st').toList=put (arrOf st).toList u N→N.length=n+m→N.Perm (seg (arrOf st).toList u (n+m))→N.Pairwise (Le L)→Q true st'):wpS (model prog w) A E s (mergeAt' i) Q st:=by
 rw [mat_eq]
 refine wpS_bind (wpS_get ?_)
 rw [e1,e2]
 dsimp only
 refine wpS_bind (wpS_set ?_)
 subst hv
 have f2:=s2.fit
 simp only [Array.length_toList] at f2
 generalize hP:((pendingOf st).setIfInBounds i (u,n+m,pw)).eraseIdxIfInBounds (i+1)=P at q ⊢
 generalize hl:arrOf st=xs at *
 obtain ⟨y0,ey0,my0⟩:=qce (a:=xs) (i:=u+n) (by omega)
 refine wpS_bind (qby ey0 ?_)
 have R1:=s1.run O all
 have R2:=s2.run O all
 refine wpS_bind (qdk O hk (all _ my0) R1 (by omega) fun k C1=>?_)
 dsimp only
 have kn:k≤n:=C1.1
 have whole:seg xs.toList u (n+m)=seg xs.toList u n++seg xs.toList (u+n) m:=qdA
 have fitA:u+(n+m)≤xs.toList.length:=by simp; omega
 have stay:(∀ x∈seg xs.toList u n,∀ y∈seg xs.toList (u+n) m,Le L x y)→Q true (setPending st P):=fun c=>by
  refine q _ (seg xs.toList u (n+m)) hk hf rfl ?_ (qbm fitA) (.refl _) ?_
  ·show (arrOf st).toList=_
   rw [hl,qeC fitA]
  ·rw [whole]
   exact List.pairwise_append.mpr ⟨s1.ord,s2.ord,c⟩
 by_cases z1:n - k=0
 ·rw [if_pos (beq_iff_eq.mpr z1)]
  refine wpS_pure (stay fun x hx y hy=>?_)
  obtain ⟨t,ht,et⟩:=qbh hx
  obtain ⟨t',ht',et'⟩:=qbh hy
  have h1:(!L y0 x)=true:=C1.2.1 t x (by omega) et
  exact O.tr y y0 x (all _ (qaW et')) (all _ my0) (all _ (qaW et)) (R2.ord 0 t' y0 y (Nat.zero_le _) ht' ey0 et') (by simpa using h1)
 rw [if_neg (by simpa using z1)]
 rw [show u+k+(n - k) - 1=u+n - 1 by omega]
 obtain ⟨x9,ex9,mx9⟩:=qce (a:=xs) (i:=u+n - 1) (by omega)
 refine wpS_bind (qby ex9 ?_)
 refine wpS_bind (qdk O hk (all _ mx9) R2 (by omega) fun m' C2=>?_)
 dsimp only
 have mm:m'≤m:=C2.1
 have ex9':xs[u+(n - 1)]?=some x9:=by rw [show u+(n - 1)=u+n - 1 by omega]; exact ex9
 by_cases z2:m'=0
 ·rw [if_pos (beq_iff_eq.mpr z2)]
  refine wpS_pure (stay fun x hx y hy=>?_)
  obtain ⟨t,ht,et⟩:=qbh hx
  obtain ⟨t',ht',et'⟩:=qbh hy
  have h1:L y x9=false:=C2.2.2 t' y (by omega) ht' et'
  exact O.tr y x9 x (all _ (qaW et')) (all _ mx9) (all _ (qaW et)) h1 (R1.ord t (n - 1) x x9 (by omega) (by omega) et ex9')
 rw [if_neg (by simpa using z2)]
 have tx:(xs.extract (u+k) (u+n)).toList=seg xs.toList (u+k) (n - k):=by rw [qfg]; congr 1; omega
 have ty:(xs.extract (u+n) (u+n+m')).toList=seg xs.toList (u+n) m':=by rw [qfg]; congr 1; omega
 have lx:(xs.extract (u+k) (u+n)).size=n - k:=by rw [← Array.length_toList,tx,qbm (by simp; omega)]
 have ly:(xs.extract (u+n) (u+n+m')).size=m':=by rw [← Array.length_toList,ty,qbm (by simp; omega)]
 have atx:∀ t,(xs.extract (u+k) (u+n))[t]?=if t < n - k then xs[u+k+t]? else none:=fun t=>by
  have:(xs.extract (u+k) (u+n)).toList[t]?=(xs.extract (u+k) (u+n))[t]?:=Array.getElem?_toList ..
  rw [← this,tx,qbo]
  simp
 have aty:∀ t,(xs.extract (u+n) (u+n+m'))[t]?=if t < m' then xs[u+n+t]? else none:=fun t=>by
  have:(xs.extract (u+n) (u+n+m')).toList[t]?=(xs.extract (u+n) (u+n+m'))[t]?:=Array.getElem?_toList ..
  rw [← this,ty,qbo]
  simp
 have Sx:Srt D L (xs.extract (u+k) (u+n)):=by
  refine ⟨fun x hx=>?_,?_⟩
  ·rw [tx] at hx
   obtain ⟨t,_,et⟩:=qbh hx
   exact all _ (qaW et)
  ·rw [tx,qdx (n:=n) (by omega)]
   exact qeB s1.ord _ _
 have Sy:Srt D L (xs.extract (u+n) (u+n+m')):=by
  refine ⟨fun x hx=>?_,?_⟩
  ·rw [ty] at hx
   obtain ⟨t,_,et⟩:=qbh hx
   exact all _ (qaW et)
  ·rw [ty]
   have:=qdx (l:=xs.toList) (u:=u+n) (n:=m) (k:=0) (m:=m') (by omega)
   rw [Nat.add_zero] at this
   rw [this]
   exact qeB s2.ord _ _
 have h0:∀ y,(xs.extract (u+n) (u+n+m'))[0]?=some y→∀ x∈(xs.extract (u+k) (u+n)).toList,Le L y x:=fun y ey x hx=>by
  rw [aty,if_pos (by omega),Nat.add_zero,ey0] at ey
  cases ey
  rw [tx] at hx
  obtain ⟨t,ht,et⟩:=qbh hx
  have h1:(!L y0 x)=false:=C1.2.2 (k+t) x (by omega) (by omega) (by rw [← Nat.add_assoc]; exact et)
  exact O.asy y0 x (all _ my0) (all _ (qaW et)) (by simpa using h1)
 have hL:∀ x,(xs.extract (u+k) (u+n))[(xs.extract (u+k) (u+n)).size - 1]?=some x→∀ y∈(xs.extract (u+n) (u+n+m')).toList,Le L y x:=fun x ex y hy=>by
  rw [lx,atx,if_pos (by omega),show u+k+(n - k - 1)=u+n - 1 by omega,ex9] at ex
  cases ex
  rw [ty] at hy
  obtain ⟨t,ht,et⟩:=qbh hy
  have h1:L y x9=true:=C2.2.1 t y ht et
  exact O.asy y x9 (all _ (qaW et)) (all _ mx9) h1
 have fin:∀ (z:Array Keyed) (st':SortSt),SG (setPending st P) st'→Merged L (xs.extract (u+k) (u+n)).toList (xs.extract (u+n) (u+n+m')).toList z→wpS (model prog w) A E s (do
   modify fun t=>setArr t (z.toList.zipIdx.foldl (fun a (x:Keyed × Nat)=>match x with | (p,j)=>a.setIfInBounds (u+k+j) p) (arrOf t))
   let t ← get
   pure (failedOf t).isNone) Q st':=fun z st' sg mz=>by
  have zl:z.toList.length=n - k+m':=by
   rw [mz.2.length_eq,List.length_append,Array.length_toList,Array.length_toList,lx,ly]
  have ax:arrOf st'=xs:=by
   have:=sg.2.1
   exact this.trans hl
  refine wpS_bind (wpS_modify (wpS_bind (wpS_get (wpS_pure ?_))))
  have ff:failedOf st'=none:=sg.2.2.2.trans hf
  show Q (failedOf st').isNone _
  rw [ff]
  have tot:u+k+z.toList.length+(m - m')≤xs.toList.length:=by rw [zl]; simp; omega
  have key:∀ a,a∈z.toList→(∃ t,k≤t∧t < n∧xs[u+t]?=some a)∨∃ t,t < m'∧xs[u+n+t]?=some a:=fun a ha=>by
   have:=mz.2.mem_iff.mp ha
   rw [tx,ty] at this
   rcases List.mem_append.mp this with h | h
   ·obtain ⟨t,ht,et⟩:=qbh h
    exact .inl ⟨k+t,by omega,by omega,by rw [← Nat.add_assoc]; exact et⟩
   ·obtain ⟨t,ht,et⟩:=qbh h
    exact .inr ⟨t,ht,et⟩
  have px9:∀ t x,t < n→xs[u+t]?=some x→L x9 x=false:=fun t x ht ex=>R1.ord t (n - 1) x x9 (by omega) (by omega) ex ex9'
  have y0p:∀ t y,t < m→xs[u+n+t]?=some y→L y y0=false:=fun t y ht ey=>R2.ord 0 t y0 y (Nat.zero_le _) ht ey0 ey
  have sx9:∀ t y,m'≤t→t < m→xs[u+n+t]?=some y→L y x9=false:=fun t y h1 h2 ey=>C2.2.2 t y h1 h2 ey
  have py0:∀ t x,t < k→xs[u+t]?=some x→L y0 x=false:=fun t x ht ex=>by
   have h1:(!L y0 x)=true:=C1.2.1 t x ht ex
   simpa using h1
  have dm:∀ {t:Nat} {x:Keyed},xs[t]?=some x→D x:=fun e=>all _ (qaW e)
  refine q _ (seg xs.toList u k++z.toList++seg xs.toList (u+k+z.toList.length) (m - m')) (sg.1.trans hk) ff sg.2.2.1 ?_ ?_ ?_ ?_
  ·show (z.toList.zipIdx.foldl (fun a (x:Keyed × Nat)=>match x with | (p,j)=>a.setIfInBounds (u+k+j) p) (arrOf st')).toList=_
   rw [ax,← put_mid tot]
   have:=qeM (u:=u+k) z.toList 0 xs (by rw [Nat.add_zero,zl]; omega)
   rw [Nat.add_zero] at this
   exact this
  ·rw [List.length_append,List.length_append,qbm (by omega),qbm (by omega),zl]
   omega
  ·have e1:seg xs.toList u (n+m)=seg xs.toList u k++(seg xs.toList (u+k) (n - k)++seg xs.toList (u+n) m')++seg xs.toList (u+k+z.toList.length) (m - m'):=by
    rw [show n+m=k+(n - k+m'+(m - m')) by omega,qdA,qdA,qdA,zl,show u+k+(n - k)=u+n by omega]
    simp only [List.append_assoc]
   rw [e1]
   refine List.Perm.append_right _ (List.Perm.append_left _ ?_)
   rw [← tx,← ty]
   exact mz.2
  ·have inS:∀ y,y∈seg xs.toList (u+k+z.toList.length) (m - m')→∃ t,m'≤t∧t < m∧xs[u+n+t]?=some y:=fun y hy=>by
    obtain ⟨t,ht,et⟩:=qbh hy
    rw [zl] at et
    exact ⟨m'+t,by omega,by omega,by rw [show u+n+(m'+t)=u+k+(n - k+m')+t by omega]; exact et⟩
   refine List.pairwise_append.mpr ⟨List.pairwise_append.mpr ⟨?_,mz.1,fun x hx y hy=>?_⟩,?_,fun x hx y hy=>?_⟩
   ·have:=qdx (l:=xs.toList) (u:=u) (n:=n) (k:=0) (m:=k) (by omega)
    rw [Nat.add_zero] at this
    rw [this]
    exact qeB s1.ord _ _
   ·obtain ⟨t,ht,et⟩:=qbh hx
    rcases key y hy with ⟨t',h1,h2,et'⟩ | ⟨t',h1,et'⟩
    ·exact R1.ord t t' x y (by omega) h2 et et'
    ·exact O.tr y y0 x (dm et') (all _ my0) (dm et) (y0p t' y (by omega) et') (py0 t x ht et)
   ·rw [zl,show u+k+(n - k+m')=u+n+m' by omega,qdx (n:=m) (by omega)]
    exact qeB s2.ord _ _
   ·obtain ⟨t',h1,h2,et'⟩:=inS y hy
    rcases List.mem_append.mp hx with hx | hx
    ·obtain ⟨t,ht,et⟩:=qbh hx
     exact O.tr y x9 x (dm et') (all _ mx9) (dm et) (sx9 t' y h1 h2 et') (px9 t x (by omega) et)
    ·rcases key x hx with ⟨t,h3,h4,et⟩ | ⟨t,h3,et⟩
     ·exact O.tr y x9 x (dm et') (all _ mx9) (dm et) (sx9 t' y h1 h2 et') (px9 t x h4 et)
     ·exact R2.ord t t' x y (by omega) h2 et et'
 by_cases c:n - k≤m'
 ·rw [if_pos c]
  exact wpS_bind (wp_mlo O hk Sx Sy (by omega) (by omega) h0 hL fun z st' sg mz=>fin z st' sg mz)
 ·rw [if_neg c]
  exact wpS_bind (wp_mhi O hk Sx Sy (by omega) (by omega) h0 hL fun z st' sg mz=>fin z st' sg mz)
end
end Tim
namespace Tim
open PySem PyProof.Rows
def T(xs:Array Keyed)(i:Nat):Keyed:=xs[i]?.getD (.none,.none)
theorem qc6{xs ys:Array Keyed}{i j:Nat}(h:xs[i]?=ys[j]?):T xs i=T ys j:=by unfold T;rw[h]
theorem T_at{xs:Array Keyed}{i:Nat}(h:i<xs.size):xs[i]?=some (T xs i):=by
 unfold T;rw[Array.getElem?_eq_getElem h];rfl
theorem T_bubble{xs:Array Keyed}{src d:Nat}(hs:src<xs.size)(hd:d≤src)(k:Nat) :
  T (bubble xs src d) k=if k=src-d then T xs src else if src-d<k∧k≤src then T xs (k-1)else T xs k:=by
 have e:=getElem?_bubble hs d hd k
 by_cases h1:k=src-d
 ·rw[if_pos h1]at e⊢;exact qc6 e
 ·rw[if_neg h1]at e⊢
  by_cases h2:src-d<k∧k≤src
  ·rw[if_pos h2]at e⊢;exact qc6 e
  ·rw[if_neg h2]at e⊢;exact qc6 e
theorem qcL{xs:Array Keyed}{i j:Nat}(hj:j≤xs.size)(k:Nat) :
  T (mirror xs i j ((j-i) / 2)) k=if i≤k∧k<j then T xs (i+j-1-k)else T xs k:=by
 have e:=getElem?_mirror_all (i:=i) hj k
 by_cases h1:i≤k∧k<j
 ·rw[if_pos h1]at e⊢;exact qc6 e
 ·rw[if_neg h1]at e⊢;exact qc6 e
structure Kp(κ:SortKind)(P:Array (Nat×Nat×Nat))(a₀:Array Keyed)(lo hi:Nat)(st:SortSt):Prop where
 kind:kindOf st=κ
 failed:failedOf st=none
 pend:pendingOf st=P
 perm:(arrOf st).Perm a₀
 out:∀t,t<lo∨hi≤t→(arrOf st)[t]?=a₀[t]?
section
variable{prog:Program}{w:World}{A:Around}{E:Value→Shared→Prop}{s:Shared}{κ:SortKind}{D:Keyed→Prop}{L:Keyed→Keyed→Bool}{P:Array (Nat×Nat×Nat)}{a₀:Array Keyed}{lo hi:Nat}
theorem Kp.size{st:SortSt}(h:Kp κ P a₀ lo hi st):(arrOf st).size=a₀.size:=h.perm.size_eq
theorem Kp.dom{st:SortSt}(h:Kp κ P a₀ lo hi st)(all:∀x∈a₀.toList,D x){i:Nat}(hi':i<a₀.size):D (T (arrOf st) i):=by
 have e:=T_at (xs:=arrOf st) (i:=i) (by rw[h.size];exact hi');exact all _ ((Array.perm_iff_toList_perm.mp h.perm).mem_iff.mp (qaW e))
theorem Kp.bub{st:SortSt}(h:Kp κ P a₀ lo hi st){src d:Nat}(h1:lo≤src-d)(h2:src<hi)(h3:hi≤a₀.size)(h4:d≤src):Kp κ P a₀ lo hi (setArr st (bubble (arrOf st) src d)):=by
 refine⟨h.kind,h.failed,h.pend,(bubble_perm _ _ _).trans h.perm,fun t ht=>?_⟩;show(bubble (arrOf st) src d)[t]?=_;rw[getElem?_bubble (by rw[h.size];omega) d h4,if_neg (by omega),if_neg (by omega)];exact h.out t ht
theorem Kp.mir{st:SortSt}(h:Kp κ P a₀ lo hi st){i j:Nat}(h1:lo≤i)(h2:j≤hi)(h3:hi≤a₀.size):Kp κ P a₀ lo hi (setArr st (mirror (arrOf st) i j ((j-i) / 2))):=by
 refine⟨h.kind,h.failed,h.pend,(mirror_perm _ _ _ _).trans h.perm,fun t ht=>?_⟩;show(mirror (arrOf st) i j ((j-i) / 2))[t]?=_;rw[getElem?_mirror_all (by rw[h.size];omega),if_neg (by omega)];exact h.out t ht
theorem qdJ(O:Ord prog w A s κ D L)(all:∀x∈a₀.toList,D x){st:SortSt}(hB:Kp κ P a₀ lo hi st){i j:Nat}{Q:Option Bool→SortSt→Prop}(hi':i<a₀.size)(hj:j<a₀.size)(h:Q (some (L (T (arrOf st) i) (T (arrOf st) j))) st):wpS (model prog w) A E s (ltAt' i j) Q st:=by
 rw[ltAt'_eq];refine wpS_bind (wpS_get ?_);refine wpS_bind (qby (T_at (by rw[hB.size];exact hi')) ?_);refine wpS_bind (qby (T_at (by rw[hB.size];exact hj)) ?_);exact O.ask E _ _ _ st hB.kind (hB.dom all hi') (hB.dom all hj) h
def Up(L:Keyed→Keyed→Bool)(xs:Array Keyed)(lo n:Nat):Prop:=∀i j,i≤j→j<n→L (T xs (lo+j)) (T xs (lo+i))=false
def Dn(L:Keyed→Keyed→Bool)(xs:Array Keyed)(lo n:Nat):Prop:=∀i j,i≤j→j<n→L (T xs (lo+i)) (T xs (lo+j))=false
theorem wp_ins(O:Ord prog w A s κ D L)(all:∀ x∈a₀.toList,D x){st:SortSt}{n ok:Nat}{Q:Bool→SortSt→Prop}(hn:lo+n≤hi)(hh:hi≤a₀.size)(h1:1≤ok)(hok:ok≤n)(hB:Kp κ P a₀ lo hi st)(hs:Up L (arrOf st) lo ok)(h:∀ st',Kp κ P a₀ lo hi st'→Up L (arrOf st') lo n→Q true st'):wpS (model prog w) A E s (binarySort' lo n ok) Q st:=by
 rw [binarySort'_eq]
 refine wpS_bind (wpS_mono (wpS_forRange (I:=fun k c st'=>c=(none,())∧Kp κ P a₀ lo hi st'∧Up L (arrOf st') lo (min k n))
  (Q:=fun c st'=>c=(none,())∧Kp κ P a₀ lo hi st'∧Up L (arrOf st') lo n) ?step ?fin ⟨rfl,hB,fun i j hij hj=>hs i j hij (by omega)⟩) ?post)
 case post =>
  rintro c st' ⟨rfl,hB',hs'⟩
  exact wpS_pure (h st' hB' hs')
 case fin =>
  rintro c st' ⟨hc,hB',hs'⟩
  refine ⟨hc,hB',?_⟩
  rwa [show min (max (max ok 1) n) n=n by omega] at hs'
 case step =>
  rintro k c st' hak hkn ⟨rfl,hB',hs'⟩
  rw [show min k n=k by omega] at hs'
  have hk:lo+k < a₀.size:=by omega
  have dT:∀ {i:Nat},i≤k→D (T (arrOf st') (lo+i)):=fun hi'=>hB'.dom all (by omega)
  refine wpS_bind (wpS_mono (wpS_forRange (I:=fun x c st''=>st''=st'∧∃ l r,c=(none,l,r)∧l≤r∧r≤k∧r - l≤k - x ∧
    (∀ i,i < l→L (T (arrOf st') (lo+k)) (T (arrOf st') (lo+i))=false)∧(∀ i,r≤i→i < k→L (T (arrOf st') (lo+i)) (T (arrOf st') (lo+k))=false))
   (Q:=fun c st''=>st''=st'∧∃ l r,c=(none,l,r)∧l≤k ∧
    (∀ i,i < l→L (T (arrOf st') (lo+k)) (T (arrOf st') (lo+i))=false)∧(∀ i,l≤i→i < k→L (T (arrOf st') (lo+i)) (T (arrOf st') (lo+k))=false)) ?istep ?ifin ⟨rfl,0,k,rfl,by omega,by omega,by omega,fun i hi=>by omega,fun i h1 h2=>by omega⟩) ?ipost)
  case ifin =>
   rintro c st'' ⟨rfl,l,r,rfl,hlr,hrk,hm,hlo,hhi⟩
   have:l=r:=by omega
   subst this
   exact ⟨rfl,l,l,rfl,hrk,hlo,hhi⟩
  case istep =>
   rintro x c st'' _ hxk ⟨rfl,l,r,rfl,hlr,hrk,hm,hlo,hhi⟩
   dsimp only
   by_cases hge:l ≥ r
   ·rw [if_pos hge]
    have:l=r:=by omega
    subst this
    exact wpS_pure ⟨rfl,l,l,rfl,hrk,hlo,hhi⟩
   ·rw [if_neg hge]
    refine wpS_bind (qdJ O all hB' hk (by omega) ?_)
    dsimp only
    cases hless:L (T (arrOf st'') (lo+k)) (T (arrOf st'') (lo+(l+r) / 2)) with
    | true =>
      rw [if_pos rfl]
      refine wpS_pure ⟨rfl,l,(l+r) / 2,rfl,by omega,by omega,by omega,hlo,fun i h1 h2=>?_⟩
      exact O.tr _ _ _ (dT (by omega)) (dT (by omega)) (dT (by omega)) (hs' ((l+r) / 2) i h1 h2) (O.asy _ _ (dT (by omega)) (dT (by omega)) hless)
    | false =>
      rw [if_neg Bool.false_ne_true]
      refine wpS_pure ⟨rfl,(l+r) / 2+1,r,rfl,by omega,by omega,by omega,fun i h1=>?_,hhi⟩
      exact O.tr _ _ _ (dT (by omega)) (dT (by omega)) (dT (by omega)) hless (hs' i ((l+r) / 2) (by omega) (by omega))
  case ipost =>
   rintro c st'' ⟨rfl,l,r,rfl,hlk,hlo,hhi⟩
   show wpS _ _ _ _ (do moveDown' (lo+k) (lo+l); pure (ForInStep.yield (none,()))) _ _
   rw [moveDown'_eq]
   refine wpS_bind (wpS_modify (wpS_pure ⟨rfl,hB'.bub (by omega) (by omega) hh (by omega),?_⟩))
   rw [show min (k+1) n=k+1 by omega]
   have hks:lo+k < (arrOf st'').size:=by rw [hB'.size]; exact hk
   intro i j hij hj
   show L (T (bubble (arrOf st'') (lo+k) (lo+k - (lo+l))) (lo+j)) (T (bubble (arrOf st'') (lo+k) (lo+k - (lo+l))) (lo+i))=false
   have bat:∀ t,t≤k→T (bubble (arrOf st'') (lo+k) (lo+k - (lo+l))) (lo+t)=T (arrOf st'') (lo+(if t=l then k else if l < t then t - 1 else t)):=fun t ht=>by
    rw [T_bubble hks (by omega),show lo+k - (lo+k - (lo+l))=lo+l by omega]
    by_cases c1:t=l
    ·rw [if_pos (by omega),if_pos c1]
    ·rw [if_neg (by omega),if_neg c1]
     by_cases c2:l < t
     ·rw [if_pos (by omega),if_pos c2]
      congr 1
      omega
     ·rw [if_neg (by omega),if_neg c2]
   rw [bat i (by omega),bat j (by omega)]
   by_cases ci:i=l
   ·rw [if_pos ci]
    by_cases cj:j=l
    ·rw [if_pos cj]
     exact O.irr _ (dT (Nat.le_refl _))
    ·rw [if_neg cj,if_pos (by omega)]
     exact hhi _ (by omega) (by omega)
   ·rw [if_neg ci]
    by_cases cj:j=l
    ·rw [if_pos cj,if_neg (by omega)]
     exact hlo _ (by omega)
    ·rw [if_neg cj]
     repeat' split
     all_goals first | (exfalso; omega) | exact hs' _ _ (by omega) (by omega)
end
end Tim
namespace Tim
open PySem PyProof.Rows
def upL(lo a z:Nat):SM (Option (Option Nat) × Nat):=forIn [a:z] (none,a) fun _ r=>do
 let o ← ltAt' (lo+r.2) (lo+r.2 - 1)
 match o with
 | some c=>if c=true then pure (.done (none,r.2)) else pure (.yield (none,r.2+1))
 | _=>pure (.done (some none,r.2))
def dnL(lo a z:Nat):SM (Option (Option Nat) × Nat × Nat):=forIn [a:z] (none,a,0) fun _ r=>do
 let o ← ltAt' (lo+r.2.1) (lo+r.2.1 - 1)
 match o with
 | some c =>
   if c=true then
     if r.2.2 > 0 then do
       reverseSlice' (lo+r.2.1 - (r.2.2+1)) (lo+r.2.1)
       pure (.yield (none,r.2.1+1,0))
     else pure (.yield (none,r.2.1+1,0))
   else do
     let o ← ltAt' (lo+r.2.1 - 1) (lo+r.2.1)
     match o with
     | some c=>if c=true then pure (.done (none,r.2.1,r.2.2)) else pure (.yield (none,r.2.1+1,r.2.2+1))
     | _=>pure (.done (some none,r.2.1,r.2.2))
 | _=>pure (.done (some none,r.2.1,r.2.2))
def endL(lo n z:Nat):SM (Option Nat):=do
 reverseSlice' lo (lo+n)
 let r ← upL lo n z
 match r.1 with
 | some q=>pure q
 | none=>pure (some r.2)
def qfd(lo n z:Nat):SM (Option Nat):=do
 liftM (rule "list.sort.descending-run")
 let r ← dnL lo (n+1) z
 match r.1 with
 | some q=>pure q
 | none =>
   if r.2.2 > 0 then do
     reverseSlice' (lo+r.2.1 - (r.2.2+1)) (lo+r.2.1)
     endL lo r.2.1 z
   else endL lo r.2.1 z
theorem bc{α β:Type}{m m':SM α}{f g:α→SM β}(h:m=m')(k:∀a,f a=g a):(m>>=f)=(m'>>=g):=by rw[h,funext k]
theorem run_eq(lo z:Nat):countRun' lo z=(do
  let r ← upL lo 1 z
  match r.1 with
  | some q=>pure q
  | none =>
    if (r.2 == z)=true then pure (some r.2)
    else if r.2 > 1 then do
      let o ← ltAt' lo (lo+r.2 - 1)
      match o with
      | some c=>if c=true then pure (some r.2) else do
          reverseSlice' lo (lo+r.2)
          qfd lo r.2 z
      | _=>pure none
    else qfd lo r.2 z):=by
 rw [countRun'_eq]
 unfold qfd endL
 refine bc rfl fun s1=>?_
 obtain ⟨r,n⟩:=s1
 cases r with
 | some r=>rfl
 | none =>
   dsimp only
   split
   · rfl
   · split
     · refine bc rfl fun x=>?_
       cases x with
       | none=>rfl
       | some rose =>
         dsimp only
         split
         · rfl
         · refine bc rfl fun _r=>?_
           refine bc rfl fun _u=>bc rfl fun s2=>?_
           obtain ⟨r2,n2,q2⟩:=s2
           cases r2 with
           | some r2=>rfl
           | none =>
             dsimp only
             split
             · refine bc rfl fun _v=>bc rfl fun _w=>bc rfl fun s3=>?_
               obtain ⟨r3,n3⟩:=s3
               cases r3 <;> rfl
             · refine bc rfl fun _w=>bc rfl fun s3=>?_
               obtain ⟨r3,n3⟩:=s3
               cases r3 <;> rfl
     · refine bc rfl fun _u=>bc rfl fun s2=>?_
       obtain ⟨r2,n2,q2⟩:=s2
       cases r2 with
       | some r2=>rfl
       | none =>
         dsimp only
         split
         · refine bc rfl fun _v=>bc rfl fun _w=>bc rfl fun s3=>?_
           obtain ⟨r3,n3⟩:=s3
           cases r3 <;> rfl
         · refine bc rfl fun _w=>bc rfl fun s3=>?_
           obtain ⟨r3,n3⟩:=s3
           cases r3 <;> rfl
section
variable{prog:Program}{w:World}{A:Around}{E:Value→Shared→Prop}{s:Shared}{κ:SortKind}{D:Keyed→Prop}{L:Keyed→Keyed→Bool}{P:Array (Nat×Nat×Nat)}{a₀:Array Keyed}{lo hi:Nat}
theorem Dn.mir{xs:Array Keyed}{a m p:Nat}(h:Dn L xs lo p)(hm:lo+m≤xs.size)(am:a≤m)(mp:m≤p)(eq:∀i j,a≤i→i<m→a≤j→j<m→L (T xs (lo+i)) (T xs (lo+j))=false):Dn L (mirror xs (lo+a) (lo+m) ((lo+m-(lo+a)) / 2)) lo p:=by
 intro i j hij hj;rw[qcL hm,qcL hm];have e:∀t,lo+a+(lo+m)-1-(lo+t)=lo+(a+m-1-t)∨lo+m≤lo+t∨t<a:=fun t=>by omega
 by_cases ci:lo+a≤lo+i∧lo+i<lo+m
 ·rw[if_pos ci,show lo+a+(lo+m)-1-(lo+i)=lo+(a+m-1-i) by omega]
  by_cases cj:lo+a≤lo+j∧lo+j<lo+m
  ·rw[if_pos cj,show lo+a+(lo+m)-1-(lo+j)=lo+(a+m-1-j) by omega];exact eq _ _ (by omega) (by omega) (by omega) (by omega)
  ·rw[if_neg cj];exact h _ _ (by omega) hj
 ·rw[if_neg ci]
  by_cases cj:lo+a≤lo+j∧lo+j<lo+m
  ·rw[if_pos cj,show lo+a+(lo+m)-1-(lo+j)=lo+(a+m-1-j) by omega];exact h _ _ (by omega) (by omega)
  ·rw[if_neg cj];exact h _ _ hij hj
theorem Dn.turn{xs:Array Keyed}{n:Nat}(h:Dn L xs lo n)(hm:lo+n≤xs.size):Up L (mirror xs lo (lo+n) ((lo+n-lo) / 2)) lo n:=by
 intro i j hij hj;rw[qcL hm,qcL hm,if_pos (by omega),if_pos (by omega),show lo+(lo+n)-1-(lo+i)=lo+(n-1-i) by omega,show lo+(lo+n)-1-(lo+j)=lo+(n-1-j) by omega];exact h _ _ (by omega) (by omega)
theorem qeD{st:SortSt}{i j:Nat}{Q:Unit→SortSt→Prop}(h:Q () (setArr st (mirror (arrOf st) i j ((j-i) / 2)))):wpS (model prog w) A E s (reverseSlice' i j) Q st:=by
 rw[reverseSlice'_eq];exact wpS_modify h
theorem qfz(O:Ord prog w A s κ D L)(all:∀x∈a₀.toList,D x){st:SortSt}{a z:Nat}{Q:_→SortSt→Prop}(hn:lo+z≤a₀.size)(ha:1≤a)(haz:a≤z)(hB:Kp κ P a₀ lo hi st)(hs:Up L (arrOf st) lo a)(h:∀n,a≤n→n≤z→Up L (arrOf st) lo n→(n=z∨L (T (arrOf st) (lo+n)) (T (arrOf st) (lo+n-1))=true)→Q (none,n) st):wpS (model prog w) A E s (upL lo a z) Q st:=by
 unfold upL;refine wpS_forRange (I:=fun x c st'=>st'=st∧c=(none,x)∧Up L (arrOf st) lo x) ?step ?fin ⟨rfl,rfl,hs⟩
 case fin =>
  rintro c st' ⟨rfl,rfl,hs'⟩;rw[show max a z=z by omega]at hs'⊢;exact h z haz (Nat.le_refl _) hs' (.inl rfl)
 case step =>
  rintro x c st' hax hxn ⟨rfl,rfl,hs'⟩;dsimp only;refine wpS_bind (qdJ O all hB (by omega) (by omega) ?_);dsimp only;have dT:∀{i:Nat},i≤x→D (T (arrOf st') (lo+i)):=fun hi'=>hB.dom all (by omega)
  cases hl:L (T (arrOf st') (lo+x)) (T (arrOf st') (lo+x-1))with
  | true =>
    rw[if_pos rfl]
    exact wpS_pure (h x hax (by omega) hs' (.inr hl))
  | false =>
    rw[if_neg Bool.false_ne_true]
    refine wpS_pure ⟨rfl,rfl,fun i j hij hj=>?_⟩
    by_cases hjx:j<x
    · exact hs' i j hij hjx
    · have hj':j=x:=by omega
      subst hj'
      by_cases hi':i=j
      · subst hi';exact O.irr _ (dT (Nat.le_refl _))
      · rw[show lo+j-1=lo+(j-1) by omega]at hl
        exact O.tr _ _ _ (dT (Nat.le_refl _)) (dT (by omega)) (dT (by omega)) hl (hs' i (j-1) (by omega) (by omega))
theorem qeV(O:Ord prog w A s κ D L)(all:∀x∈a₀.toList,D x){st:SortSt}{n z:Nat}{Q:Option Nat→SortSt→Prop}(hn:lo+z≤hi)(hh:hi≤a₀.size)(h1:1≤n)(hnz:n≤z)(hB:Kp κ P a₀ lo hi st)(hs:Dn L (arrOf st) lo n)(h:∀m st',Kp κ P a₀ lo hi st'→1≤m→m≤z→Up L (arrOf st') lo m→Q (some m) st'):wpS (model prog w) A E s (endL lo n z) Q st:=by
 unfold endL;refine wpS_bind (qeD ?_);have hB':=hB.mir (i:=lo) (j:=lo+n) (Nat.le_refl _) (by omega) hh;exact wpS_bind (qfz O all (by omega) h1 hnz hB' (hs.turn (by rw[hB.size];omega)) fun m hm1 hm2 hsm _=>wpS_pure (h m _ hB' (by omega) hm2 hsm))
theorem Dn.one(O:Ord prog w A s κ D L){xs:Array Keyed}{x:Nat}(h:Dn L xs lo x)(dT:∀{i:Nat},i≤x→D (T xs (lo+i)))(h1:1≤x)(hl:L (T xs (lo+x-1)) (T xs (lo+x))=false):Dn L xs lo (x+1):=by
 intro i j hij hj
 by_cases hjx:j<x
 ·exact h i j hij hjx
 ·have hj':j=x:=by omega
  subst hj'
  by_cases hi':i=j
  ·subst hi';exact O.irr _ (dT (Nat.le_refl _))
  ·rw[show lo+j-1=lo+(j-1) by omega]at hl;exact O.tr _ _ _ (dT (by omega)) (dT (by omega)) (dT (Nat.le_refl _)) (h i (j-1) (by omega) (by omega)) hl
def Alk(L:Keyed→Keyed→Bool)(xs:Array Keyed)(lo a m:Nat):Prop:=∀i j,a≤i→i<m→a≤j→j<m→L (T xs (lo+i)) (T xs (lo+j))=false
theorem wp_dnL(O:Ord prog w A s κ D L)(all:∀x∈a₀.toList,D x){st:SortSt}{n z:Nat}{Q:_→SortSt→Prop}(hn:lo+z≤hi)(hh:hi≤a₀.size)(h1:1≤n)(hnz:n≤z)(hB:Kp κ P a₀ lo hi st)(hs:Dn L (arrOf st) lo n)(h:∀m q st',Kp κ P a₀ lo hi st'→n≤m→m≤z→Dn L (arrOf st') lo m→q+1≤m→Alk L (arrOf st') lo (m-(q+1)) m→Q (none,m,q) st'):wpS (model prog w) A E s (dnL lo n z) Q st:=by
 unfold dnL;have one:∀{st':SortSt} {x:Nat},Kp κ P a₀ lo hi st'→1≤x→x≤z→Alk L (arrOf st') lo (x-(0+1)) x:=fun hB' hx hz i j a b c d=>by
  have:i=j:=by omega
  subst this;exact O.irr _ (hB'.dom all (by omega))
 refine wpS_forRange (I:=fun x c st'=>∃q,c=(none,x,q)∧Kp κ P a₀ lo hi st'∧Dn L (arrOf st') lo x∧q+1≤x∧Alk L (arrOf st') lo (x-(q+1)) x) ?step ?fin ⟨0,rfl,hB,hs,by omega,one hB h1 hnz⟩
 case fin =>
  rintro c st' ⟨q,rfl,hB',hs',hq,he⟩;rw[show max n z=z by omega]at hs' hq he⊢;exact h z q st' hB' hnz (Nat.le_refl _) hs' hq he
 case step =>
  rintro x c st' hax hxn ⟨q,rfl,hB',hs',hq,he⟩;dsimp only;have dT:∀{i:Nat},i≤x→D (T (arrOf st') (lo+i)):=fun hi'=>hB'.dom all (by omega)
  have dT1:D (T (arrOf st') (lo+x-1)):=hB'.dom all (by omega);have sz:=hB'.size;refine wpS_bind (qdJ O all hB' (by omega) (by omega) ?_);dsimp only;cases hl:L (T (arrOf st') (lo+x)) (T (arrOf st') (lo+x-1))with
  | true =>
    rw[if_pos rfl]
    have step1:=hs'.one O dT (by omega) (O.asy _ _ (dT (Nat.le_refl _)) dT1 hl)
    by_cases hneq:q>0
    · rw[if_pos hneq]
      have eqi:lo+x-(q+1)=lo+(x-(q+1)):=by omega
      rw[eqi]
      have hB2:=hB'.mir (i:=lo+(x-(q+1))) (j:=lo+x) (by omega) (by omega) hh
      exact wpS_bind (qeD (wpS_pure ⟨0,rfl,hB2,step1.mir (by omega) (by omega) (by omega) he,by omega,one hB2 (by omega) (by omega)⟩))
    · rw[if_neg hneq]
      exact wpS_pure ⟨0,rfl,hB',step1,by omega,one hB' (by omega) (by omega)⟩
  | false =>
    rw[if_neg Bool.false_ne_true]
    refine wpS_bind (qdJ O all hB' (by omega) (by omega) ?_)
    dsimp only
    cases hg:L (T (arrOf st') (lo+x-1)) (T (arrOf st') (lo+x))with
    | true =>
      rw[if_pos rfl]
      exact wpS_pure (h x q st' hB' hax (by omega) hs' hq he)
    | false =>
      rw[if_neg Bool.false_ne_true]
      have step1:=hs'.one O dT (by omega) hg
      refine wpS_pure ⟨q+1,rfl,hB',step1,by omega,fun i j a b c d=>?_⟩
      rw[show lo+x-1=lo+(x-1) by omega]at hl
      by_cases hij:i≤j
      · exact step1 i j hij d
      · by_cases hi':i<x
        · exact he i j (by omega) hi' (by omega) (by omega)
        · have:i=x:=by omega
          subst this
          exact O.tr _ _ _ (dT (Nat.le_refl _)) (dT (by omega)) (dT (by omega)) hl (he (i-1) j (by omega) (by omega) (by omega) (by omega))
theorem qeG(O:Ord prog w A s κ D L)(all:∀x∈a₀.toList,D x){st:SortSt}{n z:Nat}{Q:Option Nat→SortSt→Prop}(hn:lo+z≤hi)(hh:hi≤a₀.size)(hnz:n+1≤z)(hB:Kp κ P a₀ lo hi st)(hs:Dn L (arrOf st) lo (n+1))(h:∀m st',Kp κ P a₀ lo hi st'→1≤m→m≤z→Up L (arrOf st') lo m→Q (some m) st'):wpS (model prog w) A E s (qfd lo n z) Q st:=by
 unfold qfd;refine wpS_bind (qcz ?_);refine wpS_bind (wp_dnL O all hn hh (by omega) hnz hB hs fun m q st' hB' hm1 hm2 hs' hq he=>?_);dsimp only;have sz:=hB'.size
 by_cases hneq:q>0
 ·rw[if_pos hneq,show lo+m-(q+1)=lo+(m-(q+1)) by omega];exact wpS_bind (qeD (qeV O all hn hh (by omega) hm2 (hB'.mir (by omega) (by omega) hh) (hs'.mir (by omega) (by omega) (Nat.le_refl _) he) h))
 ·rw[if_neg hneq];exact qeV O all hn hh (by omega) hm2 hB' hs' h
theorem wp_run(O:Ord prog w A s κ D L)(all:∀x∈a₀.toList,D x){st:SortSt}{z:Nat}{Q:Option Nat→SortSt→Prop}(hn:lo+z≤hi)(hh:hi≤a₀.size)(h1:1≤z)(hB:Kp κ P a₀ lo hi st)(h:∀m st',Kp κ P a₀ lo hi st'→1≤m→m≤z→Up L (arrOf st') lo m→Q (some m) st'):wpS (model prog w) A E s (countRun' lo z) Q st:=by
 rw[run_eq];have dT:∀{i:Nat},i<z→D (T (arrOf st) (lo+i)):=fun hi'=>hB.dom all (by omega)
 refine wpS_bind (qfz O all (by omega) (Nat.le_refl 1) h1 hB (fun i j hij hj=>by
  have:i=j:=by omega
  subst this;exact O.irr _ (dT (by omega))) fun n hn1 hn2 hsn hor=>?_)
 dsimp only
 by_cases hnn:n=z
 ·rw[if_pos (by simpa using hnn)];exact wpS_pure (h n st hB hn1 hn2 hsn)
 ·rw[if_neg (by simpa using hnn)];have hlt:=hor.resolve_left hnn;rw[show lo+n-1=lo+(n-1) by omega]at hlt;have hge:=O.asy _ _ (dT (by omega)) (dT (by omega)) hlt;have fall:(∀i j,i<n→j<n→L (T (arrOf st) (lo+i)) (T (arrOf st) (lo+j))=false)→Dn L (arrOf st) lo (n+1):=fun eq=>by
   refine Dn.one O (fun i j hij hj=>eq i j (by omega) hj) (fun hi'=>dT (by omega)) hn1 ?_;rw[show lo+n-1=lo+(n-1) by omega];exact hge
  by_cases hgt:n>1
  ·rw[if_pos hgt];refine wpS_bind (qdJ O all hB (by omega) (by omega) ?_);dsimp only;cases hr:L (T (arrOf st) lo) (T (arrOf st) (lo+n-1))with
   | true =>
     rw[if_pos rfl]
     exact wpS_pure (h n st hB hn1 hn2 hsn)
   | false =>
     rw[if_neg Bool.false_ne_true]
     rw[show lo+n-1=lo+(n-1) by omega]at hr
     have d0:D (T (arrOf st) lo):=by have:=dT (i:=0) (by omega);rwa [Nat.add_zero]at this
     have eq:∀i j,i<n→j<n→L (T (arrOf st) (lo+i)) (T (arrOf st) (lo+j))=false:=fun i j hi' hj=>by
       by_cases hij:j≤i
       · exact hsn j i hij hi'
       · have a1:=hsn 0 i (by omega) hi'
         rw[Nat.add_zero]at a1
         have a2:=hsn j (n-1) (by omega) (by omega)
         exact O.tr _ _ _ (dT (by omega)) d0 (dT (by omega)) a1 (O.tr _ _ _ d0 (dT (by omega)) (dT (by omega)) hr a2)
     have sz:=hB.size
     refine wpS_bind (qeD (qeG O all hn hh (by omega) (hB.mir (Nat.le_refl _) (by omega) hh) ?_ h))
     have:=(fall eq).mir (a:=0) (m:=n) (by omega) (by omega) (by omega) fun i j _ b _ d=>eq i j b d
     rw[Nat.add_zero]at this
     exact this
  ·rw[if_neg hgt];refine qeG O all hn hh (by omega) hB (fall fun i j hi' hj=>?_) h;have:i=j:=by omega
   subst this;exact O.irr _ (dT (by omega))
end
end Tim
namespace Tim
open PySem PyProof.Rows
abbrev Pd:=Nat×Nat×Nat
def Stk(D:Keyed→Prop)(L:Keyed→Keyed→Bool)(l:List Keyed):Nat→List Pd→Nat→Prop
 | b,[],e=>b=e
 | b,p::r,e=>p.1=b∧1≤p.2.1∧SegOk D L l b p.2.1∧Stk D L l (b+p.2.1) r e
section
variable{D:Keyed→Prop}{L:Keyed→Keyed→Bool}{l l':List Keyed}
theorem Stk.len:∀{ps:List Pd} {b e:Nat},Stk D L l b ps e→b+ps.length≤e
 | [],b,e,h=>by cases h;simp
 | p :: r, b, e, h => by
   have:=Stk.len h.2.2.2
   have:=h.2.1
   rw[List.length_cons]
   omega
theorem SegOk.same{u n:Nat}(h:SegOk D L l u n)(hl:l'.length=l.length)(he:seg l' u n=seg l u n):SegOk D L l' u n:=⟨by rw[hl];exact h.fit,by rw[he];exact h.ord⟩
theorem Stk.frame(hl:l'.length=l.length):∀{ps:List Pd} {b e:Nat},Stk D L l b ps e→(∀x k,b≤x→x+k≤e→seg l' x k=seg l x k)→Stk D L l' b ps e
 | [],b,e,h,_=>h
 | p :: r, b, e, h, f => by
   have:=Stk.len h.2.2.2
   exact⟨h.1,h.2.1,h.2.2.1.same hl (f _ _ (Nat.le_refl _) (by omega)),Stk.frame hl h.2.2.2 fun x k hx hk=>f x k (by omega) hk⟩
theorem Stk.snoc{lo n x:Nat}(hn:1≤n)(hs:SegOk D L l lo n):∀{ps:List Pd} {b:Nat},Stk D L l b ps lo→Stk D L l b (ps++[(lo,n,x)]) (lo+n)
 | [],b,h=>by cases h;exact⟨rfl,hn,hs,rfl⟩
 | p::r,b,h=>⟨h.1,h.2.1,h.2.2.1,Stk.snoc hn hs h.2.2.2⟩
theorem Stk.pow{f:Pd→Pd}(hf:∀p,(f p).1=p.1∧(f p).2.1=p.2.1):∀{ps:List Pd} {b e:Nat} (i:Nat),Stk D L l b ps e→Stk D L l b (ps.modify i f) e
 | [],b,e,i,h=>by rw[List.modify_nil];exact h
 | p :: r, b, e, 0, h => by
   rw[List.modify_zero_cons]
   refine⟨(hf p).1.trans h.1,?_,?_,?_⟩
   · rw[(hf p).2];exact h.2.1
   · rw[(hf p).2];exact h.2.2.1
   · rw[(hf p).2];exact h.2.2.2
 | p :: r, b, e, i + 1, h => by
   rw[List.modify_succ_cons]
   exact⟨h.1,h.2.1,h.2.2.1,Stk.pow hf i h.2.2.2⟩
theorem Stk.merge{u n pw v m pw':Nat}:∀(i:Nat) {ps:List Pd} {b e:Nat},Stk D L l b ps e→ps[i]?=some (u,n,pw)→ps[i+1]?=some (v,m,pw') →
  (v=u+n∧1≤n∧1≤m∧SegOk D L l u n∧SegOk D L l v m∧b≤u∧v+m≤e)∧(l'.length=l.length→(∀x k,x+k≤u∨u+n+m≤x→seg l' x k=seg l x k)→SegOk D L l' u (n+m)→Stk D L l' b ((ps.set i (u,n+m,pw)).eraseIdx (i+1)) e)
 | 0,[],b,e,h,e1,e2=>by simp at e1
 | 0,[p],b,e,h,e1,e2=>by simp at e2
 | 0, p :: p' :: r, b, e, h, e1, e2 => by
   simp only[List.getElem?_cons_zero,Option.some.injEq]at e1
   simp only[List.getElem?_cons_succ,List.getElem?_cons_zero,Option.some.injEq]at e2
   subst e1 e2
   obtain⟨h1,h2,h3,h4,h5,h6,h7⟩:=h
   dsimp only at h1 h2 h3 h4 h5 h6 h7
   subst h1 h4
   have:=Stk.len h7
   refine⟨⟨rfl,h2,h5,h3,h6,Nat.le_refl _,by omega⟩,fun hl f ok=>?_⟩
   show Stk D L l' u ((u,n+m,pw)::r) e
   refine⟨rfl,by show 1≤n+m;omega,ok,?_⟩
   show Stk D L l' (u+(n+m)) r e
   rw[←Nat.add_assoc]
   exact h7.frame hl fun x k hx _=>f x k (.inr hx)
 | i+1,[],b,e,h,e1,e2=>by simp at e1
 | i + 1, p :: r, b, e, h, e1, e2 => by
   obtain⟨⟨a1,a2,a3,a4,a5,a6,a7⟩,g⟩:=Stk.merge i h.2.2.2 (by simpa using e1) (by simpa using e2)
   refine⟨⟨a1,a2,a3,a4,a5,by omega,a7⟩,fun hl f ok=>?_⟩
   show Stk D L l' b (p::(r.set i (u,n+m,pw)).eraseIdx (i+1)) e
   exact⟨h.1,h.2.1,h.2.2.1.same hl (f _ _ (.inl (by omega))),g hl f ok⟩
end
section
variable{prog:Program}{w:World}{A:Around}{E:Value→Shared→Prop}{s:Shared}{κ:SortKind}{D:Keyed→Prop}{L:Keyed→Keyed→Bool}{a₀:Array Keyed}
theorem Up.seg{xs:Array Keyed}{lo n:Nat}(h:Up L xs lo n)(hf:lo+n≤xs.size):SegOk D L xs.toList lo n:=by
 refine⟨by simpa using hf,List.pairwise_iff_getElem.mpr fun i j hi hj hij=>?_⟩;rw[qbm (by simpa using hf)]at hi hj;have at':∀{t:Nat} (ht:t<(Tim.seg xs.toList lo n).length),(Tim.seg xs.toList lo n)[t]=T xs (lo+t):=fun {t} ht=>by
  have h0:=List.getElem?_eq_getElem ht;rw[qbo,if_pos (by rw[qbm (by simpa using hf)]at ht;exact ht)]at h0;have h1:=T_at (xs:=xs) (i:=lo+t) (by rw[qbm (by simpa using hf)]at ht;omega);rw[←Array.getElem?_toList,h0]at h1;exact Option.some.inj h1
 rw[at',at'];exact h i j (by omega) hj
structure Jn(D:Keyed→Prop)(L:Keyed→Keyed→Bool)(κ:SortKind)(a₀:Array Keyed)(lo:Nat)(st:SortSt):Prop where
 kind:kindOf st=κ
 failed:failedOf st=none
 perm:(arrOf st).Perm a₀
 stk:Stk D L (arrOf st).toList 0 (pendingOf st).toList lo
theorem Jn.size{lo:Nat}{st:SortSt}(h:Jn D L κ a₀ lo st):(arrOf st).size=a₀.size:=h.perm.size_eq
theorem Jn.all{lo:Nat}{st:SortSt}(h:Jn D L κ a₀ lo st)(all:∀x∈a₀.toList,D x):∀x∈(arrOf st).toList,D x:=fun x hx=>all x ((Array.perm_iff_toList_perm.mp h.perm).mem_iff.mp hx)
theorem qfI(O:Ord prog w A s κ D L)(all:∀x∈a₀.toList,D x){lo i:Nat}{st:SortSt}{Q:Bool→SortSt→Prop}(h:Jn D L κ a₀ lo st)(hi:i+1<(pendingOf st).size)(q:∀st',Jn D L κ a₀ lo st'→(pendingOf st').size+1=(pendingOf st).size→(arrOf st').toList.length=(arrOf st).toList.length→(∀x k,lo≤x→Tim.seg (arrOf st').toList x k=Tim.seg (arrOf st).toList x k)→Q true st'):wpS (model prog w) A E s (mergeAt' i) Q st:=by
 obtain⟨⟨u,n,pw⟩,e1⟩:∃p,(pendingOf st)[i]=p:=⟨_,rfl⟩;obtain⟨⟨v,m,pw'⟩,e2⟩:∃p,(pendingOf st)[i+1]=p:=⟨_,rfl⟩;have f1:(pendingOf st)[i]?=some (u,n,pw):=by rw[Array.getElem?_eq_getElem (by omega),e1]
 have f2:(pendingOf st)[i+1]?=some (v,m,pw'):=by rw[Array.getElem?_eq_getElem (by omega),e2]
 have g:=fun l'=>Stk.merge (l':=l') i h.stk (by rw[Array.getElem?_toList];exact f1) (by rw[Array.getElem?_toList];exact f2)
 obtain⟨a1,a2,a3,a4,a5,a6,a7⟩:=(g []).1;refine wp_mat O h.kind h.failed (h.all all) f1 f2 a1 a2 a3 a4 a5 fun st' N k1 k2 k3 k4 k5 k6 k7=>?_
 have fit:u+N.length≤(arrOf st).toList.length:=by have:=a5.fit;rw[k5];omega
 have ok:SegOk D L (arrOf st').toList u (n+m):=by
  rw[k4];refine⟨by rw[qee fit];omega,?_⟩;rw[←k5,seg_put_in fit];exact k7
 refine q st' ⟨k1,k2,?_,?_⟩ ?_ (by rw[k4,qee fit]) fun x k hx=>?_
 ·refine Array.Perm.trans ?_ h.perm;rw[Array.perm_iff_toList_perm,k4];have:=put_perm (l:=(arrOf st).toList) (u:=u) k6;rw[qeC (by omega)]at this;exact this
 ·rw[k3,Array.toList_eraseIdxIfInBounds,Array.toList_setIfInBounds];refine(g _).2 (by rw[k4,qee fit]) (fun x k hx=>?_) ok;rw[k4];exact qc3 fit (by omega)
 ·rw[k3,←Array.length_toList,Array.toList_eraseIdxIfInBounds,Array.toList_setIfInBounds,List.length_eraseIdx,List.length_set,Array.length_toList,if_pos (by omega)];omega
 ·rw[k4];exact qc3 fit (by omega)
def lay(z lo n:Nat):SM (ForInStep (Option Unit × Nat)):=do
 let t ← get
 match (pendingOf t).back? with
 | some (u, k, _) => do
   let r ← forIn [0:z] ((none,()):Option Unit × Unit) fun _ _=>do
     let t ← get
     match (if (pendingOf t).size > 1 then (pendingOf t)[(pendingOf t).size - 2]? else none) with
     | some (_, _, o) =>
       if o≤power' z (2*u+k) (2*u+k+k+n) z then pure (.done (none,()))
       else do
         let b ← mergeAt' ((pendingOf t).size - 2)
         if (!b)=true then pure (.done (some (),())) else pure (.yield (none,()))
     | _=>pure (.done (none,()))
   match r.1 with
   | some x=>pure (.done (some x,lo))
   | none => do
     modify fun t=>setPending t ((pendingOf t).modify ((pendingOf t).size - 1) fun p=>(p.1,p.2.1,power' z (2*u+k) (2*u+k+k+n) z))
     modify fun t=>setPending t ((pendingOf t).push (lo,n,0))
     pure (.yield (none,lo+n))
 | _ => do
   modify fun t=>setPending t ((pendingOf t).push (lo,n,0))
   pure (.yield (none,lo+n))
theorem wp_lay(O:Ord prog w A s κ D L)(all:∀x∈a₀.toList,D x){lo n:Nat}{st:SortSt}{Q:ForInStep (Option Unit×Nat)→SortSt→Prop}(J:Jn D L κ a₀ lo st)(n1:1≤n)(ok:SegOk D L (arrOf st).toList lo n)(q:∀st',Jn D L κ a₀ (lo+n) st'→Q (.yield (none,lo+n)) st'):wpS (model prog w) A E s (lay a₀.size lo n) Q st:=by
 have push:∀st',Jn D L κ a₀ lo st'→SegOk D L (arrOf st').toList lo n→Jn D L κ a₀ (lo+n) (setPending st' ((pendingOf st').push (lo,n,0))):=fun st' J' ok'=>by
  refine⟨J'.kind,J'.failed,J'.perm,?_⟩;show Stk D L (arrOf st').toList 0 ((pendingOf st').push (lo,n,0)).toList (lo+n);rw[Array.toList_push];exact J'.stk.snoc n1 ok'
 unfold lay;refine wpS_bind (wpS_get ?_);cases hb:(pendingOf st).back? with
 | none=>exact wpS_bind (wpS_modify (wpS_pure (q _ (push st J ok))))
 | some p =>
   obtain⟨u,k,x⟩:=p
   dsimp only
   refine wpS_bind (wpS_mono (wpS_forRange (I:=fun _ c st'=>c=(none,())∧Jn D L κ a₀ lo st'∧SegOk D L (arrOf st').toList lo n) (Q:=fun c st'=>c=(none,())∧Jn D L κ a₀ lo st'∧SegOk D L (arrOf st').toList lo n) ?step ?fin ⟨rfl,J,ok⟩) ?post)
   case fin=>exact fun c st' h=>h
   case step =>
     rintro t c st' _ ht ⟨rfl,J',ok'⟩
     refine wpS_bind (wpS_get ?_)
     by_cases c1:(pendingOf st').size>1
     · rw[if_pos c1]
       obtain⟨⟨u',k',o⟩,e1⟩:∃p,(pendingOf st')[(pendingOf st').size-2]?=some p:=⟨_,Array.getElem?_eq_getElem (by omega)⟩
       rw[e1]
       dsimp only
       split
       · exact wpS_pure ⟨rfl,J',ok'⟩
       · refine wpS_bind (qfI O all J' (by omega) fun st2 J2 _ hl hx=>?_)
         rw[if_neg (by decide)]
         exact wpS_pure ⟨rfl,J2,ok'.same hl (hx _ _ (Nat.le_refl _))⟩
     · rw[if_neg c1]
       exact wpS_pure ⟨rfl,J',ok'⟩
   case post =>
     rintro c st' ⟨rfl,J',ok'⟩
     dsimp only
     refine wpS_bind (wpS_modify (wpS_bind (wpS_modify (wpS_pure (q _ (push _ ⟨J'.kind,J'.failed,J'.perm,?_⟩ ok'))))))
     show Stk D L (arrOf st').toList 0 ((pendingOf st').modify _ _).toList lo
     rw[Array.toList_modify]
     refine Stk.pow ?_ _ J'.stk
     exact fun p=>⟨rfl,rfl⟩
theorem qf0{α:Type}{m m':SM α}{Q:α→SortSt→Prop}{st:SortSt}(h:m=m')(k:wpS (model prog w) A E s m' Q st):wpS (model prog w) A E s m Q st:=h ▸ k
theorem ite_le{c:Prop}[Decidable c]{a:Nat}:(if c then a-1 else a)≤a:=by split<;>omega
theorem wp_sort(O:Ord prog w A s κ D L)(all:∀x∈a₀.toList,D x){st:SortSt}{Q:Unit→SortSt→Prop}(hk:kindOf st=κ)(hf:failedOf st=none)(hp:pendingOf st=#[])(ha:arrOf st=a₀)(h2:2≤a₀.size)(q:∀st',failedOf st'=none→(arrOf st').Perm a₀→(arrOf st').toList.Pairwise (Le L)→Q () st'):wpS (model prog w) A E s sortRuns' Q st:=by
 rw[sortRuns'_eq];refine wpS_bind (wpS_get ?_);dsimp only;rw[ha];have J0:Jn D L κ a₀ 0 st:=⟨hk,hf,ha ▸ .refl _,by rw[hp];exact rfl⟩;refine wpS_bind (wpS_mono (wpS_forRange (I:=fun t c st'=>∃lo,c=(none,lo)∧t≤lo∧lo≤a₀.size∧Jn D L κ a₀ lo st') (Q:=fun c st'=>c=(none,a₀.size)∧Jn D L κ a₀ a₀.size st') ?step ?fin ⟨0,rfl,Nat.le_refl _,Nat.zero_le _,J0⟩) ?post)
 case fin =>
  rintro c st' ⟨lo,rfl,h1,h2,h3⟩;have:lo=a₀.size:=by omega
  subst this;exact⟨rfl,h3⟩
 case post =>
  rintro c st' ⟨rfl,J⟩;dsimp only;have done:∀st2,Jn D L κ a₀ a₀.size st2→(pendingOf st2).size≤1→Q () st2:=fun st2 J2 hz=>by
   refine q st2 J2.failed J2.perm ?_;have sk:=J2.stk;have sz:=J2.size;rcases hps:(pendingOf st2).toList with _ | ⟨p,r⟩
   ·rw[hps]at sk;have:0=a₀.size:=sk;omega
   ·have:(pendingOf st2).toList.length≤1:=by simpa using hz
    rw[hps]at this sk;have r0:r=[]:=List.eq_nil_of_length_eq_zero (by simpa using this);subst r0;obtain⟨_,_,ok,e⟩:=sk;have e':0+p.2.1=a₀.size:=e;have:=ok.ord;unfold Tim.seg at this;rw[List.drop_zero,List.take_of_length_le (by simp;omega)]at this;exact this
  have len0:(pendingOf st').size≤a₀.size:=by
   have:=J.stk.len;simpa using this
  refine wpS_bind (wpS_mono (wpS_forRange (I:=fun t c st2=>c=(none,())∧Jn D L κ a₀ a₀.size st2∧((pendingOf st2).size≤1∨(pendingOf st2).size+t≤a₀.size)) (Q:=fun c st2=>c=(none,())∧Jn D L κ a₀ a₀.size st2∧(pendingOf st2).size≤1) ?step2 ?fin2 ⟨rfl,J,.inr len0⟩) ?post2)
  case fin2 =>
   rintro c st2 ⟨rfl,J2,h⟩;exact⟨rfl,J2,by omega⟩
  case post2 =>
   rintro c st2 ⟨rfl,J2,h⟩;exact wpS_pure (done st2 J2 h)
  case step2 =>
   rintro t c st2 _ ht ⟨rfl,J2,h⟩;refine wpS_bind (wpS_get ?_)
   by_cases c1:(pendingOf st2).size≤1
   ·rw[if_pos c1];exact wpS_pure ⟨rfl,J2,c1⟩
   ·rw[if_neg c1];refine wpS_bind (qfI O all J2 ?_ fun st3 J3 e3 _ _=>?_)
    ·exact Nat.lt_of_le_of_lt (Nat.succ_le_succ ite_le) (by omega)
    ·rw[if_neg (by decide)];exact wpS_pure ⟨rfl,J3,by omega⟩
 case step =>
  rintro t c st' _ ht ⟨lo,rfl,h1,h2,J⟩;dsimp only
  by_cases c:lo≥a₀.size
  ·rw[if_pos c];have:lo=a₀.size:=by omega
   subst this;exact wpS_pure ⟨rfl,J⟩
  ·rw[if_neg c];have sz:=J.size;have K0:Kp κ (pendingOf st') (arrOf st') lo a₀.size st':=⟨J.kind,J.failed,rfl,.refl _,fun _ _=>rfl⟩;refine wpS_bind (wp_run O (J.all all) (by omega) (by omega) (by omega) K0 fun m st2 K2 m1 m2 up=>?_);dsimp only;have fin:∀n st3,Kp κ (pendingOf st') (arrOf st') lo a₀.size st3→1≤n→lo+n≤a₀.size→Up L (arrOf st3) lo n→wpS (model prog w) A E s (lay a₀.size lo n) (fun r st'=>r=.yield (none,lo+n)∧Jn D L κ a₀ (lo+n) st') st3:=fun n st3 K3 n1 n2 up3=>by
    have sz3:=K3.size;have J3:Jn D L κ a₀ lo st3:=by
     refine⟨K3.kind,K3.failed,K3.perm.trans J.perm,?_⟩;rw[K3.pend];refine J.stk.frame (by simp[sz3]) fun x k _ hk=>List.ext_getElem? fun t=>?_
     rw[qbo,qbo]
     split
     ·rw[Array.getElem?_toList,Array.getElem?_toList];exact K3.out _ (.inl (by omega))
     ·rfl
    exact wp_lay O all J3 n1 (up3.seg (by omega)) fun st4 J4=>⟨rfl,J4⟩
   by_cases c2:m<minRun' a₀.size a₀.size 0
   ·rw[if_pos c2];refine wpS_bind (qcz ?_);refine wpS_bind (wp_ins O (J.all all) (n:=min (a₀.size-lo) (minRun' a₀.size a₀.size 0)) (by omega) (by omega) m1 (by omega) K2 up fun st3 K3 up3=>?_);rw[if_neg (by decide)];refine qf0 (m':=lay a₀.size lo _) ?_ (wpS_mono (fin _ st3 K3 (by omega) (by omega) up3) fun r st4 h=>by
     obtain⟨rfl,J4⟩:=h;exact⟨_,rfl,by omega,by omega,J4⟩)
    unfold lay;refine bc rfl fun t=>?_
    cases(pendingOf t).back? with
    | none=>rfl
    | some p =>
      obtain⟨u,k,x⟩:=p
      refine bc ?_ fun r=>?_
      · refine congrArg (forIn _ _) (funext fun _=>funext fun _=>bc rfl fun t=>?_)
        cases(if(pendingOf t).size>1 then(pendingOf t)[(pendingOf t).size-2]? else none)with
        | none=>rfl
        | some p =>
          obtain⟨u,k,x⟩:=p
          rfl
      · obtain⟨r,y⟩:=r
        cases r<;>rfl
   ·rw[if_neg c2];refine qf0 (m':=lay a₀.size lo _) ?_ (wpS_mono (fin m st2 K2 m1 (by omega) up) fun r st4 h=>by
     obtain⟨rfl,J4⟩:=h;exact⟨_,rfl,by omega,by omega,J4⟩)
    unfold lay;refine bc rfl fun t=>?_
    cases(pendingOf t).back? with
    | none=>rfl
    | some p =>
      obtain⟨u,k,x⟩:=p
      refine bc ?_ fun r=>?_
      · refine congrArg (forIn _ _) (funext fun _=>funext fun _=>bc rfl fun t=>?_)
        cases(if(pendingOf t).size>1 then(pendingOf t)[(pendingOf t).size-2]? else none)with
        | none=>rfl
        | some p =>
          obtain⟨u,k,x⟩:=p
          rfl
      · obtain⟨r,y⟩:=r
        cases r<;>rfl
end
end Tim
namespace Tim
open PySem PyProof.Rows
section
variable{prog:Program}{w:World}{A:Around}{E:Value→Shared→Prop}{s:Shared}{κ:SortKind}{D:Keyed→Prop}{L:Keyed→Keyed→Bool}
structure Kd(prog:Program)(w:World)(A:Around)(s:Shared)(vs:List Value)(κ:SortKind)(D:Keyed→Prop)(L:Keyed→Keyed→Bool):Prop where
 kind:∀(E:Value→Shared→Prop) (Q:SortKind→Shared→Prop),Q κ s→wpAny (model prog w) A (keyKind' vs.toArray) Q E s
 ord:Ord prog w A s κ D L
theorem qfm{α:Type}:∀l:List α,l.zip l=l.map fun v=>(v,v)
 | []=>rfl
 | a::l=>congrArg ((a,a) :: ·) (qfm l)
theorem lsort_any{a:Addr}{vs:List Value}{n:Nat}{P:PySem.Fin→Shared→Prop}(ho:s.heap.get? a=some (seqObj "list" vs.toArray n))(h2:2≤vs.length)(hz:vs.length≤sizeLine)(kd:∀h1,(∀b o,b≠a→s.heap.get? b=some o→h1.get? b=some o)→Kd prog w A {s with heap:=h1} vs κ D L)(all:∀v∈vs,D (v,v))(h:∀out:List Keyed,out.Perm (pairsOf vs).toList→out.Pairwise (Le L)→P (.done (.ret .none)) {s with heap:=sortedHeap s.heap a vs (out.map (·.2)).toArray}):wpAny (model prog w) A (Builtin.«list.sort» ⟨[.ref a],[]⟩) P E s:=by
 have lt:a<s.heap.objs.size:=Heap.lt_size ho;obtain⟨e1,g1⟩:∃e1,(s.heap.update a (Obj.mapSeq fun _=>#[])).get? a=some (seqObj "list" #[] e1):=⟨_,get?_update_seq ho (fun _=>#[])⟩;have g2:(((s.heap.update a (Obj.mapSeq fun _=>#[])).push (seqObj "tuple" vs.toArray 0)).push (seqObj "list" #[] 0)).get? a=some (seqObj "list" #[] e1):=Heap.get?_push_of_some _ (Heap.get?_push_of_some _ g1);have kp:∀b o,b≠a→s.heap.get? b=some o→(((s.heap.update a (Obj.mapSeq fun _=>#[])).push (seqObj "tuple" vs.toArray 0)).push (seqObj "list" #[] 0)).get? b=some o:=fun b o hb e =>
  Heap.get?_push_of_some _ (Heap.get?_push_of_some _ (by rw[Heap.get?_update_ne _ _ _ _ hb];exact e))
 have K1:=kd _ kp;have sz:(vs.toArray).size=vs.length:=by simp
 rw[list_sort_plain];refine wpAny_bind (listItems_at ho rfl (wpAny_bind (listUpdate_at ho rfl ?_ (by rw[sz];exact hz) (Nat.zero_le _))));refine wpAny_bind (seqEpoch_at g1 rfl (wpAny_bind (wpAny_newTuple ?_ hz)));refine wpAny_bind (wpAny_newList ?_ (Nat.zero_le _));refine wpAny_holding ?_;show wpAny (model prog w) A _ P E {s with heap:=((s.heap.update a (Obj.mapSeq fun _=>#[])).push (seqObj "tuple" vs.toArray 0)).push (seqObj "list" #[] 0)};dsimp only;rw[if_neg (by omega),if_neg (by omega)];refine wpAny_bind (K1.kind _ _ ?_);have al:∀x∈(pairsOf vs).toList,D x:=fun x hx=>by
  unfold pairsOf at hx;have e:(vs.toArray.zip vs.toArray).toList=vs.map fun v=>(v,v):=by
   rw[Array.toList_zip];exact qfm vs
  rw[e]at hx;obtain⟨v,hv,rfl⟩:=List.mem_map.mp hx;exact all v hv
 refine wpAny_bind (wpAny_mono (wp_sort (E:=E) K1.ord (a₀:=pairsOf vs) al (st:=SortSt.mk' κ (vs.toArray.zip vs.toArray) #[] 7 none) (Q:=fun _ st'=>failedOf st'=none∧(arrOf st').Perm (pairsOf vs)∧(arrOf st').toList.Pairwise (Le L)) rfl rfl rfl rfl (by rw[pairsOf_size];exact h2) fun st' a1 a2 a3=>⟨a1,a2,a3⟩) ?_ fun _ _ e=>e);rintro⟨⟨⟩,st'⟩ s' ⟨rfl,hf,hp,hs⟩;dsimp only;refine wpAny_bind (seqEpoch_at g2 rfl ?_);refine wpAny_bind (listUpdate_at g2 rfl ?_ (Nat.zero_le _) (by rw[Array.size_map,hp.size_eq,pairsOf_size];omega));rw[hf];simp only[bne_self_eq_false,Bool.false_eq_true,if_false];have:=h (arrOf st').toList (Array.perm_iff_toList_perm.mp hp) hs;have e:((arrOf st').toList.map (·.2)).toArray=(arrOf st').map (·.2):=by rw[←Array.toList_map]
 rw[e]at this;exact wpAny_pure this
theorem sorted_any{l:Addr}{vs:List Value}{Q:Value→Shared→Prop}(hl:s.heap.IsList l vs.toArray)(h2:2≤vs.length)(hz:vs.length≤sizeLine)(kd:∀h1,(∀b o,s.heap.get? b=some o→h1.get? b=some o)→Kd prog w A.in1.in1 {s with heap:=h1} vs κ D L)(all:∀v∈vs,D (v,v))(h:∀out:List Keyed,out.Perm (pairsOf vs).toList→out.Pairwise (Le L)→Q (.ref (s.heap.objs.size+1)) {s with heap:=sortedAll s.heap vs (out.map (·.2)).toArray}):wpAny (model prog w) A (call (.builtin "sorted") [.ref l]) Q E s:=by
 refine Calls.call_function_entry kind_sorted plain_sorted entry_sorted (args_sorted1 _) ?_;unfold Builtin.«sorted»;refine wpAny_bind (m:=checkCount "sorted" 1 1 _) (wpAny_pure (wpAny_bind (collect_list hl ?_ hz)));refine wpAny_bind (wpAny_newList ?_ hz);have z:((s.heap.push (seqObj "list" #[] 0)).update s.heap.objs.size (Obj.mapSeq (·++ vs.toArray))).objs.size=s.heap.objs.size+1:=by rw[Heap.size_update,size_push']
 have g:(((s.heap.push (seqObj "list" #[] 0)).update s.heap.objs.size (Obj.mapSeq (·++ vs.toArray))).push (seqObj "list" vs.toArray 0)).get? (s.heap.objs.size+1)=some (seqObj "list" vs.toArray 0):=by rw[←z];exact Heap.get?_push_size _ rfl
 have kp:∀b o,s.heap.get? b=some o→b≠s.heap.objs.size+1∧(((s.heap.push (seqObj "list" #[] 0)).update s.heap.objs.size (Obj.mapSeq (·++ vs.toArray))).push (seqObj "list" vs.toArray 0)).get? b=some o:=fun b o e=>by
  have hlt:b<s.heap.objs.size:=Heap.lt_size e;refine⟨Nat.ne_of_lt (Nat.lt_succ_of_lt hlt),Heap.get?_push_of_some _ ?_⟩;rw[Heap.get?_update_ne _ _ _ _ (Nat.ne_of_lt hlt)];exact Heap.get?_push_of_some _ e
 show wpAny _ _ _ _ _ {s with heap:=((s.heap.push (seqObj "list" #[] 0)).update s.heap.objs.size (Obj.mapSeq (·++ vs.toArray))).push (seqObj "list" vs.toArray 0)};rw[z];refine wpAny_bind (wpAny_holding (wpAny_call_entry slot_list_sort ⟨_,g,rfl⟩ entry_list_sort (lsort_any (κ:=κ) (D:=D) (L:=L) g h2 hz (fun h1 k1=>kd h1 fun b o e=>k1 b o (kp b o e).1 (kp b o e).2) all fun out a1 a2=>⟨_,rfl,?_⟩) (args_list_sort _)));exact wpAny_pure ⟨_,rfl,h out a1 a2⟩
end
end Tim
namespace Tim
open PySem PyProof.Rows
def lex(p q:Int×Int):Bool:=decide (p.1<q.1) || (p.1 == q.1 && decide (p.2<q.2))
theorem lex_no{p q:Int×Int}:lex p q=false↔q.1<p.1∨(p.1=q.1∧q.2≤p.2):=by
 unfold lex;simp only[Bool.or_eq_false_iff,decide_eq_false_iff_not,Bool.and_eq_false_iff,beq_eq_false_iff_ne];omega
theorem lex_yes{p q:Int×Int}:lex p q=true↔p.1<q.1∨(p.1=q.1∧p.2<q.2):=by
 unfold lex;simp only[Bool.or_eq_true,decide_eq_true_eq,Bool.and_eq_true,beq_iff_eq]
def qfK(f:Addr→Int×Int):Value→Int×Int
 | .ref a=>f a
 | _=>(0,0)
def lexK(f:Addr→Int×Int)(x y:Keyed):Bool:=lex (qfK f x.1) (qfK f y.1)
def TupAt(h:Heap)(f:Addr→Int×Int)(a:Addr):Prop:=∃o t u k,h.get? a=some o∧o.cls=.type "tuple" ∧ o.data=.seq [Value.int (f a).1 t,Value.int (f a).2 u].toArray k
def DomT(h:Heap)(f:Addr→Int×Int)(x:Keyed):Prop:=∃a,x.1=.ref a∧TupAt h f a
section
variable{prog:Program}{w:World}{A:Around}{s:Shared}{f:Addr→Int×Int}
theorem lt_tup{E:Value→Shared→Prop}{a b:Addr}{Q:Bool→Shared→Prop}(ha:TupAt s.heap f a)(hb:TupAt s.heap f b)(h:Q (lex (f a) (f b)) s):wpAny (model prog w) A (keyLt' (tuples' true) (.ref a) (.ref b)) Q E s:=by
 obtain⟨o1,t1,u1,k1,g1,_,d1⟩:=ha;obtain⟨o2,t2,u2,k2,g2,_,d2⟩:=hb;refine PySem.W.kat_lt g1 d1 g2 d2 (PySem.W.kat_cons (wpAny_eqBool_int ?_))
 by_cases e1:(f a).1=(f b).1
 ·rw[show((f a).1 == (f b).1)=true from beq_iff_eq.mpr e1];refine PySem.W.kat_yes (PySem.W.kat_cons (wpAny_eqBool_int ?_))
  by_cases e2:(f a).2=(f b).2
  ·rw[show((f a).2 == (f b).2)=true from beq_iff_eq.mpr e2];refine PySem.W.kat_yes (PySem.W.kat_nil ?_);have:lex (f a) (f b)=false:=lex_no.mpr (.inr ⟨e1,by omega⟩);rw[this]at h;exact h
  ·rw[show((f a).2 == (f b).2)=false from beq_eq_false_iff_ne.mpr e2];refine PySem.W.kat_no (PySem.W.kat_one _ _ (wpAny_lt_int ?_));show Q (decide ((f a).2<(f b).2)) s;have:lex (f a) (f b)=decide ((f a).2<(f b).2):=by
    cases z:lex (f a) (f b)with
    | true => rcases lex_yes.mp z with y | y
              · omega
              · rw[decide_eq_true y.2]
    | false => rcases lex_no.mp z with y | y
               · omega
               · rw[decide_eq_false (by omega)]
   rw[this]at h;exact h
 ·rw[show((f a).1 == (f b).1)=false from beq_eq_false_iff_ne.mpr e1];refine PySem.W.kat_no (oneLt_int ?_);have:lex (f a) (f b)=decide ((f a).1<(f b).1):=by
   cases z:lex (f a) (f b)with
   | true => rcases lex_yes.mp z with y | y
             · rw[decide_eq_true y]
             · omega
   | false => rcases lex_no.mp z with y | y
              · rw[decide_eq_false (by omega)]
              · omega
  rw[this]at h;exact h
theorem ord_tup:Ord prog w A s (tuples' true) (DomT s.heap f) (lexK f) where
 ask:=fun E x y Q st hk dx dy h=>by
  obtain⟨a,ea,ta⟩:=dx;obtain⟨b,eb,tb⟩:=dy;rw[lt'_eq];refine wpS_bind (wpS_get ?_);rw[hk,ea,eb];refine wpS_bind (wpS_lift (wpAny_attempt (lt_tup ta tb ⟨rfl,?_⟩)));unfold lexK at h;rw[ea,eb]at h;exact wpS_pure h
 irr:=fun x _=>lex_no.mpr (.inr ⟨rfl,Int.le_refl _⟩)
 tr:=fun x y z _ _ _ h1 h2=>by
  have a1:=lex_no.mp h1;have a2:=lex_no.mp h2;refine lex_no.mpr ?_;omega
 asy:=fun x y _ _ h1=>by
  have a1:=lex_yes.mp h1;refine lex_no.mpr ?_;omega
theorem kd_tup{as:List Addr}(h1:0<as.length)(ht:∀a∈as,TupAt s.heap f a):Kd prog w A s (as.map Value.ref) (tuples' true) (DomT s.heap f) (lexK f):=by
 refine⟨fun E Q q=>?_,ord_tup⟩;obtain⟨fs,tps,fl,fst⟩:∃fs,PySem.W.KatTups s.heap (as.map Value.ref) fs∧fs.length=as.length∧∀v∈fs,∃x t,v=Value.int x t:=by
  clear h1
  induction as with
  | nil=>exact⟨[],PySem.W.KatTups.nil,rfl,fun v hv=>nomatch hv⟩
  | cons a as ih =>
    obtain⟨fs,t1,t2,t3⟩:=ih fun a ha=>ht a (List.mem_cons_of_mem _ ha)
    obtain⟨o,tk,u,k,e1,e2,e3⟩:=ht a List.mem_cons_self
    refine⟨Value.int (f a).1 tk::fs,PySem.W.KatTups.cons e1 e2 e3 rfl t1,by rw[List.length_cons,List.length_cons,t2],fun v hv=>?_⟩
    rcases List.mem_cons.mp hv with rfl | hv
    · exact⟨_,_,rfl⟩
    · exact t3 v hv
 refine PySem.W.kat_kind (T:=.type "int") tps (by omega) (fun v hv=>?_) (by decide) q;obtain⟨x,t,rfl⟩:=fst v hv;exact PySem.W.Looks.of_pure rfl
theorem perm_map{α β:Type}{g:α→β}:∀{as:List α} {out:List β},out.Perm (as.map g)→∃bs:List α,bs.Perm as∧out=bs.map g:=fun {as out} h=>by
 generalize hm:as.map g=m at h
 induction h generalizing as with
 | nil =>
   obtain rfl:=List.map_eq_nil_iff.mp hm
   exact⟨[],.refl _,rfl⟩
 | @cons x l1 l2 _ ih =>
   obtain⟨a,r,rfl,ea,er⟩:=List.map_eq_cons_iff.mp hm
   obtain⟨bs,p,e⟩:=ih er
   exact⟨a::bs,p.cons _,by rw[List.map_cons,ea,e]⟩
 | swap x y l =>
   obtain⟨a,r,rfl,ea,er⟩:=List.map_eq_cons_iff.mp hm
   obtain⟨b,r',rfl,eb,er'⟩:=List.map_eq_cons_iff.mp er
   exact⟨b::a::r',List.Perm.swap _ _ _,by rw[List.map_cons,List.map_cons,ea,eb,er']⟩
 | trans _ _ ih1 ih2 =>
   obtain⟨bs,p,e⟩:=ih2 hm
   obtain⟨cs,p',e'⟩:=ih1 e.symm
   exact⟨cs,p'.trans p,e'⟩
theorem sorted_tup{E:Value→Shared→Prop}{l:Addr}{as:List Addr}{Q:Value→Shared→Prop}(hl:s.heap.IsList l (as.map Value.ref).toArray)(h2:2≤as.length)(hz:as.length≤sizeLine)(ht:∀a∈as,TupAt s.heap f a)(h:∀out:List Addr,out.Perm as→out.Pairwise (fun a b=>lex (f b) (f a)=false)→Q (.ref (s.heap.objs.size+1)) {s with heap:=sortedAll s.heap (as.map Value.ref) (out.map Value.ref).toArray}):wpAny (model prog w) A (call (.builtin "sorted") [.ref l]) Q E s:=by
 refine sorted_any (κ:=tuples' true) (D:=DomT s.heap f) (L:=lexK f) hl (by rw[List.length_map];exact h2) (by rw[List.length_map];exact hz) (fun h1 kp=>?_) (fun v hv=>?_) fun out p1 p2=>?_
 ·have up:∀{a},TupAt s.heap f a→TupAt h1 f a:=fun⟨o,t,u,k,g,c,d⟩=>⟨o,t,u,k,kp _ _ g,c,d⟩
  have K:=kd_tup (prog:=prog) (w:=w) (A:=A.in1.in1) (s:={s with heap:=h1}) (f:=f) (as:=as) (by omega) fun a ha=>up (ht a ha)
  exact⟨K.kind,⟨fun E x y Q st hk dx dy=>K.ord.ask E x y Q st hk (dx.imp fun a z=>⟨z.1,up z.2⟩) (dy.imp fun a z=>⟨z.1,up z.2⟩),(ord_tup (prog:=prog) (w:=w) (A:=A) (s:=s)).irr,(ord_tup (prog:=prog) (w:=w) (A:=A) (s:=s)).tr,(ord_tup (prog:=prog) (w:=w) (A:=A) (s:=s)).asy⟩⟩
 ·obtain⟨a,ha,rfl⟩:=List.mem_map.mp hv;exact⟨a,rfl,ht a ha⟩
 ·have e:(pairsOf (as.map Value.ref)).toList=as.map fun a=>(Value.ref a,Value.ref a):=by
   unfold pairsOf;rw[Array.toList_zip,qfm,List.map_map];rfl
  rw[e]at p1;obtain⟨bs,pb,eb⟩:∃bs:List Addr,bs.Perm as∧out=bs.map fun a=>(Value.ref a,Value.ref a):=perm_map p1
  subst eb;have:=h bs pb (by
   rw[List.pairwise_map]at p2;exact p2)
  rw[List.map_map];exact this
end
end Tim
namespace Shr
def qc7(W:List Int)(i:Nat)(a:Int)(j:Nat)(b:Int):Prop:=a*W.getD j 1<b*W.getD i 1∨(a*W.getD j 1=b*W.getD i 1∧i<j)
structure Fair(F R W x:List Int):Prop where
 len:x.length=F.length
 lo:∀k,k<x.length→F.getD k 0≤x.getD k 0
 hi:∀k,k<x.length→x.getD k 0≤R.getD k 0
 ahead:∀i j,i<x.length→j<x.length→i≠j→F.getD i 0<x.getD i 0→x.getD j 0<R.getD j 0→qc7 W i (x.getD i 0-1) j (x.getD j 0)
theorem sum_le:∀{x y:List Int},x.length=y.length→(∀k,k<x.length→x.getD k 0≤y.getD k 0)→x.sum≤y.sum∧(x.sum=y.sum→x=y)
 | [],[],_,_=>⟨Int.le_refl _,fun _=>rfl⟩
 | [],_::_,h,_=>by simp at h
 | _::_,[],h,_=>by simp at h
 | a :: x, b :: y, h, k => by
   have h0:a≤b:=k 0 (Nat.succ_pos _)
   have ih:=sum_le (x:=x) (y:=y) (by simpa using h) fun i hi=>k (i+1) (Nat.succ_lt_succ hi)
   simp only[List.sum_cons]
   refine⟨by omega,fun e=>?_⟩
   have e1:a=b:=by omega
   have e2:x.sum=y.sum:=by omega
   rw[e1,ih.2 e2]
theorem qd1{x y:List Int}(h:x.length=y.length)(s:x.sum=y.sum)(ne:x≠y):∃k,k<x.length∧y.getD k 0<x.getD k 0:=by
 refine Classical.byContradiction fun c=>ne ((sum_le h fun k hk=>?_).2 s)
 refine Classical.byContradiction fun c'=>c ⟨k,hk,by omega⟩
theorem Fair.one{F R W x y:List Int}(hW:∀k,0<W.getD k 1)(hx:Fair F R W x)(hy:Fair F R W y)(s:x.sum=y.sum):x=y:=by
 refine Classical.byContradiction fun ne=>?_
 have hl:x.length=y.length:=hx.len.trans hy.len.symm;obtain⟨i,hi,ci⟩:=qd1 hl s ne;obtain⟨j,hj,cj⟩:=qd1 hl.symm s.symm (Ne.symm ne);have hij:i≠j:=fun e=>by subst e;omega
 have a1:=hx.ahead i j hi (by omega) hij (by have:=hy.lo i (by omega);omega) (by have:=hy.hi j hj;omega);have a2:=hy.ahead j i hj (by omega) (Ne.symm hij) (by have:=hx.lo j (by omega);omega) (by have:=hx.hi i hi;omega);have wi:=hW i;have wj:=hW j;unfold qc7 at a1 a2;generalize W.getD i 1=wi' at *;generalize W.getD j 1=wj' at *;generalize x.getD i 0=xi at *;generalize x.getD j 0=xj at *;generalize y.getD i 0=yi at *;generalize y.getD j 0=yj at *;have m1:xj*wi'≤(yj-1)*wi':=Int.mul_le_mul_of_nonneg_right (by omega) (by omega);have m2:yi*wj'≤(xi-1)*wj':=Int.mul_le_mul_of_nonneg_right (by omega) (by omega);generalize xj*wi'=p at *;generalize (yj-1)*wi'=p' at *;generalize yi*wj'=q at *;generalize (xi-1)*wj'=q' at *;omega
end Shr
namespace Shr
open Tim (lex lex_no lex_yes)
abbrev Le2(p q:Int×Int):Prop:=lex q p=false
def row(k:Nat)(p:Int×Int×Nat):List (Int×Int):=(List.range p.2.2).map fun t:Nat=>(p.1*(p.2.1+(t:Int)),(k:Int))
def dots:Nat→List (Int×Int×Nat)→List (Int×Int)
 | _,[]=>[]
 | k,p::r=>row k p++dots (k+1) r
def at_(k:Nat)(e:Int×Int):Bool:=e.2 == (k:Int)
theorem qef{k:Nat}{p:Int×Int×Nat}{e:Int×Int}(h:e∈row k p):∃t:Nat,t<p.2.2∧e=(p.1*(p.2.1+(t:Int)),(k:Int)):=by
 obtain⟨t,ht,e'⟩:=List.mem_map.mp h;exact⟨t,List.mem_range.mp ht,e'.symm⟩
theorem row_same(k:Nat)(p:Int×Int×Nat):(row k p).filter (at_ k)=row k p:=List.filter_eq_self.mpr fun e he=>by
 obtain⟨t,_,rfl⟩:=qef he;unfold at_;exact beq_iff_eq.mpr rfl
theorem qdO{k k':Nat}(h:k≠k')(p:Int×Int×Nat):(row k p).filter (at_ k')=[]:=List.filter_eq_nil_iff.mpr fun e he=>by
 obtain⟨t,_,rfl⟩:=qef he;unfold at_;simp only[beq_iff_eq];omega
theorem qde{k:Nat}:∀{ps:List (Int×Int×Nat)} {b:Nat},k<b→(dots b ps).filter (at_ k)=[]
 | [],b,_=>rfl
 | p :: ps, b, h => by
   show(row b p++dots (b+1) ps).filter _=[]
   rw[List.filter_append,qdO (by omega),qde (by omega),List.append_nil]
theorem dots_at:∀{ps:List (Int×Int×Nat)} {b i:Nat} {p:Int×Int×Nat},ps[i]?=some p→(dots b ps).filter (at_ (b+i))=row (b+i) p
 | [],b,i,p,h=>by simp at h
 | q :: ps, b, 0, p, h => by
   have:q=p:=by simpa using h
   subst this
   show(row b q++dots (b+1) ps).filter _=_
   rw[List.filter_append,Nat.add_zero,row_same,qde (by omega),List.append_nil]
 | q :: ps, b, i + 1, p, h => by
   show(row b q++dots (b+1) ps).filter _=_
   rw[List.filter_append,qdO (by omega),List.nil_append]
   have:=dots_at (ps:=ps) (b:=b+1) (i:=i) (p:=p) (by simpa using h)
   rw[show b+1+i=b+(i+1) by omega]at this
   exact this
theorem row_le{k:Nat}{p:Int×Int×Nat}(hp:0<p.1):(row k p).Pairwise Le2:=by
 unfold row;rw[List.pairwise_map];refine List.Pairwise.imp (fun {a b} h=>?_) (List.pairwise_lt_range (n:=p.2.2));refine lex_no.mpr (.inl ?_);exact Int.mul_lt_mul_of_pos_left (by omega) hp
theorem le2_anti{p q:Int×Int}(h1:Le2 p q)(h2:Le2 q p):p=q:=by
 have a1:=lex_no.mp h1;have a2:=lex_no.mp h2;obtain⟨p1,p2⟩:=p;obtain⟨q1,q2⟩:=q;simp only at a1 a2;have:p1=q1:=by omega
 have:p2=q2:=by omega
 subst_vars
 rfl
theorem qc1{ps:List (Int×Int×Nat)}{out:List (Int×Int)}(hp:out.Perm (dots 0 ps))(hs:out.Pairwise Le2)(pos:∀p∈ps,0<p.1){i:Nat}{p:Int×Int×Nat}(e:ps[i]?=some p):out.filter (at_ i)=row i p:=by
 have h1:=hp.filter (at_ i);have h2:=dots_at (b:=0) e;rw[Nat.zero_add]at h2;rw[h2]at h1;exact h1.eq_of_pairwise (fun a b _ _=>le2_anti) (hs.filter _) (row_le (pos p (List.mem_of_getElem? e)))
def cnt(out:List (Int×Int))(n k:Nat):Nat:=((out.take n).filter (at_ k)).length
theorem qfn(out:List (Int×Int))(n k:Nat):(out.take n).filter (at_ k)=(out.filter (at_ k)).take (cnt out n k)∧(out.drop n).filter (at_ k)=(out.filter (at_ k)).drop (cnt out n k):=by
 have e:out.filter (at_ k)=(out.take n).filter (at_ k)++(out.drop n).filter (at_ k):=by rw[←List.filter_append,List.take_append_drop]
 unfold cnt;rw[e];exact⟨(List.take_left' rfl).symm,(List.drop_left' rfl).symm⟩
theorem qeY{k t:Nat}{p:Int×Int×Nat}(h:t<p.2.2):(row k p)[t]?=some (p.1*(p.2.1+(t:Int)),(k:Int)):=by
 unfold row;rw[List.getElem?_map,List.getElem?_range h];rfl
theorem qdl{k:Nat}{p:Int×Int×Nat}:(row k p).length=p.2.2:=by
 unfold row;rw[List.length_map,List.length_range]
section
variable{ps:List (Int×Int×Nat)}{out:List (Int×Int)}{n:Nat}(hp:out.Perm (dots 0 ps))(hs:out.Pairwise Le2)(pos:∀p∈ps,0<p.1)
include hp hs pos
theorem qfO{i:Nat}{p:Int×Int×Nat}(e:ps[i]?=some p):cnt out n i≤p.2.2:=by
 have h:=congrArg List.length (qfn out n i).1;rw[qc1 hp hs pos e,List.length_take,qdl]at h;unfold cnt at h⊢;omega
theorem cnt_ahead{i j:Nat}{p q:Int×Int×Nat}(ei:ps[i]?=some p)(ej:ps[j]?=some q)(hij:i≠j)(c1:1≤cnt out n i)(c2:cnt out n j<q.2.2) :
  p.1*(p.2.1+(cnt out n i:Int)-1)<q.1*(q.2.1+(cnt out n j:Int))∨(p.1*(p.2.1+(cnt out n i:Int)-1)=q.1*(q.2.1+(cnt out n j:Int))∧i<j):=by
 have l1:=qfO (n:=n) hp hs pos ei;have m1:(p.1*(p.2.1+((cnt out n i-1:Nat):Int)),(i:Int))∈out.take n:=by
  have:(p.1*(p.2.1+((cnt out n i-1:Nat):Int)),(i:Int))∈(out.take n).filter (at_ i):=by
   rw[(qfn out n i).1,qc1 hp hs pos ei];refine List.mem_of_getElem? (i:=cnt out n i-1) ?_;rw[List.getElem?_take,if_pos (by omega)];exact qeY (by omega)
  exact(List.mem_filter.mp this).1
 have m2:(q.1*(q.2.1+(cnt out n j:Int)),(j:Int))∈out.drop n:=by
  have:(q.1*(q.2.1+(cnt out n j:Int)),(j:Int))∈(out.drop n).filter (at_ j):=by
   rw[(qfn out n j).2,qc1 hp hs pos ej];refine List.mem_of_getElem? (i:=0) ?_;rw[List.getElem?_drop];exact qeY c2
  exact(List.mem_filter.mp this).1
 have hs':=hs;rw[←List.take_append_drop n out]at hs';have h:=lex_no.mp ((List.pairwise_append.mp hs').2.2 _ m1 _ m2);simp only at h;rw[show p.2.1+((cnt out n i-1:Nat):Int)=p.2.1+(cnt out n i:Int)-1 by omega]at h;generalize p.1*(p.2.1+(cnt out n i:Int)-1)=u at *;generalize q.1*(q.2.1+(cnt out n j:Int))=v at *;omega
end
end Shr
namespace Shr
open Tim (lex lex_no lex_yes)
theorem qdc{i j:Nat}(h:i≠j):∀l:List (Int×Int),(l.filter (at_ i)).length+(l.filter (at_ j)).length≤l.length
 | []=>by simp
 | e :: l => by
   have ih:=qdc h l
   rw[List.filter_cons,List.filter_cons,List.length_cons]
   by_cases c1:at_ i e=true
   · have c2:¬at_ j e=true:=fun c2=>by
       unfold at_ at c1 c2
       have:=beq_iff_eq.mp c1
       have:=beq_iff_eq.mp c2
       omega
     rw[if_pos c1,if_neg c2,List.length_cons]
     omega
   · rw[if_neg c1]
     split
     · rw[List.length_cons];omega
     · omega
theorem sum_one{n k:Nat}(h:k<n):∀e:Int×Int,e.2=(k:Int)→((List.range n).map fun i=>if at_ i e=true then(1:Int)else 0).sum=1:=fun e he=>by
 induction n with
 | zero=>omega
 | succ n ih =>
   rw[List.range_succ,List.map_append,List.sum_append]
   show _+((if at_ n e=true then(1:Int)else 0)+0)=1
   by_cases c:k=n
   · subst c
     have z:((List.range k).map fun i=>if at_ i e=true then(1:Int)else 0).sum=0:=by
       have:∀m,m≤k→((List.range m).map fun i=>if at_ i e=true then(1:Int)else 0).sum=0:=fun m hm=>by
         induction m with
         | zero=>rfl
         | succ m im =>
           rw[List.range_succ,List.map_append,List.sum_append,im (by omega)]
           show 0+((if at_ m e=true then(1:Int)else 0)+0)=0
           rw[if_neg (by unfold at_;rw[he];simp;omega)]
           rfl
       exact this k (Nat.le_refl _)
     rw[z,if_pos (by unfold at_;rw[he];simp)]
     rfl
   · rw[ih (by omega),if_neg (by unfold at_;rw[he];simp;omega)]
     rfl
theorem qds(l:List Nat)(f g:Nat→Int):(l.map fun i=>f i+g i).sum=(l.map f).sum+(l.map g).sum:=by
 induction l with
 | nil=>rfl
 | cons a l ih =>
   simp only[List.map_cons,List.sum_cons]
   omega
theorem qfa{n:Nat}:∀l:List (Int×Int),(∀e∈l,∃k:Nat,k<n∧e.2=(k:Int))→((List.range n).map fun i=>((l.filter (at_ i)).length:Int)).sum=l.length
 | [], _ => by
   have:∀m,((List.range m).map fun i=>(((([]:List (Int×Int)).filter (at_ i)).length:Nat):Int)).sum=0:=fun m=>by
     induction m with
     | zero=>rfl
     | succ m im =>
       rw[List.range_succ,List.map_append,List.sum_append,im]
       rfl
   exact this n
 | e :: l, h => by
   obtain⟨k,hk,ek⟩:=h e List.mem_cons_self
   have ih:=qfa l fun e' he'=>h e' (List.mem_cons_of_mem _ he')
   have e1:(fun i=>(((e::l).filter (at_ i)).length:Int))=fun i=>(if at_ i e=true then(1:Int)else 0)+((l.filter (at_ i)).length:Int):=funext fun i=>by
     rw[List.filter_cons]
     split
     · rw[List.length_cons];omega
     · omega
   rw[e1,qds,sum_one hk e ek,ih,List.length_cons]
   omega
theorem dots_place:∀{ps:List (Int×Int×Nat)} {b:Nat} {e:Int×Int},e∈dots b ps→∃k:Nat,b≤k∧k<b+ps.length∧e.2=(k:Int)
 | [],b,e,h=>nomatch h
 | p :: ps, b, e, h => by
   rcases List.mem_append.mp (show e∈row b p++dots (b+1) ps from h)with h | h
   · obtain⟨t,_,rfl⟩:=qef h
     exact⟨b,Nat.le_refl _,by simp,rfl⟩
   · obtain⟨k,h1,h2,h3⟩:=dots_place h
     exact⟨k,by omega,by rw[List.length_cons];omega,h3⟩
def qb8(F:List Int)(out:List (Int×Int))(n:Nat):List Int:=(List.range F.length).map fun k=>F.getD k 0+(cnt out n k:Int)
theorem qcN{F:List Int}{out:List (Int×Int)}{n k:Nat}(h:k<F.length):(qb8 F out n).getD k 0=F.getD k 0+(cnt out n k:Int):=by
 unfold qb8;rw[List.getD_eq_getElem?_getD,List.getElem?_map,List.getElem?_range h];rfl
theorem range_sum:∀F:List Int,((List.range F.length).map fun k=>F.getD k 0).sum=F.sum
 | []=>rfl
 | a :: F => by
   rw[List.length_cons,List.range_succ_eq_map,List.map_cons,List.map_map,List.sum_cons,List.sum_cons,←range_sum F]
   rfl
def places(F R W:List Int)(room:Nat):List (Int×Int×Nat):=(List.range F.length).map fun k=>(2520 / W.getD k 1,F.getD k 0,(min (R.getD k 0) (F.getD k 0+(room:Int))-F.getD k 0).toNat)
theorem qcl{F R W:List Int}{room k:Nat}(h:k<F.length):(places F R W room)[k]?=some (2520 / W.getD k 1,F.getD k 0,(min (R.getD k 0) (F.getD k 0+(room:Int))-F.getD k 0).toNat):=by
 unfold places;rw[List.getElem?_map,List.getElem?_range h];rfl
theorem qdS{x:Int}(h:1≤x∧x≤9):0<2520 / x∧2520 / x*x=2520:=by
 have:x=1∨x=2∨x=3∨x=4∨x=5∨x=6∨x=7∨x=8∨x=9:=by omega
 rcases this with rfl | rfl | rfl | rfl | rfl | rfl | rfl | rfl | rfl<;>decide
theorem by_lt{u v a b:Int}(hu:1≤u∧u≤9)(hv:1≤v∧v≤9):(2520 / u*a<2520 / v*b↔a*v<b*u)∧(2520 / u*a=2520 / v*b↔a*v=b*u):=by
 have p1:=qdS hu;have p2:=qdS hv;have e1:2520 / u*a*(u*v)=2520*(a*v):=by
  have:2520 / u*a*(u*v)=2520 / u*u*(a*v):=by
   generalize 2520 / u=q
   ac_rfl
  rw[this,p1.2]
 have e2:2520 / v*b*(u*v)=2520*(b*u):=by
  have:2520 / v*b*(u*v)=2520 / v*v*(b*u):=by
   generalize 2520 / v=q
   ac_rfl
  rw[this,p2.2]
 have uv:0<u*v:=Int.mul_pos (by omega) (by omega);constructor
 ·rw[←Int.mul_lt_mul_right uv,e1,e2];omega
 ·rw[←Int.mul_eq_mul_right_iff (Int.ne_of_gt uv),e1,e2];omega
section
variable{F R W:List Int}{room:Nat}{out:List (Int×Int)}(hW:∀k,1≤W.getD k 1∧W.getD k 1≤9)(hFR:∀k,k<F.length→F.getD k 0≤R.getD k 0)(hp:out.Perm (dots 0 (places F R W room)))(hs:out.Pairwise Le2)
include hW hFR hp hs
theorem given_fair:Fair F R W (qb8 F out room):=by
 have len:(qb8 F out room).length=F.length:=by unfold qb8;rw[List.length_map,List.length_range]
 have pos:∀p∈places F R W room,0<p.1:=fun p h=>by
  obtain⟨k,_,rfl⟩:=List.mem_map.mp h;exact(qdS (hW k)).1
 have le:=fun {k:Nat} (h:k<F.length)=>qfO (n:=room) hp hs pos (qcl (R:=R) (W:=W) (room:=room) h)
 simp only at le;refine⟨len,fun k hk=>?_,fun k hk=>?_,fun i j hi hj hij ci cj=>?_⟩
 ·rw[qcN (by omega)];omega
 ·rw[qcN (by omega)];have:=le (k:=k) (by omega);have:=hFR k (by omega);omega
 ·rw[qcN (by omega)]at ci⊢;rw[qcN (by omega)]at cj⊢;have two:=qdc hij (out.take room);have tl:(out.take room).length≤room:=List.length_take_le ..;have c2:cnt out room j<(min (R.getD j 0) (F.getD j 0+(room:Int))-F.getD j 0).toNat:=by
   have:=hFR j (by omega);unfold cnt at *;omega
  have h:=cnt_ahead (n:=room) hp hs pos (qcl (by omega)) (qcl (by omega)) hij (by omega) c2;simp only at h;unfold qc7;have b:=by_lt (a:=F.getD i 0+(cnt out room i:Int)-1) (b:=F.getD j 0+(cnt out room j:Int)) (hW i) (hW j);rw[b.1,b.2]at h;exact h
theorem given_sum:(qb8 F out room).sum=F.sum+((out.take room).length:Int):=by
 unfold qb8;rw[qds,range_sum]
 congr 1
 refine qfa (out.take room) fun e he=>?_
 obtain⟨k,_,h2,h3⟩:=dots_place (hp.mem_iff.mp (List.mem_of_mem_take he));refine⟨k,?_,h3⟩;unfold places at h2;rw[List.length_map,List.length_range]at h2;omega
end
end Shr
namespace Shr
def qc8(lev w M:Int):Int:=-((-lev*w) / M)
theorem qcA{lev w M d:Int}(hM:0<M):d<qc8 lev w M↔d*M<lev*w:=by
 unfold qc8;have h:=Int.le_ediv_iff_mul_le (a:=-d) (b:=-lev*w) hM;rw[Int.neg_mul,Int.neg_mul]at h;rw[Int.neg_mul];omega
def had(lev M f r w:Int):Int:=min (max (qc8 lev w M) f) r
theorem level_fair{F R W x:List Int}{lev M:Int}{B:Nat→Bool}(hM:0<M)(hW:∀k,0<W.getD k 1)(len:x.length=F.length)(hFR:∀k,k<F.length→F.getD k 0≤R.getD k 0)(hx:∀k,k<F.length→x.getD k 0=had lev M (F.getD k 0) (R.getD k 0) (W.getD k 1)+if B k=true then 1 else 0)(hB:∀k,k<F.length→B k=true→had lev M (F.getD k 0) (R.getD k 0) (W.getD k 1)<R.getD k 0∧had lev M (F.getD k 0) (R.getD k 0) (W.getD k 1)*M=lev*W.getD k 1)(hN:∀i j,i<F.length→j<F.length→B i=true→B j=false→had lev M (F.getD j 0) (R.getD j 0) (W.getD j 1)<R.getD j 0→had lev M (F.getD j 0) (R.getD j 0) (W.getD j 1)*M=lev*W.getD j 1→i<j):Fair F R W x:=by
 have hb:∀k,k<F.length→F.getD k 0≤had lev M (F.getD k 0) (R.getD k 0) (W.getD k 1)∧had lev M (F.getD k 0) (R.getD k 0) (W.getD k 1)≤R.getD k 0:=fun k hk=>by
  have:=hFR k hk;unfold had;omega
 have c1:∀k,k<F.length→F.getD k 0<x.getD k 0→(x.getD k 0-1)*M<lev*W.getD k 1∨((x.getD k 0-1)*M=lev*W.getD k 1∧B k=true):=fun k hk h=>by
  rw[hx k hk]at h⊢;cases b:B k with
  | true =>
    right
    rw[if_pos rfl,Int.add_sub_cancel]
    exact⟨(hB k hk b).2,rfl⟩
  | false =>
    left
    rw[b,if_neg Bool.false_ne_true,Int.add_zero]at h
    rw[if_neg Bool.false_ne_true,Int.add_zero]
    refine(qcA hM).mp ?_
    unfold had at h⊢
    omega
 have c2:∀k,k<F.length→x.getD k 0<R.getD k 0→lev*W.getD k 1<x.getD k 0*M∨(lev*W.getD k 1=x.getD k 0*M∧B k=false∧had lev M (F.getD k 0) (R.getD k 0) (W.getD k 1)<R.getD k 0∧had lev M (F.getD k 0) (R.getD k 0) (W.getD k 1)*M=lev*W.getD k 1):=fun k hk h=>by
  rw[hx k hk]at h⊢;cases b:B k with
  | true =>
    left
    rw[if_pos rfl,Int.add_mul,(hB k hk b).2]
    omega
  | false =>
    rw[b,if_neg Bool.false_ne_true,Int.add_zero]at h
    rw[if_neg Bool.false_ne_true,Int.add_zero]
    have nl:¬had lev M (F.getD k 0) (R.getD k 0) (W.getD k 1)*M<lev*W.getD k 1:=fun z=>by
      have:=(qcA hM).mpr z
      unfold had at this h
      omega
    by_cases e:had lev M (F.getD k 0) (R.getD k 0) (W.getD k 1)*M=lev*W.getD k 1
    · exact .inr ⟨e.symm,rfl,h,e⟩
    · left
      generalize had lev M (F.getD k 0) (R.getD k 0) (W.getD k 1)*M=u at *
      generalize lev*W.getD k 1=v at *
      omega
 refine⟨len,fun k hk=>?_,fun k hk=>?_,fun i j hi hj hij fi rj=>?_⟩
 ·have:=hb k (by omega);rw[hx k (by omega)]
  split<;>omega
 ·have:=hb k (by omega);rw[hx k (by omega)]
  split
  ·have:=hB k (by omega) (by assumption);omega
  ·omega
 ·have a1:=c1 i (by omega) fi;have a2:=c2 j (by omega) rj;have wi:=hW i;have wj:=hW j;have nn:=fun b1 b2 b3 b4=>hN i j (by omega) (by omega) b1 b2 b3 b4
  unfold qc7;generalize x.getD i 0-1=a at *;generalize x.getD j 0=b at *;generalize W.getD i 1=u at *;generalize W.getD j 1=v at *;have e1:a*M*v=a*v*M:=by ac_rfl
  have e2:b*M*u=b*u*M:=by ac_rfl
  have e3:lev*u*v=lev*v*u:=by ac_rfl
  have s1:a*M<lev*u→a*M*v<lev*u*v:=fun h=>Int.mul_lt_mul_of_pos_right h wj
  have s2:lev*v<b*M→lev*v*u<b*M*u:=fun h=>Int.mul_lt_mul_of_pos_right h wi
  have t1:a*M=lev*u→a*M*v=lev*u*v:=fun h=>by rw[h]
  have t2:lev*v=b*M→lev*v*u=b*M*u:=fun h=>by rw[h]
  have lt:a*v*M<b*u*M→a*v<b*u:=fun h=>Int.lt_of_mul_lt_mul_right h (Int.le_of_lt hM)
  have eq:a*v*M=b*u*M→a*v=b*u:=fun h=>(Int.mul_eq_mul_right_iff (Int.ne_of_gt hM)).mp h
  rw[e1]at s1 t1;rw[e2]at s2 t2;rcases a1 with a1 | ⟨a1,b1⟩
  ·left;refine lt ?_;have:=s1 a1;rcases a2 with a2 | a2
   ·have:=s2 a2;omega
   ·have:=t2 a2.1;omega
  ·have:=t1 a1;rcases a2 with a2 | a2
   ·left;refine lt ?_;have:=s2 a2;omega
   ·right;refine⟨eq ?_,nn b1 a2.2.1 a2.2.2.1 a2.2.2.2⟩;have:=t2 a2.1;omega
end Shr
namespace Shr
theorem had_succ{lev M f r w:Int}(hM:0<M)(hw:0<w)(dv:w∣M)(fr:f≤r):had (lev+1) M f r w=had lev M f r w+if had lev M f r w<r∧had lev M f r w*M=lev*w then 1 else 0:=by
 obtain⟨m,rfl⟩:=dv;have hm:0<m:=Int.pos_of_mul_pos_right hM hw;have a0:∀d:Int,d<qc8 lev w (w*m)↔d*m<lev:=fun d=>by
  rw[qcA hM,show d*(w*m)=d*m*w by ac_rfl];exact Int.mul_lt_mul_right hw
 have a1:∀d:Int,d<qc8 (lev+1) w (w*m)↔d*m<lev+1:=fun d=>by
  rw[qcA hM,show d*(w*m)=d*m*w by ac_rfl];exact Int.mul_lt_mul_right hw
 have a2:∀d:Int,d*(w*m)=lev*w↔d*m=lev:=fun d=>by
  rw[show d*(w*m)=d*m*w by ac_rfl];exact Int.mul_eq_mul_right_iff (Int.ne_of_gt hw)
 simp only[a2];unfold had;generalize qc8 lev w (w*m)=c at *;generalize qc8 (lev+1) w (w*m)=c' at *;have b0:=a0 c;have b1:=a0 (c-1);have b2:=a1 c;have b3:=a1 (c+1);have b4:=a1 (c-1);have m1:(c+1)*m=c*m+m:=by rw[Int.add_mul,Int.one_mul]
 have m2:(c-1)*m=c*m-m:=by rw[Int.sub_mul,Int.one_mul]
 have g1:=a0 f;have cf:c<f→c*m<f*m:=fun h=>Int.mul_lt_mul_of_pos_right h hm
 rw[m1]at b3;rw[m2]at b1 b4
 by_cases e:max c f<r
 ·rw[show min (max c f) r=max c f by omega]
  by_cases g:c<f
  ·rw[show max c f=f by omega];have:=cf g;rw[if_neg (fun z=>by omega)];omega
  ·rw[show max c f=c by omega]
   by_cases q:c*m=lev
   ·rw[if_pos ⟨by omega,q⟩];omega
   ·rw[if_neg (fun z=>q z.2)];omega
 ·rw[show min (max c f) r=r by omega,if_neg (fun z=>by omega)];omega
def qaT(e:Nat→Bool)(k:Nat):Nat:=((List.range k).filter e).length
theorem qbL(e:Nat→Bool)(k:Nat):qaT e (k+1)=qaT e k+if e k=true then 1 else 0:=by
 unfold qaT;rw[List.range_succ,List.filter_append,List.length_append,List.filter_cons]
 split<;>rfl
theorem before_le(e:Nat→Bool){i j:Nat}(h:i≤j):qaT e i≤qaT e j:=by
 induction j with
 | zero=>rw[Nat.le_zero.mp h];exact Nat.le_refl _
 | succ j ih =>
   by_cases c:i=j+1
   · rw[c];exact Nat.le_refl _
   · have:=ih (by omega)
     rw[qbL]
     omega
def qbu(e:Nat→Bool)(left:Nat)(k:Nat):Bool:=e k && decide (qaT e k<left)
theorem firsts_sum(e:Nat→Bool)(left n:Nat):((List.range n).map fun k=>if qbu e left k=true then(1:Int)else 0).sum=min (left:Int) (qaT e n:Int):=by
 induction n with
 | zero =>
   show(0:Int)=min (left:Int) ((0:Nat):Int)
   omega
 | succ n ih =>
   rw[List.range_succ,List.map_append,List.sum_append,ih,qbL]
   show _+((if qbu e left n=true then(1:Int)else 0)+0)=_
   unfold qbu
   cases he:e n with
   | true =>
     rw[Bool.true_and]
     by_cases c:qaT e n<left
     · rw[if_pos (by simpa using c),if_pos rfl]
       omega
     · rw[if_neg (by simpa using c),if_pos rfl]
       omega
   | false =>
     rw[Bool.false_and,if_neg Bool.false_ne_true,if_neg Bool.false_ne_true]
     omega
theorem before_sum(e:Nat→Bool)(n:Nat):((List.range n).map fun k=>if e k=true then(1:Int)else 0).sum=(qaT e n:Int):=by
 induction n with
 | zero=>rfl
 | succ n ih =>
   rw[List.range_succ,List.map_append,List.sum_append,ih,qbL]
   show _+((if e n=true then(1:Int)else 0)+0)=_
   split<;>omega
def qbx(lev M:Int)(F R W:List Int)(k:Nat):Int:=had lev M (F.getD k 0) (R.getD k 0) (W.getD k 1)
def qaz(lev M:Int)(F R W:List Int)(k:Nat):Bool:=decide (qbx lev M F R W k<R.getD k 0∧qbx lev M F R W k*M=lev*W.getD k 1)
def hads(lev M:Int)(F R W:List Int):List Int:=(List.range F.length).map (qbx lev M F R W)
def qbJ(lev M:Int)(left:Nat)(F R W:List Int):List Int:=(List.range F.length).map fun k=>qbx lev M F R W k+if qbu (qaz lev M F R W) left k=true then 1 else 0
section
variable{F R W:List Int}{lev M:Int}{left:Nat}(hM:0<M)(hW:∀k,0<W.getD k 1)(hFR:∀k,k<F.length→F.getD k 0≤R.getD k 0)
include hM hW hFR
theorem byLevel_fair:Fair F R W (qbJ lev M left F R W):=by
 refine level_fair (lev:=lev) (M:=M) (B:=qbu (qaz lev M F R W) left) hM hW (by unfold qbJ;rw[List.length_map,List.length_range]) hFR (fun k hk=>?_) (fun k hk b=>?_) fun i j hi hj bi bj h1 h2=>?_
 ·unfold qbJ;rw[List.getD_eq_getElem?_getD,List.getElem?_map,List.getElem?_range hk];rfl
 ·unfold qbu qaz at b;exact of_decide_eq_true (Bool.and_eq_true_iff.mp b).1
 ·have ej:qaz lev M F R W j=true:=decide_eq_true ⟨h1,h2⟩;unfold qbu at bi bj;rw[ej,Bool.true_and]at bj;have x1:=of_decide_eq_true (Bool.and_eq_true_iff.mp bi).2;have x2:=of_decide_eq_false bj;refine Classical.byContradiction fun c=>?_
  have:=before_le (qaz lev M F R W) (show j≤i by omega);omega
theorem byLevel_sum(dv:∀k,k<F.length→W.getD k 1∣M)(more:(hads lev M F R W).sum+(left:Int)≤(hads (lev+1) M F R W).sum):(qbJ lev M left F R W).sum=(hads lev M F R W).sum+(left:Int):=by
 have up:(hads (lev+1) M F R W).sum=(hads lev M F R W).sum+(qaT (qaz lev M F R W) F.length:Int):=by
  rw[←before_sum];unfold hads;rw[←qds]
  congr 1
  refine List.map_congr_left fun k hk=>?_
  have:=had_succ (lev:=lev) hM (hW k) (dv k (List.mem_range.mp hk)) (hFR k (List.mem_range.mp hk));unfold qbx qaz;rw[this]
  congr 1
  unfold qbx;simp only[decide_eq_true_eq]
 unfold qbJ;rw[qds,firsts_sum];show(hads lev M F R W).sum+_=_;omega
end
end Shr
namespace Shr
theorem dots_len:∀(ps:List (Int×Int×Nat)) (b:Nat),(dots b ps).length=(ps.map fun p=>p.2.2).sum
 | [],_=>rfl
 | p :: ps, b => by
   show(row b p++dots (b+1) ps).length=_
   rw[List.length_append,qdl,dots_len ps,List.map_cons,List.sum_cons]
theorem qfr(room:Nat)(g:Nat→Nat):∀l:List Nat,min room (l.map g).sum=min room (l.map fun k=>min (g k) room).sum
 | []=>rfl
 | a :: l => by
   have:=qfr room g l
   simp only[List.map_cons,List.sum_cons]
   omega
theorem qfh(f r:Nat→Int):∀l:List Nat,(∀k∈l,f k≤r k)→(((l.map fun k=>(r k-f k).toNat).sum:Nat):Int)=(l.map r).sum-(l.map f).sum
 | [],_=>rfl
 | a :: l, h => by
   have ih:=qfh f r l fun k hk=>h k (List.mem_cons_of_mem _ hk)
   have:=h a List.mem_cons_self
   simp only[List.map_cons,List.sum_cons]
   omega
section
variable{F R W:List Int}{room:Nat}{out:List (Int×Int)}(hW:∀k,1≤W.getD k 1∧W.getD k 1≤9)(hl:R.length=F.length)(hFR:∀k,k<F.length→F.getD k 0≤R.getD k 0)(hp:out.Perm (dots 0 (places F R W room)))(hs:out.Pairwise Le2)
include hW hl hFR hp hs
theorem given_total:(qb8 F out room).sum=F.sum+min (room:Int) (R.sum-F.sum):=by
 rw[given_sum hW hFR hp hs,List.length_take,hp.length_eq,dots_len];have e:(places F R W room).map (fun p=>p.2.2)=(List.range F.length).map fun k=>min (R.getD k 0-F.getD k 0).toNat room:=by
  unfold places;rw[List.map_map];refine List.map_congr_left fun k hk=>?_
  have:=hFR k (List.mem_range.mp hk);show(min (R.getD k 0) (F.getD k 0+(room:Int))-F.getD k 0).toNat=_;omega
 rw[e,←qfr room fun k=>(R.getD k 0-F.getD k 0).toNat];have g:=qfh (fun k=>F.getD k 0) (fun k=>R.getD k 0) (List.range F.length) fun k hk=>hFR k (List.mem_range.mp hk)
 have r1:=range_sum R;rw[hl]at r1;rw[r1,range_sum F]at g;omega
theorem given_floors(h:room=0):qb8 F out room=F:=by
 have f:=given_fair hW hFR hp hs;have t:=given_total hW hl hFR hp hs;have lo:=(sum_le hl.symm hFR).1;refine((sum_le f.len.symm fun k hk=>f.lo k (by rw[f.len];exact hk)).2 ?_).symm;omega
theorem given_roofs(h:R.sum-F.sum≤(room:Int)):qb8 F out room=R:=by
 have f:=given_fair hW hFR hp hs;have t:=given_total hW hl hFR hp hs;refine(sum_le (f.len.trans hl.symm) f.hi).2 ?_;omega
theorem given_level{lev M:Int}{left:Nat}(hM:0<M)(dv:∀k,k<F.length→W.getD k 1∣M)(more:(hads lev M F R W).sum+(left:Int)≤(hads (lev+1) M F R W).sum)(hr:(room:Int)≤R.sum-F.sum)(hw:(hads lev M F R W).sum+(left:Int)=F.sum+(room:Int)):qbJ lev M left F R W=qb8 F out room:=by
 have w1:∀k,0<W.getD k 1:=fun k=>by have:=(hW k).1;omega
 refine Fair.one w1 (byLevel_fair hM w1 hFR) (given_fair hW hFR hp hs) ?_;rw[byLevel_sum hM w1 hFR dv more,given_total hW hl hFR hp hs,hw];omega
end
end Shr
namespace Shr
section
variable{F R W:List Int}{M:Int}(hM:0<M)(hW:∀k,0<W.getD k 1)(hF:∀k,k<F.length→0≤F.getD k 0)(hl:R.length=F.length)(hFR:∀k,k<F.length→F.getD k 0≤R.getD k 0)
include hM hW hF hl hFR
theorem hads_zero:(hads 0 M F R W).sum=F.sum:=by
 unfold hads;rw[←range_sum F]
 congr 1
 refine List.map_congr_left fun k hk=>?_
 have h1:=hF k (List.mem_range.mp hk);have h2:=hFR k (List.mem_range.mp hk);unfold qbx had;have:¬0<qc8 0 (W.getD k 1) M:=fun z=>by
  have:=(qcA (d:=0) hM).mp z;omega
 omega
theorem hads_top{top:Int}(ht:∀k,k<F.length→R.getD k 0≤top):(hads (top*M) M F R W).sum=R.sum:=by
 have r1:=range_sum R;rw[hl]at r1;rw[←r1];unfold hads
 congr 1
 refine List.map_congr_left fun k hk=>?_
 have h1:=hF k (List.mem_range.mp hk);have h2:=hFR k (List.mem_range.mp hk);have h3:=ht k (List.mem_range.mp hk);have w:=hW k;unfold qbx had;have:R.getD k 0-1<qc8 (top*M) (W.getD k 1) M:=by
  refine(qcA hM).mpr ?_;have e1:(R.getD k 0-1)*M<top*M:=Int.mul_lt_mul_of_pos_right (by omega) hM
  by_cases z:0≤top
  ·have:top*M*1≤top*M*W.getD k 1:=Int.mul_le_mul_of_nonneg_left (by omega) (Int.mul_nonneg z (by omega));omega
  ·omega
 omega
end
theorem qeA{M w:Int}(hM:0<M)(hw:0<w){t:Nat}(h:∀s:Nat,s<t→M*((s:Int)+1) % w≠0):(t:Int)<w:=by
 refine Classical.byContradiction fun c=>?_
 obtain⟨v,hv⟩:∃v:Nat,(v:Int)+1=w:=⟨(w-1).toNat,by omega⟩;refine h v (by omega) ?_;rw[hv];exact Int.mul_emod_left M w
end Shr
namespace Shr
def bump(x:List Int)(e:Int×Int):List Int:=x.set e.2.toNat (x.getD e.2.toNat 0+1)
theorem bump_at{x:List Int}{e:Int×Int}{k i:Nat}(hk:k<x.length)(ek:e.2=(k:Int)):(bump x e).getD i 0=x.getD i 0+if at_ i e=true then 1 else 0:=by
 unfold bump at_;have et:e.2.toNat=k:=by omega
 rw[et,List.getD_eq_getElem?_getD,List.getElem?_set,ek]
 by_cases c:k=i
 ·subst c;rw[if_pos rfl,if_pos hk,if_pos (by simp)];rfl
 ·rw[if_neg c,if_neg (by simp;omega),Int.add_zero,List.getD_eq_getElem?_getD]
theorem fold_given:∀(l:List (Int×Int)) (x:List Int),(∀e∈l,∃k:Nat,k<x.length∧e.2=(k:Int))→l.foldl bump x=(List.range x.length).map fun k=>x.getD k 0+((l.filter (at_ k)).length:Int)
 | [], x, _ => by
   refine List.ext_getElem? fun i=>?_
   rw[List.foldl_nil,List.getElem?_map]
   by_cases h:i<x.length
   · rw[List.getElem?_range h,List.getElem?_eq_getElem h]
     show some x[i]=some (x.getD i 0+0)
     rw[Int.add_zero,List.getD_eq_getElem?_getD,List.getElem?_eq_getElem h]
     rfl
   · rw[List.getElem?_eq_none (by omega),List.getElem?_eq_none (by rw[List.length_range];omega)]
     rfl
 | e :: l, x, h => by
   obtain⟨k,hk,ek⟩:=h e List.mem_cons_self
   have len:(bump x e).length=x.length:=by unfold bump;rw[List.length_set]
   rw[List.foldl_cons,fold_given l (bump x e) fun e' he'=>by rw[len];exact h e' (List.mem_cons_of_mem _ he'),len]
   refine List.map_congr_left fun i hi=>?_
   rw[bump_at hk ek,List.filter_cons]
   split
   · rw[List.length_cons];omega
   · omega
theorem dots_given{F R W:List Int}{room:Nat}{out:List (Int×Int)}(hp:out.Perm (dots 0 (places F R W room))):(out.take room).foldl bump F=qb8 F out room:=by
 refine fold_given _ F fun e he=>?_
 obtain⟨k,_,h2,h3⟩:=dots_place (hp.mem_iff.mp (List.mem_of_mem_take he));refine⟨k,?_,h3⟩;unfold places at h2;rw[List.length_map,List.length_range]at h2;omega
def after(lev M:Int)(left:Nat)(F R W:List Int)(k:Nat):List Int:=(List.range F.length).map fun i=>qbx lev M F R W i+if i<k∧qbu (qaz lev M F R W) left i=true then 1 else 0
theorem after_zero{lev M:Int}{left:Nat}{F R W:List Int}:after lev M left F R W 0=hads lev M F R W:=by
 unfold after hads;refine List.map_congr_left fun i _=>?_
 rw[if_neg (by omega),Int.add_zero]
theorem after_all{lev M:Int}{left:Nat}{F R W:List Int}:after lev M left F R W F.length=qbJ lev M left F R W:=by
 unfold after qbJ;refine List.map_congr_left fun i hi=>?_
 have:=List.mem_range.mp hi
 congr 1
 by_cases c:qbu (qaz lev M F R W) left i=true
 ·rw[if_pos ⟨this,c⟩,if_pos c]
 ·rw[if_neg (fun z=>c z.2),if_neg c]
theorem qeu{lev M:Int}{left k:Nat}{F R W:List Int}(h:k<F.length):(after lev M left F R W k).getD k 0=qbx lev M F R W k:=by
 unfold after;rw[List.getD_eq_getElem?_getD,List.getElem?_map,List.getElem?_range h];show qbx lev M F R W k+(if k<k∧_ then 1 else 0)=_;rw[if_neg (by omega),Int.add_zero]
theorem after_succ{lev M:Int}{left k:Nat}{F R W:List Int}(h:k<F.length):after lev M left F R W (k+1)=if 0<(left:Int)-(qaT (qaz lev M F R W) k:Int)∧qaz lev M F R W k=true then(after lev M left F R W k).set k ((after lev M left F R W k).getD k 0+1)else after lev M left F R W k:=by
 have b:qbu (qaz lev M F R W) left k=true↔(0<(left:Int)-(qaT (qaz lev M F R W) k:Int)∧qaz lev M F R W k=true):=by
  unfold qbu;rw[Bool.and_eq_true_iff,decide_eq_true_eq];constructor
  ·rintro⟨h1,h2⟩;exact⟨by omega,h1⟩
  ·rintro⟨h1,h2⟩;exact⟨h2,by omega⟩
 have same:∀i,i≠k→(i<k+1∧qbu (qaz lev M F R W) left i=true↔i<k∧qbu (qaz lev M F R W) left i=true):=fun i hi=>by
  constructor
  ·rintro⟨h1,h2⟩;exact⟨by omega,h2⟩
  ·rintro⟨h1,h2⟩;exact⟨by omega,h2⟩
 have at':∀j i:Nat,i<F.length→(after lev M left F R W j)[i]?=some (qbx lev M F R W i+if i<j∧qbu (qaz lev M F R W) left i=true then 1 else 0):=fun j i hi=>by
  unfold after;rw[List.getElem?_map,List.getElem?_range hi];rfl
 have len:∀j:Nat,(after lev M left F R W j).length=F.length:=fun j=>by unfold after;rw[List.length_map,List.length_range]
 refine List.ext_getElem? fun i=>?_
 by_cases hi:i<F.length
 ·rw[at' (k+1) i hi]
  by_cases c:0<(left:Int)-(qaT (qaz lev M F R W) k:Int)∧qaz lev M F R W k=true
  ·rw[if_pos c,List.getElem?_set,qeu h]
   by_cases e:k=i
   ·subst e;rw[if_pos rfl,if_pos (show k<k+1∧qbu (qaz lev M F R W) left k=true from⟨by omega,b.mpr c⟩),if_pos (by rw[len];exact h)]
   ·rw[if_neg e,at' k i hi];simp only[same i (fun z=>e z.symm)]
  ·rw[if_neg c,at' k i hi]
   by_cases e:k=i
   ·subst e;rw[if_neg (fun z=>c (b.mp z.2)),if_neg (fun z=>c (b.mp z.2))]
   ·simp only[same i (fun z=>e z.symm)]
 ·rw[List.getElem?_eq_none (by rw[len];omega)]
  split
  ·rw[List.getElem?_eq_none (by rw[List.length_set,len];omega)]
  ·rw[List.getElem?_eq_none (by rw[len];omega)]
end Shr
namespace Shr
theorem hold_due{F R W x due:List Int}{width room:Int}(hW:∀k,0<W.getD k 1)(hl:R.length=F.length)(hFR:∀k,k<F.length→F.getD k 0≤R.getD k 0)(fd:Fair F R W due)(t:due.sum=F.sum+min room (R.sum-F.sum))(hr:room=max 0 (width-F.sum)) :
  (Fair F R W x∧¬(width<x.sum∧x≠F)∧¬(x.sum<width∧x≠R))↔x=due:=by
 have fr:=(sum_le hl.symm hFR).1;have loF:∀{y:List Int},Fair F R W y→F.sum≤y.sum∧(F.sum=y.sum→F=y):=fun f=>sum_le f.len.symm fun k hk=>f.lo k (by rw[f.len];exact hk)
 have hiR:∀{y:List Int},Fair F R W y→y.sum≤R.sum∧(y.sum=R.sum→y=R):=fun f=>sum_le (f.len.trans hl.symm) f.hi
 have d1:=loF fd;have d2:=hiR fd;constructor
 ·rintro⟨f,h1,h2⟩;have x1:=loF f;have x2:=hiR f
  by_cases c1:width<x.sum
  ·have e:x=F:=Classical.byContradiction fun z=>h1 ⟨c1,z⟩
   rw[e]at c1⊢;exact d1.2 (by omega)
  ·by_cases c2:x.sum<width
   ·have e:x=R:=Classical.byContradiction fun z=>h2 ⟨c2,z⟩
    rw[e]at c2⊢;exact(d2.2 (by omega)).symm
   ·exact Fair.one hW f fd (by omega)
 ·rintro rfl;exact⟨fd,fun z=>z.2 (d1.2 (by omega)).symm,fun z=>z.2 (d2.2 (by omega))⟩
end Shr
namespace L2
open PySem PySem.Spec
end L2
namespace L2
open PySem PySem.Spec
end L2
namespace L2
open PySem PySem.Spec
end L2
namespace Fc
open PySem L2 Bk Gen Gd Bd
end Fc
namespace Fc
open PySem L2 Bk Gen Gd Bd
end Fc
namespace Fc
open PySem L2 Bk Gen Gd Bd
end Fc
namespace Br
open PySem L2 Bk Gen Gd Bd
section
variable{X:Cx}{pos:Pos}
def gTupL(K:PySem.W.Frag)(n:Nat)(t:TGs):TG:=fun v σ H Q=>∃a xs,v=.ref a∧SqL K H a xs∧xs.length=n∧t xs σ H Q
theorem qe1{es:List Expr}{k:Nat}{t:TGs}{n:Nat}(hc:X.calm=true)(h:PGs X es t)(hn:(assignEach es X.env).length=n:=by rfl)(hst:(assignEach es X.env).findIdx? (·.1)=none:=by rfl):PG X (.Tuple es k pos) (gTupL X.K n t):=by
 intro pins s σ H v u Q I r hw;obtain⟨a,xs,e1,hq,hl,hw⟩:=hw;subst e1;cases r;obtain⟨its,rv,ht,hz⟩:=I.list hq;have hL:s.heap.IsList a its.toArray:=ht.isList;have hn':(assignEach es X.env).length=its.toArray.size:=by simp[hn,←hl,rv.length]
 show wpAny _ _ (assign (.Tuple es k pos) X.env (.ref a)) _ _ s;rw[PyProof.Rows.assign_Tuple];refine wpAny_bind (wpAny_standAt ?_);unfold unpack;rw[hn',hst];refine wpAny_bind (wpAny_holding (PySem.W.kun_itemsOf (I.ok.hd hc) hL fun h' hx=>?_));have I1:Inv X pins σ H {s with heap:=h'}:=I.kept (t':=s.toks) fun b o e=>hx b o (Nat.ne_of_lt (Heap.lt_size e)) e
 exact h pins _ σ H xs _ Q I1 (by simpa using rv) hw
end
theorem qfx{names:List (Str×NameKind)}{a b c d:Str}(h:names.lookup a=some .cell)(h':names.lookup b=some .cell)(h'':names.lookup c=some .cell)(h3:names.lookup d=some .cell):∀x∈[a,b,c,d],names.lookup x=some .cell∨names.lookup x=some .free:=fun x hx=>by
 simp only[List.mem_cons,List.not_mem_nil,or_false]at hx;rcases hx with rfl | rfl | rfl | rfl
 ·exact .inl h
 ·exact .inl h'
 ·exact .inl h''
 ·exact .inl h3
end Br
namespace L2
open PySem PySem.Spec PyProof.Rows
end L2
namespace L2
open PySem PySem.Spec PyProof.Rows
theorem qaV{t u:TS}{D:Ends}{σ:St}{H:Hp}(P:St→Hp→Prop)(h:∀N:St→Hp→Prop,(∀σ' H',P σ' H'→N σ' H')→t {D with nx:=N} σ H)(k:∀σ' H',P σ' H'→u D σ' H'):tSeq t u D σ H:=h _ k
end L2
namespace Br
open PySem L2 Bk Gen Gd Bd
end Br
namespace Br
open PySem L2 Bk Gen Gd Bd
end Br
namespace L2
open PySem PySem.Spec PyProof.Rows
end L2
namespace L2
open PySem PySem.Spec PyProof.Rows
end L2
namespace Br
open PySem L2 Bk Gen Gd Bd
end Br
namespace L2
open PySem PySem.Spec PyProof.Rows
end L2
namespace Br
open PySem L2 Bk Gen Gd Bd
end Br
namespace Br
open PySem L2 Bk Gen Gd Bd
end Br
namespace L2
open PySem PySem.Spec PyProof.Rows
end L2
namespace Fc
open PySem L2 Bk Gen Gd Bd
end Fc
namespace L2
open PySem PySem.Spec PyProof.Rows
end L2
namespace Fc
open PySem L2 Bk Gen Gd Bd
theorem kids_kk(ds:List Nd)(n:Nat):(qav ds n).length=(kk ds n).length:=by
 have e:∀l:List Nd,(List.range l.length).filterMap (fun j=>l[j]?)=l:=by
  intro l
  induction l with
  | nil=>rfl
  | cons a l ih =>
    rw[List.length_cons,List.range_succ_eq_map,List.filterMap_cons,List.filterMap_map]
    exact congrArg (a :: ·) ih
 unfold kk qav;rw[List.length_map]
 conv=>rhs;rw[←e ds]
 rw[←List.countP_eq_length_filter,←List.countP_eq_length_filter,List.countP_filterMap];apply List.countP_congr;intro j hj;rw[List.getElem?_eq_getElem (List.mem_range.mp hj)];simp[qe5]
end Fc
namespace L2
open PySem PySem.Spec PyProof.Rows
open PySem.W (KasT kas_sort kas_ask kas_asc kas_desc kas_rev kas_tail3 kas_descPart kas_count kas_place kas_bin)
theorem sorted_one{prog:Program}{w:World}{A:Around}{E:Value→Shared→Prop}{s:Shared}{l:Addr}{v:Value}{Q:Value→Shared→Prop}(hl:s.heap.IsList l [v].toArray)(h:Q (.ref (s.heap.objs.size+1)) {s with heap:=sortedAll s.heap [v] #[v]}):wpAny (model prog w) A (call (.builtin "sorted") [.ref l]) Q E s:=by
 refine Calls.call_function_entry kind_sorted plain_sorted entry_sorted (args_sorted1 _) ?_;unfold Builtin.«sorted»;refine wpAny_bind (m:=checkCount "sorted" 1 1 _) (wpAny_pure (wpAny_bind (collect_list hl (wpAny_bind (wpAny_newList ?_)))));have z:((s.heap.push (seqObj "list" #[] 0)).update s.heap.objs.size (Obj.mapSeq (·++ [v].toArray))).objs.size=s.heap.objs.size+1:=by rw[Heap.size_update,size_push']
 have g:(((s.heap.push (seqObj "list" #[] 0)).update s.heap.objs.size (Obj.mapSeq (·++ [v].toArray))).push (seqObj "list" [v].toArray 0)).get? (s.heap.objs.size+1)=some (seqObj "list" [v].toArray 0):=by rw[←z];exact Heap.get?_push_size _ rfl
 show wpAny _ _ _ _ _ {s with heap:=((s.heap.push (seqObj "list" #[] 0)).update s.heap.objs.size (Obj.mapSeq (·++ [v].toArray))).push (seqObj "list" [v].toArray 0)};rw[z];have h':Q (.ref (s.heap.objs.size+1)) {s with heap:=sortedHeap (((s.heap.push (seqObj "list" #[] 0)).update s.heap.objs.size (Obj.mapSeq (·++ [v].toArray))).push (seqObj "list" [v].toArray 0)) (s.heap.objs.size+1) [v] #[v]}:=h;generalize ((s.heap.push (seqObj "list" #[] 0)).update s.heap.objs.size (Obj.mapSeq (·++ [v].toArray))).push (seqObj "list" [v].toArray 0)=hp at g h';refine wpAny_bind (wpAny_holding (wpAny_call_entry slot_list_sort ⟨_,g,rfl⟩ entry_list_sort ?_ (args_list_sort _)));have hlt:s.heap.objs.size+1<hp.objs.size:=Heap.lt_size g;generalize s.heap.objs.size+1=b at g h' hlt;rw[list_sort_plain];refine wpAny_bind (listItems_at g rfl (wpAny_bind (listUpdate_at g rfl ?_)));obtain⟨e1,g1⟩:∃e1,(hp.update b (Obj.mapSeq fun _=>#[])).get? b=some (seqObj "list" #[] e1):=⟨_,get?_update_seq g (fun _=>#[])⟩;refine wpAny_bind (seqEpoch_at g1 rfl (wpAny_bind (wpAny_newTuple (wpAny_bind (wpAny_newList (wpAny_holding ?_))))));have g6:(((hp.update b (Obj.mapSeq fun _=>#[])).push (seqObj "tuple" [v].toArray 0)).push (seqObj "list" #[] 0)).get? b=some (seqObj "list" #[] e1):=by
  rw[Heap.get?_push_ne _ _ _ (by rw[size_push',Heap.size_update];exact Nat.ne_of_lt (Nat.lt_succ_of_lt hlt)),Heap.get?_push_ne _ _ _ (by rw[Heap.size_update];exact Nat.ne_of_lt hlt)];exact g1
 show wpAny (model prog w) _ _ _ _ {s with heap:=((hp.update b (Obj.mapSeq fun _=>#[])).push (seqObj "tuple" [v].toArray 0)).push (seqObj "list" #[] 0)};dsimp only;rw[if_pos (show[v].toArray.size<2 from by show 1<2;decide),if_pos (show[v].toArray.size<2 from by show 1<2;decide)];refine wpAny_bind (wpAny_pure ?_);rw[StateT.run_pure];refine wpAny_bind (wpAny_pure ?_);dsimp only;refine wpAny_bind (seqEpoch_at g6 rfl (wpAny_bind (listUpdate_at g6 rfl ?_ (hsz2:=by rw[Array.size_map];show(pairsOf [v]).size≤_;rw[pairsOf_size,sizeLine_eq];show 1≤_;omega))));simp only[bne_self_eq_false,Bool.false_eq_true,if_false];have e:(([v].toArray.zip [v].toArray).map fun x:Value×Value=>x.2)=#[v]:=by simp
 rw[←e]at h';exact wpAny_pure ⟨_,rfl,wpAny_pure ⟨_,rfl,h'⟩⟩
section
variable{X:Cx}
theorem vals_refs:∀{as:List Addr} {us:List Value},Vals (as.map V.ref) us→us=as.map Value.ref
 | [],_,.nil=>rfl
 | a :: as, _, .cons r t => by
   cases r
   rw[vals_refs t]
   rfl
theorem refs_vals:∀(as:List Addr),Vals (as.map V.ref) (as.map Value.ref)
 | []=>.nil
 | a::as=>.cons rfl (refs_vals as)
end
end L2
namespace L2
open PySem PySem.Spec PyProof.Rows
def iAt(H:Hp)(a:Addr)(p:Int×Int):Prop:=H a=some (.tup [.int p.1,.int p.2])
def qcG(H:Hp)(a:Addr):Int×Int:=match H a with
 | some (.tup [.int m,.int n])=>(m,n)
 | _=>(0,0)
theorem iAt.two{H:Hp}{a:Addr}{p:Int×Int}(h:iAt H a p):qcG H a=p:=by
 unfold qcG;rw[show H a=some (.tup [.int p.1,.int p.2])from h]
theorem pairAtI{P:Program}{w:World}{H:Hp}{h:Heap}{a:Addr}{m n:Int}(ok:HOk P w H h)(e:H a=some (.tup [.int m,.int n])) :
  ∃o t u k,h.get? a=some o∧o.cls=.type "tuple" ∧ o.data=.seq [Value.int m t,Value.int n u].toArray k:=by
 obtain⟨_,its,rv,o,e1,e2,k,e3⟩:=ok a _ e;cases rv with
 | cons r1 r2 =>
   cases r2 with
   | cons r2 r3 =>
     cases r3
     obtain⟨t,rfl⟩:=r1
     obtain⟨u,rfl⟩:=r2
     exact⟨o,t,u,k,e1,e2,e3⟩
theorem two_all{H:Hp}{as:List Addr}{od:List (Int×Int)}(h:Paired (iAt H) as od):od=as.map (qcG H)∧∀a∈as,iAt H a (qcG H a):=by
 induction h with
 | nil=>exact⟨rfl,fun a ha=>nomatch ha⟩
 | cons x _ ih =>
   have e:=iAt.two x
   refine⟨by rw[List.map_cons,e,←ih.1],fun a ha=>?_⟩
   rcases List.mem_cons.mp ha with rfl | ha
   · rw[e];exact x
   · exact ih.2 a ha
theorem qek{H:Hp}:∀{bs:List Addr},(∀a∈bs,iAt H a (qcG H a))→Paired (iAt H) bs (bs.map (qcG H))
 | [],_=>.nil
 | b::bs,h=>.cons (h b List.mem_cons_self) (qek fun a ha=>h a (List.mem_cons_of_mem _ ha))
variable{X:Cx}
theorem call_sortedP:qcd X (.builtin "sorted") (fun xs H Q=>∃(p:Addr) (as:List Addr) (od:List (Int×Int)),xs=[.ref p]∧SqL X.K H p (as.map V.ref)∧Paired (iAt H) as od ∧
  ∀(d:Addr) (bs:List Addr) (os:List (Int×Int)),H d=none→Paired (iAt H) bs os→os.Perm od→os.Pairwise (fun p q=>Tim.lex q p=false)→Q (.ref d) (upd H d (.lst (bs.map V.ref)))):=by
 intro pins s σ H xs us Q I r h;obtain⟨p,as,od,rfl,hp,pr,q⟩:=h;obtain⟨u,rfl,rx⟩:=qdo r;cases rx;obtain⟨its,rv,pl,hz⟩:=I.list hp;obtain rfl:=vals_refs rv;obtain⟨eo,ea⟩:=two_all pr;have q':∀(d:Addr) (bs:List Addr),H d=none→bs.Perm as→bs.Pairwise (fun a b=>Tim.lex (qcG H b) (qcG H a)=false)→Q (.ref d) (upd H d (.lst (bs.map V.ref))):=fun d bs hd hb hw=>by
  refine q d bs (bs.map (qcG H)) hd (qek fun a ha=>ea a (hb.mem_iff.mp ha)) ?_ ?_
  ·rw[eo];exact hb.map _
  ·rw[List.pairwise_map];exact hw
 have z:as.length≤sizeLine:=by
  rw[List.length_map]at hz;exact hz
 have fin:∀(bs:List Addr) (out:Array Value),out=(bs.map Value.ref).toArray→bs.Perm as→bs.Pairwise (fun a b=>Tim.lex (qcG H b) (qcG H a)=false)→EP X pins σ Q (.ref (s.heap.objs.size+1)) {s with heap:=sortedAll s.heap (as.map Value.ref) out}:=fun bs out eo hb hw=>by
  subst eo;obtain⟨e,he⟩:=sortedAll_at s.heap (as.map Value.ref) (bs.map Value.ref).toArray;exact⟨.ref (s.heap.objs.size+1),_,I.laid (a:=s.heap.objs.size+1) (o:=.lst (bs.map V.ref)) (t':=s.toks) (fun b o z=>sortedAll_old z) (Nat.le_succ _) ⟨by rw[List.length_map,hb.length_eq];exact z,bs.map Value.ref,e,refs_vals bs,he⟩,rfl,q' _ bs (I.hok.fresh (Nat.le_succ _)) hb hw⟩
 match as,pl,z,fin,ea with
 | [], pl, z, fin, ea =>
   refine sorted_ints (vs:=[]) (ns:=[]) pl.isList .nil (by decide) fun out ms a1 a2 a3=>?_
   obtain rfl:ms=[]:=List.Perm.eq_nil a2
   have eo:out.toList=[]:=(show∀l,IntsAre l []→l=[]from fun l h=>by cases h;rfl) _ a1
   exact fin [] out (Array.toList_inj.mp eo) (.refl _) .nil
 | [a],pl,z,fin,ea=>exact sorted_one pl.isList (fin [a] _ rfl (.refl _) (List.pairwise_singleton _ _))
 | a :: b :: r, pl, z, fin, ea =>
   refine Tim.sorted_tup (f:=qcG H) (as:=a::b::r) pl.isList (by simp) z (fun c hc=>?_) fun out p1 p2=>fin out _ rfl p1 p2
   exact pairAtI I.hok (ea c hc)
end L2
namespace Gd
open PySem L2 Gen
theorem qbg{hs:List Int}{i:Nat}{x:V}(h:(hs.map V.int)[i]?=some x):∃n,hs[i]?=some n∧x=.int n:=by
 rw[List.getElem?_map]at h;obtain⟨n,e,rfl⟩:=Option.map_eq_some_iff.mp h;exact⟨n,e,rfl⟩
theorem cut_mid{xs:List Int}{r e:Nat}(h1:r≤e)(h2:e≤xs.length):cutV (xs.map V.int) (some (r:Int)) (some (e:Int))=((xs.drop r).take (e-r)).map V.int:=by
 unfold cutV;rw[HT.sIx_nat,HT.sIx_nat,List.length_map,Nat.min_eq_left (show r≤xs.length by omega),Nat.min_eq_left h2,←List.map_drop,←List.map_take]
end Gd
namespace L2
open PySem PySem.Spec PyProof.Rows
abbrev qbz(h:Heap)(T:Addr)(p q r:Value):Prop:=h.get? T=some {cls:=.type "tuple",data:=.seq #[p,q,r]}
structure Z3(z TI TO i1 i2 i3:Addr):Prop where
 nd:[z,TI,TO,i1,i2,i3].Nodup
abbrev Off(z TO i1 i2 i3 l:Addr):Prop:=l≠z∧l≠TO∧l≠i1∧l≠i2∧l≠i3
theorem Z3.all{z TI TO i1 i2 i3:Addr}(D:Z3 z TI TO i1 i2 i3):(TI≠z∧TO≠z∧i1≠z∧i2≠z∧i3≠z)∧(TI≠TO∧TI≠i1∧TI≠i2∧TI≠i3)∧(TO≠i1∧TO≠i2∧TO≠i3)∧(i1≠i2∧i1≠i3)∧i2≠i3:=by
 have h:=D.nd;simp only[List.nodup_cons,List.mem_cons,List.not_mem_nil,or_false,not_or,List.nodup_nil,and_true,not_false_eq_true]at h;obtain⟨⟨a1,a2,a3,a4,a5⟩,⟨b1,b2,b3,b4⟩,⟨c1,c2,c3⟩,⟨d1,d2⟩,e⟩:=h;exact⟨⟨Ne.symm a1,Ne.symm a2,Ne.symm a3,Ne.symm a4,Ne.symm a5⟩,⟨b1,b2,b3,b4⟩,⟨c1,c2,c3⟩,⟨d1,d2⟩,e⟩
section
variable{prog:Program}{w:World}{A:Around}{E:Value→Shared→Prop}{s:Shared}
theorem qeg{T:Addr}{p q r x:Value}{k:Nat}{Q:Unit→Shared→Prop}(hT:qbz s.heap T p q r)(h:∀g,g.get? T=some {cls:=.type "tuple",data:=.seq ((#[p,q,r]:Array Value).setIfInBounds k x)}→Heap.SameBut T s.heap g→Q () {s with heap:=g}) :
  wpAny (model prog w) A (updateSeq T (·.setIfInBounds k x)) Q E s:=by
 refine wpAny_updateSeq hT rfl (h _ ?_ (Heap.SameBut.update ..));rw[Heap.get?_update_self _ hT rfl];simp[Obj.mapSeq]
theorem next3_item{z TI TO i1 i2 i3 l1 l2 l3:Addr}{k:Nat}{xs ys zs:Array Value}{x y v p q r:Value}{Q:Value→Shared→Prop}(D:Z3 z TI TO i1 i2 i3)(f1:Off z TO i1 i2 i3 l1)(f2:Off z TO i1 i2 i3 l2)(f3:Off z TO i1 i2 i3 l3)(hz:IsZip s.heap z TI TO .none)(ti:qbz s.heap TI (.ref i1) (.ref i2) (.ref i3))(to:qbz s.heap TO p q r)(a1:s.heap.IsListIter i1 l1 k)(a2:s.heap.IsListIter i2 l2 k)(a3:s.heap.IsListIter i3 l3 k)(b1:s.heap.IsList l1 xs)(b2:s.heap.IsList l2 ys)(b3:s.heap.IsList l3 zs)(hx:xs[k]?=some x)(hy:ys[k]?=some y)(hv:zs[k]?=some v)(hQ:∀g,IsZip g z TI TO (rawInt s.heap.objs.size)→qbz g TO x y v→g.IsListIter i1 l1 (k+1)→g.IsListIter i2 l2 (k+1)→g.IsListIter i3 l3 (k+1)→qbz g s.heap.objs.size x y v→g.objs.size=s.heap.objs.size+1 →
   (∀c o,Off z TO i1 i2 i3 c→s.heap.get? c=some o→g.get? c=some o)→Q (.ref s.heap.objs.size) {s with heap:=g}) :
  wpAny (model prog w) A (Builtin.«zip.__next__» ⟨[.ref z],[]⟩) (fun fin s'=>∃u,fin=.done (.ret u)∧Q u s') E s:=by
 obtain⟨⟨d1,d2,d3,d4,d5⟩,⟨_,e1,e2,e3⟩,⟨c1,c2,c3⟩,⟨j1,j2⟩,j3⟩:=D.all;show wpAny _ _ (field (.ref z) 2>>=_) _ _ _;refine wpAny_bind (wpAny_field hz rfl (x:=.bool false) rfl ?_);show wpAny _ _ (field (.ref z) 3>>=_) _ _ _;refine wpAny_bind (wpAny_field hz rfl (x:=.ref TI) rfl ?_);refine wpAny_bind (wpAny_seqItems ti rfl ?_);show wpAny _ _ (Builtin.SmallTypes.ownedTupleIsFree (.ref z)>>=_) _ _ _;refine wpAny_bind ?_;unfold Builtin.SmallTypes.ownedTupleIsFree;refine wpAny_bind (wpAny_field hz rfl (x:=.none) rfl (wpAny_pure ?_));simp only[if_true];refine wpAny_bind (wpAny_rule ?_);refine wpAny_bind (wpAny_field hz rfl (x:=.ref TO) rfl ?_);refine wpAny_bind (wpAny_setField_rec hz (by simp) fun g1 z1 s1=>?_);replace z1:IsZip g1 z TI TO .ellipsis:=z1;refine wpAny_bind ?_;simp only[List.zipIdx_cons,List.zipIdx_nil,List.forIn_cons,List.forIn_nil];have k1:∀c o,c≠z→s.heap.get? c=some o→g1.get? c=some o:=fun c o n e=>s1.extBut _ _ n e
 refine wpAny_bind (wpAny_bind (wpAny_onRaise ?_));show wpAny _ _ (Builtin.SmallTypes.nextOf (.ref i1)>>=_) _ _ _;refine wpAny_bind (wpAny_nextOf_list_item (a1.at fun o e=>k1 _ o d3 e) (b1.at fun o e=>k1 _ o f1.1 e) hx fun g2 m1 s2=>wpAny_pure ?_);have k2:∀c o,c≠z→c≠i1→s.heap.get? c=some o→g2.get? c=some o:=fun c o n n' e=>s2.extBut _ _ n' (k1 c o n e)
 have t2:qbz g2 TO p q r:=k2 _ _ d2 c1 to;refine wpAny_bind (wpAny_seqItems t2 rfl ?_);refine wpAny_bind (qeg t2 fun g3 t3 s3=>?_);replace t3:qbz g3 TO x q r:=t3;have k3:∀c o,c≠z→c≠i1→c≠TO→s.heap.get? c=some o→g3.get? c=some o:=fun c o n n' n2 e=>s3.extBut _ _ n2 (k2 c o n n' e)
 refine wpAny_bind (wpAny_letGo (wpAny_pure ?_));refine wpAny_bind (wpAny_bind (wpAny_onRaise ?_));show wpAny _ _ (Builtin.SmallTypes.nextOf (.ref i2)>>=_) _ _ _;refine wpAny_bind (wpAny_nextOf_list_item (a2.at fun o e=>k3 _ o d4 (Ne.symm j1) (Ne.symm c2) e) (b2.at fun o e=>k3 _ o f2.1 f2.2.2.1 f2.2.1 e) hy fun g4 m2 s4=>wpAny_pure ?_);have k4:∀c o,c≠z→c≠i1→c≠TO→c≠i2→s.heap.get? c=some o→g4.get? c=some o:=fun c o n n' n2 n3 e=>s4.extBut _ _ n3 (k3 c o n n' n2 e)
 have t4:qbz g4 TO x q r:=s4.extBut _ _ c2 t3;refine wpAny_bind (wpAny_seqItems t4 rfl ?_);refine wpAny_bind (qeg t4 fun g5 t5 s5=>?_);replace t5:qbz g5 TO x y r:=t5;have k5:∀c o,c≠z→c≠i1→c≠TO→c≠i2→s.heap.get? c=some o→g5.get? c=some o:=fun c o n n' n2 n3 e=>s5.extBut _ _ n2 (k4 c o n n' n2 n3 e)
 refine wpAny_bind (wpAny_letGo (wpAny_pure ?_));refine wpAny_bind (wpAny_bind (wpAny_onRaise ?_));show wpAny _ _ (Builtin.SmallTypes.nextOf (.ref i3)>>=_) _ _ _;refine wpAny_bind (wpAny_nextOf_list_item (a3.at fun o e=>k5 _ o d5 (Ne.symm j2) (Ne.symm c3) (Ne.symm j3) e) (b3.at fun o e=>k5 _ o f3.1 f3.2.2.1 f3.2.1 f3.2.2.2.1 e) hv fun g6 m3 s6=>wpAny_pure ?_);have k6:∀c o,Off z TO i1 i2 i3 c→s.heap.get? c=some o→g6.get? c=some o:=fun c o n e=>s6.extBut _ _ n.2.2.2.2 (k5 c o n.1 n.2.2.1 n.2.1 n.2.2.2.1 e)
 have t6:qbz g6 TO x y r:=s6.extBut _ _ c3 t5;refine wpAny_bind (wpAny_seqItems t6 rfl ?_);refine wpAny_bind (qeg t6 fun g7 t7 s7=>?_);replace t7:qbz g7 TO x y v:=t7;have k7:∀c o,Off z TO i1 i2 i3 c→s.heap.get? c=some o→g7.get? c=some o:=fun c o n e=>s7.extBut _ _ n.2.1 (k6 c o n e)
 refine wpAny_bind (wpAny_letGo (wpAny_pure (wpAny_pure ?_)));refine wpAny_bind (wpAny_seqItems t7 rfl ?_);refine wpAny_bind (wpAny_newTuple ?_);have hsz:g7.objs.size=s.heap.objs.size:=by rw[s7.1,s6.1,s5.1,s4.1,s3.1,s2.1,s1.1]
 have z7:IsZip g7 z TI TO .ellipsis:=s7.extBut _ _ (Ne.symm d2) (s6.extBut _ _ (Ne.symm d5) (s5.extBut _ _ (Ne.symm d2) (s4.extBut _ _ (Ne.symm d4) (s3.extBut _ _ (Ne.symm d2) (s2.extBut _ _ (Ne.symm d3) z1)))));have n1:g7.IsListIter i1 l1 (k+1):=m1.at fun o e=>s7.extBut _ _ (Ne.symm c1) (s6.extBut _ _ j2 (s5.extBut _ _ (Ne.symm c1) (s4.extBut _ _ j1 (s3.extBut _ _ (Ne.symm c1) e))))
 have n2:g7.IsListIter i2 l2 (k+1):=m2.at fun o e=>s7.extBut _ _ (Ne.symm c2) (s6.extBut _ _ j3 (s5.extBut _ _ (Ne.symm c2) e))
 have n3:g7.IsListIter i3 l3 (k+1):=m3.at fun o e=>s7.extBut _ _ (Ne.symm c3) e
 have zlt:z<g7.objs.size:=Heap.lt_size z7;show wpAny _ _ (Builtin.SmallTypes.ownedTupleHandOut (.ref z) (.ref g7.objs.size)>>=_) _ _ _;refine wpAny_bind ?_;unfold Builtin.SmallTypes.ownedTupleHandOut;have z8:IsZip (g7.push {cls:=.type "tuple",data:=.seq #[x,y,v]}) z TI TO .ellipsis:=Heap.get?_push_of_some _ z7;refine wpAny_bind (wpAny_setField_rec z8 (by simp) fun g9 z9 s9=>?_);replace z9:IsZip g9 z TI TO (rawInt g7.objs.size):=z9;refine wpAny_setField_rec z9 (by simp) fun g10 z10 s10=>?_
 replace z10:IsZip g10 z TI TO (rawInt g7.objs.size):=z10;have up:∀c o,c≠z→g7.get? c=some o→g10.get? c=some o:=fun c o n e=>s10.extBut _ _ n (s9.extBut _ _ n (Heap.get?_push_of_some _ e))
 have hT:qbz g10 g7.objs.size x y v:=s10.extBut _ _ (Nat.ne_of_gt zlt) (s9.extBut _ _ (Nat.ne_of_gt zlt) (Heap.get?_push_size _ rfl));have sz10:g10.objs.size=g7.objs.size+1:=by rw[s10.1,s9.1,Heap.size_push]
 rw[hsz]at z10 hT sz10;refine wpAny_pure ⟨_,rfl,?_⟩;show Q (.ref g7.objs.size) _;rw[hsz];exact hQ g10 z10 (up _ _ d2 t7) (n1.at fun o e=>up _ o d3 e) (n2.at fun o e=>up _ o d4 e) (n3.at fun o e=>up _ o d5 e) hT sz10 fun c o n e=>up c o n.1 (k7 c o n e)
theorem next3_end{z TI TO i1 i2 i3 l1:Addr}{k:Nat}{xs:Array Value}{p q r:Value}{Q:Fin→Shared→Prop}(hh:A.handled=none)(D:Z3 z TI TO i1 i2 i3)(f1:Off z TO i1 i2 i3 l1)(hz:IsZip s.heap z TI TO .none)(ti:qbz s.heap TI (.ref i1) (.ref i2) (.ref i3))(a1:s.heap.IsListIter i1 l1 k)(b1:s.heap.IsList l1 xs)(hx:xs[k]?=none)(hE:∀g e,(∀c o,Off z TO i1 i2 i3 c→s.heap.get? c=some o→g.get? c=some o)→(∃o,g.get? e=some o∧o.cls=.type "StopIteration")→E (.ref e) {s with heap:=g}) :
  wpAny (model prog w) A (Builtin.«zip.__next__» ⟨[.ref z],[]⟩) Q E s:=by
 obtain⟨⟨d1,d2,d3,d4,d5⟩,_⟩:=D.all;show wpAny _ _ (field (.ref z) 2>>=_) _ _ _;refine wpAny_bind (wpAny_field hz rfl (x:=.bool false) rfl ?_);show wpAny _ _ (field (.ref z) 3>>=_) _ _ _;refine wpAny_bind (wpAny_field hz rfl (x:=.ref TI) rfl ?_);refine wpAny_bind (wpAny_seqItems ti rfl ?_);show wpAny _ _ (Builtin.SmallTypes.ownedTupleIsFree (.ref z)>>=_) _ _ _;refine wpAny_bind ?_;unfold Builtin.SmallTypes.ownedTupleIsFree;refine wpAny_bind (wpAny_field hz rfl (x:=.none) rfl (wpAny_pure ?_));simp only[if_true];refine wpAny_bind (wpAny_rule ?_);refine wpAny_bind (wpAny_field hz rfl (x:=.ref TO) rfl ?_);refine wpAny_bind (wpAny_setField_rec hz (by simp) fun g1 z1 s1=>?_);replace z1:IsZip g1 z TI TO .ellipsis:=z1;refine wpAny_bind ?_;simp only[List.zipIdx_cons,List.zipIdx_nil,List.forIn_cons,List.forIn_nil];refine wpAny_bind (wpAny_bind (wpAny_onRaise ?_));show wpAny _ _ (Builtin.SmallTypes.nextOf (.ref i1)>>=_) _ _ _;refine wpAny_bind (wpAny_nextOf_list_end hh (a1.at fun o e=>s1.extBut _ o d3 e) (b1.at fun o e=>s1.extBut _ o f1.1 e) hx fun g2 ex s2 he=>?_);obtain⟨oe,hoe,hce⟩:=he;have z2:IsZip g2 z TI TO .ellipsis:=s2 _ _ (Ne.symm d3) z1;have hez:ex≠z:=fun y=>by subst y;rw[z2]at hoe;cases hoe;simp at hce
 exact wpAny_setField_rec z2 (by simp) fun g3 _ s3=>hE g3 ex (fun c o n y=>s3.extBut _ _ n.1 (s2 _ _ n.2.2.1 (s1.extBut _ _ n.1 y))) ⟨oe,s3.extBut _ _ hez hoe,hce⟩
theorem pyNext3_item{z TI TO i1 i2 i3 l1 l2 l3:Addr}{k:Nat}{xs ys zs:Array Value}{x y v p q r:Value}{Q:Option Value→Shared→Prop}(D:Z3 z TI TO i1 i2 i3)(f1:Off z TO i1 i2 i3 l1)(f2:Off z TO i1 i2 i3 l2)(f3:Off z TO i1 i2 i3 l3)(hz:IsZip s.heap z TI TO .none)(ti:qbz s.heap TI (.ref i1) (.ref i2) (.ref i3))(to:qbz s.heap TO p q r)(a1:s.heap.IsListIter i1 l1 k)(a2:s.heap.IsListIter i2 l2 k)(a3:s.heap.IsListIter i3 l3 k)(b1:s.heap.IsList l1 xs)(b2:s.heap.IsList l2 ys)(b3:s.heap.IsList l3 zs)(hx:xs[k]?=some x)(hy:ys[k]?=some y)(hv:zs[k]?=some v)(hQ:∀g,IsZip g z TI TO (rawInt s.heap.objs.size)→qbz g TO x y v→g.IsListIter i1 l1 (k+1)→g.IsListIter i2 l2 (k+1)→g.IsListIter i3 l3 (k+1)→qbz g s.heap.objs.size x y v→g.objs.size=s.heap.objs.size+1 →
   (∀c o,Off z TO i1 i2 i3 c→s.heap.get? c=some o→g.get? c=some o)→Q (some (.ref s.heap.objs.size)) {s with heap:=g}) :
  wpAny (model prog w) A (pyNext (.ref z)) Q E s:=by
 have hT:s.TypeIs (.ref z) "zip":=⟨_,hz,rfl⟩;unfold pyNext;refine wpAny_bind (wpAny_attempt (wpAny_callSpecial?_slot (name:=Str.ofString "__next__") hT F.slot_zip_next (wpAny_call_entry F.slot_zip_next hT F.entry_zip_next ?_ (F.args_zip_next_1 _))));exact next3_item D f1 f2 f3 hz ti to a1 a2 a3 b1 b2 b3 hx hy hv fun g y1 y2 y3 y4 y5 y6 y7 y8=>wpAny_pure (hQ g y1 y2 y3 y4 y5 y6 y7 y8)
theorem pyNext3_end{z TI TO i1 i2 i3 l1:Addr}{k:Nat}{xs:Array Value}{Q:Option Value→Shared→Prop}(hh:A.handled=none)(D:Z3 z TI TO i1 i2 i3)(f1:Off z TO i1 i2 i3 l1)(hz:IsZip s.heap z TI TO .none)(ti:qbz s.heap TI (.ref i1) (.ref i2) (.ref i3))(a1:s.heap.IsListIter i1 l1 k)(b1:s.heap.IsList l1 xs)(hx:xs[k]?=none)(hQ:∀g,(∀c o,Off z TO i1 i2 i3 c→s.heap.get? c=some o→g.get? c=some o)→Q none {s with heap:=g}):wpAny (model prog w) A (pyNext (.ref z)) Q E s:=by
 have hT:s.TypeIs (.ref z) "zip":=⟨_,hz,rfl⟩;unfold pyNext;refine wpAny_bind (wpAny_attempt (wpAny_callSpecial?_slot (name:=Str.ofString "__next__") hT F.slot_zip_next (wpAny_call_entry F.slot_zip_next hT F.entry_zip_next (next3_end (p:=.none) (q:=.none) (r:=.none) hh D f1 hz ti a1 b1 hx fun g e hk he=>?_) (F.args_zip_next_1 _))));obtain⟨o,ho,hc⟩:=he;exact wpAny_bind (wpAny_isInstance (T := "StopIteration") (b:=true) ⟨o,ho,hc⟩ isSubtype_stop (wpAny_pure (hQ _ hk)))
end
abbrev li0(l:Addr):Obj:={cls:=.type "list_iterator",data:=.fields #[.ref l,.int 0 0]}
abbrev z3h(h:Heap)(l1 l2 l3:Addr):Heap:=((h.push (li0 l1)).push (li0 l2)).push (li0 l3)
abbrev z3t(h:Heap)(l1 l2 l3:Addr):Heap:=(z3h h l1 l2 l3).push {cls:=.type "tuple",data:=.seq #[.ref h.objs.size,.ref (h.push (li0 l1)).objs.size,.ref ((h.push (li0 l1)).push (li0 l2)).objs.size]}
abbrev z3o(h:Heap)(l1 l2 l3:Addr):Heap:=(z3t h l1 l2 l3).push {cls:=.type "tuple",data:=.seq #[.none,.none,.none]}
abbrev z3z(h:Heap)(l1 l2 l3:Addr):Heap:=(z3o h l1 l2 l3).push {cls:=.type "zip",data:=.fields #[.none,.bool false,.bool false,.ref (z3h h l1 l2 l3).objs.size,.ref (z3t h l1 l2 l3).objs.size]}
theorem meets_zip3(l1 l2 l3:Addr)(xs ys zs:Array Value) :
  Meets (Builtin.«zip.__new__» ⟨[.type "zip",.ref l1,.ref l2,.ref l3],[]⟩) (fun _ R s=>s.heap.IsList l1 xs∧s.heap.IsList l2 ys∧s.heap.IsList l3 zs ∧
   R (.ok (.ret (.ref (z3o s.heap l1 l2 l3).objs.size))) {s with heap:=z3z s.heap l1 l2 l3}) :=
 .of_wp fun prog w A R s h=>by
  obtain⟨hp,g,d,tk,os⟩:=s;obtain⟨b1,b2,b3,h⟩:=h;have hsub:=sub_zip;have c1:Heap.IsList (Shared.heap ⟨hp,g,d,tk,os⟩) l1 xs:=b1;have c2:Heap.IsList (Shared.heap ⟨hp.push (li0 l1),g,d,tk,os⟩) l2 ys:=Heap.IsList.push b2 _;have c3:Heap.IsList (Shared.heap ⟨(hp.push (li0 l1)).push (li0 l2),g,d,tk,os⟩) l3 zs:=Heap.IsList.push (Heap.IsList.push b3 _) _
  wp_walk using wpAny_pyIter_list c1,wpAny_pyIter_list c2,wpAny_pyIter_list c3
  exact⟨_,rfl,h⟩
theorem typeCall_zip3(a b c:Value):checkTypeCall "zip" ⟨[a,b,c],[]⟩=pure ():=by kernel_rfl
theorem newCall_zip3(a b c:Value):checkBuiltinCall "zip.__new__" ⟨[.type "zip",a,b,c],[]⟩=pure ():=by kernel_rfl
theorem args_init4(a b c d:Value):argsOk "object.__init__" ⟨[a,b,c,d],[]⟩:=by
 unfold argsOk;rw[signature?_of (id := "object.__init__") (n:=['_','_','t','i','n','i','_','_']) (o:=['t','c','e','j','b','o']) (by kernel_rfl) F.owner_object]
 kernel_rfl
theorem call_zip3{prog:Program}{w:World}{A:Around}{E:Value→Shared→Prop}{s:Shared}{l1 l2 l3:Addr}{xs ys zs:Array Value}{Q:Value→Shared→Prop}(b1:s.heap.IsList l1 xs)(b2:s.heap.IsList l2 ys)(b3:s.heap.IsList l3 zs)(h:∀g,IsZip g (s.heap.objs.size+5) (s.heap.objs.size+3) (s.heap.objs.size+4) .none→qbz g (s.heap.objs.size+3) (.ref s.heap.objs.size) (.ref (s.heap.objs.size+1)) (.ref (s.heap.objs.size+2)) →
   qbz g (s.heap.objs.size+4) .none .none .none→g.IsListIter s.heap.objs.size l1 0→g.IsListIter (s.heap.objs.size+1) l2 0→g.IsListIter (s.heap.objs.size+2) l3 0 →
   (∀c o,s.heap.get? c=some o→g.get? c=some o)→Q (.ref (s.heap.objs.size+5)) {s with heap:=g}) :
  wpAny (model prog w) A (call (.type "zip") [.ref l1,.ref l2,.ref l3]) Q E s:=by
 refine callType_new F.called_zip (by decide) (typeCall_zip3 _ _ _) (newCall_zip3 _ _ _) (fun obj=>args_init4 obj _ _ _) F.entry_zip_new (meets_zip3 l1 l2 l3 xs ys zs) ⟨b1,b2,b3,?_⟩;have y1:(s.heap.push (li0 l1)).objs.size=s.heap.objs.size+1:=Heap.size_push ..;have y2:((s.heap.push (li0 l1)).push (li0 l2)).objs.size=s.heap.objs.size+2:=by rw[Heap.size_push,y1]
 have y3:(z3h s.heap l1 l2 l3).objs.size=s.heap.objs.size+3:=by rw[Heap.size_push,y2]
 have y4:(z3t s.heap l1 l2 l3).objs.size=s.heap.objs.size+4:=by rw[Heap.size_push,y3]
 have y5:(z3o s.heap l1 l2 l3).objs.size=s.heap.objs.size+5:=by rw[Heap.size_push,y4]
 have u:∀{g:Heap} {o o':Obj} {c:Addr},g.get? c=some o→(g.push o').get? c=some o:=fun e=>Heap.get?_push_of_some _ e
 have g6:(z3z s.heap l1 l2 l3).get? (z3o s.heap l1 l2 l3).objs.size=some _:=Heap.get?_push_size _ rfl;have g5:(z3z s.heap l1 l2 l3).get? (z3t s.heap l1 l2 l3).objs.size=some _:=u (Heap.get?_push_size _ rfl);have g4:(z3z s.heap l1 l2 l3).get? (z3h s.heap l1 l2 l3).objs.size=some _:=u (u (Heap.get?_push_size _ rfl));have g3:(z3z s.heap l1 l2 l3).get? ((s.heap.push (li0 l1)).push (li0 l2)).objs.size=some _:=u (u (u (Heap.get?_push_size _ rfl)));have g2:(z3z s.heap l1 l2 l3).get? (s.heap.push (li0 l1)).objs.size=some _:=u (u (u (u (Heap.get?_push_size _ rfl))));have g1:(z3z s.heap l1 l2 l3).get? s.heap.objs.size=some _:=u (u (u (u (u (Heap.get?_push_size _ rfl)))));show _∧_;rw[y3,y4,y5]at g6;rw[y4]at g5;rw[y1,y2,y3]at g4;rw[y2]at g3;rw[y1]at g2;rw[y5];exact⟨⟨_,g6,rfl⟩,h _ g6 g4 g5 ⟨_,g1,rfl,rfl⟩ ⟨_,g2,rfl,rfl⟩ ⟨_,g3,rfl,rfl⟩ fun c o x=>u (u (u (u (u (u x)))))⟩
end L2
namespace L2
open PySem PySem.Spec PyProof.Rows
def Itz3(K:PySem.W.Frag)(a b c:Addr):It :=
 ⟨fun i H=>∃xs ys zs x y z,SqL K H a xs∧SqL K H b ys∧SqL K H c zs∧xs[i]?=some x∧ys[i]?=some y∧zs[i]?=some z,
  fun i H v H'=>∃T x y z,H T=none∧v=.ref T∧H'=upd H T (.tup [x,y,z])∧∀xs ys zs,SqL K H a xs→SqL K H b ys→SqL K H c zs→xs[i]?=some x∧ys[i]?=some y∧zs[i]?=some z,
  fun i H=>∃xs,SqL K H a xs∧xs.length≤i⟩
structure Zip3St(h:Heap)(z TI TO i1 i2 i3 l1 l2 l3:Addr)(i:Nat):Prop where
 hz:IsZip h z TI TO .none
 ti:qbz h TI (.ref i1) (.ref i2) (.ref i3)
 to:∃p q r,qbz h TO p q r
 it1:h.IsListIter i1 l1 i
 it2:h.IsListIter i2 l2 i
 it3:h.IsListIter i3 l3 i
theorem qez{h:Heap}{z TI TO i1 i2 i3 l l1 l2 l3:Addr}{i:Nat}{xs:Array Value}(st:Zip3St h z TI TO i1 i2 i3 l1 l2 l3 i)(hl:h.IsList l xs):Off z TO i1 i2 i3 l:=by
 obtain⟨p,q,r,to⟩:=st.to;obtain⟨o4,e4,c4,_⟩:=st.it1;obtain⟨o5,e5,c5,_⟩:=st.it2;obtain⟨o6,e6,c6,_⟩:=st.it3;have nz:Value.type "zip" ≠ Value.type "list":=by decide
 have nt:Value.type "tuple" ≠ Value.type "list":=by decide
 exact⟨qaQ hl st.hz nz,qaQ hl to nt,qaQ hl e4 (by rw[c4];decide),qaQ hl e5 (by rw[c5];decide),qaQ hl e6 (by rw[c6];decide)⟩
theorem turn_zip3{P:Program}{w:World}{K:PySem.W.Frag}{elts:List Expr}{k1:Nat}{tp:Pos}(l1 l2 l3 z TI TO i1 i2 i3:Addr)(D:Z3 z TI TO i1 i2 i3) :
  Turn P w K (.Tuple elts k1 tp) (Itz3 K l1 l2 l3) [z,TI,TO,i1,i2,i3] z (fun i h=>Zip3St h z TI TO i1 i2 i3 l1 l2 l3 i) where
 mem:=by simp
 obj:=fun i h st b hb=>by
  have c1:=st.hz;have c2:=st.ti;obtain⟨p,q,r,c3⟩:=st.to;obtain⟨o4,e4,_,g4⟩:=st.it1;obtain⟨o5,e5,_,g5⟩:=st.it2;obtain⟨o6,e6,_,g6⟩:=st.it3;simp only[List.mem_cons,List.not_mem_nil,or_false]at hb;rcases hb with rfl | rfl | rfl | rfl | rfl | rfl
  ·exact⟨_,c1,fun v z=>by cases z⟩
  ·exact⟨_,c2,fun v z=>by cases z⟩
  ·exact⟨_,c3,fun v z=>by cases z⟩
  ·exact⟨_,e4,fun v z=>by rw[g4]at z;cases z⟩
  ·exact⟨_,e5,fun v z=>by rw[g5]at z;cases z⟩
  ·exact⟨_,e6,fun v z=>by rw[g6]at z;cases z⟩
 keep:=fun i h h' st k=>by
  obtain⟨p,q,r,c3⟩:=st.to;exact⟨k z (by simp) _ st.hz,k TI (by simp) _ st.ti,⟨p,q,r,k TO (by simp) _ c3⟩,st.it1.at fun o e=>k i1 (by simp) o e,st.it2.at fun o e=>k i2 (by simp) o e,st.it3.at fun o e=>k i3 (by simp) o e⟩
 item:=by
  intro X hP hw hK hc i pins s σ H E I hf st hg;subst hP hw hK;obtain⟨xs,ys,zs,x,y,v,q1,q2,q3,hx,hy,hv⟩:=hg;obtain⟨its1,rv1,p1,_⟩:=I.list q1;obtain⟨its2,rv2,p2,_⟩:=I.list q2;obtain⟨its3,rv3,p3,_⟩:=I.list q3;obtain⟨u1,hu1,ru1⟩:=rv1.get hx;obtain⟨u2,hu2,ru2⟩:=rv2.get hy;obtain⟨u3,hu3,ru3⟩:=rv3.get hv;obtain⟨p,q,r,to⟩:=st.to;obtain⟨o4,e4,_⟩:=id st.it1;obtain⟨o5,e5,_⟩:=id st.it2;obtain⟨o6,e6,_⟩:=id st.it3;obtain⟨⟨d1,d2,d3,d4,d5⟩,⟨d6,d7,d8,d9⟩,_⟩:=D.all;refine pyNext3_item D (qez st p1.isList) (qez st p2.isList) (qez st p3.isList) st.hz st.ti to st.it1 st.it2 st.it3 p1.isList p2.isList p3.isList (x:=u1) (y:=u2) (v:=u3) (by simpa using hu1) (by simpa using hu2) (by simpa using hu3) fun h' hz' to' it1' it2' it3' hT hsz hk=>?_
  refine⟨_,rfl,wpAny_letOwnedTupleGo_zip hz' fun h2 hz2 sb=>?_⟩;have lts:∀b∈[z,TI,TO,i1,i2,i3],b<s.heap.objs.size:=fun b hb=>by
   simp only[List.mem_cons,List.not_mem_nil,or_false]at hb;rcases hb with rfl | rfl | rfl | rfl | rfl | rfl
   ·exact Heap.lt_size st.hz
   ·exact Heap.lt_size st.ti
   ·exact Heap.lt_size to
   ·exact Heap.lt_size e4
   ·exact Heap.lt_size e5
   ·exact Heap.lt_size e6
  have zlt:=lts z (by simp);have k2:∀b o,b∉[z,TI,TO,i1,i2,i3]→s.heap.get? b=some o→h2.get? b=some o:=fun b o hb e=>by
   simp only[List.mem_cons,List.not_mem_nil,or_false,not_or]at hb;obtain⟨n1,n2,n3,n4,n5,n6⟩:=hb;exact(sb.2 b n1).trans (hk b o ⟨n1,n3,n4,n5,n6⟩ e)
  have gT:h2.get? s.heap.objs.size=some {cls:=.type "tuple",data:=.seq #[u1,u2,u3]}:=(sb.2 _ (Nat.ne_of_gt zlt)).trans hT;have I1:Inv X pins σ H {s with heap:=h2,toks:=s.toks}:=I.moved hf k2;have hn:H s.heap.objs.size=none:=I.hok.fresh (Nat.le_refl _);refine⟨.ref s.heap.objs.size,upd H s.heap.objs.size (.tup [x,y,v]),I1.track ?_ hn (Nat.ne_of_gt I.lt) (fun y c ec z=>?_) (fun q hq z=>?_) ?_,rfl,⟨s.heap.objs.size,x,y,v,hn,rfl,rfl,fun xs' ys' zs' h1 h2 h3=>by rw[I.list_inj h1 q1,I.list_inj h2 q2,I.list_inj h3 q3];exact⟨hx,hy,hv⟩⟩,?_,fun b hb=>?_⟩
  ·cases z:X.s₀.heap.get? s.heap.objs.size with
   | none=>rfl
   | some u=>exact absurd (Nat.lt_of_lt_of_le (Heap.lt_size z) I.sz) (Nat.lt_irrefl _)
  ·obtain⟨v,q⟩:=I.cell y c ec;exact absurd q.lt (by rw[z];exact Nat.lt_irrefl _)
  ·exact absurd (Heap.lt_size (I.pin q hq).1) (by rw[z];exact Nat.lt_irrefl _)
  ·exact⟨by show 3≤sizeLine;decide,[u1,u2,u3],.cons ru1 (.cons ru2 (.cons ru3 .nil)),_,gT,rfl,_,rfl⟩
  ·have hti:h'.get? TI=some _:=hk TI _ ⟨d1,d6,d7,d8,d9⟩ st.ti;exact⟨hz2,(sb.2 _ d1).trans hti,⟨_,_,_,(sb.2 _ d2).trans to'⟩,it1'.at fun o e=>(sb.2 _ d3).trans e,it2'.at fun o e=>(sb.2 _ d4).trans e,it3'.at fun o e=>(sb.2 _ d5).trans e⟩
  ·rw[qap (Nat.ne_of_lt (lts b hb))];exact(hf b hb).1
 done:=by
  intro X hP hw hK hc i pins s σ H E I hf st hg;subst hP hw hK;obtain⟨xs,q1,hx⟩:=hg;obtain⟨its1,rv1,p1,_⟩:=I.list q1;have hl1:=rv1.length;refine pyNext3_end (I.ok.hd hc) D (qez st p1.isList) st.hz st.ti st.it1 p1.isList (by simp;omega) fun h' eb=>⟨rfl,I.moved (t':=s.toks) hf fun b o hb e=>?_⟩
  simp only[List.mem_cons,List.not_mem_nil,or_false,not_or]at hb;obtain⟨n1,n2,n3,n4,n5,n6⟩:=hb;exact eb b o ⟨n1,n3,n4,n5,n6⟩ e
 self:=fun _ _ _ _ _ st h=>wpAny_pyIter_zip st.hz h
def iZip3(K:PySem.W.Frag)(ta:TA):TI:=fun σ H R=>ta σ H fun vs H1=>∃a b c,vs=[.ref a,.ref b,.ref c]∧(∃xs,SqL K H1 a xs)∧(∃ys,SqL K H1 b ys)∧(∃zs,SqL K H1 c zs)∧R (Itz3 K a b c) H1
section
variable{X:Cx}
theorem qeT{a b c:Expr}{ta:TA}{p pos tp:Pos}{elts:List Expr}{k1:Nat}(hg:Gl X "zip")(hm:X.mg "zip" = none)(ha:PA X [a,b,c] ta)(hs:starEach [a,b,c] X.env=[(false,eval a X.env),(false,eval b X.env),(false,eval c X.env)]:=by rfl)(hs1:starEach [b,c] X.env=[(false,eval b X.env),(false,eval c X.env)]:=by rfl) :
  PI X (.Tuple elts k1 tp) (.Call (.Name "zip" p) [a,b,c] [] pos) (iZip3 X.K ta):=by
 intro pins s σ H R I h;refine Call_ (qcF I hg hm b_zip (PyProof.Rows.callWith_type1 (thn (ha pos pins s σ H _ I h) fun us s1 ⟨vs,H1,I1,r1,q1⟩=>?_) (by rw[hs,hs1]) (by rw[hs1];rfl)));obtain⟨l1,l2,l3,e,⟨xs,w1⟩,⟨ys,w2⟩,⟨zs,w3⟩,q⟩:=q1;subst e;cases r1 with
 | cons r rr =>
   cases rr with
   | cons r' rr' =>
     cases rr' with
     | cons r'' rr'' =>
       cases rr''
       cases r
       cases r'
       cases r''
       obtain⟨its1,rv1,p1,_⟩:=I1.list w1
       obtain⟨its2,rv2,p2,_⟩:=I1.list w2
       obtain⟨its3,rv3,p3,_⟩:=I1.list w3
       refine call_zip3 p1.isList p2.isList p3.isList fun h' hz hTI hTO it1 it2 it3 hk=>?_
       have I2:Inv X pins σ H1 {s1 with heap:=h'}:=I1.kept (t':=s1.toks) hk
       generalize hn:s1.heap.objs.size=n at hz hTI hTO it1 it2 it3
       have D:Z3 (n+5) (n+3) (n+4) n (n+1) (n+2):=⟨by simp[Nat.succ_ne_self]⟩
       refine wpAny_pyIter_zip hz ⟨n+5,[n+5,n+3,n+4,n,n+1,n+2],_,_,H1,rfl,I2,turn_zip3 l1 l2 l3 (n+5) (n+3) (n+4) n (n+1) (n+2) D,⟨hz,hTI,⟨_,_,_,hTO⟩,it1,it2,it3⟩,fun b hb=>?_,q⟩
       have hb':s1.heap.objs.size≤b:=by
         rw[hn]
         simp only[List.mem_cons,List.not_mem_nil,or_false]at hb
         rcases hb with rfl | rfl | rfl | rfl | rfl | rfl
         · exact Nat.le_add_right _ _
         · exact Nat.le_add_right _ _
         · exact Nat.le_add_right _ _
         · exact Nat.le_refl _
         · exact Nat.le_add_right _ _
         · exact Nat.le_add_right _ _
       exact I1.fpOk hb' (I1.hok.fresh hb')
end
theorem for_zip3{K:PySem.W.Frag}{a b c:Addr}{xs ys zs:List V}{g:TG}{tb:TS}{D:Ends}{σ:St}{H:Hp}(l1:ys.length=xs.length)(l2:zs.length=xs.length)(Pv:Nat→St→Hp→Prop)(h0:Pv 0 σ H)(hl:∀i σ H,i≤xs.length→Pv i σ H→SqL K H a xs∧SqL K H b ys∧SqL K H c zs)(hs:∀i x y z σ H T,xs[i]?=some x→ys[i]?=some y→zs[i]?=some z→H T=none→Pv i σ H→g (.ref T) σ (upd H T (.tup [x,y,z])) fun σ2 H2=>tb {D with nx:=Pv (i+1),ct:=Pv (i+1),bk:=D.nx} σ2 H2)(hd:∀σ H,Pv xs.length σ H→D.nx σ H) :
  ∃W:Nat→Nat→St→Hp→Prop,(∃m,W 0 m σ H)∧∀i m σ H,W i m σ H →
   ((Itz3 K a b c).stop i H∧D.nx σ H)∨((Itz3 K a b c).go i H∧∃N:St→Hp→Prop,(∀σ' H',N σ' H'→∃m',m'<m∧W (i+1) m' σ' H')∧∀x H',(Itz3 K a b c).yld i H x H'→g x σ H' fun σ2 H2=>tb {D with nx:=N,ct:=N,bk:=D.nx} σ2 H2):=by
 refine⟨fun i m σ H=>m=xs.length-i∧i≤xs.length∧Pv i σ H,⟨xs.length,by simp,Nat.zero_le _,h0⟩,?_⟩;rintro i m σ H ⟨rfl,hi,p⟩;obtain⟨q1,q2,q3⟩:=hl i σ H hi p
 by_cases hlt:i<xs.length
 ·refine .inr ⟨⟨xs,ys,zs,xs[i],ys[i],zs[i],q1,q2,q3,by simp[hlt],by simp[l1,hlt],by simp[l2,hlt]⟩,Pv (i+1),fun σ' H' p'=>⟨xs.length-(i+1),by omega,rfl,hlt,p'⟩,fun x H' y=>?_⟩;obtain⟨T,z1,z2,z3,hT,e1,e2,y⟩:=y;subst e1 e2;obtain⟨y1,y2,y3⟩:=y xs ys zs q1 q2 q3;exact hs i z1 z2 z3 σ _ T y1 y2 y3 hT p
 ·have e:i=xs.length:=by omega
  subst e;exact .inl ⟨⟨xs,q1,Nat.le_refl _⟩,hd σ H p⟩
theorem comp_zip3{K:PySem.W.Frag}{a b c:Addr}{xs ys ws:List V}{own:Nat}{ix:List Nat}{g:TG}{tt:TT}{te:TE}{σ:St}{H:Hp}{Q:VK}(l1:ys.length=xs.length)(l2:ws.length=xs.length)(Pv:Nat→List V→St→Hp→Prop)(hz:xs.length<sizeLine)(h0:Pv 0 [] (qbN own ix σ) H)(hl:∀i zs σ' H',i≤xs.length→Pv i zs σ' H'→SqL K H' a xs∧SqL K H' b ys∧SqL K H' c ws∧zs.length≤i)(hs:∀i x y z zs σ' H' T,xs[i]?=some x→ys[i]?=some y→ws[i]?=some z→H' T=none→Pv i zs σ' H'→g (.ref T) σ' (upd H' T (.tup [x,y,z])) fun σ2 H3=>tt σ2 H3 fun b H4=>if b=true then te σ2 H4 fun v H5=>Pv (i+1) (zs++[v]) σ2 H5 else Pv (i+1) zs σ2 H4)(hd:∀zs σ' H',Pv xs.length zs σ' H'→∀D,H' D=none→Q (.ref D) (upd H' D (.lst zs))):qb5 own ix g tt te (Itz3 K a b c) σ H Q:=by
 refine⟨fun i m zs σ H=>m=xs.length-i∧i≤xs.length∧Pv i zs σ H,⟨xs.length,by simp,Nat.zero_le _,h0⟩,?_⟩;rintro i m zs σ H ⟨rfl,hi,p⟩;obtain⟨q1,q2,q3,hy⟩:=hl i zs σ H hi p;refine⟨by omega,?_⟩
 by_cases hlt:i<xs.length
 ·refine .inr ⟨⟨xs,ys,ws,xs[i],ys[i],ws[i],q1,q2,q3,by simp[hlt],by simp[l1,hlt],by simp[l2,hlt]⟩,Pv (i+1),fun ws σ' H' p'=>⟨xs.length-(i+1),by omega,rfl,hlt,p'⟩,fun x H' y=>?_⟩;obtain⟨T,x1,y1,v1,hT,e1,e2,y⟩:=y;subst e1 e2;obtain⟨z1,z2,z3⟩:=y xs ys ws q1 q2 q3;exact hs i x1 y1 v1 zs σ _ T z1 z2 z3 hT p
 ·have e:i=xs.length:=by omega
  subst e;exact .inl ⟨⟨xs,q1,Nat.le_refl _⟩,hd zs σ H p⟩
end L2
namespace L2
open PySem PySem.Spec PyProof.Rows
def rGetL(K:PySem.W.Frag):V→V→Hp→VK→Prop:=fun x y H Q=>∃p xs,∃i:Nat,∃v,x=.ref p∧y=.int i∧SqL K H p xs∧xs[i]?=some v∧Q v H
section
variable{X:Cx}
theorem pget_list:PGet X (rGetL X.K):=by
 intro pins s σ H x y v u Q I rx ry h;obtain⟨p,xs,i,z,rfl,rfl,hq,he,q⟩:=h;cases rx;obtain⟨t,rfl⟩:=ry;obtain⟨its,r,pl,hz⟩:=I.list hq;obtain⟨w,ew,rw'⟩:=r.get he;have hl:=r.length;have hn:=line63;have lt:=(List.getElem?_eq_some_iff.mp he).1;refine wpAny_getItem_list pl.isList (by omega) (by omega) ?_ ⟨z,H,I,rw',q⟩;simpa using ew
end
end L2
namespace Shr
open PySem L2 Bk Gen Gd
structure BnS(mg:Str→Option Value):Prop where
 isinstance:mg "isinstance" = none
 len:mg "len" = none
 range:mg "range" = none
 int:mg "int" = none
 bool:mg "bool" = none
 list:mg "list" = none
 min:mg "min" = none
 max:mg "max" = none
 sum:mg "sum" = none
 zip:mg "zip" = none
 enumerate:mg "enumerate" = none
 sorted:mg "sorted" = none
 all:mg "all" = none
abbrev LI(H:Hp)(a:Addr)(ns:List Int):Prop:=H a=some (.lst (ns.map V.int))
structure Ok(F R W:List Int):Prop where
 n:F.length≤100
 lr:R.length=F.length
 lw:W.length=F.length
 f:∀k,k<F.length→0≤F.getD k 0
 fr:∀k,k<F.length→F.getD k 0≤R.getD k 0
 r:∀k,k<F.length→R.getD k 0≤10000
 w:∀k,1≤W.getD k 1∧W.getD k 1≤9
theorem Ok.pos{F R W:List Int}(h:Ok F R W):∀k,0<W.getD k 1:=fun k=>by have:=(h.w k).1;omega
structure Sorted(F R W:List Int)(room:Nat)(out:List (Int×Int)):Prop where
 perm:out.Perm (dots 0 (places F R W room))
 le:out.Pairwise Le2
def Due(F R W:List Int)(width:Int)(x:List Int):Prop:=∀(room:Nat) (out:List (Int×Int)),(room:Int)=max 0 (width-F.sum)→Sorted F R W room out→qb8 F out room=x
def IsDue(F R W:List Int)(width:Int)(x:List Int):Prop:=∃(room:Nat) (out:List (Int×Int)),(room:Int)=max 0 (width-F.sum)∧Sorted F R W room out∧x=qb8 F out room
theorem Due.is{F R W:List Int}{width:Int}{x y:List Int}(h:Due F R W width x)(i:IsDue F R W width y):y=x:=by
 obtain⟨room,out,e,s,rfl⟩:=i;exact h room out e s
def spHad:Sp:=fun vs H Q _=>∃(lev M:Int) (f r w:Addr) (F R W:List Int),vs=[.int lev,.ref f,.ref r,.ref w,.int M]∧LI H f F∧LI H r R∧LI H w W∧Ok F R W∧0<M∧M≤2520 ∧
 ∀(t:Addr) (H':Hp),H t=none→Same H H'→LI H' t (hads lev M F R W)→Q (.ref t) H'
def spMult:Sp:=fun vs H Q _=>∃(w:Addr) (W:List Int),vs=[.ref w]∧LI H w W∧W.length≤100∧(∀k,1≤W.getD k 1∧W.getD k 1≤9) ∧
 ∀M:Int,0<M→M≤2520→(∀k,k<W.length→W.getD k 1∣M)→Q (.int M) H
def spLast:Sp:=fun vs H Q _=>∃(wd M:Int) (f r w:Addr) (F R W:List Int),vs=[.int wd,.ref f,.ref r,.ref w,.int M]∧LI H f F∧LI H r R∧LI H w W∧Ok F R W∧0<M∧M≤2520∧F.sum≤wd∧wd<R.sum ∧
 ∀(lev:Int) (H':Hp),Same H H'→(hads lev M F R W).sum≤wd→wd<(hads (lev+1) M F R W).sum→Q (.int lev) H'
def spShares:Sp:=fun vs H Q _=>∃(wd:Int) (f r w:Addr) (F R W:List Int),vs=[.int wd,.ref f,.ref r,.ref w]∧LI H f F∧LI H r R∧LI H w W∧Ok F R W ∧
 ∀(t:Addr) (H':Hp) (x:List Int),H t=none→Same H H'→LI H' t x→Due F R W wd x→Q (.ref t) H'
def spDots:Sp:=fun vs H Q _=>∃(wd:Int) (f r w:Addr) (F R W:List Int),vs=[.int wd,.ref f,.ref r,.ref w]∧LI H f F∧LI H r R∧LI H w W∧Ok F R W ∧
 ∀(t:Addr) (H':Hp) (x:List Int),H t=none→Same H H'→LI H' t x→IsDue F R W wd x→Q (.ref t) H'
theorem qba{ns:List Int}{k:Nat}(h:k<ns.length)(d:Int):atI (ns.map V.int) (k:Int)=some (.int (ns.getD k d)):=qa6 (by rw[List.getElem?_map,List.getElem?_eq_getElem h,List.getD_eq_getElem?_getD,List.getElem?_eq_getElem h];rfl)
theorem qaX{ns:List Int}{k:Nat}{n:Int}(h:ns[k]?=some n)(d:Int):ns.getD k d=n:=by rw[List.getD_eq_getElem?_getD,h];rfl
theorem hads_len{lev M:Int}{F R W:List Int}:(hads lev M F R W).length=F.length:=by unfold hads;rw[List.length_map,List.length_range]
theorem hads_at{lev M:Int}{F R W:List Int}{k:Nat}(h:k<F.length):(hads lev M F R W)[k]?=some (qbx lev M F R W k):=by
 unfold hads;rw[List.getElem?_map,List.getElem?_range h];rfl
theorem qeK(u v:Int):(if v<u then v else u)=min u v:=by
 by_cases z:v<u
 ·rw[if_pos z];omega
 ·rw[if_neg z];omega
theorem qdT(u v:Int):(if v>u then v else u)=max u v:=by
 by_cases z:u<v
 ·rw[if_pos z];omega
 ·rw[if_neg z];omega
theorem after_len{lev M:Int}{left k:Nat}{F R W:List Int}:(after lev M left F R W k).length=F.length:=by unfold after;rw[List.length_map,List.length_range]
theorem qbW{n k:Nat}(h:k<n):ixN n (k:Int)=some k:=by
 unfold ixN;rw[if_pos (by omega),if_pos (by omega)];rfl
theorem pick_at{ns:List Int}{i:Int}(h0:0≤i)(h1:i<(ns.length:Int)):∃v,v∈ns∧atI (ns.map V.int) i=some (.int v):=by
 obtain⟨k,rfl⟩:∃k:Nat,i=(k:Int):=⟨i.toNat,by omega⟩;have hk:k<ns.length:=by omega
 refine⟨ns[k],List.getElem_mem _,?_⟩;rw[qba hk 0,qaX (List.getElem?_eq_getElem hk)]
theorem k1_put{st L:Addr}{H H':Hp}{o:HO}(k:Keep1 st H H')(h:H L=none):Keep1 st H (upd H' L o):=fun b u n e=>by
 rw[qap (qar e h)];exact k b u n e
theorem st_put{st L:Addr}{H:Hp}{o:HO}(S:StOk H st)(n:L≠st):StOk (upd H L o) st:=by
 obtain⟨x,y,e,y0,y1⟩:=S;exact⟨x,y,by rw[qap (Ne.symm n)];exact e,y0,y1⟩
theorem qfN{L a:Addr}{H:Hp}{o:HO}{ns:List Int}(h:LI H a ns)(n:a≠L):LI (upd H L o) a ns:=by
 show upd H L o a=_;rw[qap n];exact h
theorem Ok.sum0{F R W:List Int}(h:Ok F R W):0≤F.sum:=by
 have:=(sum_le (x:=List.replicate F.length 0) (y:=F) (by rw[List.length_replicate]) fun k hk=>by
  rw[List.length_replicate]at hk;rw[qaX (List.getElem?_replicate_of_lt hk)];exact h.f k hk).1
 have e:∀n:Nat,(List.replicate n (0:Int)).sum=0:=fun n=>by
  induction n with
  | zero=>rfl
  | succ n ih=>rw[List.replicate_succ,List.sum_cons,ih];rfl
 rw[e]at this;exact this
theorem dots_snoc:∀(ps:List (Int×Int×Nat)) (b:Nat) (p:Int×Int×Nat),dots b (ps++[p])=dots b ps++row (b+ps.length) p
 | [], b, p => by
   show row b p++[]=[]++row b p
   rw[List.append_nil,List.nil_append]
 | q :: ps, b, p => by
   show row b q++dots (b+1) (ps++[p])=(row b q++dots (b+1) ps)++row (b+(ps.length+1)) p
   rw[dots_snoc ps (b+1) p,List.append_assoc,show b+1+ps.length=b+(ps.length+1) by omega]
theorem qct{F R W:List Int}{room:Nat}:(places F R W room).length=F.length:=by unfold places;rw[List.length_map,List.length_range]
theorem dots_take{F R W:List Int}{room i:Nat}(h:i<F.length):dots 0 ((places F R W room).take (i+1))=dots 0 ((places F R W room).take i)++row i (2520 / W.getD i 1,F.getD i 0,(min (R.getD i 0) (F.getD i 0+(room:Int))-F.getD i 0).toNat):=by
 rw[List.take_succ,qcl h];have:=dots_snoc ((places F R W room).take i) 0 (2520 / W.getD i 1,F.getD i 0,(min (R.getD i 0) (F.getD i 0+(room:Int))-F.getD i 0).toNat);rw[List.length_take,qct,Nat.min_eq_left (Nat.le_of_lt h),Nat.zero_add]at this;exact this
theorem fold_len:∀(l:List (Int×Int)) (x:List Int),(l.foldl bump x).length=x.length
 | [],x=>rfl
 | e :: l, x => by
   rw[List.foldl_cons,fold_len l]
   unfold bump
   rw[List.length_set]
theorem cut_take{as:List Addr}{n:Nat}:cutV (as.map V.ref) none (some (n:Int))=(as.take n).map V.ref:=by
 unfold cutV;rw[HT.sIx_none,HT.sIx_nat,List.length_map,List.drop_zero,Nat.sub_zero,←List.map_take]
 by_cases h:n≤as.length
 ·rw[Nat.min_eq_left h]
 ·rw[Nat.min_eq_right (by omega),List.take_length,List.take_of_length_le (by omega)]
theorem qc9{H H':Hp}(t:Tups H H'){as:List Addr}{xs:List (Int×Int)}(h:Paired (iAt H) as xs):Paired (iAt H') as xs:=h.mono fun _ _ z=>t _ _ z
theorem IsDue.len{F R W:List Int}{width:Int}{x:List Int}(h:IsDue F R W width x):x.length=F.length:=by
 obtain⟨room,out,_,_,rfl⟩:=h;unfold qb8;rw[List.length_map,List.length_range]
theorem lcm_step{M c:Int}{t:Nat}(hM:0<M)(d1:M∣2520)(d2:c∣2520)(ne:∀s:Nat,s<t→M*((s:Int)+1) % c≠0)(e:M*((t:Int)+1) % c=0):M*((t:Int)+1)∣2520:=by
 obtain⟨q,hq⟩:=d1;have q0:0<q:=Int.pos_of_mul_pos_right (by omega) hM;obtain⟨n,rfl⟩:∃n:Nat,q=(n:Int):=⟨q.toNat,by omega⟩;have dv:=Nat.div_add_mod n (t+1);have lt:=Nat.mod_lt n (show 0<t+1 by omega);generalize hr:n % (t+1)=r at dv lt;generalize n / (t+1)=a at dv;have en:(n:Int)=((t:Int)+1)*a+r:=by rw[←dv];push_cast;rfl
 cases r with
 | zero =>
   refine⟨(a:Int),?_⟩
   rw[hq,en,Int.mul_assoc]
   simp
 | succ r =>
   exfalso
   refine ne r (by omega) ?_
   have e1:c∣M*((t:Int)+1):=Int.dvd_of_emod_eq_zero e
   have e2:c∣M*(n:Int):=hq ▸ d2
   have e3:M*(n:Int)=M*((t:Int)+1)*a+M*((r:Int)+1):=by
     rw[en,Int.mul_add,Int.mul_assoc]
     push_cast
     rfl
   rw[e3]at e2
   exact Int.emod_eq_zero_of_dvd ((Int.dvd_add_right (Int.dvd_trans e1 ⟨_,rfl⟩)).mp e2)
theorem nine_dvd{c:Int}(h1:1≤c)(h2:c≤9):c∣2520:=by
 have:=(qdS ⟨h1,h2⟩).2;exact⟨2520 / c,by rw[Int.mul_comm];exact this.symm⟩
theorem top_of:∀{l:List Int},l≠[]→∃t,t∈l∧∀x∈l,x≤t
 | [a],_=>⟨a,List.mem_singleton.mpr rfl,fun x hx=>Int.le_of_eq (List.mem_singleton.mp hx)⟩
 | a :: b :: l, _ => by
   obtain⟨t,h1,h2⟩:=top_of (l:=b::l) (by simp)
   by_cases c:a≤t
   · refine⟨t,List.mem_cons_of_mem _ h1,fun x hx=>?_⟩
     rcases List.mem_cons.mp hx with rfl | h
     · exact c
     · exact h2 x h
   · refine⟨a,List.mem_cons_self,fun x hx=>?_⟩
     rcases List.mem_cons.mp hx with rfl | h
     · exact Int.le_refl _
     · have:=h2 x h
       omega
theorem level_due{F R W:List Int}{wd lev M:Int}{left:Nat}(ok:Ok F R W)(hM:0<M)(dv:∀k,k<F.length→W.getD k 1∣M)(h1:F.sum<wd)(h2:wd<R.sum)(a:(hads lev M F R W).sum≤wd)(b:wd<(hads (lev+1) M F R W).sum)(e:(left:Int)=wd-(hads lev M F R W).sum):Due F R W wd (qbJ lev M left F R W):=fun room out er s=>by
 have w1:=ok.w;exact(given_level ok.w ok.lr ok.fr s.perm s.le hM dv (by omega) (by omega) (by omega)).symm
theorem floors_due{F R W:List Int}{wd:Int}(ok:Ok F R W)(h:wd≤F.sum):Due F R W wd F:=fun room out er s=>given_floors ok.w ok.lr ok.fr s.perm s.le (by omega)
theorem roofs_due{F R W:List Int}{wd:Int}(ok:Ok F R W)(h:R.sum≤wd):Due F R W wd R:=fun room out er s=>given_roofs ok.w ok.lr ok.fr s.perm s.le (by omega)
end Shr
namespace Shr
theorem Le2.total(p q:Int×Int):(!(Tim.lex q p) || !(Tim.lex p q))=true:=by
 cases h:Tim.lex q p with
 | false=>rfl
 | true =>
   have:Tim.lex p q=false:=Tim.lex_no.mpr (by
     refine Classical.byContradiction fun z=>?_
     have h':¬Tim.lex q p=false:=by rw[h];decide
     exact h' (Tim.lex_no.mpr (by omega)))
   rw[this]
   rfl
theorem Le2.trans(p q r:Int×Int)(h1:(!(Tim.lex q p))=true)(h2:(!(Tim.lex r q))=true):(!(Tim.lex r p))=true:=by
 have a1:=Tim.lex_no.mp (show Tim.lex q p=false by simpa using h1);have a2:=Tim.lex_no.mp (show Tim.lex r q=false by simpa using h2);have:Tim.lex r p=false:=Tim.lex_no.mpr (by omega);rw[this];rfl
theorem qdY(F R W:List Int)(room:Nat):∃out,Sorted F R W room out:=by
 refine⟨(dots 0 (places F R W room)).mergeSort (fun p q=>!(Tim.lex q p)),List.mergeSort_perm _ _,?_⟩;have:=List.pairwise_mergeSort (le:=fun p q=>!(Tim.lex q p)) (fun a b c=>Le2.trans a b c) (fun a b=>Le2.total a b) (dots 0 (places F R W room));exact this.imp fun h=>by simpa using h
noncomputable def shF(F R W:List Int)(wd:Int):List Int:=qb8 F (Classical.choose (qdY F R W (max 0 (wd-F.sum)).toNat)) (max 0 (wd-F.sum)).toNat
theorem qeL(F R W:List Int)(wd:Int):IsDue F R W wd (shF F R W wd):=⟨_,_,by omega,Classical.choose_spec (qdY F R W (max 0 (wd-F.sum)).toNat),rfl⟩
theorem Due.eq{F R W:List Int}{wd:Int}{x:List Int}(h:Due F R W wd x):x=shF F R W wd:=(h.is (qeL F R W wd)).symm
end Shr
namespace Gd
open Classical in
noncomputable def plF(cols:Nat)(cs:List (Nat×Nat)):List Pl:=if h:∃ps,Placed cols cs ps then Classical.choose h else[]
theorem Placed.eq{cols:Nat}{cs:List (Nat×Nat)}{ps:List Pl}(h:Placed cols cs ps):ps=plF cols cs:=by
 unfold plF;rw[dif_pos ⟨ps,h⟩];exact h.uniq (Classical.choose_spec (⟨ps,h⟩:∃ps,Placed cols cs ps))
end Gd
namespace Sp0
open PySem L2 Bk Gen Gd Bd Shr
def qbe(ls:List (List Int))(sp:List (Int×Int))(n:Nat):Int×Int:=((bsA sp n).1+lkA ls n 3,max 0 ((bsA sp n).2-2*lkA ls n 3))
def ownS(ls:List (List Int))(rm:Int×Int)(m:Nat):Int:=min (lkA ls m 11) (rm.2 / 2)
def qbE(ds:List Nd)(ls:List (List Int))(rm:Int×Int)(m:Nat):Int×Int:=if ds[m]?.map Nd.k=some Kd.aside then(rm.1+lkA ls m 10*(rm.2-ownS ls rm m),ownS ls rm m)else rm
def qa0(left:Int)(x:List Int):List (Int×Int):=(List.range x.length).map fun k=>(left+(x.take k).sum,x.getD k 0)
def begS(rm:Int×Int)(cols:Int)(k:Nat):Int:=rm.1+(k:Int)*(rm.2 / cols)+min (k:Int) (rm.2 % cols)
def qcY(rm:Int×Int)(cols:Int)(p:Pl):Int×Int:=(begS rm cols p.c,begS rm cols (p.c+p.s)-begS rm cols p.c)
def qbH(ls:List (List Int))(ks:List Nat):List (Nat×Nat):=ks.map fun m=>((lkA ls m 8).toNat,(lkA ls m 9).toNat)
noncomputable def qcC(ls:List (List Int))(bs:List (Int×Int))(ks:List Nat)(wd:Int):List Int:=shF (ks.map (qaS ls bs)) (ks.map (qbC ls bs)) (ks.map fun m=>lkA ls m 4) wd
noncomputable def qeZ(ds:List Nd)(ls:List (List Int))(bs:List (Int×Int))(rm r0:Int×Int)(n:Nat)(ks:List Nat):List (Int×Int) :=
 match ds[n]?.map Nd.k with
 | some .text | some .head | some .note=>ks.map fun _=>r0
 | some .shelf=>qa0 rm.1 (qcC ls bs ks rm.2)
 | some .grid=>(plF (lkA ls n 7).toNat (qbH ls ks)).map (qcY rm (lkA ls n 7))
 | _=>ks.map (qbE ds ls rm)
noncomputable def qaU(ds:List Nd)(ls:List (List Int))(bs sp:List (Int×Int))(n:Nat):List (Int×Int):=qeZ ds ls bs (qbe ls sp n) (qbe ls sp 0) n (qav ds n)
def qa3(sp:List (Int×Int)):List Nat→List (Int×Int)→List (Int×Int)
 | k::ks,z::zs=>qa3 (sp.set k z) ks zs
 | _,_=>sp
theorem putAll_len:∀(ks:List Nat) (zs:List (Int×Int)) (sp:List (Int×Int)),(qa3 sp ks zs).length=sp.length
 | [],_,_=>by unfold qa3;rfl
 | _::_,[],_=>by unfold qa3;rfl
 | k :: ks, z :: zs, sp => by
   unfold qa3
   rw[putAll_len ks zs,List.length_set]
theorem putAll_out:∀{ks:List Nat} {zs:List (Int×Int)} {sp:List (Int×Int)} {m:Nat},m∉ks→bsA (qa3 sp ks zs) m=bsA sp m
 | [],_,_,_,_=>by unfold qa3;rfl
 | _::_,[],_,_,_=>by unfold qa3;rfl
 | k :: ks, z :: zs, sp, m, h => by
   unfold qa3
   rw[putAll_out (fun z=>h (List.mem_cons_of_mem _ z)),bsA_set (fun z:k=m=>h (by rw[z];exact List.mem_cons_self))]
theorem putAll_in:∀{ks:List Nat} {zs:List (Int×Int)} {sp:List (Int×Int)},ks.Nodup→ks.length=zs.length→(∀k∈ks,k<sp.length)→ks.map (bsA (qa3 sp ks zs))=zs
 | [],[],_,_,_,_=>rfl
 | [],_::_,_,_,h,_=>by simp at h
 | _::_,[],_,_,h,_=>by simp at h
 | k :: ks, z :: zs, sp, nd, l, lt => by
   have nd':=List.nodup_cons.mp nd
   have l':ks.length=zs.length:=by simpa using l
   unfold qa3
   rw[List.map_cons,putAll_out nd'.1,bsA_self (lt k List.mem_cons_self),putAll_in nd'.2 l' fun j hj=>by rw[List.length_set];exact lt j (List.mem_cons_of_mem _ hj)]
noncomputable def spTo(ds:List Nd)(ls:List (List Int))(bs:List (Int×Int))(wide:Int):Nat→List (Int×Int)
 | 0=>List.replicate ds.length (0,wide)
 | k+1=>qa3 (spTo ds ls bs wide k) (qav ds k) (qaU ds ls bs (spTo ds ls bs wide k) k)
noncomputable def spans(ds:List Nd)(ls:List (List Int))(bs:List (Int×Int))(wide:Int):List (Int×Int):=spTo ds ls bs wide ds.length
section
variable{ds:List Nd}{ls:List (List Int)}{bs:List (Int×Int)}{wide:Int}
theorem kids_nodup(n:Nat):(qav ds n).Nodup:=List.Pairwise.filter _ List.nodup_range
theorem spTo_len:∀k,(spTo ds ls bs wide k).length=ds.length
 | 0=>by unfold spTo;rw[List.length_replicate]
 | k+1=>by unfold spTo;rw[putAll_len,spTo_len k]
theorem kid_own{n k m:Nat}(h1:m∈qav ds n)(h2:m∈qav ds k):n=k:=by
 obtain⟨d,e1,e2⟩:=qfP h1;obtain⟨d',e1',e2'⟩:=qfP h2;rw[e1]at e1';cases e1';omega
theorem qdG{m j:Nat}:∀{k:Nat},j≤k→(∀i,j≤i→i<k→m∉qav ds i)→bsA (spTo ds ls bs wide k) m=bsA (spTo ds ls bs wide j) m:=fun {k} h n=>by
 induction k with
 | zero=>rw[Nat.le_zero.mp h]
 | succ k ih =>
   rcases Nat.lt_or_eq_of_le h with h' | h'
   · have:spTo ds ls bs wide (k+1)=qa3 (spTo ds ls bs wide k) (qav ds k) (qaU ds ls bs (spTo ds ls bs wide k) k):=rfl
     rw[this,putAll_out (n k (by omega) (by omega))]
     exact ih (by omega) fun i a b=>n i a (by omega)
   · rw[h']
theorem qdR(bh:qdU ds){n:Nat}{k:Nat}(hk:n≤k):bsA (spTo ds ls bs wide k) n=bsA (spTo ds ls bs wide n) n:=qdG hk fun i a _ z=>by
 obtain⟨d,e1,e2⟩:=qfP z;have:=bh n d e1;omega
theorem qcc(bh:qdU ds)(h:0<ds.length)(k:Nat):bsA (spTo ds ls bs wide k) 0=(0,wide):=by
 rw[qdR bh (Nat.zero_le k)];unfold spTo bsA;rw[List.getElem?_replicate_of_lt h];rfl
theorem qdw{sp sp':List (Int×Int)}{n:Nat}(h:bsA sp n=bsA sp' n):qbe ls sp n=qbe ls sp' n:=by unfold qbe;rw[h]
theorem spans_is(bh:qdU ds)(pos:0<ds.length){n:Nat}(hn:n<ds.length)(hl:(qaU ds ls bs (spTo ds ls bs wide n) n).length=(qav ds n).length):(qav ds n).map (bsA (spans ds ls bs wide))=qaU ds ls bs (spans ds ls bs wide) n:=by
 have e1:qaU ds ls bs (spans ds ls bs wide) n=qaU ds ls bs (spTo ds ls bs wide n) n:=by
  unfold qaU;rw[qdw (show bsA (spans ds ls bs wide) n=bsA (spTo ds ls bs wide n) n from qdR bh (by omega)),qdw (show bsA (spans ds ls bs wide) 0=bsA (spTo ds ls bs wide n) 0 by rw[qcc bh pos];exact(qcc bh pos ds.length).trans rfl)]
 rw[e1,←putAll_in (sp:=spTo ds ls bs wide n) (kids_nodup n) hl.symm fun k hk=>by rw[spTo_len];exact qbv hk];refine List.map_congr_left fun m hm=>?_
 exact qdG (j:=n+1) (by omega) fun i a b z=>by
  have:=kid_own hm z;omega
end
end Sp0
namespace Sp0
open PySem L2 Bk Gen Gd Bd Shr
structure NumsS(mg:Str→Option Value):Prop where
 kind:∃t,mg "KIND" = some (.int 1 t)
 low:∃t,mg "LOW" = some (.int 0 t)
 left:∃t,mg "LEFT" = some (.int 0 t)
 wide:∃t,mg "WIDE" = some (.int 1 t)
 column:∃t,mg "COLUMN" = some (.int 1 t)
 span:∃t,mg "SPAN" = some (.int 2 t)
structure Lk2(l:List Int):Prop extends LkOk l where
 wt:1≤l.getD 4 0∧l.getD 4 0≤9
 least4:l.getD 5 0≤4000
 most4:l.getD 6 0≤4000
 deep:1≤l.getD 9 0∧l.getD 9 0≤4
 side:l.getD 10 0=0∨l.getD 10 0=1
structure Cx2(ds:List Nd)(ls:List (List Int))(bs:List (Int×Int)):Prop where
 le:ds.length≤100
 pos:0<ds.length
 ll:ls.length=ds.length
 bl:bs.length=ds.length
 lk:∀l∈ls,Lk2 l
 bh:qdU ds
 bb:∀b∈bs,0≤b.1∧b.1≤4000
theorem Cx2.look{ds:List Nd}{ls:List (List Int)}{bs:List (Int×Int)}(c:Cx2 ds ls bs){n:Nat}(h:n<ds.length):∃l,ls[n]?=some l∧Lk2 l∧∀i,lkA ls n i=l.getD i 0:=by
 have hl:n<ls.length:=by rw[c.ll];exact h
 refine⟨ls[n],List.getElem?_eq_getElem hl,c.lk _ (List.getElem_mem hl),fun i=>?_⟩;unfold lkA;rw[List.getElem?_eq_getElem hl];rfl
theorem Cx2.l13{ds:List Nd}{ls:List (List Int)}{bs:List (Int×Int)}(c:Cx2 ds ls bs):∀l∈ls,l.length=13:=fun l h=>(c.lk l h).len
theorem Cx2.bd{ds:List Nd}{ls:List (List Int)}{bs:List (Int×Int)}(c:Cx2 ds ls bs){n:Nat}(h:n<ds.length):0≤(bsA bs n).1∧(bsA bs n).1≤4000:=by
 have hl:n<bs.length:=by rw[c.bl];exact h
 unfold bsA;rw[List.getElem?_eq_getElem hl];exact c.bb _ (List.getElem_mem hl)
theorem Cx2.ok{ds:List Nd}{ls:List (List Int)}{bs:List (Int×Int)}(c:Cx2 ds ls bs)(n:Nat):Ok ((qav ds n).map (qaS ls bs)) ((qav ds n).map (qbC ls bs)) ((qav ds n).map fun m=>lkA ls m 4):=by
 have at':∀(f:Nat→Int) {k:Nat} {m:Nat} (d:Int),(qav ds n)[k]?=some m→((qav ds n).map f).getD k d=f m:=fun f k m d e=>qaX (by rw[List.getElem?_map,e];rfl) d
 have of:∀k,k<((qav ds n).map (qaS ls bs)).length→∃m,(qav ds n)[k]?=some m∧m<ds.length:=fun k hk=>by
  rw[List.length_map]at hk;exact⟨_,List.getElem?_eq_getElem hk,qbv (List.getElem_mem hk)⟩
 have le:=c.le;have kl:=qcO ds n;refine⟨by rw[List.length_map];omega,by rw[List.length_map,List.length_map],by rw[List.length_map,List.length_map],fun k hk=>?_,fun k hk=>?_,fun k hk=>?_,fun k=>?_⟩
 ·obtain⟨m,e,hm⟩:=of k hk;obtain⟨l,_,ok,lv⟩:=c.look hm;have b:=c.bd hm;rw[at' _ _ e];unfold qaS;omega
 ·obtain⟨m,e,hm⟩:=of k hk;rw[at' _ _ e,at' _ _ e];unfold qbC;omega
 ·obtain⟨m,e,hm⟩:=of k hk;obtain⟨l,_,ok,lv⟩:=c.look hm;have b:=c.bd hm;have h1:=ok.least4;have h2:=ok.most4;rw[at' _ _ e];unfold qbC qaS;rw[lv,lv];omega
 ·by_cases hk:k<(qav ds n).length
  ·have hm:=qbv (List.getElem_mem hk);obtain⟨l,_,ok,lv⟩:=c.look hm;rw[at' _ _ (List.getElem?_eq_getElem hk),lv];exact ok.wt
  ·rw[List.getD_eq_getElem?_getD,List.getElem?_eq_none (by rw[List.length_map];omega)];decide
theorem qcw{left:Int}{x:List Int}:(qa0 left x).length=x.length:=by unfold qa0;rw[List.length_map,List.length_range]
theorem qdQ{ls:List (List Int)}{bs:List (Int×Int)}{ks:List Nat}{wd:Int}:(qcC ls bs ks wd).length=ks.length:=by
 unfold qcC;rw[(qeL _ _ _ _).len,List.length_map]
theorem Cx2.cells{ds:List Nd}{ls:List (List Int)}{bs:List (Int×Int)}(c:Cx2 ds ls bs)(n:Nat):qeQ (qbH ls (qav ds n)):=fun x hx=>by
 obtain⟨m,hm,rfl⟩:=List.mem_map.mp hx;obtain⟨l,_,ok,lv⟩:=c.look (qbv hm);have h1:=ok.span;have h2:=ok.deep;rw[←lv]at h1 h2;exact⟨by show 1≤(lkA ls m 8).toNat;omega,by show(lkA ls m 8).toNat≤6;omega,by show 1≤(lkA ls m 9).toNat;omega,by show(lkA ls m 9).toNat≤4;omega⟩
def qbl(wd cols:Int):List Int:=(List.range cols.toNat).map fun c:Nat=>if(c:Int)<wd-wd / cols*cols then wd / cols+1 else wd / cols
theorem qej{wd cols:Int}:(qbl wd cols).length=cols.toNat:=by unfold qbl;rw[List.length_map,List.length_range]
theorem qdy{wd cols:Int}(hc:0<cols):∀{k:Nat},k≤cols.toNat→((qbl wd cols).take k).sum=(k:Int)*(wd / cols)+min (k:Int) (wd % cols)
 | 0, _ => by
   have:=Int.emod_nonneg wd (show cols≠0 by omega)
   rw[List.take_zero]
   show(0:Int)=_
   omega
 | k + 1, h => by
   have ih:=qdy (wd:=wd) hc (k:=k) (by omega)
   have e:(qbl wd cols)[k]?=some (if(k:Int)<wd-wd / cols*cols then wd / cols+1 else wd / cols):=by
     unfold qbl
     rw[List.getElem?_map,List.getElem?_range (by omega)]
     rfl
   have em:wd-wd / cols*cols=wd % cols:=by
     have:=Int.emod_add_mul_ediv wd cols
     rw[Int.mul_comm]at this
     omega
   rw[List.take_succ,e,List.sum_append,ih,em]
   show _+((if(k:Int)<wd % cols then wd / cols+1 else wd / cols)+0)=_
   rw[show(((k+1:Nat):Int))=(k:Int)+1 by omega,Int.add_mul,Int.one_mul]
   split<;>omega
theorem take_drop_sum{l:List Int}{c s:Nat}:((l.drop c).take s).sum=(l.take (c+s)).sum-(l.take c).sum:=by
 rw[List.take_add,List.sum_append];omega
abbrev KL(H:Hp)(a:Addr)(ks:List Nat):Prop:=LI H a (ks.map fun(j:Nat)=>(j:Int))
structure InS(H:Hp)(B p L:Addr)(ds:List Nd)(ls:List (List Int))(bs:List (Int×Int)):Prop where
 bk:qbd (fun _=>True) H B ds
 lk:LstAt LkAt H p ls
 bd:LstAt PrAt H L bs
theorem InS.same{H H':Hp}{B p L:Addr}{ds:List Nd}{ls:List (List Int)}{bs:List (Int×Int)}(h:InS H B p L ds ls bs)(s:Same H H'):InS H' B p L ds ls bs:=by
 obtain⟨as,e,nd⟩:=h.bk;exact⟨⟨as,s _ _ e,nd.keep s.keep fun _ _ _=>trivial⟩,qaA s h.lk,qaK s h.bd⟩
def spRoom:Sp:=fun vs H Q _=>∃(p S:Addr) (n:Nat) (ls:List (List Int)) (sp:List (Int×Int)),vs=[.ref p,.ref S,.int n]∧LstAt LkAt H p ls∧LstAt PrAt H S sp∧n<ls.length∧n<sp.length∧(∀l∈ls,l.length=13) ∧
 ∀(t:Addr) (H':Hp),H t=none→Same H H'→PrAt H' t (qbe ls sp n)→Q (.ref t) H'
def qeP(f:List (List Int)→List (Int×Int)→Nat→Int):Sp:=fun vs H Q _=>∃(p L k:Addr) (ks:List Nat) (ls:List (List Int)) (bs:List (Int×Int)),vs=[.ref p,.ref L,.ref k]∧LstAt LkAt H p ls∧LstAt PrAt H L bs∧KL H k ks∧ks.length≤100∧(∀m∈ks,m<ls.length∧m<bs.length)∧(∀l∈ls,l.length=13) ∧
 ∀(t:Addr) (H':Hp),H t=none→Same H H'→LI H' t (ks.map (f ls bs))→Q (.ref t) H'
def spWts:Sp:=fun vs H Q _=>∃(p k:Addr) (ks:List Nat) (ls:List (List Int)),vs=[.ref p,.ref k]∧LstAt LkAt H p ls∧KL H k ks∧ks.length≤100∧(∀m∈ks,m<ls.length)∧(∀l∈ls,l.length=13) ∧
 ∀(t:Addr) (H':Hp),H t=none→Same H H'→LI H' t (ks.map fun m=>lkA ls m 4)→Q (.ref t) H'
def spCellsOf:Sp:=fun vs H Q _=>∃(p k:Addr) (ks:List Nat) (ls:List (List Int)),vs=[.ref p,.ref k]∧LstAt LkAt H p ls∧KL H k ks∧ks.length≤100∧(∀m∈ks,m<ls.length)∧(∀l∈ls,Lk2 l) ∧
 ∀(t:Addr) (H':Hp),H t=none→Same H H'→LstAt TupAt H' t (qbH ls ks)→Q (.ref t) H'
def spBehind:Sp:=fun vs H Q _=>∃(left:Int) (a:Addr) (x:List Int),vs=[.int left,.ref a]∧LI H a x∧x.length≤100 ∧
 ∀(t:Addr) (H':Hp),H t=none→Same H H'→LstAt PrAt H' t (qa0 left x)→Q (.ref t) H'
def spEven:Sp:=fun vs H Q _=>∃(wd cols:Int),vs=[.int wd,.int cols]∧1≤cols∧cols≤6 ∧
 ∀(t:Addr) (H':Hp),H t=none→Same H H'→LI H' t (qbl wd cols)→Q (.ref t) H'
def spCellSpans:Sp:=fun vs H Q _=>∃(r C:Addr) (rm:Int×Int) (cols:Int) (cs:List (Nat×Nat)),vs=[.ref r,.int cols,.ref C]∧PrAt H r rm∧LstAt TupAt H C cs∧qeQ cs∧cs.length≤100∧1≤cols∧cols≤6 ∧
 ∀(t:Addr) (H':Hp),H t=none→Same H H'→(plF cols.toNat cs).length=cs.length→LstAt PrAt H' t ((plF cols.toNat cs).map (qcY rm cols))→Q (.ref t) H'
def spAside:Sp:=fun vs H Q _=>∃(p r:Addr) (m:Nat) (ls:List (List Int)) (rm:Int×Int),vs=[.ref p,.ref r,.int m]∧LstAt LkAt H p ls∧PrAt H r rm∧m<ls.length∧(∀l∈ls,Lk2 l) ∧
 ∀(t:Addr) (H':Hp),H t=none→Same H H'→PrAt H' t (rm.1+lkA ls m 10*(rm.2-ownS ls rm m),ownS ls rm m)→Q (.ref t) H'
def spHeldS:Sp:=fun vs H Q _=>∃(B p L S:Addr) (n:Nat) (ds:List Nd) (ls:List (List Int)) (bs sp:List (Int×Int)),vs=[.ref B,.ref p,.ref L,.ref S,.int n]∧InS H B p L ds ls bs∧LstAt PrAt H S sp∧sp.length=ds.length∧n<ds.length∧Cx2 ds ls bs ∧
 ∀(t:Addr) (H':Hp),H t=none→Same H H'→(qaU ds ls bs sp n).length=(qav ds n).length→LstAt PrAt H' t (qaU ds ls bs sp n)→Q (.ref t) H'
def spAllS:Sp:=fun vs H Q _=>∃(B p L:Addr) (wide:Int) (ds:List Nd) (ls:List (List Int)) (bs:List (Int×Int)),vs=[.ref B,.ref p,.ref L,.int wide]∧InS H B p L ds ls bs∧Cx2 ds ls bs ∧
 ∀(t:Addr) (H':Hp),H t=none→Same H H'→LstAt PrAt H' t (spans ds ls bs wide)→(∀n,n<ds.length→(qav ds n).map (bsA (spans ds ls bs wide))=qaU ds ls bs (spans ds ls bs wide) n)→Q (.ref t) H'
def spLooks2:Sp:=fun vs H Q _=>∃(B st:Addr) (ds:List Nd),vs=[.ref B,.ref st]∧qbd (fun b=>b≠st) H B ds∧B≠st∧ds.length≤100∧StOk H st ∧
 ∀(p:Addr) (ls:List (List Int)) (H':Hp),H p=none→LstAt LkAt H' p ls→ls.length=ds.length→(∀l∈ls,Lk2 l)→StOk H' st→Keep1 st H H'→Q (.ref p) H'
def spBounds:Sp:=fun vs H Q _=>∃(B st:Addr) (ds:List Nd),vs=[.ref B,.ref st]∧qbd (fun b=>b≠st) H B ds∧B≠st∧ds.length≤100∧StOk H st ∧
 ∀(p:Addr) (bs:List (Int×Int)) (H':Hp),H p=none→LstAt PrAt H' p bs→bs.length=ds.length→(∀b∈bs,0≤b.1∧b.1≤4000)→StOk H' st→Keep1 st H H'→Q (.ref p) H'
theorem lkg{ls:List (List Int)}{n j:Nat}(hn:n<ls.length)(l13:∀l∈ls,l.length=13)(hj:j<13):((ls[n]'hn).map V.int)[j]?=some (.int (lkA ls n j)):=by
 have hl:=l13 _ (List.getElem_mem hn);have ej:(ls[n]'hn)[j]?=some ((ls[n]'hn)[j]'(by omega)):=List.getElem?_eq_getElem (by omega);have:lkA ls n j=(ls[n]'hn)[j]'(by omega):=by
  unfold lkA;rw[List.getElem?_eq_getElem hn,Option.getD_some,List.getD_eq_getElem?_getD,ej];rfl
 rw[List.getElem?_map,ej,this];rfl
def spBelow:Sp:=fun vs H Q _=>∃(B p k r:Addr) (ks:List Nat) (ds:List Nd) (ls:List (List Int)) (rm:Int×Int),vs=[.ref B,.ref p,.ref k,.ref r]∧qbd (fun _=>True) H B ds∧LstAt LkAt H p ls∧KL H k ks∧PrAt H r rm∧ks.length≤100∧(∀m∈ks,m<ds.length∧m<ls.length)∧(∀l∈ls,l.length=13)∧(∀m,lkA ls m 10=0∨lkA ls m 10=1) ∧
 ∀(t:Addr) (H':Hp),H t=none→Same H H'→LstAt PrAt H' t (ks.map (qbE ds ls rm))→Q (.ref t) H'
def spBeside:Sp:=fun vs H Q _=>∃(p L k r:Addr) (ks:List Nat) (ls:List (List Int)) (bs:List (Int×Int)) (rm:Int×Int),vs=[.ref p,.ref L,.ref k,.ref r]∧LstAt LkAt H p ls∧LstAt PrAt H L bs∧KL H k ks∧PrAt H r rm∧ks.length≤100∧(∀m∈ks,m<ls.length∧m<bs.length)∧(∀l∈ls,l.length=13)∧Ok (ks.map (qaS ls bs)) (ks.map (qbC ls bs)) (ks.map fun m=>lkA ls m 4) ∧
 ∀(t:Addr) (H':Hp),H t=none→Same H H'→LstAt PrAt H' t (qa0 rm.1 (qcC ls bs ks rm.2))→Q (.ref t) H'
theorem qda{F R W:List Int}{wd:Int}{x:List Int}(ok:Ok F R W)(h:IsDue F R W wd x):Fair F R W x∧x.sum=F.sum+min (max 0 (wd-F.sum)) (R.sum-F.sum):=by
 obtain⟨room,out,e,s,rfl⟩:=h;rw[←e];exact⟨given_fair ok.w ok.fr s.perm s.le,given_total ok.w ok.lr ok.fr s.perm s.le⟩
theorem isDue_eq{F R W:List Int}{wd:Int}{x:List Int}(ok:Ok F R W)(h:IsDue F R W wd x):x=shF F R W wd:=by
 obtain⟨f1,t1⟩:=qda ok h;obtain⟨f2,t2⟩:=qda ok (qeL F R W wd);exact Fair.one ok.pos f1 f2 (t1.trans t2.symm)
theorem qbS{ls:List (List Int)}{ks:List Nat}:(qbH ls ks).length=ks.length:=by unfold qbH;rw[List.length_map]
theorem putAll_snoc:∀{ks:List Nat} {zs:List (Int×Int)} {sp:List (Int×Int)} {k:Nat} {z:Int×Int},ks.length=zs.length→qa3 sp (ks++[k]) (zs++[z])=(qa3 sp ks zs).set k z
 | [],[],sp,k,z,_=>by simp[qa3]
 | [],_::_,_,_,_,h=>by simp at h
 | _::_,[],_,_,_,h=>by simp at h
 | a :: ks, b :: zs, sp, k, z, h => by
   have h':ks.length=zs.length:=by simpa using h
   show qa3 (sp.set a b) (ks++[k]) (zs++[z])=(qa3 (sp.set a b) ks zs).set k z
   exact putAll_snoc h'
theorem qbw{bs:List (Int×Int)}{m:Nat}(h:m<bs.length):bs[m]?=some (bsA bs m):=by
 unfold bsA;rw[List.getElem?_eq_getElem h];rfl
theorem qb7{ks:List Nat}{i:Nat}{x:V}(h:((ks.map fun(j:Nat)=>(j:Int)).map V.int)[i]?=some x):∃m,ks[i]?=some m∧x=.int (m:Int):=by
 rw[List.getElem?_map,List.getElem?_map]at h;cases e:ks[i]? with
 | none=>rw[e]at h;cases h
 | some m=>rw[e]at h;exact⟨m,rfl,(Option.some.inj h).symm⟩
section
variable{ds:List Nd}{ls:List (List Int)}{bs sp:List (Int×Int)}{n:Nat}{d:Nd}
theorem qcS(h:ds[n]?=some d)(hk:d.k=.text∨d.k=.head∨d.k=.note):qaU ds ls bs sp n=(qav ds n).map fun _=>qbe ls sp 0:=by
 unfold qaU qeZ;rw[h];show(match some d.k with | some .text | some .head | some .note=>_ | some .shelf=>_ | some .grid=>_ | _=>_)=_;rcases hk with e | e | e<;>rw[e]
theorem qcu(h:ds[n]?=some d)(hk:d.k=.shelf):qaU ds ls bs sp n=qa0 (qbe ls sp n).1 (qcC ls bs (qav ds n) (qbe ls sp n).2):=by
 unfold qaU qeZ;rw[h];show(match some d.k with | some .text | some .head | some .note=>_ | some .shelf=>_ | some .grid=>_ | _=>_)=_;rw[hk]
theorem qdI(h:ds[n]?=some d)(hk:d.k=.grid):qaU ds ls bs sp n=(plF (lkA ls n 7).toNat (qbH ls (qav ds n))).map (qcY (qbe ls sp n) (lkA ls n 7)):=by
 unfold qaU qeZ;rw[h];show(match some d.k with | some .text | some .head | some .note=>_ | some .shelf=>_ | some .grid=>_ | _=>_)=_;rw[hk]
theorem qdM(h:ds[n]?=some d)(h1:¬(d.k=.text∨d.k=.head∨d.k=.note))(h2:d.k≠.shelf)(h3:d.k≠.grid):qaU ds ls bs sp n=(qav ds n).map (qbE ds ls (qbe ls sp n)):=by
 unfold qaU qeZ;rw[h];show(match some d.k with | some .text | some .head | some .note=>_ | some .shelf=>_ | some .grid=>_ | _=>_)=_;cases e:d.k with
 | text=>exact absurd (.inl e) h1
 | head=>exact absurd (.inr (.inl e)) h1
 | note=>exact absurd (.inr (.inr e)) h1
 | shelf=>exact absurd e h2
 | grid=>exact absurd e h3
 | _=>rfl
end
theorem qer{ds:List Nd}{ls:List (List Int)}{rm:Int×Int}{m:Nat}{dm:Nd}(e:ds[m]?=some dm):qbE ds ls rm m=if dm.k=Kd.aside then(rm.1+lkA ls m 10*(rm.2-ownS ls rm m),ownS ls rm m)else rm:=by
 unfold qbE;rw[e];show(if some dm.k=some Kd.aside then _ else _)=_
 by_cases ha:dm.k=.aside
 ·rw[if_pos ha,if_pos (congrArg some ha)]
 ·rw[if_neg ha,if_neg fun z=>ha (Option.some.inj z)]
def pieceKinds:List Str:=[Str.ofString "text",Str.ofString "head",Str.ofString "note"]
theorem piece_in(k:Kd):inV (.str k.s) (pieceKinds.map V.str)=decide (k=.text∨k=.head∨k=.note):=by
 rw[inV_strD];cases k<;>decide +kernel
theorem qc0{x:List Int}{n:Nat}:cutV (x.map V.int) none (some (n:Int))=(x.take n).map V.int:=by
 unfold cutV;rw[HT.sIx_none,HT.sIx_nat,List.length_map,List.drop_zero,Nat.sub_zero,←List.map_take]
 by_cases h:n≤x.length
 ·rw[Nat.min_eq_left h]
 ·rw[Nat.min_eq_right (by omega),List.take_length,List.take_of_length_le (by omega)]
theorem qdf{X:Cx}(K:PySem.W.Frag)(hK:X.K=K)(hc:X.calm=true):qcd X (.builtin "sum") (qfw K):=by
 subst hK;exact qa4 hc
end Sp0
namespace K22
open PySem L2 Bk Gen Gd Bd Sp0
abbrev sHolds:Stmt:=top 7
abbrev sLook:Stmt:=top 10
abbrev sFloor:Stmt:=top 13
abbrev sRoof:Stmt:=top 14
theorem inset_is:qb9 (Str.ofString "inset") 3:=⟨by decide +kernel,by decide +kernel⟩
theorem weight_is:qb9 (Str.ofString "weight") 4:=⟨by decide +kernel,by decide +kernel⟩
theorem least_is:qb9 (Str.ofString "least") 5:=⟨by decide +kernel,by decide +kernel⟩
theorem most_is:qb9 (Str.ofString "most") 6:=⟨by decide +kernel,by decide +kernel⟩
theorem columns_is:qb9 (Str.ofString "columns") 7:=⟨by decide +kernel,by decide +kernel⟩
theorem span_is:qb9 (Str.ofString "span") 8:=⟨by decide +kernel,by decide +kernel⟩
theorem deep_is:qb9 (Str.ofString "deep") 9:=⟨by decide +kernel,by decide +kernel⟩
theorem side_is:qb9 (Str.ofString "side") 10:=⟨by decide +kernel,by decide +kernel⟩
theorem wide_is:qb9 (Str.ofString "wide") 11:=⟨by decide +kernel,by decide +kernel⟩
theorem max2(u v:Int):(if v>u then v else u)=max u v:=by
 by_cases z:u<v
 ·rw[if_pos z];omega
 ·rw[if_neg z];omega
theorem min2(u v:Int):(if v<u then v else u)=min u v:=by
 by_cases z:v<u
 ·rw[if_pos z];omega
 ·rw[if_neg z];omega
section
variable{P:Program}{w:World}{K:PySem.W.Frag}{mg:Str→Option Value}{base:Heap}
theorem scHolds:FnScope ["book", "node"] ["book", "node"] (qag sHolds):=⟨rfl,rfl,rfl,by decide +kernel,rfl,by decide +kernel,by decide +kernel⟩
theorem ok_holds{f C:Addr}{fd:FuncData}{bm:List Value}{B newId initId:String}(F:FunD K "holds" "holds" sHolds f fd)(T:Bn mg)(tE:∃t,mg "ELDER" = some (.int 0 t))(O_NoNode:PyProof.Rows.OwnCls "NoNode" C bm newId mg base)(FB:ExcBaseFacts B newId initId bm):FnOk P w K mg base (CX1 P w) 1 f fd ["book", "node"] (qdu C):=by
 refine F.ok scHolds (fun vs H Q E h=>?_) (fun cdv A outer s H vs Q E hr h=>?_)
 ·obtain⟨p,n,ds,N,rfl,_⟩:=h;rfl
 ·obtain⟨p,n,ds,N,rfl,⟨as,hp,nd⟩,le,nb,alt⟩:=h;obtain⟨tE,g_ELDER⟩:=tE;refine⟨_,(qab (qaM (qca (pt_chain op_le op_lt qae (pv 1) (qal call_len_seq (by rfl) T.len b_len (qaa (pv 0) pa_nil)))) (qaf (ps_raise O_NoNode FB (show A.handled=none from hr.hd) (by rfl) (qaa (pe_joined (qfo qau (qfo (pe_fmtI (pv 1)) pj_nil))) pa_nil))) pss_nil)
   (qaf (qat (qaI (own:=["number", "other"]) (by rfl) (ix:=[1]) (frees:=["node"]) (CompScope.frees (by rfl) (by decide +kernel) (by decide +kernel) (by decide +kernel) (by rfl) (by decide +kernel) (by first | exact qbc (by rfl) | exact qa9 (by rfl) (by rfl))) (qcr (by rfl) T.enumerate (qaa (pv 0) pa_nil)) (fun cl C s2 H2 fp=>(qcs K (n:=2) (by rfl) (by rfl) (qax (qai (i:=0) (by show(["number", "other", "node"]:List Str).Nodup;decide +kernel) (by rfl) (by trivial) (by trivial)) (qax (qai (i:=1) (by show(["number", "other", "node"]:List Str).Nodup;decide +kernel) (by rfl) (by trivial) (by trivial)) pgs_nil)))) (fun cl C s2 H2 fp=>(qcU (qam op_eq (qaj (r:=rIxT K) ix_tup (pv 1) (qaD (v:=.int 0) (by rfl) g_ELDER ⟨_,rfl⟩) (fun _ _=>rfl)) (pv 2) (qaq _)))) (fun cl C s2 H2 fp=>(pv 0)))))),?_⟩
  have lenas:as.length=ds.length:=nd.length;have el:(((as.map V.ref).length:Nat):Int)=ds.length:=by rw[List.length_map,lenas]
  have zl:(as.map V.ref).length<sizeLine:=by rw[List.length_map];exact qak (by omega)
  have raised:¬(0≤n∧n<ds.length)→qfF (qcH (fun σ H Q=>qeR (tC (V.str (Str.ofString "there is no node "))) (qeR (fun σ H Q=>tVar 1 σ H fun x H1=>∃i:Int,x=V.int i∧i.natAbs<10 ^ 100∧((Str.ofString (toString i)).length≤1921→Q (V.str (Str.ofString (toString i))) H1)) tJnil) Str.empty σ H Q) tNil) C E {nx:=fun _ _=>False,rt:=Q} [some (.ref p),some (.int n)] H:=fun c=>by
   have bad:∀H',Same H H'→E (.ref C) none H':=by
    rcases alt with a | a
    ·exact a.2
    ·exact absurd a.1 c
   refine⟨_,rfl,by decide +kernel,_,rfl,n,rfl,Nat.lt_trans nb (by decide +kernel),fun hl=>?_⟩;have l1:(Str.empty++Str.ofString "there is no node " ++ Str.ofString (toString n)).length≤sizeLine:=by
    rw[qeX];have e1:(Str.empty++Str.ofString "there is no node ").length=17:=by decide +kernel
    have e2:3000≤sizeLine:=by decide +kernel
    omega
   exact⟨_,rfl,l1,l1,by show 1≤sizeLine;decide,bad H (Same.refl H)⟩
  refine⟨_,rfl,_,_,rfl,rfl,_,rfl,?_⟩;refine ite2 (fun c0=>?_) (fun c0=>?_)
  rotate_left
  ·refine⟨_,rfl,iteT ?_⟩;exact raised fun z=>c0 (decide_eq_true z.1)
  refine⟨_,rfl,p,_,rfl,.inl (SqL.of hp),_,_,rfl,rfl,_,rfl,?_⟩
  by_cases c:0≤n∧n<ds.length
  rotate_left
  ·have e:decide (n<(((as.map V.ref).length:Nat):Int))=false:=decide_eq_false fun z=>c ⟨of_decide_eq_true c0,by rw[el]at z;exact z⟩
   rw[e];exact iteT (raised c)
  ·rcases alt with a | a
   ·exact absurd c a.1
   obtain⟨_,q⟩:=a;have e:decide (n<(((as.map V.ref).length:Nat):Int))=true:=decide_eq_true (by rw[el];exact c.2);rw[e];refine iteF ?_;refine⟨_,rfl,p,rfl,⟨_,SqL.of hp⟩,qck (fun i ys σ' H'=>Same H H'∧ys=(qbO ds n i).map V.int∧∃a b,σ'=[a,b,some (.int n)]) zl ⟨Same.refl H,rfl,none,none,rfl⟩ ?_ ?_ ?_⟩
   ·rintro i ys σ' H' hi ⟨s1,rfl,_⟩;exact⟨SqL.of (s1 _ _ hp),by rw[List.length_map];exact qdP _ _ _⟩
   ·rintro i x ys σ' H' t hx ht ⟨s1,rfl,a,b,rfl⟩;obtain⟨a',ea,rfl⟩:=qci hx;obtain⟨d,ed,nad⟩:=nd.at ea;obtain⟨m',s',ha',_⟩:=nad.ex;have s2:=s1.trans (qad ht (.tup [.int (i:Nat),.ref a']));refine⟨t,_,rfl,SqT.of qac,rfl,_,_,rfl,_,_,rfl,rfl,?_⟩;refine⟨_,rfl,a',_,_,_,rfl,rfl,SqT.of (s2 _ _ ha'),rfl,_,rfl,rfl,_,rfl,?_⟩
    by_cases he:d.e=n
    ·rw[decide_eq_true (congrArg V.int he)];refine iteT ⟨_,rfl,s2,?_,_,_,rfl⟩;rw[qdd ed he,List.map_append];rfl
    ·rw[decide_eq_false fun z=>he (V.int.inj z)];refine iteF ⟨s2,?_,_,_,rfl⟩;rw[qdZ ed he]
   ·rintro ys σ' H' ⟨s1,rfl,_⟩ D hD;refine q D _ (s1.free hD) (s1.trans (qad hD _)) ?_;rw[qac,List.length_map,lenas]
theorem scLook:FnScope ["looks", "node", "word"] ["looks", "node", "word"] (qag sLook):=⟨rfl,rfl,rfl,by decide +kernel,rfl,by decide +kernel,by decide +kernel⟩
theorem ok_look_at{f a_PROPERTIES:Addr}{fd:FuncData}(F:Fun K "look_at" "look_at" sLook f fd)(g_PROPERTIES:mg "PROPERTIES" = some (.ref a_PROPERTIES))(PT:PropT K a_PROPERTIES):FnOk P w K mg base CX0 1 f fd ["looks", "node", "word"] spLook:=by
 refine F.ok scLook (fun vs H Q E h=>?_) (fun cdv A outer s H vs Q E hr h=>?_)
 ·obtain⟨p,n,j,y,ls,rfl,_⟩:=h;rfl
 ·obtain⟨p,n,j,y,ls,rfl,⟨as,hp,pr⟩,hn,h13,hj,ip,q⟩:=h;obtain⟨o,ho1,ho2,ho3⟩:=PT.ob;refine⟨_,(qaf (qat (qaj ix_list (qaj ix_list (pv 0) (pv 1) (fun _ _=>rfl)) (qb6 PySem.F.plainAttrs_tuple PySem.F.slot_tuple_index PySem.F.type_tuple_index mt_index (qaD (v:=.ref a_PROPERTIES) (by rfl) g_PROPERTIES rfl) (qaa (pv 2) pa_nil)) (fun _ _=>rfl)))),?_⟩;obtain⟨a,ea,ha⟩:=pget pr (List.getElem?_eq_getElem hn);have l13:=h13 _ (List.getElem_mem hn);have ej:ls[n][j]?=some (ls[n][j]'(by omega)):=List.getElem?_eq_getElem (by omega);have ev:lkA ls n j=ls[n][j]'(by omega):=by
   unfold lkA;rw[List.getElem?_eq_getElem hn,Option.getD_some,List.getD_eq_getElem?_getD,ej];rfl
  rw[ev]at q;refine⟨_,rfl,_,rfl,p,_,_,_,rfl,rfl,SqL.of hp,qay ea,.inr (.inl ⟨rfl,o,ho1,ho2,ho3⟩),_,rfl,a_PROPERTIES,propNames,y,j,rfl,rfl,PT.tup _,ip.1,ip.2,a,_,_,_,rfl,rfl,SqL.of ha,qa6 (by rw[List.getElem?_map,ej];rfl),q⟩
theorem scFloor:FnScope ["looks", "bounds", "one"] ["looks", "bounds", "one"] (qag sFloor):=⟨rfl,rfl,rfl,by decide +kernel,rfl,by decide +kernel,by decide +kernel⟩
theorem ok_floor_of{f:Addr}{fd:FuncData}(F:Fun K "floor_of" "floor_of" sFloor f fd)(T:BnX mg)(U:NumsS mg)(F_look_at:Fx P w K mg base CX0 1 "look_at" ["looks", "node", "word"] spLook):FnOk P w K mg base CX0 2 f fd ["looks", "bounds", "one"] (spOf qaS):=by
 refine F.ok scFloor (fun vs H Q E h=>?_) (fun cdv A outer s H vs Q E hr h=>?_)
 ·obtain⟨p,L,m,ls,bs,rfl,_⟩:=h;rfl
 ·obtain⟨p,L,m,ls,bs,rfl,lk,⟨as,hL,pr⟩,ml,mb,h13,q⟩:=h;obtain⟨_,g_LOW⟩:=U.low;have hr_look_at:=hr;refine⟨_,(qaf (qat (qal (qbk (by rfl)) (by rfl) T.max b_max (qaa (qaj ix_tup (qaj ix_list (pv 1) (pv 2) (fun _ _=>rfl)) (qaD (v:=.int 0) (by rfl) g_LOW ⟨_,rfl⟩) (fun _ _=>rfl)) (qaa (qan F_look_at hr_look_at (by rfl) qao (qaa (pv 0) (qaa (pv 2) (qaa qau pa_nil)))) pa_nil))))),?_⟩;obtain⟨a,ea,ha⟩:=pget pr (qbw mb);refine⟨_,rfl,_,rfl,L,_,_,_,rfl,rfl,SqL.of hL,qay ea,a,_,_,_,rfl,rfl,SqT.of ha,rfl,_,rfl,_,rfl,p,m,5,_,ls,rfl,lk,ml,h13,by decide,least_is,_,_,rfl,?_⟩;rw[max2];exact q
theorem scRoof:FnScope ["looks", "bounds", "one"] ["looks", "bounds", "one"] (qag sRoof):=⟨rfl,rfl,rfl,by decide +kernel,rfl,by decide +kernel,by decide +kernel⟩
theorem ok_roof_of{f:Addr}{fd:FuncData}(F:Fun K "roof_of" "roof_of" sRoof f fd)(T:BnX mg)(F_look_at:Fx P w K mg base CX0 1 "look_at" ["looks", "node", "word"] spLook)(F_floor_of:Fx P w K mg base CX0 2 "floor_of" ["looks", "bounds", "one"] (spOf qaS)):FnOk P w K mg base CX0 3 f fd ["looks", "bounds", "one"] (spOf qbC):=by
 refine F.ok scRoof (fun vs H Q E h=>?_) (fun cdv A outer s H vs Q E hr h=>?_)
 ·obtain⟨p,L,m,ls,bs,rfl,_⟩:=h;rfl
 ·obtain⟨p,L,m,ls,bs,rfl,lk,lb,ml,mb,h13,q⟩:=h;have hr_look_at:Room 1 _:=hr.mono (by decide);have hr_floor_of:=hr;refine⟨_,(qaf (qat (qal (qbk (by rfl)) (by rfl) T.max b_max (qaa (qan F_look_at hr_look_at (by rfl) qao (qaa (pv 0) (qaa (pv 2) (qaa qau pa_nil)))) (qaa (qan F_floor_of hr_floor_of (by rfl) qao (qaa (pv 0) (qaa (pv 1) (qaa (pv 2) pa_nil)))) pa_nil))))),?_⟩;refine⟨_,rfl,_,rfl,p,m,6,_,ls,rfl,lk,ml,h13,by decide,most_is,_,rfl,_,rfl,_,rfl,p,L,m,ls,bs,rfl,lk,lb,ml,mb,h13,_,_,rfl,?_⟩;rw[max2];exact q
end
end K22
namespace K22
open PySem L2 Bk Gen Gd
abbrev sSpots:Stmt:=top 23
abbrev sFirst:Stmt:=top 22
abbrev sPlaces:Stmt:=top 21
section
variable{P:Program}{w:World}{K:PySem.W.Frag}{mg:Str→Option Value}{base:Heap}
theorem scSpots:FnScope ["place", "spots", "row"] ["place"] (qag sSpots):=⟨rfl,rfl,rfl,by decide +kernel,rfl,by decide +kernel,by decide +kernel⟩
theorem ok_spots_of{f:Addr}{fd:FuncData}(F:Fun K "spots_of" "spots_of" sSpots f fd)(T:BnG mg)(U:NumsG mg):FnOk P w K mg base CX0 1 f fd ["place"] spSpots:=by
 refine F.ok scSpots (fun vs H Q E h=>?_) (fun cdv A outer s H vs Q E hr h=>?_)
 ·obtain⟨t,p,rfl,_⟩:=h;rfl
 ·obtain⟨t,p,rfl,ht,d4,s6,r0,c0,q⟩:=h;obtain⟨_,g_ROW⟩:=U.row;obtain⟨_,g_COLUMN⟩:=U.column;obtain⟨_,g_SPAN⟩:=U.span;obtain⟨_,g_DEEP⟩:=U.deep;refine⟨_,(qab (qah (i:=1) scSpots.nd (by rfl) (by trivial) (qaB pa_nil))
   (qab (qaR PassesOwn.never (by rfl) (qbQ (by rfl) T.range (qaa (qaj ix_tup (pv 0) (qaD (v:=.int 0) (by rfl) g_ROW ⟨_,rfl⟩) (fun _ _=>rfl)) (qaa (qas op_add (qaj ix_tup (pv 0) (qaD (v:=.int 0) (by rfl) g_ROW ⟨_,rfl⟩) (fun _ _=>rfl)) (qaj ix_tup (pv 0) (qaD (v:=.int 3) (by rfl) g_DEEP ⟨_,rfl⟩) (fun _ _=>rfl))) pa_nil))) (qai (i:=2) scSpots.nd (by rfl) (by trivial))
   (qaf (qaP (qb6 PySem.F.plainAttrs_list PySem.F.slot_list_extend PySem.F.type_list_extend mt_extend (pv 1) (qaa (qaI (own:=["column"]) (by rfl) (ix:=[2]) (frees:=["row"]) (CompScope.frees (by rfl) (by decide +kernel) (by decide +kernel) (by decide +kernel) (by rfl) (by decide +kernel) (by first | exact qbc (by rfl) | exact qa9 (by rfl) (by rfl))) (qbQ (by rfl) T.range (qaa (qaj ix_tup (pv 0) (qaD (v:=.int 1) (by rfl) g_COLUMN ⟨_,rfl⟩) (fun _ _=>rfl)) (qaa (qas op_add (qaj ix_tup (pv 0) (qaD (v:=.int 1) (by rfl) g_COLUMN ⟨_,rfl⟩) (fun _ _=>rfl)) (qaj ix_tup (pv 0) (qaD (v:=.int 2) (by rfl) g_SPAN ⟨_,rfl⟩) (fun _ _=>rfl))) pa_nil))) (fun cl C s2 H2 fp=>(qai (i:=0) (by show(["column", "row"]:List Str).Nodup;decide +kernel) (by rfl) (by trivial) (by trivial))) (fun cl C s2 H2 fp=>qaG) (fun cl C s2 H2 fp=>(qaO (qaa (pv 1) (qaa (pv 0) pa_nil))))) pa_nil)))))
   (qaf (qat (pv 1))))),?_⟩
  refine⟨by show 0≤sizeLine;decide,fun L hL=>?_⟩;have s1:=qad hL (.lst []);have t1:=s1 _ _ ht;refine⟨_,rfl,t,_,_,_,rfl,rfl,SqT.of t1,rfl,_,rfl,t,_,_,_,rfl,rfl,SqT.of t1,rfl,_,rfl,t,_,_,_,rfl,rfl,SqT.of t1,rfl,_,_,rfl,rfl,_,_,rfl,⟨by omega,by omega,by omega,by omega⟩,qaN (fun i σ H'=>Same H H'∧(∃z,σ=[some (.ref t),some (.ref L),z])∧LstAt TupAt H' L (qbn p i)) ⟨s1,⟨none,rfl⟩,[],qac,.nil⟩ ?_ ?_⟩
  ·rintro i σ H' hi ⟨s2,⟨z,rfl⟩,as,hL2,pr⟩;have hi':i<p.d:=by omega
   have t2:=s2 _ _ ht;have l1:=Paired.length pr;have l3:=qbs (p:=p) (n:=i) (by omega) s6;refine⟨_,rfl,.inl ⟨rfl,_,SqL.of hL2⟩,_,rfl,t,_,_,_,rfl,rfl,SqT.of t2,rfl,_,rfl,t,_,_,_,rfl,rfl,SqT.of t2,rfl,_,rfl,t,_,_,_,rfl,rfl,SqT.of t2,rfl,_,_,rfl,rfl,_,_,rfl,⟨by omega,by omega,by omega,by omega⟩,qa7 (fun j ys σ' H3=>Same H' H3∧(∃z,σ'=[z,some (.int ((p.r:Int)+i))])∧∃bs,ys=bs.map V.ref∧Paired (TupAt H3) bs ((qbp p i).take j)) (qak (by omega)) ⟨Same.refl _,⟨none,rfl⟩,[],rfl,.nil⟩ ?_ ?_ ?_⟩
   ·rintro j ys σ' H3 hj ⟨s3,_,bs,rfl,pr3⟩;rw[List.length_map,Paired.length pr3,List.length_take];exact Nat.min_le_left _ _
   ·rintro j ys σ' H3 hj ⟨s3,⟨z,rfl⟩,bs,rfl,pr3⟩;have hj':j<p.s:=by omega
    refine⟨_,rfl,_,rfl,by show 2≤sizeLine;decide,fun t' ht'=>?_⟩;have s4:=qad ht' (.tup [.int ((p.r:Int)+i),.int ((p.c:Int)+j)]);refine⟨s3.trans s4,⟨_,rfl⟩,bs++[t'],by rw[List.map_append];rfl,?_⟩;have e:(qbp p i)[j]?=some (p.r+i,p.c+j):=by simp[qbp,hj']
    rw[List.take_succ,e];exact(qbD (.of s4) pr3).snoc qac
   ·rintro ys σ' H3 ⟨s3,⟨z,rfl⟩,bs,rfl,pr3⟩ D hD;rw[List.take_of_length_le (by rw[qbV];omega)]at pr3;have l2:=Paired.length pr3;rw[qbV]at l2;have s4:=qad hD (.lst (bs.map V.ref));have hL3:=s4 _ _ (s3 _ _ hL2);refine⟨L,D,_,_,rfl,rfl,hL3,qac,by rw[List.length_map,List.length_map];exact Nat.le_of_lt (qak (by omega)),?_⟩;have tt:=Tups.lst (o:=.lst (as.map V.ref++bs.map V.ref)) hL3;refine⟨qbq ((s2.trans s3).trans s4) hL,⟨_,rfl⟩,as++bs,by rw[qac,List.map_append],?_⟩;rw[qb0];exact qb3 (qbD ((Tups.of (s3.trans s4)).trans tt) pr) (qbD ((Tups.of s4).trans tt) pr3)
  ·rintro σ H' ⟨s2,⟨z,rfl⟩,la⟩;have en:((p.r:Int)+p.d-p.r).toNat=p.d:=by omega
   rw[en]at la;exact⟨_,rfl,q L H' hL s2 la⟩
theorem scFirst:FnScope ["columns", "taken", "span", "deep", "row", "column", "place"] ["columns", "taken", "span", "deep"] (qag sFirst):=⟨rfl,rfl,rfl,by decide +kernel,rfl,by decide +kernel,by decide +kernel⟩
theorem ok_first_place{f:Addr}{fd:FuncData}(F:Fun K "first_place" "first_place" sFirst f fd)(T:BnG mg)(F_spots_of:Fx P w K mg base CX0 1 "spots_of" ["place"] spSpots):FnOk P w K mg base CX0 2 f fd ["columns", "taken", "span", "deep"] spFirst:=by
 refine F.ok scFirst (fun vs H Q E h=>?_) (fun cdv A outer s H vs Q E hr h=>?_)
 ·obtain⟨tk,cols,sp,d,n,ps,rfl,_⟩:=h;rfl
 ·obtain⟨tk,cols,sp,d,n,ps,rfl,⟨kvs,htk,hkl,hv⟩,ok,pl,s1,s2,c6,d1,d4,q⟩:=h;have hr_spots_of:=hr;have hu1:=qf6 hr;refine⟨_,(qab (qah (i:=4) scFirst.nd (by rfl) (by trivial) qae)
   (qaf (qcM PassesOwn.never (qbX qb1) (qab (qaR PassesOwn.never (by rfl) (qaH (by rfl) T.range (qaa (qas op_add (qas op_sub (pv 0) (pv 2)) qae) pa_nil)) (qai (i:=5) scFirst.nd (by rfl) (by trivial))
   (qab (qah (i:=6) scFirst.nd (by rfl) (by trivial) (qaO (qaa (pv 4) (qaa (pv 5) (qaa (pv 2) (qaa (pv 3) pa_nil))))))
   (qaf (qaM (qca (qbX (qal (call_any (by rfl)) (by rfl) T.any b_any (qaa (qaI (own:=["spot"]) (by rfl) (ix:=[1]) (frees:=["taken"]) (CompScope.frees (by rfl) (by decide +kernel) (by decide +kernel) (by decide +kernel) (by rfl) (by decide +kernel) (by first | exact qbc (by rfl) | exact qa9 (by rfl) (by rfl))) (qaE (qan F_spots_of hr_spots_of (by rfl) qao (qaa (pv 6) pa_nil))) (fun cl C s2 H2 fp=>(qai (i:=0) (by show(["spot", "taken"]:List Str).Nodup;decide +kernel) (by rfl) (by trivial) (by trivial))) (fun cl C s2 H2 fp=>qaG) (fun cl C s2 H2 fp=>(pe_cmp (pc_din hu1 (pv 0) (pv 1))))) pa_nil)))) (qaf (qat (pv 6))) pss_nil))))
   (qaf (qeU (i:=4) scFirst.nd (by rfl) (by trivial) qae ip_add)))))),?_⟩
  refine⟨fun m σ H'=>Same H H'∧∃(r:Nat) (z1 z2:Option V),σ=[some (.int cols),some (.ref tk),some (.int sp),some (.int d),some (.int r),z1,z2]∧r≤4*ps.length∧m=4*ps.length-r∧(∀r',r'<r→∀c,c+sp≤cols→free ps ⟨r',c,sp,d⟩=false),⟨_,Same.refl H,0,none,none,rfl,Nat.zero_le _,rfl,fun _ h=>absurd h (Nat.not_lt_zero _)⟩,?_⟩;rintro m σ H' ⟨sm,r,z1,z2,rfl,rl,rfl,nr⟩;refine⟨_,rfl,iteT ⟨fun σ' H''=>Same H H''∧∃(z1 z2:Option V),σ'=[some (.int cols),some (.ref tk),some (.int sp),some (.int d),some (.int ((r+1:Nat):Int)),z1,z2]∧r+1≤4*ps.length∧(∀r',r'<r+1→∀c,c+sp≤cols→free ps ⟨r',c,sp,d⟩=false),?_,?_⟩⟩
  ·rintro σ' H'' ⟨s3,z1,z2,rfl,rl',nr'⟩;exact⟨4*ps.length-(r+1),by omega,s3,r+1,z1,z2,rfl,rl',rfl,nr'⟩
  refine⟨_,rfl,_,rfl,_,_,rfl,rfl,_,_,rfl,rfl,_,rfl,by omega,by omega,qaN (fun k σ H2=>Same H H2∧(∃(z1 z2:Option V),σ=[some (.int cols),some (.ref tk),some (.int sp),some (.int d),some (.int r),z1,z2])∧∀c,c<k→free ps ⟨r,c,sp,d⟩=false) ⟨sm,⟨_,_,rfl⟩,fun _ h=>absurd h (Nat.not_lt_zero _)⟩ ?_ ?_⟩
  ·rintro k σ H2 hk ⟨sH,⟨y1,y2,rfl⟩,nc⟩;have hk':k+sp≤cols:=by omega
   rw[show(0:Int)+(k:Int)=(k:Int)from Int.zero_add _];refine⟨_,rfl,_,rfl,_,rfl,_,rfl,by show 4≤sizeLine;decide,fun t ht=>?_⟩;have sT:=qad ht (.tup [.int r,.int k,.int sp,.int d]);have hT:PlAt (upd H2 t (.tup [.int r,.int k,.int sp,.int d])) t ⟨r,k,sp,d⟩:=qac;generalize upd H2 t (.tup [.int r,.int k,.int sp,.int d])=H3 at sT hT⊢;refine⟨_,rfl,t,⟨r,k,sp,d⟩,rfl,hT,d4,by show sp≤6;omega,by show r≤1000;omega,by show k≤1000;omega,fun L H4 hL s4 la=>?_⟩;obtain⟨as,hL4,pr⟩:=la;have s34:=sT.trans s4;have sH4:=sH.trans s34;have tk4:=sH4 _ _ htk;have le:=qbs (p:=⟨r,k,sp,d⟩) (n:=d) d4 (by show sp≤6;omega);have l1:as.length=(qbn ⟨r,k,sp,d⟩ d).length:=Paired.length pr;refine⟨L,rfl,⟨_,SqL.of hL4⟩,qaF (xs:=as.map V.ref) (fun i ys σ' H5=>H5=H4∧ys=(((spots ⟨r,k,sp,d⟩).take i).map fun x=>V.bl (ps.any fun p=>cov p x))∧∃z,σ'=[z,some (.ref tk)]) (by rw[List.length_map];exact qak (by omega)) ⟨rfl,rfl,none,rfl⟩ ?_ ?_ ?_⟩
   ·rintro i ys σ' H5 hi ⟨rfl,rfl,_⟩;refine⟨SqL.of hL4,?_⟩;rw[List.length_map,List.length_take];exact Nat.min_le_left _ _
   ·rintro i y ys σ' H5 hy ⟨rfl,rfl,z,rfl⟩;obtain⟨b,eb,rfl⟩:=qci hy;obtain⟨x,ex,hb⟩:=qbM pr eb;refine⟨_,rfl,_,rfl,tk,_,rfl,DGet.t (k:=[.inl x.1,.inl x.2]) tk4 hb,?_⟩;refine⟨rfl,?_,_,rfl⟩;rw[List.take_succ,ex,List.map_append,hv];rfl
   ·rintro ys σ' H5 ⟨rfl,rfl,_⟩ D hD;have el:(((spots ⟨r,k,sp,d⟩).take (as.map V.ref).length).map fun x=>V.bl (ps.any fun p=>cov p x))=((spots ⟨r,k,sp,d⟩).map fun x=>ps.any fun p=>cov p x).map V.bl:=by
     rw[List.take_of_length_le (by rw[List.length_map];exact Nat.le_of_eq l1.symm),List.map_map];rfl
    rw[el];have sD:=qad hD (.lst (((spots ⟨r,k,sp,d⟩).map fun x=>ps.any fun p=>cov p x).map V.bl));have hDD:upd H5 D (.lst (((spots ⟨r,k,sp,d⟩).map fun x=>ps.any fun p=>cov p x).map V.bl)) D=some (.lst (((spots ⟨r,k,sp,d⟩).map fun x=>ps.any fun p=>cov p x).map V.bl)):=qac;generalize upd H5 D (.lst (((spots ⟨r,k,sp,d⟩).map fun x=>ps.any fun p=>cov p x).map V.bl))=H6 at sD hDD⊢;have ea:((spots ⟨r,k,sp,d⟩).map fun x=>ps.any fun p=>cov p x).any id=!free ps ⟨r,k,sp,d⟩:=by
     rw[List.any_map];exact qd2 ok.one s1 d1
    refine⟨D,_,rfl,SqL.of hDD,_,rfl,?_⟩;rw[ea];cases hf:free ps ⟨r,k,sp,d⟩with
    | true =>
      refine iteT ⟨_,rfl,?_⟩
      exact q t _ ⟨r,k,sp,d⟩ ⟨rfl,rfl,hk',hf,nc,nr⟩ ((s4.trans sD) _ _ hT) (sH4.trans sD)
    | false =>
      refine iteF ⟨sH4.trans sD,⟨_,_,rfl⟩,fun c hc=>?_⟩
      rcases Nat.lt_succ_iff_lt_or_eq.mp hc with h | h
      · exact nc c h
      · rw[h];exact hf
  ·rintro σ H2 ⟨sH,⟨y1,y2,rfl⟩,nc⟩;have nall:∀c,c+sp≤cols→free ps ⟨r,c,sp,d⟩=false:=fun c hc=>nc c (by omega)
   have rl':r+1≤4*ps.length:=by
    refine Nat.lt_of_le_of_ne rl fun z=>?_
    have:=nall 0 (by omega);rw[qdz ok (by omega)]at this;cases this
   refine⟨_,rfl,_,_,rfl,rfl,?_⟩;refine⟨sH,_,_,rfl,rl',fun r' hr' c hc=>?_⟩;rcases Nat.lt_succ_iff_lt_or_eq.mp hr' with h | h
   ·exact nr r' h c hc
   ·rw[h];exact nall c hc
theorem scPlaces:FnScope ["columns", "cells", "places", "taken", "span", "deep", "place", "spot"] ["columns", "cells"] (qag sPlaces):=⟨rfl,rfl,rfl,by decide +kernel,rfl,by decide +kernel,by decide +kernel⟩
theorem ok_grid_places{f:Addr}{fd:FuncData}(F:Fun K "grid_places" "grid_places" sPlaces f fd)(T:BnG mg)(F_spots_of:Fx P w K mg base CX0 1 "spots_of" ["place"] spSpots)(F_first_place:Fx P w K mg base CX0 2 "first_place" ["columns", "taken", "span", "deep"] spFirst):FnOk P w K mg base CX0 3 f fd ["columns", "cells"] spPlaces:=by
 refine F.ok scPlaces (fun vs H Q E h=>?_) (fun cdv A outer s H vs Q E hr h=>?_)
 ·obtain⟨cl,cols,cs,rfl,_⟩:=h;rfl
 ·obtain⟨cl,cols,cs,rfl,⟨as,hcl,pr⟩,cok,c20,c1,c6,q⟩:=h;have hr_spots_of:Room 1 _:=hr.mono (by decide);have hr_first_place:=hr;have hu1:=qf6 hr;refine⟨_,(qab (qah (i:=2) scPlaces.nd (by rfl) (by trivial) (qaB pa_nil))
   (qab (qah (i:=3) scPlaces.nd (by rfl) (by trivial) pe_dnewT)
   (qab (qaR PassesOwn.never (by rfl) (qaE (pv 1)) (qcD (by rfl) (qax (qai (i:=4) scPlaces.nd (by rfl) (by trivial)) (qax (qai (i:=5) scPlaces.nd (by rfl) (by trivial)) pgs_nil)))
   (qab (qah (i:=6) scPlaces.nd (by rfl) (by trivial) (qan F_first_place hr_first_place (by rfl) qao (qaa (pv 0) (qaa (pv 3) (qaa (qal (qbG (by rfl)) (by rfl) T.min b_min (qaa (pv 4) (qaa (pv 0) pa_nil))) (qaa (pv 5) pa_nil))))))
   (qab (qaP (qb6 PySem.F.plainAttrs_list PySem.F.slot_list_append PySem.F.type_list_append mt_append (pv 2) (qaa (pv 6) pa_nil)))
   (qaf (qaR PassesOwn.never (by rfl) (qaE (qan F_spots_of hr_spots_of (by rfl) qao (qaa (pv 6) pa_nil))) (qai (i:=7) scPlaces.nd (by rfl) (by trivial))
   (qaf (ps_dput hu1 (pv 3) (pv 7) qb1 (by rfl))))))))
   (qaf (qat (pv 2)))))),?_⟩
  refine⟨by show 0≤sizeLine;decide,fun L hL=>?_⟩;have sL:=qad hL (.lst []);have hLL:upd H L (.lst []) L=some (.lst (([]:List Addr).map V.ref)):=qac;generalize upd H L (.lst [])=H1 at sL hLL⊢;intro D hD;have sD:=qad hD (.dT []);have hDD:upd H1 D (.dT []) D=some (.dT []):=qac;have hLD:=sD _ _ hLL;have DL:D≠L:=fun z=>by rw[z,hLL]at hD;cases hD
  have hD0:H D=none:=sL.free hD;have s1:=sL.trans sD;generalize upd H1 D (.dT [])=H2 at sD hDD hLD s1⊢;have l0:as.length=cs.length:=Paired.length pr;refine⟨_,rfl,cl,rfl,⟨_,SqL.of (s1 _ _ hcl)⟩,qbj (xs:=as.map V.ref) (fun i σ H'=>Same H H'∧(∃z4 z5 z6 z7,σ=[some (.int cols),some (.ref cl),some (.ref L),some (.ref D),z4,z5,z6,z7])∧∃ps,LstAt PlAt H' L ps∧Tk H' D ps (24*i)∧Placed cols (cs.take i) ps∧PsOk cols ps∧ps.length=i) ⟨s1,⟨none,none,none,none,rfl⟩,[],⟨[],hLD,.nil⟩,⟨[],hDD,Nat.le_refl _,fun _=>rfl⟩,.nil,(fun p hp=>nomatch hp),rfl⟩ ?_ ?_ ?_⟩
  ·rintro i σ H' hi ⟨s2,_⟩;exact SqL.of (s2 _ _ hcl)
  ·rintro i y σ H' hy ⟨s2,⟨z4,z5,z6,z7,rfl⟩,ps,⟨bs,hLb,pb⟩,tk,pd,ok,pl⟩;obtain⟨b,eb,rfl⟩:=qci hy;obtain⟨x,ex,hb⟩:=qbM pr eb;obtain⟨x1,x2,x3,x4⟩:=cok x (List.mem_of_getElem? ex);have hi:i<cs.length:=(List.getElem?_eq_some_iff.mp ex).1;have hb2:=s2 _ _ hb;refine⟨b,_,rfl,SqT.of hb2,rfl,_,_,rfl,_,_,rfl,rfl,?_⟩;refine⟨_,rfl,_,rfl,_,rfl,_,rfl,_,_,rfl,_,rfl,?_⟩;have em:(if(cols:Int)<(x.1:Int)then(cols:Int)else(x.1:Int))=((min x.1 cols:Nat):Int):=by
    by_cases z:cols<x.1
    ·rw[if_pos (by omega),Nat.min_eq_right (by omega)]
    ·rw[if_neg (by omega),Nat.min_eq_left (by omega)]
   refine⟨D,cols,min x.1 cols,x.2,24*i,ps,by show[V.int cols,V.ref D,V.int (if(cols:Int)<(x.1:Int)then(cols:Int)else(x.1:Int)),V.int x.2]=_;rw[em],tk,ok,by omega,by omega,by omega,c6,x3,x4,fun t H3 pq fq hq s3=>?_⟩;have hL3:=s3 _ _ hLb;have lb:=Paired.length pb;refine⟨_,rfl,.inl ⟨rfl,_,SqL.of hL3⟩,_,rfl,L,_,_,rfl,rfl,hL3,qak (by rw[List.length_map];omega),?_⟩;have tL:=Tups.lst (o:=.lst (bs.map V.ref++[.ref t])) hL3;have hq4:PlAt (upd H3 L (.lst (bs.map V.ref++[.ref t]))) t pq:=hq.keep tL;have hL4:upd H3 L (.lst (bs.map V.ref++[.ref t])) L=some (.lst ((bs++[t]).map V.ref)):=by rw[qac,List.map_append];rfl
   have pb4:Paired (PlAt (upd H3 L (.lst (bs.map V.ref++[.ref t])))) (bs++[t]) (ps++[pq]):=(qeE ((Tups.of s3).trans tL) pb).snoc hq4;obtain⟨kvs,hkv,hkl,hv⟩:=tk;have hD4:upd H3 L (.lst (bs.map V.ref++[.ref t])) D=some (.dT kvs):=by rw[qap DL];exact s3 _ _ hkv
   have s4:Same H (upd H3 L (.lst (bs.map V.ref++[.ref t]))):=qbq (s2.trans s3) hL;generalize upd H3 L (.lst (bs.map V.ref++[.ref t]))=H4 at hq4 hL4 pb4 hD4 s4⊢;have qr:=fq.row ok (by omega);have qs:=fq.es;have qd:=fq.ed;have qc:=fq.ec;refine⟨_,rfl,t,pq,rfl,hq4,by omega,by omega,by omega,by omega,fun S H5 hS s5 la=>?_⟩;obtain⟨ss,hSS,ps5⟩:=la;have SD:S≠D:=fun z=>by rw[z,hD4]at hS;cases hS
   have ls:ss.length=(spots pq).length:=Paired.length ps5;have le:=qbs (p:=pq) (n:=pq.d) (by omega) (by omega);have le':(spots pq).length≤24:=le;refine⟨S,rfl,⟨_,SqL.of hSS⟩,qbj (xs:=ss.map V.ref) (fun j σ H6=>Same H H6∧(∃z4 z5 z6 z7,σ=[some (.int cols),some (.ref cl),some (.ref L),some (.ref D),z4,z5,z6,z7])∧H6 L=some (.lst ((bs++[t]).map V.ref))∧Tups H5 H6∧H6 S=some (.lst (ss.map V.ref))∧∃kvs,H6 D=some (.dT kvs)∧kvs.length≤24*i+j∧∀x:Nat×Nat,(valV kvs [.inl x.1,.inl x.2]).isSome=((ps.any fun p=>cov p x) || decide (x∈(spots pq).take j))) ⟨s4.trans s5,⟨_,_,_,_,rfl⟩,s5 _ _ hL4,(fun _ _ e=>e),hSS,kvs,s5 _ _ hD4,hkl,fun x=>by rw[hv];simp⟩ ?_ ?_ ?_⟩
   ·rintro j σ H6 hj ⟨_,_,_,_,h6,_⟩;exact SqL.of h6
   ·rintro j y σ H6 hy ⟨s6,⟨y4,y5,y6,y7,rfl⟩,hL6,t6,hS6,kv6,hD6,hl6,hv6⟩;obtain⟨b',eb',rfl⟩:=qci hy;obtain⟨x',ex',hb'⟩:=qbM ps5 eb';have hj:j<ss.length:=(List.getElem?_eq_some_iff.mp eb').1;have hb6:TupAt H6 b' x':=t6 _ _ hb';refine⟨_,rfl,_,rfl,D,_,rfl,DPut.t (k:=[.inl x'.1,.inl x'.2]) hD6 hb6 (Nat.lt_of_le_of_lt (show _≤3000 by omega) (by show 3000<sizeLine;decide)),?_⟩;refine⟨qbq s6 hD0,⟨_,_,_,_,rfl⟩,by rw[qap (Ne.symm DL)];exact hL6,t6.trans (Tups.dct hD6),by rw[qap SD];exact hS6,_,qac,by have:=qcf kv6 [Sum.inl (x'.1:Int),Sum.inl (x'.2:Int)] (V.bl true);omega,fun z=>?_⟩;rw[valV_put,List.take_succ,ex']
    by_cases e:z=x'
    ·subst e;simp
    ·have ne:¬([Sum.inl (z.1:Int),Sum.inl (z.2:Int)]:List Key)=[Sum.inl (x'.1:Int),Sum.inl (x'.2:Int)]:=fun h=>e (by
      have h1:=(List.cons.inj h).1;have h2:=(List.cons.inj (List.cons.inj h).2).1;have h3:=Sum.inl.inj h1;have h4:=Sum.inl.inj h2;exact Prod.ext (by omega) (by omega))
     rw[if_neg ne,hv6];simp[e]
   ·rintro σ H6 ⟨s6,⟨y4,y5,y6,y7,rfl⟩,hL6,t6,hS6,kv6,hD6,hl6,hv6⟩;refine⟨s6,⟨_,_,_,_,rfl⟩,ps++[pq],⟨bs++[t],hL6,qeE ((Tups.of s5).trans t6) pb4⟩,⟨kv6,hD6,by rw[List.length_map]at hl6;omega,fun z=>?_⟩,?_,ok.snoc fq (by omega) (by omega) c6 x3 x4,by rw[List.length_append,pl];rfl⟩
    ·rw[hv6,List.take_of_length_le (by rw[List.length_map];omega),List.any_append,List.any_cons,List.any_nil,Bool.or_false]
     congr 1
     rw[Bool.eq_iff_iff,decide_eq_true_iff];exact mem_spots
    ·rw[List.take_succ,ex];exact pd.snoc fq
  ·rintro σ H' ⟨s2,⟨z4,z5,z6,z7,rfl⟩,ps,lp,tk,pd,ok,pl⟩;rw[List.take_of_length_le (by rw[List.length_map];omega)]at pd;exact⟨_,rfl,q L H' ps hL s2 lp pd ok⟩
end
end K22
namespace K22
open PySem L2 Bk Gen Gd Bd Shr Sp0
abbrev sCellsOf:Stmt:=top 20
abbrev sRoom:Stmt:=top 39
abbrev sFloors:Stmt:=top 40
abbrev sRoofs:Stmt:=top 41
abbrev sWts:Stmt:=top 42
abbrev sBehind:Stmt:=top 43
abbrev sEven:Stmt:=top 45
abbrev sCellSp:Stmt:=top 44
abbrev sAside:Stmt:=top 46
section
variable{P:Program}{w:World}{K:PySem.W.Frag}{mg:Str→Option Value}{base:Heap}
theorem scCellsOf:FnScope ["looks", "held"] ["looks", "held"] (qag sCellsOf):=⟨rfl,rfl,rfl,by decide +kernel,rfl,by decide +kernel,by decide +kernel⟩
theorem ok_cells_of{fn:Addr}{fd:FuncData}(F:Fun K "cells_of" "cells_of" sCellsOf fn fd)(F_look_at:Fx P w K mg base CX0 1 "look_at" ["looks", "node", "word"] spLook):FnOk P w K mg base CX0 2 fn fd ["looks", "held"] spCellsOf:=by
 refine F.ok scCellsOf (fun vs H Q E h=>?_) (fun cdv A outer s H vs Q E hr h=>?_)
 ·obtain⟨p,k,ks,ls,rfl,_⟩:=h;rfl
 ·obtain⟨p,k,ks,ls,rfl,lk,hk,l100,kin,lok,q⟩:=h;have hr_look_at:=hr;refine⟨_,(qaf (qat (qaI (own:=["one"]) (by rfl) (ix:=[0]) (frees:=["looks"]) (CompScope.frees (by rfl) (by decide +kernel) (by decide +kernel) (by decide +kernel) (by rfl) (by decide +kernel) (by first | exact qbc (by rfl) | exact qa9 (by rfl) (by rfl))) (qaE (pv 1)) (fun cl C s2 H2 fp=>(qai (i:=0) (by show(["one", "looks"]:List Str).Nodup;decide +kernel) (by rfl) (by trivial) (by trivial))) (fun cl C s2 H2 fp=>qaG) (fun cl C s2 H2 fp=>(qaO (qaa (qan F_look_at hr_look_at (by rfl) qao (qaa (pv 1) (qaa (pv 0) (qaa qau pa_nil)))) (qaa (qan F_look_at hr_look_at (by rfl) qao (qaa (pv 1) (qaa (pv 0) (qaa qau pa_nil)))) pa_nil))))))),?_⟩;refine⟨_,rfl,k,rfl,⟨_,SqL.of hk⟩,qaF (xs:=(ks.map fun(j:Nat)=>(j:Int)).map V.int) (fun i ys σ' H'=>Same H H'∧(∃z,σ'=[z,some (.ref p)])∧∃as,ys=as.map V.ref∧Paired (TupAt H') as ((qbH ls ks).take i)) (by rw[List.length_map,List.length_map];exact qak (by omega)) ⟨Same.refl H,⟨none,rfl⟩,[],rfl,.nil⟩ ?_ ?_ ?_⟩
  ·rintro i ys σ' H' hi ⟨s1,_,as,rfl,pr⟩;refine⟨SqL.of (s1 _ _ hk),?_⟩;rw[List.length_map,Paired.length pr,List.length_take];exact Nat.min_le_left _ _
  ·rintro i y ys σ' H' hy ⟨s1,⟨z,rfl⟩,as,rfl,pr⟩;obtain⟨m,em,rfl⟩:=qb7 hy;have hm:=kin m (List.mem_of_getElem? em);have l13:∀l∈ls,l.length=13:=fun l h=>(lok l h).len
   have lo:=lok _ (List.getElem_mem hm);have lv:∀i,lkA ls m i=ls[m].getD i 0:=fun i=>by unfold lkA;rw[List.getElem?_eq_getElem hm];rfl
   have b1:=lo.span;have b2:=lo.deep;rw[←lv]at b1 b2;refine⟨_,rfl,_,rfl,p,m,8,_,ls,rfl,qaA s1 lk,hm,l13,by decide,span_is,_,rfl,_,rfl,p,m,9,_,ls,rfl,qaA s1 lk,hm,l13,by decide,deep_is,by show 2≤sizeLine;decide,fun t ht=>?_⟩;have s2:=qad ht (.tup [.int (lkA ls m 8),.int (lkA ls m 9)]);refine⟨s1.trans s2,⟨_,rfl⟩,as++[t],by rw[List.map_append];rfl,?_⟩;have ec:(qbH ls ks)[i]?=some ((lkA ls m 8).toNat,(lkA ls m 9).toNat):=by unfold qbH;rw[List.getElem?_map,em];rfl
   rw[List.take_succ,ec];refine(qbD (.of s2) pr).snoc ?_;show upd H' t _ t=some (.tup [.int (((lkA ls m 8).toNat:Nat):Int),.int (((lkA ls m 9).toNat:Nat):Int)]);rw[qac,Int.toNat_of_nonneg (by omega),Int.toNat_of_nonneg (by omega)]
  ·rintro ys σ' H' ⟨s1,_,as,rfl,pr⟩ D hD;rw[List.take_of_length_le (by rw[qbS,List.length_map,List.length_map];exact Nat.le_refl _)]at pr;exact q D _ (s1.free hD) (s1.trans (qad hD _)) ⟨as,qac,qbD (.of (qad hD _)) pr⟩
theorem scRoom:FnScope ["looks", "spans", "node", "inset"] ["looks", "spans", "node"] (qag sRoom):=⟨rfl,rfl,rfl,by decide +kernel,rfl,by decide +kernel,by decide +kernel⟩
theorem ok_room_of{fn:Addr}{fd:FuncData}(F:Fun K "room_of" "room_of" sRoom fn fd)(T:BnX mg)(U:NumsS mg)(F_look_at:Fx P w K mg base CX0 1 "look_at" ["looks", "node", "word"] spLook):FnOk P w K mg base CX0 2 fn fd ["looks", "spans", "node"] spRoom:=by
 refine F.ok scRoom (fun vs H Q E h=>?_) (fun cdv A outer s H vs Q E hr h=>?_)
 ·obtain⟨p,S,n,ls,sp,rfl,_⟩:=h;rfl
 ·obtain⟨p,S,n,ls,sp,rfl,lk,⟨as,hS,pr⟩,hn,hs,l13,q⟩:=h;obtain⟨_,g_LEFT⟩:=U.left;obtain⟨_,g_WIDE⟩:=U.wide;have hr_look_at:=hr;refine⟨_,(qab (qah (i:=3) scRoom.nd (by rfl) (by trivial) (qan F_look_at hr_look_at (by rfl) qao (qaa (pv 0) (qaa (pv 2) (qaa qau pa_nil)))))
   (qaf (qat (qaO (qaa (qas op_add (qaj ix_tup (qaj ix_list (pv 1) (pv 2) (fun _ _=>rfl)) (qaD (v:=.int 0) (by rfl) g_LEFT ⟨_,rfl⟩) (fun _ _=>rfl)) (pv 3)) (qaa (qal (qbk (by rfl)) (by rfl) T.max b_max (qaa (qas op_sub (qaj ix_tup (qaj ix_list (pv 1) (pv 2) (fun _ _=>rfl)) (qaD (v:=.int 1) (by rfl) g_WIDE ⟨_,rfl⟩) (fun _ _=>rfl)) (qas op_mul qae (pv 3))) (qaa qae pa_nil))) pa_nil)))))),?_⟩
  obtain⟨a,ea,ha⟩:=pget pr (qbw hs);refine⟨_,rfl,_,rfl,p,n,3,_,ls,rfl,lk,hn,l13,by decide,inset_is,?_⟩;refine⟨_,rfl,_,rfl,S,_,_,_,rfl,rfl,SqL.of hS,qay ea,a,_,_,_,rfl,rfl,SqT.of ha,rfl,_,rfl,_,_,rfl,rfl,_,rfl,_,rfl,S,_,_,_,rfl,rfl,SqL.of hS,qay ea,a,_,_,_,rfl,rfl,SqT.of ha,rfl,_,rfl,_,_,rfl,rfl,.inl ⟨by decide,by decide⟩,_,_,rfl,rfl,_,_,rfl,by show 2≤sizeLine;decide,fun t ht=>?_⟩;refine q t _ ht (qad ht _) ?_;show upd H t _ t=_;rw[qac,max2];unfold qbe;rw[show max 0 ((bsA sp n).2-2*lkA ls n 3)=max ((bsA sp n).2-2*lkA ls n 3) 0 by omega]
theorem scFloors:FnScope ["looks", "bounds", "held"] ["looks", "bounds", "held"] (qag sFloors):=⟨rfl,rfl,rfl,by decide +kernel,rfl,by decide +kernel,by decide +kernel⟩
theorem ok_floors_of{fn:Addr}{fd:FuncData}(F:Fun K "floors_of" "floors_of" sFloors fn fd)(F_floor_of:Fx P w K mg base CX0 2 "floor_of" ["looks", "bounds", "one"] (spOf qaS)):FnOk P w K mg base CX0 3 fn fd ["looks", "bounds", "held"] (qeP qaS):=by
 refine F.ok scFloors (fun vs H Q E h=>?_) (fun cdv A outer s H vs Q E hr h=>?_)
 ·obtain⟨p,L,k,ks,ls,bs,rfl,_⟩:=h;rfl
 ·obtain⟨p,L,k,ks,ls,bs,rfl,lk,lb,hk,l100,kin,l13,q⟩:=h;have hr_floor_of:=hr;refine⟨_,(qaf (qat (qaI (own:=["one"]) (by rfl) (ix:=[0,1]) (frees:=["looks", "bounds"]) (CompScope.frees (by rfl) (by decide +kernel) (by decide +kernel) (by decide +kernel) (by rfl) (by decide +kernel) (by first | exact qbc (by rfl) | exact qa9 (by rfl) (by rfl))) (qaE (pv 2)) (fun cl C s2 H2 fp=>(qai (i:=0) (by show(["one", "looks", "bounds"]:List Str).Nodup;decide +kernel) (by rfl) (by trivial) (by trivial))) (fun cl C s2 H2 fp=>qaG) (fun cl C s2 H2 fp=>(qan F_floor_of hr_floor_of (by rfl) qao (qaa (pv 1) (qaa (pv 2) (qaa (pv 0) pa_nil)))))))),?_⟩;refine⟨_,rfl,k,rfl,⟨_,SqL.of hk⟩,qaF (xs:=(ks.map fun(j:Nat)=>(j:Int)).map V.int) (fun i ys σ' H'=>H'=H∧(∃z,σ'=[z,some (.ref p),some (.ref L)])∧ys=((ks.map (qaS ls bs)).take i).map V.int) (by rw[List.length_map,List.length_map];exact qak (by omega)) ⟨rfl,⟨none,rfl⟩,rfl⟩ ?_ ?_ ?_⟩
  ·rintro i ys σ' H' hi ⟨rfl,_,rfl⟩;refine⟨SqL.of hk,?_⟩;rw[List.length_map,List.length_take];exact Nat.min_le_left _ _
  ·rintro i y ys σ' H' hy ⟨rfl,⟨z,rfl⟩,rfl⟩;obtain⟨m,em,rfl⟩:=qb7 hy;obtain⟨m1,m2⟩:=kin m (List.mem_of_getElem? em);refine⟨_,rfl,_,rfl,_,rfl,p,L,m,ls,bs,rfl,lk,lb,m1,m2,l13,rfl,⟨_,rfl⟩,?_⟩;have ec:(ks.map (qaS ls bs))[i]?=some (qaS ls bs m):=by rw[List.getElem?_map,em];rfl
   rw[List.take_succ,ec,List.map_append];rfl
  ·rintro ys σ' H' ⟨rfl,_,rfl⟩ D hD;rw[List.take_of_length_le (by rw[List.length_map,List.length_map,List.length_map];exact Nat.le_refl _)];exact q D _ hD (qad hD _) qac
theorem scRoofs:FnScope ["looks", "bounds", "held"] ["looks", "bounds", "held"] (qag sRoofs):=⟨rfl,rfl,rfl,by decide +kernel,rfl,by decide +kernel,by decide +kernel⟩
theorem ok_roofs_of{fn:Addr}{fd:FuncData}(F:Fun K "roofs_of" "roofs_of" sRoofs fn fd)(F_roof_of:Fx P w K mg base CX0 3 "roof_of" ["looks", "bounds", "one"] (spOf qbC)):FnOk P w K mg base CX0 4 fn fd ["looks", "bounds", "held"] (qeP qbC):=by
 refine F.ok scRoofs (fun vs H Q E h=>?_) (fun cdv A outer s H vs Q E hr h=>?_)
 ·obtain⟨p,L,k,ks,ls,bs,rfl,_⟩:=h;rfl
 ·obtain⟨p,L,k,ks,ls,bs,rfl,lk,lb,hk,l100,kin,l13,q⟩:=h;have hr_roof_of:=hr;refine⟨_,(qaf (qat (qaI (own:=["one"]) (by rfl) (ix:=[0,1]) (frees:=["looks", "bounds"]) (CompScope.frees (by rfl) (by decide +kernel) (by decide +kernel) (by decide +kernel) (by rfl) (by decide +kernel) (by first | exact qbc (by rfl) | exact qa9 (by rfl) (by rfl))) (qaE (pv 2)) (fun cl C s2 H2 fp=>(qai (i:=0) (by show(["one", "looks", "bounds"]:List Str).Nodup;decide +kernel) (by rfl) (by trivial) (by trivial))) (fun cl C s2 H2 fp=>qaG) (fun cl C s2 H2 fp=>(qan F_roof_of hr_roof_of (by rfl) qao (qaa (pv 1) (qaa (pv 2) (qaa (pv 0) pa_nil)))))))),?_⟩;refine⟨_,rfl,k,rfl,⟨_,SqL.of hk⟩,qaF (xs:=(ks.map fun(j:Nat)=>(j:Int)).map V.int) (fun i ys σ' H'=>H'=H∧(∃z,σ'=[z,some (.ref p),some (.ref L)])∧ys=((ks.map (qbC ls bs)).take i).map V.int) (by rw[List.length_map,List.length_map];exact qak (by omega)) ⟨rfl,⟨none,rfl⟩,rfl⟩ ?_ ?_ ?_⟩
  ·rintro i ys σ' H' hi ⟨rfl,_,rfl⟩;refine⟨SqL.of hk,?_⟩;rw[List.length_map,List.length_take];exact Nat.min_le_left _ _
  ·rintro i y ys σ' H' hy ⟨rfl,⟨z,rfl⟩,rfl⟩;obtain⟨m,em,rfl⟩:=qb7 hy;obtain⟨m1,m2⟩:=kin m (List.mem_of_getElem? em);refine⟨_,rfl,_,rfl,_,rfl,p,L,m,ls,bs,rfl,lk,lb,m1,m2,l13,rfl,⟨_,rfl⟩,?_⟩;have ec:(ks.map (qbC ls bs))[i]?=some (qbC ls bs m):=by rw[List.getElem?_map,em];rfl
   rw[List.take_succ,ec,List.map_append];rfl
  ·rintro ys σ' H' ⟨rfl,_,rfl⟩ D hD;rw[List.take_of_length_le (by rw[List.length_map,List.length_map,List.length_map];exact Nat.le_refl _)];exact q D _ hD (qad hD _) qac
theorem scWts:FnScope ["looks", "held"] ["looks", "held"] (qag sWts):=⟨rfl,rfl,rfl,by decide +kernel,rfl,by decide +kernel,by decide +kernel⟩
theorem ok_weights_of{fn:Addr}{fd:FuncData}(F:Fun K "weights_of" "weights_of" sWts fn fd)(F_look_at:Fx P w K mg base CX0 1 "look_at" ["looks", "node", "word"] spLook):FnOk P w K mg base CX0 2 fn fd ["looks", "held"] spWts:=by
 refine F.ok scWts (fun vs H Q E h=>?_) (fun cdv A outer s H vs Q E hr h=>?_)
 ·obtain⟨p,k,ks,ls,rfl,_⟩:=h;rfl
 ·obtain⟨p,k,ks,ls,rfl,lk,hk,l100,kin,l13,q⟩:=h;have hr_look_at:=hr;refine⟨_,(qaf (qat (qaI (own:=["one"]) (by rfl) (ix:=[0]) (frees:=["looks"]) (CompScope.frees (by rfl) (by decide +kernel) (by decide +kernel) (by decide +kernel) (by rfl) (by decide +kernel) (by first | exact qbc (by rfl) | exact qa9 (by rfl) (by rfl))) (qaE (pv 1)) (fun cl C s2 H2 fp=>(qai (i:=0) (by show(["one", "looks"]:List Str).Nodup;decide +kernel) (by rfl) (by trivial) (by trivial))) (fun cl C s2 H2 fp=>qaG) (fun cl C s2 H2 fp=>(qan F_look_at hr_look_at (by rfl) qao (qaa (pv 1) (qaa (pv 0) (qaa qau pa_nil)))))))),?_⟩;refine⟨_,rfl,k,rfl,⟨_,SqL.of hk⟩,qaF (xs:=(ks.map fun(j:Nat)=>(j:Int)).map V.int) (fun i ys σ' H'=>H'=H∧(∃z,σ'=[z,some (.ref p)])∧ys=((ks.map fun m=>lkA ls m 4).take i).map V.int) (by rw[List.length_map,List.length_map];exact qak (by omega)) ⟨rfl,⟨none,rfl⟩,rfl⟩ ?_ ?_ ?_⟩
  ·rintro i ys σ' H' hi ⟨rfl,_,rfl⟩;refine⟨SqL.of hk,?_⟩;rw[List.length_map,List.length_take];exact Nat.min_le_left _ _
  ·rintro i y ys σ' H' hy ⟨rfl,⟨z,rfl⟩,rfl⟩;obtain⟨m,em,rfl⟩:=qb7 hy;have m1:=kin m (List.mem_of_getElem? em);refine⟨_,rfl,_,rfl,p,m,4,_,ls,rfl,lk,m1,l13,by decide,weight_is,rfl,⟨_,rfl⟩,?_⟩;have ec:(ks.map fun m=>lkA ls m 4)[i]?=some (lkA ls m 4):=by rw[List.getElem?_map,em];rfl
   rw[List.take_succ,ec,List.map_append];rfl
  ·rintro ys σ' H' ⟨rfl,_,rfl⟩ D hD;rw[List.take_of_length_le (by rw[List.length_map,List.length_map,List.length_map];exact Nat.le_refl _)];exact q D _ hD (qad hD _) qac
theorem scBehind:FnScope ["left", "wides"] ["left", "wides"] (qag sBehind):=⟨rfl,rfl,rfl,by decide +kernel,rfl,by decide +kernel,by decide +kernel⟩
theorem ok_one_behind_the_other{fn:Addr}{fd:FuncData}(F:Fun K "one_behind_the_other" "one_behind_the_other" sBehind fn fd)(T:BnX mg):FnOk P w K mg base CX0 1 fn fd ["left", "wides"] spBehind:=by
 refine F.ok scBehind (fun vs H Q E h=>?_) (fun cdv A outer s H vs Q E hr h=>?_)
 ·obtain⟨left,a,x,rfl,_⟩:=h;rfl
 ·obtain⟨left,a,x,rfl,ha,l100,q⟩:=h;refine⟨_,(qaf (qat (qaI (own:=["place", "wide"]) (by rfl) (ix:=[0,1]) (frees:=["left", "wides"]) (CompScope.frees (by rfl) (by decide +kernel) (by decide +kernel) (by decide +kernel) (by rfl) (by decide +kernel) (by first | exact qbc (by rfl) | exact qa9 (by rfl) (by rfl))) (qcr (by rfl) T.enumerate (qaa (pv 1) pa_nil)) (fun cl C s2 H2 fp=>(qcs K (n:=2) (by rfl) (by rfl) (qax (qai (i:=0) (by show(["place", "wide", "left", "wides"]:List Str).Nodup;decide +kernel) (by rfl) (by trivial) (by trivial)) (qax (qai (i:=1) (by show(["place", "wide", "left", "wides"]:List Str).Nodup;decide +kernel) (by rfl) (by trivial) (by trivial)) pgs_nil)))) (fun cl C s2 H2 fp=>qaG) (fun cl C s2 H2 fp=>(qaO (qaa (qas op_add (pv 2) (qal (r:=qfw K) (qdf K (by rfl) (by rfl)) (by rfl) T.sum b_sum (qaa (qco (r:=rSlL K) (qeq K (by rfl)) (pv 3) po_none (qcx (pv 0))) pa_nil))) (qaa (pv 1) pa_nil))))))),?_⟩;refine⟨_,rfl,a,rfl,⟨_,SqL.of ha⟩,qck (xs:=x.map V.int) (fun i ys σ' H'=>Same H H'∧(∃z0 z1,σ'=[z0,z1,some (.int left),some (.ref a)])∧∃as,ys=as.map V.ref∧Paired (PrAt H') as ((qa0 left x).take i)) (by rw[List.length_map];exact qak (by omega)) ⟨Same.refl H,⟨none,none,rfl⟩,[],rfl,.nil⟩ ?_ ?_ ?_⟩
  ·rintro i ys σ' H' hi ⟨s1,_,as,rfl,pr⟩;refine⟨SqL.of (s1 _ _ ha),?_⟩;rw[List.length_map,Paired.length pr,List.length_take];exact Nat.min_le_left _ _
  ·rintro i y ys σ' H' T' hy hT ⟨s1,⟨z0,z1,rfl⟩,as,rfl,pr⟩;obtain⟨v,ev,rfl⟩:=qbg hy;have hi:i<x.length:=(List.getElem?_eq_some_iff.mp ev).1;have s2:=qad hT (.tup [.int (i:Int),.int v]);have s02:=s1.trans s2;have pr2:Paired (PrAt (upd H' T' (.tup [.int (i:Int),.int v]))) as ((qa0 left x).take i):=pr.mono fun _ _ z=>s2 _ _ z
   refine⟨T',_,rfl,SqT.of qac,rfl,_,_,rfl,_,_,rfl,rfl,?_⟩;generalize upd H' T' (.tup [.int (i:Int),.int v])=H2 at s02 pr2⊢;refine⟨_,rfl,_,rfl,_,rfl,(i:Int),rfl,a,_,rfl,SqL.of (s02 _ _ ha),fun S hS=>?_⟩;rw[qc0];have s3:=qad hS (.lst ((x.take i).map V.int));refine⟨S,_,rfl,SqL.of qac,_,_,rfl,rfl,_,rfl,by show 2≤sizeLine;decide,fun t ht=>?_⟩;have s4:=s3.trans (qad ht (.tup [.int (left+(x.take i).sum),.int v]));refine⟨s02.trans s4,⟨_,_,rfl⟩,as++[t],by rw[List.map_append];rfl,?_⟩;have ec:(qa0 left x)[i]?=some (left+(x.take i).sum,v):=by
    unfold qa0;rw[List.getElem?_map,List.getElem?_range hi];show some (left+(x.take i).sum,x.getD i 0)=_;rw[qaX ev]
   rw[List.take_succ,ec];exact(pr2.mono fun _ _ z=>s4 _ _ z).snoc qac
  ·rintro ys σ' H' ⟨s1,_,as,rfl,pr⟩ D hD;rw[List.take_of_length_le (by rw[qcw,List.length_map];exact Nat.le_refl _)]at pr;exact q D _ (s1.free hD) (s1.trans (qad hD _)) ⟨as,qac,pr.mono fun _ _ z=>qad hD _ _ _ z⟩
theorem scEven:FnScope ["wide", "columns", "each", "rest"] ["wide", "columns"] (qag sEven):=⟨rfl,rfl,rfl,by decide +kernel,rfl,by decide +kernel,by decide +kernel⟩
theorem ok_even_columns{fn:Addr}{fd:FuncData}(F:Fun K "even_columns" "even_columns" sEven fn fd)(T:BnX mg):FnOk P w K mg base CX0 1 fn fd ["wide", "columns"] spEven:=by
 refine F.ok scEven (fun vs H Q E h=>?_) (fun cdv A outer s H vs Q E hr h=>?_)
 ·obtain⟨wd,cols,rfl,_⟩:=h;rfl
 ·obtain⟨wd,cols,rfl,c1,c6,q⟩:=h;refine⟨_,(qab (qah (i:=2) scEven.nd (by rfl) (by trivial) (qas op_fdivL (pv 0) (pv 1)))
   (qab (qah (i:=3) scEven.nd (by rfl) (by trivial) (qas op_sub (pv 0) (qas op_mul (pv 2) (pv 1))))
   (qaf (qat (qaI (own:=["column"]) (by rfl) (ix:=[2,3]) (frees:=["each", "rest"]) (CompScope.frees (by rfl) (by decide +kernel) (by decide +kernel) (by decide +kernel) (by rfl) (by decide +kernel) (by first | exact qbc (by rfl) | exact qa9 (by rfl) (by rfl))) (qaH (by rfl) T.range (qaa (pv 1) pa_nil)) (fun cl C s2 H2 fp=>(qai (i:=0) (by show(["column", "each", "rest"]:List Str).Nodup;decide +kernel) (by rfl) (by trivial) (by trivial))) (fun cl C s2 H2 fp=>qaG) (fun cl C s2 H2 fp=>(qep (qam op_lt (pv 0) (pv 2) (qaq _)) (qas op_add (pv 1) qae) (pv 1)))))))),?_⟩
  refine⟨_,rfl,_,rfl,_,_,rfl,rfl,⟨by omega,by omega⟩,?_⟩;refine⟨_,rfl,_,rfl,_,rfl,_,_,rfl,rfl,.inr ⟨by omega,by omega⟩,_,_,rfl,rfl,?_⟩;refine⟨_,rfl,_,rfl,by omega,by omega,qa7 (n:=cols.toNat) (fun i ys σ' H'=>H'=H∧(∃z,σ'=[z,some (.int (wd / cols)),some (.int (wd-wd / cols*cols))])∧ys=((qbl wd cols).take i).map V.int) (qak (by omega)) ⟨rfl,⟨none,rfl⟩,rfl⟩ ?_ ?_ ?_⟩
  ·rintro i ys σ' H' hi ⟨rfl,_,rfl⟩;rw[List.length_map,List.length_take];exact Nat.min_le_left _ _
  ·rintro i ys σ' H' hi ⟨rfl,⟨z,rfl⟩,rfl⟩;rw[show(0:Int)+(i:Int)=(i:Int)from Int.zero_add _];have ec:(qbl wd cols)[i]?=some (if(i:Int)<wd-wd / cols*cols then wd / cols+1 else wd / cols):=by
    unfold qbl;rw[List.getElem?_map,List.getElem?_range hi];rfl
   refine⟨_,rfl,_,rfl,_,_,rfl,rfl,_,rfl,?_⟩;refine ite2 (fun c=>?_) (fun c=>?_)
   ·refine⟨_,rfl,_,_,rfl,rfl,rfl,⟨_,rfl⟩,?_⟩;rw[List.take_succ,ec,if_pos (of_decide_eq_true c),List.map_append];rfl
   ·refine⟨_,rfl,rfl,⟨_,rfl⟩,?_⟩;rw[List.take_succ,ec,if_neg (fun z=>c (decide_eq_true z)),List.map_append];rfl
  ·rintro ys σ' H' ⟨rfl,_,rfl⟩ D hD;rw[List.take_of_length_le (by rw[qej];exact Nat.le_refl _)];exact q D _ hD (qad hD _) qac
theorem scCellSp:FnScope ["room", "columns", "cells", "wides", "spans", "place", "left"] ["room", "columns", "cells"] (qag sCellSp):=⟨rfl,rfl,rfl,by decide +kernel,rfl,by decide +kernel,by decide +kernel⟩
theorem ok_cell_spans{fn:Addr}{fd:FuncData}(F:Fun K "cell_spans" "cell_spans" sCellSp fn fd)(T:BnX mg)(U:NumsS mg)(F_even_columns:Fx P w K mg base CX0 1 "even_columns" ["wide", "columns"] spEven)(F_grid_places:Fx P w K mg base CX0 3 "grid_places" ["columns", "cells"] spPlaces):FnOk P w K mg base CX0 4 fn fd ["room", "columns", "cells"] spCellSpans:=by
 refine F.ok scCellSp (fun vs H Q E h=>?_) (fun cdv A outer s H vs Q E hr h=>?_)
 ·obtain⟨r,C,rm,cols,cs,rfl,_⟩:=h;rfl
 ·obtain⟨r,C,rm,cols,cs,rfl,hR,lC,cok,c100,c1,c6,q⟩:=h;obtain⟨_,g_LEFT⟩:=U.left;obtain⟨_,g_WIDE⟩:=U.wide;obtain⟨_,g_COLUMN⟩:=U.column;obtain⟨_,g_SPAN⟩:=U.span;have hr_even_columns:Room 1 _:=hr.mono (by decide);have hr_grid_places:=hr;refine⟨_,(qab (qah (i:=3) scCellSp.nd (by rfl) (by trivial) (qan F_even_columns hr_even_columns (by rfl) qao (qaa (qaj ix_tup (pv 0) (qaD (v:=.int 1) (by rfl) g_WIDE ⟨_,rfl⟩) (fun _ _=>rfl)) (qaa (pv 1) pa_nil))))
   (qab (qah (i:=4) scCellSp.nd (by rfl) (by trivial) (qaB pa_nil))
   (qab (qaR PassesOwn.never (by rfl) (qaE (qan F_grid_places hr_grid_places (by rfl) qao (qaa (pv 1) (qaa (pv 2) pa_nil)))) (qai (i:=5) scCellSp.nd (by rfl) (by trivial))
   (qab (qah (i:=6) scCellSp.nd (by rfl) (by trivial) (qas op_add (qaj ix_tup (pv 0) (qaD (v:=.int 0) (by rfl) g_LEFT ⟨_,rfl⟩) (fun _ _=>rfl)) (qal (qa4 (by rfl)) (by rfl) T.sum b_sum (qaa (qco sl_list (pv 3) po_none (qcx (qaj ix_tup (pv 5) (qaD (v:=.int 1) (by rfl) g_COLUMN ⟨_,rfl⟩) (fun _ _=>rfl)))) pa_nil))))
   (qaf (qaP (qb6 PySem.F.plainAttrs_list PySem.F.slot_list_append PySem.F.type_list_append mt_append (pv 4) (qaa (qaO (qaa (pv 6) (qaa (qal (qa4 (by rfl)) (by rfl) T.sum b_sum (qaa (qco sl_list (pv 3) (qcx (qaj ix_tup (pv 5) (qaD (v:=.int 1) (by rfl) g_COLUMN ⟨_,rfl⟩) (fun _ _=>rfl))) (qcx (qas op_add (qaj ix_tup (pv 5) (qaD (v:=.int 1) (by rfl) g_COLUMN ⟨_,rfl⟩) (fun _ _=>rfl)) (qaj ix_tup (pv 5) (qaD (v:=.int 2) (by rfl) g_SPAN ⟨_,rfl⟩) (fun _ _=>rfl))))) pa_nil)) pa_nil))) pa_nil))))))
   (qaf (qat (pv 4)))))),?_⟩
  refine⟨_,rfl,r,_,_,_,rfl,rfl,SqT.of hR,rfl,_,rfl,rm.2,cols,rfl,c1,c6,fun W H1 hW s1 hWW=>?_⟩;refine⟨by show 0≤sizeLine;decide,fun L hL=>?_⟩;have s2:=qad hL (.lst []);have hLL:upd H1 L (.lst []) L=some (.lst (([]:List Addr).map V.ref)):=qac;have L0:H L=none:=s1.free hL;have s02:=s1.trans s2;have hW2:LI (upd H1 L (.lst [])) W (qbl rm.2 cols):=s2 _ _ hWW;generalize upd H1 L (.lst [])=H2 at s2 hLL s02 hW2⊢;obtain⟨cn,rfl⟩:∃cn:Nat,cols=(cn:Int):=⟨cols.toNat,by omega⟩;refine⟨_,rfl,_,rfl,C,cn,cs,rfl,lC.tup s02,cok,c100,by omega,by omega,fun M H3 ps hM s3 lM pd pok=>?_⟩;have s03:=s02.trans s3;have ep:=pd.eq;have lp:=pd.len;obtain⟨as,hMM,pr⟩:=lM;have la:=Paired.length pr;have en:((cn:Nat):Int).toNat=cn:=Int.toNat_natCast _;have LM:M≠L:=fun z=>by rw[z]at hM;rw[hLL]at hM;cases hM
  refine⟨M,rfl,⟨_,SqL.of hMM⟩,qbj (xs:=as.map V.ref) (fun i σ H'=>Keep1 L H3 H'∧(∃z5 z6,σ=[some (.ref r),some (.int (cn:Int)),some (.ref C),some (.ref W),some (.ref L),z5,z6])∧LstAt PrAt H' L ((ps.map (qcY rm cn)).take i)) ⟨KeepN.refl,⟨none,none,rfl⟩,[],s3 _ _ hLL,.nil⟩ ?_ ?_ ?_⟩
  ·rintro i σ H' hi ⟨k1,_⟩;exact SqL.of (k1 _ _ LM hMM)
  ·rintro i y σ H' hy ⟨k1,⟨z5,z6,rfl⟩,bs,hL',prb⟩;obtain⟨a,ea,rfl⟩:=qci hy;obtain⟨p,pe,ha⟩:=qbM pr ea;have pk:=pok p (List.mem_of_getElem? pe);have nL:∀{b:Addr} {xs:List V},H3 b=some (.tup xs)→b≠L:=fun e z=>by rw[z,s3 _ _ hLL]at e;cases e
   have ha':PlAt H' a p:=k1 _ _ (nL ha) ha;have hR':PrAt H' r rm:=k1 _ _ (nL (s03 _ _ hR)) (s03 _ _ hR);have WL:W≠L:=fun z=>by
    rw[z]at hWW;rw[show H1 L=_ from hWW]at hL;cases hL
   have hW':LI H' W (qbl rm.2 cn):=k1 _ _ WL (s3 _ _ hW2);have cle:p.c+p.s≤cn:=pk.2.2.2.2.2;have cn0:(0:Int)<(cn:Int):=by omega
   have q1:=qdy (wd:=rm.2) cn0 (k:=p.c) (by omega);have q2:=qdy (wd:=rm.2) cn0 (k:=p.c+p.s) (by omega);have q3:=take_drop_sum (l:=qbl rm.2 cn) (c:=p.c) (s:=p.s);refine⟨_,rfl,r,_,_,_,rfl,rfl,SqT.of hR',rfl,_,rfl,_,rfl,a,_,_,_,rfl,rfl,SqT.of ha',rfl,(p.c:Int),rfl,W,_,rfl,SqL.of hW',fun S hS=>?_⟩;rw[qc0];have s4:=qad hS (.lst (((qbl rm.2 cn).take p.c).map V.int));refine⟨S,_,rfl,SqL.of qac,_,_,rfl,rfl,?_⟩;have e1:rm.1+((qbl rm.2 cn).take p.c).sum=begS rm cn p.c:=by
    unfold begS;omega
   show qa1 6 (V.int (rm.1+((qbl rm.2 cn).take p.c).sum)) _ _ _;rw[e1];have k4:=k1.trans s4.keep;have ha4:PlAt (upd H' S (.lst (((qbl rm.2 cn).take p.c).map V.int))) a p:=s4 _ _ ha';have hW4:LI (upd H' S (.lst (((qbl rm.2 cn).take p.c).map V.int))) W (qbl rm.2 cn):=s4 _ _ hW';have hL4:=s4 _ _ hL';have prb4:Paired (PrAt (upd H' S (.lst (((qbl rm.2 cn).take p.c).map V.int)))) bs ((ps.map (qcY rm cn)).take i):=prb.mono fun _ _ z=>s4 _ _ z
   generalize upd H' S (.lst (((qbl rm.2 cn).take p.c).map V.int))=H4 at k4 ha4 hW4 hL4 prb4⊢;refine⟨_,rfl,.inl ⟨rfl,_,SqL.of hL4⟩,_,rfl,_,rfl,_,rfl,a,_,_,_,rfl,rfl,SqT.of ha4,rfl,(p.c:Int),rfl,_,rfl,a,_,_,_,rfl,rfl,SqT.of ha4,rfl,_,rfl,a,_,_,_,rfl,rfl,SqT.of ha4,rfl,_,_,rfl,rfl,((p.c+p.s:Nat):Int),by show V.int ((p.c:Int)+(p.s:Int))=_;rw[show((p.c+p.s:Nat):Int)=(p.c:Int)+(p.s:Int) by omega],W,_,rfl,SqL.of hW4,fun S2 hS2=>?_⟩;rw[cut_mid (by omega) (by rw[qej];omega),show p.c+p.s-p.c=p.s by omega];have s5:=qad hS2 (.lst ((((qbl rm.2 cn).drop p.c).take p.s).map V.int));refine⟨S2,_,rfl,SqL.of qac,by show 2≤sizeLine;decide,fun t ht=>?_⟩;have e2:(((qbl rm.2 cn).drop p.c).take p.s).sum=begS rm cn (p.c+p.s)-begS rm cn p.c:=by
    unfold begS;omega
   rw[e2];have s6:=s5.trans (qad ht (.tup [.int (begS rm cn p.c),.int (begS rm cn (p.c+p.s)-begS rm cn p.c)]));have htt:upd (upd H4 S2 (.lst ((((qbl rm.2 cn).drop p.c).take p.s).map V.int))) t (.tup [.int (begS rm cn p.c),.int (begS rm cn (p.c+p.s)-begS rm cn p.c)]) t=some (.tup [.int (begS rm cn p.c),.int (begS rm cn (p.c+p.s)-begS rm cn p.c)]):=qac;have k6:=k4.trans s6.keep;have hL6:=s6 _ _ hL4;have prb6:Paired (PrAt (upd (upd H4 S2 (.lst ((((qbl rm.2 cn).drop p.c).take p.s).map V.int))) t (.tup [.int (begS rm cn p.c),.int (begS rm cn (p.c+p.s)-begS rm cn p.c)]))) bs ((ps.map (qcY rm cn)).take i):=prb4.mono fun _ _ z=>s6 _ _ z
   generalize upd (upd H4 S2 (.lst ((((qbl rm.2 cn).drop p.c).take p.s).map V.int))) t (.tup [.int (begS rm cn p.c),.int (begS rm cn (p.c+p.s)-begS rm cn p.c)])=H6 at htt k6 hL6 prb6⊢;have lbs:=Paired.length prb;have hi:i<as.length:=(List.getElem?_eq_some_iff.mp ea).1;refine⟨L,_,_,rfl,rfl,hL6,qak (by rw[List.length_map,lbs,List.length_take];omega),?_⟩;have tl:=Tups.lst (o:=.lst (bs.map V.ref++[.ref t])) hL6;refine⟨fun b o n e=>by rw[qap n];exact k6 b o n e,⟨_,_,rfl⟩,bs++[t],by rw[qac,List.map_append];rfl,?_⟩;have ec:(ps.map (qcY rm cn))[i]?=some (begS rm cn p.c,begS rm cn (p.c+p.s)-begS rm cn p.c):=by rw[List.getElem?_map,pe];rfl
   rw[List.take_succ,ec];exact(prb6.mono fun _ _ z=>tl _ _ z).snoc (tl _ _ htt)
  ·rintro σ H' ⟨k1,⟨z5,z6,rfl⟩,lL⟩;rw[List.take_of_length_le (by rw[List.length_map,List.length_map,la];exact Nat.le_refl _),ep]at lL;refine⟨_,rfl,q L H' L0 (fun b o e=>k1 _ _ (fun z=>by rw[z,L0]at e;cases e) (s03 _ _ e)) ?_ ?_⟩
   ·rw[en,←ep];exact lp
   ·rw[en];exact lL
theorem scAside:FnScope ["looks", "room", "aside", "wide"] ["looks", "room", "aside"] (qag sAside):=⟨rfl,rfl,rfl,by decide +kernel,rfl,by decide +kernel,by decide +kernel⟩
theorem ok_aside_span{fn:Addr}{fd:FuncData}(F:Fun K "aside_span" "aside_span" sAside fn fd)(T:BnX mg)(U:NumsS mg)(F_look_at:Fx P w K mg base CX0 1 "look_at" ["looks", "node", "word"] spLook):FnOk P w K mg base CX0 2 fn fd ["looks", "room", "aside"] spAside:=by
 refine F.ok scAside (fun vs H Q E h=>?_) (fun cdv A outer s H vs Q E hr h=>?_)
 ·obtain⟨p,r,m,ls,rm,rfl,_⟩:=h;rfl
 ·obtain⟨p,r,m,ls,rm,rfl,lk,hR,hm,lok,q⟩:=h;obtain⟨_,g_LEFT⟩:=U.left;obtain⟨_,g_WIDE⟩:=U.wide;have hr_look_at:=hr;have l13:∀l∈ls,l.length=13:=fun l h=>(lok l h).len
  have lv:lkA ls m 10=ls[m].getD 10 0:=by unfold lkA;rw[List.getElem?_eq_getElem hm];rfl
  have sd:=(lok _ (List.getElem_mem hm)).side;rw[←lv]at sd;refine⟨_,(qab (qah (i:=3) scAside.nd (by rfl) (by trivial) (qal (qbG (by rfl)) (by rfl) T.min b_min (qaa (qan F_look_at hr_look_at (by rfl) qao (qaa (pv 0) (qaa (pv 2) (qaa qau pa_nil)))) (qaa (qas op_fdiv (qaj ix_tup (pv 1) (qaD (v:=.int 1) (by rfl) g_WIDE ⟨_,rfl⟩) (fun _ _=>rfl)) qae) pa_nil))))
   (qab (qaM (qam op_eq (qan F_look_at hr_look_at (by rfl) qao (qaa (pv 0) (qaa (pv 2) (qaa qau pa_nil)))) qae (qaq _)) (qaf (qat (qaO (qaa (qaj ix_tup (pv 1) (qaD (v:=.int 0) (by rfl) g_LEFT ⟨_,rfl⟩) (fun _ _=>rfl)) (qaa (pv 3) pa_nil))))) pss_nil)
   (qaf (qat (qaO (qaa (qas op_sub (qas op_add (qaj ix_tup (pv 1) (qaD (v:=.int 0) (by rfl) g_LEFT ⟨_,rfl⟩) (fun _ _=>rfl)) (qaj ix_tup (pv 1) (qaD (v:=.int 1) (by rfl) g_WIDE ⟨_,rfl⟩) (fun _ _=>rfl))) (pv 3)) (qaa (pv 3) pa_nil))))))),?_⟩
  refine⟨_,rfl,_,rfl,p,m,11,_,ls,rfl,lk,hm,l13,by decide,wide_is,_,rfl,r,_,_,_,rfl,rfl,SqT.of hR,rfl,_,_,rfl,rfl,⟨by decide,by decide⟩,_,_,rfl,?_⟩;rw[min2];refine⟨_,rfl,_,rfl,p,m,10,_,ls,rfl,lk,hm,l13,by decide,side_is,rfl,_,rfl,?_⟩;rcases sd with e | e
  ·rw[decide_eq_true (show V.int (lkA ls m 10)=V.int 0 by rw[e])];refine iteT ⟨_,rfl,r,_,_,_,rfl,rfl,SqT.of hR,rfl,_,rfl,by show 2≤sizeLine;decide,fun t ht=>q t _ ht (qad ht _) ?_⟩;show upd H t _ t=_;rw[qac,e,Int.zero_mul,Int.add_zero];rfl
  ·rw[decide_eq_false (show¬V.int (lkA ls m 10)=V.int 0 from fun z=>by have:=V.int.inj z;omega)];refine iteF ⟨_,rfl,r,_,_,_,rfl,rfl,SqT.of hR,rfl,_,rfl,r,_,_,_,rfl,rfl,SqT.of hR,rfl,_,_,rfl,rfl,_,rfl,_,_,rfl,rfl,_,rfl,by show 2≤sizeLine;decide,fun t ht=>q t _ ht (qad ht _) ?_⟩;show upd H t _ t=_;rw[qac,e,Int.one_mul];unfold ownS;rw[show rm.1+(rm.2-min (lkA ls m 11) (rm.2 / 2))=rm.1+rm.2-min (lkA ls m 11) (rm.2 / 2) by omega]
end
end K22
namespace K22
open PySem L2 Bk Gen Gd Shr
abbrev sHad:Stmt:=top 28
abbrev sMult:Stmt:=top 26
abbrev sLast:Stmt:=top 27
abbrev sShares:Stmt:=top 25
section
variable{P:Program}{w:World}{K:PySem.W.Frag}{mg:Str→Option Value}{base:Heap}
theorem scHad:FnScope ["level", "floors", "roofs", "weights", "multiple", "told", "floor", "roof", "weight"] ["level", "floors", "roofs", "weights", "multiple"] (qag sHad):=⟨rfl,rfl,rfl,by decide +kernel,rfl,by decide +kernel,by decide +kernel⟩
theorem ok_had_below{f:Addr}{fd:FuncData}(F:Fun K "had_below" "had_below" sHad f fd)(T:BnS mg):FnOk P w K mg base CX0 1 f fd ["level", "floors", "roofs", "weights", "multiple"] spHad:=by
 refine F.ok scHad (fun vs H Q E h=>?_) (fun cdv A outer s H vs Q E hr h=>?_)
 ·obtain⟨lev,M,f,r,w,F,R,W,rfl,_⟩:=h;rfl
 ·obtain⟨lev,M,f,r,w,F,R,W,rfl,hf,hR,hw,ok,M0,M9,q⟩:=h;refine⟨_,(qab (qah (i:=5) scHad.nd (by rfl) (by trivial) (qaB pa_nil))
   (qab (qaR PassesOwn.never (by rfl) (qeT (by rfl) T.zip (qaa (pv 1) (qaa (pv 2) (qaa (pv 3) pa_nil)))) (qcD (by rfl) (qax (qai (i:=6) scHad.nd (by rfl) (by trivial)) (qax (qai (i:=7) scHad.nd (by rfl) (by trivial)) (qax (qai (i:=8) scHad.nd (by rfl) (by trivial)) pgs_nil))))
   (qaf (qaP (qb6 PySem.F.plainAttrs_list PySem.F.slot_list_append PySem.F.type_list_append mt_append (pv 5) (qaa (qal (qbG (by rfl)) (by rfl) T.min b_min (qaa (qal (qbk (by rfl)) (by rfl) T.max b_max (qaa (qe4 un_neg (qas op_fdivL (qas op_mul (qe4 un_neg (pv 0)) (pv 8)) (pv 4))) (qaa (pv 6) pa_nil))) (qaa (pv 7) pa_nil))) pa_nil)))))
   (qaf (qat (pv 5))))),?_⟩
  refine⟨by show 0≤sizeLine;decide,fun L hL=>?_⟩;have s1:=qad hL (.lst []);have hLL:LI (upd H L (.lst [])) L ((hads lev M F R W).take 0):=qac;generalize upd H L (.lst [])=H1 at s1 hLL⊢;have n9:=ok.n;refine⟨_,rfl,_,rfl,_,rfl,f,r,w,rfl,⟨_,SqL.of (s1 _ _ hf)⟩,⟨_,SqL.of (s1 _ _ hR)⟩,⟨_,SqL.of (s1 _ _ hw)⟩,for_zip3 (xs:=F.map V.int) (ys:=R.map V.int) (zs:=W.map V.int) (by rw[List.length_map,List.length_map,ok.lr]) (by rw[List.length_map,List.length_map,ok.lw])
   (fun i σ H'=>Same H H'∧(∃z6 z7 z8,σ=[some (.int lev),some (.ref f),some (.ref r),some (.ref w),some (.int M),some (.ref L),z6,z7,z8])∧LI H' L ((hads lev M F R W).take i)) ⟨s1,⟨none,none,none,rfl⟩,hLL⟩ ?_ ?_ ?_⟩
  ·rintro i σ H' hi ⟨s2,_⟩;exact⟨SqL.of (s2 _ _ hf),SqL.of (s2 _ _ hR),SqL.of (s2 _ _ hw)⟩
  ·rintro i x y z σ H' T' hx hy hz hT ⟨s2,⟨z6,z7,z8,rfl⟩,h2⟩;obtain⟨a,ea,rfl⟩:=qbg hx;obtain⟨b,eb,rfl⟩:=qbg hy;obtain⟨c,ec,rfl⟩:=qbg hz;have hi:i<F.length:=(List.getElem?_eq_some_iff.mp ea).1;have wi:=ok.w i;rw[qaX ec 1]at wi;have s3:=s2.trans (qad hT (.tup [.int a,.int b,.int c]));have hTT:upd H' T' (.tup [.int a,.int b,.int c]) T'=some (.tup [.int a,.int b,.int c]):=qac;have h3:LI (upd H' T' (.tup [.int a,.int b,.int c])) L ((hads lev M F R W).take i):=qad hT _ _ _ h2;generalize upd H' T' (.tup [.int a,.int b,.int c])=H3 at s3 hTT h3⊢;refine⟨T',_,rfl,SqT.of hTT,rfl,_,_,rfl,_,_,rfl,_,_,rfl,rfl,?_⟩;refine⟨_,rfl,.inl ⟨rfl,_,SqL.of h3⟩,_,rfl,_,rfl,_,rfl,_,_,rfl,rfl,.inr ⟨by omega,by omega⟩,_,rfl,_,_,rfl,rfl,⟨M0,by omega⟩,_,rfl,_,rfl,_,_,rfl,_,rfl,_,_,rfl,L,_,_,rfl,rfl,h3,?_,?_⟩
   ·rw[List.length_map,List.length_take];exact Nat.lt_of_le_of_lt (Nat.min_le_left _ _) (qak (by omega))
   ·refine⟨qbq s3 hL,⟨_,_,_,rfl⟩,?_⟩;show upd H3 L _ L=_;rw[qac,List.take_succ,hads_at hi,List.map_append];have e:qbx lev M F R W i=(if b<(if a > -(-lev*c / M)then a else -(-lev*c / M))then b else(if a > -(-lev*c / M)then a else -(-lev*c / M))):=by
     unfold qbx had qc8;rw[qaX ea,qaX eb,qaX ec,qeK,qdT]
    rw[e];rfl
  ·rintro σ H' ⟨s2,⟨z6,z7,z8,rfl⟩,h2⟩;rw[List.take_of_length_le (by rw[hads_len,List.length_map];exact Nat.le_refl _)]at h2;exact⟨_,rfl,q L H' hL s2 h2⟩
theorem scMult:FnScope ["weights", "multiple", "weight", "step"] ["weights"] (qag sMult):=⟨rfl,rfl,rfl,by decide +kernel,rfl,by decide +kernel,by decide +kernel⟩
theorem ok_common_multiple{f:Addr}{fd:FuncData}(F:Fun K "common_multiple" "common_multiple" sMult f fd):FnOk P w K mg base CX0 1 f fd ["weights"] spMult:=by
 refine F.ok scMult (fun vs H Q E h=>?_) (fun cdv A outer s H vs Q E hr h=>?_)
 ·obtain⟨w,W,rfl,_⟩:=h;rfl
 ·obtain⟨w,W,rfl,hw,l9,ok,q⟩:=h;refine⟨_,(qab (qah (i:=1) scMult.nd (by rfl) (by trivial) qae)
   (qab (qaR PassesOwn.never (by rfl) (qaE (pv 0)) (qai (i:=2) scMult.nd (by rfl) (by trivial))
   (qab (qah (i:=3) scMult.nd (by rfl) (by trivial) (pv 1))
   (qaf (qcM PassesOwn.never (qam op_ne (qas op_mod (pv 1) (pv 2)) qae (qaq _)) (qaf (qeU (i:=1) scMult.nd (by rfl) (by trivial) (pv 3) ip_add))))))
   (qaf (qat (pv 1))))),?_⟩
  refine⟨_,rfl,w,rfl,⟨_,SqL.of hw⟩,qbj (xs:=W.map V.int) (fun i σ H'=>H'=H∧∃(M:Int) (z2 z3:Option V),σ=[some (.ref w),some (.int M),z2,z3]∧0<M∧M∣2520∧∀k,k<i→W.getD k 1∣M) ⟨rfl,1,none,none,rfl,by decide,⟨2520,rfl⟩,fun k hk=>absurd hk (Nat.not_lt_zero _)⟩ ?_ ?_ ?_⟩
  ·rintro i σ H' hi ⟨rfl,_⟩;exact SqL.of hw
  ·rintro i x σ H' hx ⟨rfl,M,z2,z3,rfl,M0,M9,dv⟩;obtain⟨c,ec,rfl⟩:=qbg hx;have wi:=ok i;rw[qaX ec 1]at wi;refine⟨_,rfl,fun m σ H2=>H2=H'∧∃t:Nat,m=c.toNat-t∧σ=[some (.ref w),some (.int (M*((t:Int)+1))),some (.int c),some (.int M)]∧∀s:Nat,s<t→M*((s:Int)+1) % c≠0,⟨_,rfl,0,rfl,by rw[show M*(((0:Nat):Int)+1)=M by omega];rfl,fun s hs=>absurd hs (Nat.not_lt_zero _)⟩,?_⟩;rintro m σ H2 ⟨rfl,t,rfl,rfl,ne⟩;have te:=qeA M0 (by omega) ne;refine⟨_,rfl,_,rfl,_,_,rfl,rfl,(show 0<c by omega),rfl,_,rfl,?_⟩
   by_cases c0:M*((t:Int)+1) % c=0
   ·rw[decide_eq_true (show V.int (M*((t:Int)+1) % c)=V.int 0 by rw[c0])];refine iteF ⟨rfl,M*((t:Int)+1),_,_,rfl,Int.mul_pos M0 (by omega),?_,fun k hk=>?_⟩
    ·exact lcm_step M0 M9 (nine_dvd wi.1 wi.2) ne c0
    ·rcases Nat.lt_succ_iff_lt_or_eq.mp hk with h | h
     ·exact Int.dvd_trans (dv k h) ⟨_,rfl⟩
     ·rw[h,qaX ec 1];exact Int.dvd_of_emod_eq_zero c0
   ·rw[decide_eq_false (show¬V.int (M*((t:Int)+1) % c)=V.int 0 from fun z=>c0 (V.int.inj z))];have ne':∀s:Nat,s<t+1→M*((s:Int)+1) % c≠0:=fun s hs=>by
     rcases Nat.lt_succ_iff_lt_or_eq.mp hs with h | h
     ·exact ne s h
     ·rw[h];exact c0
    have te':=qeA M0 (by omega) ne';refine iteT ⟨fun σ H3=>H3=H2∧σ=[some (.ref w),some (.int (M*(((t+1:Nat):Int)+1))),some (.int c),some (.int M)],?_,?_⟩
    ·rintro σ H3 ⟨rfl,rfl⟩;exact⟨c.toNat-(t+1),by omega,rfl,t+1,rfl,rfl,ne'⟩
    ·refine⟨_,rfl,_,rfl,_,_,rfl,rfl,rfl,?_⟩;have e:M*((t:Int)+1)+M=M*(((t+1:Nat):Int)+1):=by
      rw[show(((t+1:Nat):Int)+1)=((t:Int)+1)+1 by omega,Int.mul_add M ((t:Int)+1) 1,Int.mul_one]
     rw[←e];rfl
  ·rintro σ H' ⟨rfl,M,z2,z3,rfl,M0,M9,dv⟩;rw[List.length_map]at dv;exact⟨_,rfl,q M M0 (Int.le_of_dvd (by decide) M9) dv⟩
theorem scLast:FnScope ["width", "floors", "roofs", "weights", "multiple", "low", "high", "middle"] ["width", "floors", "roofs", "weights", "multiple"] (qag sLast):=⟨rfl,rfl,rfl,by decide +kernel,rfl,by decide +kernel,by decide +kernel⟩
theorem ok_last_level{f:Addr}{fd:FuncData}(F:Fun K "last_level" "last_level" sLast f fd)(T:BnS mg)(F_had_below:Fx P w K mg base CX0 1 "had_below" ["level", "floors", "roofs", "weights", "multiple"] spHad):FnOk P w K mg base CX0 2 f fd ["width", "floors", "roofs", "weights", "multiple"] spLast:=by
 refine F.ok scLast (fun vs H Q E h=>?_) (fun cdv A outer s H vs Q E hr h=>?_)
 ·obtain⟨wd,M,f,r,w,F,R,W,rfl,_⟩:=h;rfl
 ·obtain⟨wd,M,f,r,w,F,R,W,rfl,hf,hR,hw,ok,M0,M9,w1,w2,q⟩:=h;have hr_had_below:=hr;refine⟨_,(qab (qah (i:=5) scLast.nd (by rfl) (by trivial) qae)
   (qab (qah (i:=6) scLast.nd (by rfl) (by trivial) (qas op_mul (qal (call_maxL (by rfl)) (by rfl) T.max b_max (qaa (pv 2) pa_nil)) (pv 4)))
   (qab (qcM PassesOwn.never (qam op_gt (qas op_sub (pv 6) (pv 5)) qae (qaq _)) (qab (qah (i:=7) scLast.nd (by rfl) (by trivial) (qas op_fdiv (qas op_add (pv 5) (pv 6)) qae))
   (qaf (qaM (qam op_le (qal (qa4 (by rfl)) (by rfl) T.sum b_sum (qaa (qan F_had_below hr_had_below (by rfl) qao (qaa (pv 7) (qaa (pv 1) (qaa (pv 2) (qaa (pv 3) (qaa (pv 4) pa_nil)))))) pa_nil)) (pv 0) (qaq _)) (qaf (qah (i:=5) scLast.nd (by rfl) (by trivial) (pv 7))) (qaf (qah (i:=6) scLast.nd (by rfl) (by trivial) (pv 7)))))))
   (qaf (qat (pv 5)))))),?_⟩
  have fr:=(sum_le ok.lr.symm ok.fr).1;have ne:R≠[]:=fun z=>by
   have l:=ok.lr;rw[z]at l w2;have:F=[]:=List.eq_nil_of_length_eq_zero l.symm;rw[this]at w1;have e:([]:List Int).sum=0:=rfl;omega
  obtain⟨top,ht,hm⟩:∃top,top∈R∧∀x∈R,x≤top:=top_of ne;have htop:∀k,k<F.length→R.getD k 0≤top:=fun k hk=>hm _ (by rw[List.getD_eq_getElem?_getD,List.getElem?_eq_getElem (by rw[ok.lr];exact hk)];exact List.getElem_mem _)
  have t0:0≤top:=by
   obtain⟨k,hk,rfl⟩:=List.mem_iff_getElem.mp ht;have hk':k<F.length:=by rw[←ok.lr];exact hk
   have a1:=ok.f k hk';have a2:=ok.fr k hk';rw[qaX (List.getElem?_eq_getElem hk)]at a2;exact Int.le_trans a1 a2
  have z0:=hads_zero M0 ok.pos ok.f ok.lr ok.fr;have z1:=hads_top M0 ok.pos ok.f ok.lr ok.fr htop;have tM:0≤top*M:=Int.mul_nonneg t0 (by omega);have tM1:0<top*M:=by
   rcases Int.lt_or_eq_of_le tM with h | h
   ·exact h
   ·rw[←h]at z1;omega
  refine⟨_,rfl,r,R,top,rfl,SqL.of hR,ht,hm,_,rfl,_,_,rfl,rfl,.inr ⟨by omega,by omega⟩,?_⟩;refine⟨fun m σ H'=>Same H H'∧∃(lo hi:Int) (z:Option V),σ=[some (.int wd),some (.ref f),some (.ref r),some (.ref w),some (.int M),some (.int lo),some (.int hi),z]∧m=(hi-lo).toNat∧lo<hi∧(hads lo M F R W).sum≤wd∧wd<(hads hi M F R W).sum,⟨_,Same.refl H,0,top*M,none,rfl,rfl,tM1,by omega,by omega⟩,?_⟩;rintro m σ H' ⟨s1,lo,hi,z,rfl,rfl,lh,c1,c2⟩;refine⟨_,rfl,_,rfl,_,_,rfl,rfl,_,_,rfl,rfl,_,rfl,?_⟩;refine ite2 (fun c=>?_) (fun c=>?_)
  ·have c':hi-lo>1:=of_decide_eq_true c;refine⟨fun σ H'=>Same H H'∧∃(lo' hi':Int) (z:Option V),σ=[some (.int wd),some (.ref f),some (.ref r),some (.ref w),some (.int M),some (.int lo'),some (.int hi'),z]∧hi'-lo'<hi-lo∧lo'<hi'∧(hads lo' M F R W).sum≤wd∧wd<(hads hi' M F R W).sum,?_,?_⟩
   ·rintro σ H' ⟨s2,lo',hi',z,rfl,d,d1,d2,d3⟩;exact⟨(hi'-lo').toNat,by omega,s2,lo',hi',z,rfl,rfl,d1,d2,d3⟩
   refine⟨_,rfl,_,rfl,_,_,rfl,rfl,_,_,rfl,rfl,⟨by decide,by decide⟩,?_⟩;refine⟨_,rfl,_,rfl,_,rfl,_,rfl,_,rfl,_,M,f,r,w,F,R,W,rfl,s1 _ _ hf,s1 _ _ hR,s1 _ _ hw,ok,M0,M9,fun t H2 ht2 s2 h2=>?_⟩;refine⟨t,_,rfl,SqL.of h2,_,rfl,_,_,rfl,rfl,_,rfl,?_⟩;refine ite2 (fun d=>?_) (fun d=>?_)
   ·have d':(hads ((lo+hi) / 2) M F R W).sum≤wd:=of_decide_eq_true d;exact⟨_,rfl,s1.trans s2,(lo+hi) / 2,hi,_,rfl,by omega,by omega,d',c2⟩
   ·have d':¬(hads ((lo+hi) / 2) M F R W).sum≤wd:=fun z=>d (decide_eq_true z)
    exact⟨_,rfl,s1.trans s2,lo,(lo+hi) / 2,_,rfl,by omega,by omega,c1,by omega⟩
  ·have c':¬hi-lo>1:=fun z=>c (decide_eq_true z)
   have e:hi=lo+1:=by omega
   rw[e]at c2;exact⟨_,rfl,q lo H' s1 c1 c2⟩
theorem scShares:FnScope ["width", "floors", "roofs", "weights", "multiple", "level", "told", "left", "place", "weight"] ["width", "floors", "roofs", "weights"] (qag sShares):=⟨rfl,rfl,rfl,by decide +kernel,rfl,by decide +kernel,by decide +kernel⟩
theorem ok_shares{f:Addr}{fd:FuncData}(F:Fun K "shares" "shares" sShares f fd)(T:BnS mg)(F_common_multiple:Fx P w K mg base CX0 1 "common_multiple" ["weights"] spMult)(F_last_level:Fx P w K mg base CX0 2 "last_level" ["width", "floors", "roofs", "weights", "multiple"] spLast)(F_had_below:Fx P w K mg base CX0 1 "had_below" ["level", "floors", "roofs", "weights", "multiple"] spHad):FnOk P w K mg base CX0 3 f fd ["width", "floors", "roofs", "weights"] spShares:=by
 refine F.ok scShares (fun vs H Q E h=>?_) (fun cdv A outer s H vs Q E hr h=>?_)
 ·obtain⟨wd,f,r,w,F,R,W,rfl,_⟩:=h;rfl
 ·obtain⟨wd,f,r,w,F,R,W,rfl,hf,hR,hw,ok,q⟩:=h;have hr_had_below:Room 1 _:=hr.mono (by decide);have hr_common_multiple:Room 1 _:=hr.mono (by decide);have hr_last_level:=hr;refine⟨_,(qab (qaM (qam op_ge (qal (qa4 (by rfl)) (by rfl) T.sum b_sum (qaa (pv 1) pa_nil)) (pv 0) (qaq _)) (qaf (qat (qaJ call_list_of (by rfl) T.list b_list (qaa (pv 1) pa_nil)))) pss_nil)
   (qab (qaM (qam op_le (qal (qa4 (by rfl)) (by rfl) T.sum b_sum (qaa (pv 2) pa_nil)) (pv 0) (qaq _)) (qaf (qat (qaJ call_list_of (by rfl) T.list b_list (qaa (pv 2) pa_nil)))) pss_nil)
   (qab (qah (i:=4) scShares.nd (by rfl) (by trivial) (qan F_common_multiple hr_common_multiple (by rfl) qao (qaa (pv 3) pa_nil)))
   (qab (qah (i:=5) scShares.nd (by rfl) (by trivial) (qan F_last_level hr_last_level (by rfl) qao (qaa (pv 0) (qaa (pv 1) (qaa (pv 2) (qaa (pv 3) (qaa (pv 4) pa_nil)))))))
   (qab (qah (i:=6) scShares.nd (by rfl) (by trivial) (qan F_had_below hr_had_below (by rfl) qao (qaa (pv 5) (qaa (pv 1) (qaa (pv 2) (qaa (pv 3) (qaa (pv 4) pa_nil)))))))
   (qab (qah (i:=7) scShares.nd (by rfl) (by trivial) (qas op_sub (pv 0) (qal (qa4 (by rfl)) (by rfl) T.sum b_sum (qaa (pv 6) pa_nil))))
   (qab (qaR PassesOwn.never (by rfl) (qcr (by rfl) T.enumerate (qaa (pv 3) pa_nil)) (qcD (by rfl) (qax (qai (i:=8) scShares.nd (by rfl) (by trivial)) (qax (qai (i:=9) scShares.nd (by rfl) (by trivial)) pgs_nil)))
   (qaf (qaM (PW.pt (qbT (qam op_gt (pv 7) qae (qaq _)) (qbT (qam op_lt (qaj ix_list (pv 6) (pv 8) (fun _ _=>rfl)) (qaj ix_list (pv 2) (pv 8) (fun _ _=>rfl)) (qaq _)) (qbB (qam op_eq (qas op_mul (qaj ix_list (pv 6) (pv 8) (fun _ _=>rfl)) (pv 4)) (qas op_mul (pv 5) (pv 9)) (qaq _)))))) (qab (ps_augS (pv 6) (pv 8) pget_list qae ip_add set_list)
   (qaf (qeU (i:=7) scShares.nd (by rfl) (by trivial) qae ip_sub))) pss_nil)))
   (qaf (qat (pv 6)))))))))),?_⟩
  refine⟨_,rfl,f,F,rfl,SqL.of hf,_,rfl,_,_,rfl,rfl,_,rfl,?_⟩;refine ite2 (fun c=>?_) (fun c=>?_)
  ·have c':F.sum≥wd:=of_decide_eq_true c;exact⟨_,rfl,f,_,rfl,.inl (SqL.of hf),fun t ht=>q t _ F ht (qad ht _) qac (floors_due ok c')⟩
  have c':¬F.sum≥wd:=fun z=>c (decide_eq_true z)
  refine⟨_,rfl,r,R,rfl,SqL.of hR,_,rfl,_,_,rfl,rfl,_,rfl,?_⟩;refine ite2 (fun d=>?_) (fun d=>?_)
  ·have d':R.sum≤wd:=of_decide_eq_true d;exact⟨_,rfl,r,_,rfl,.inl (SqL.of hR),fun t ht=>q t _ R ht (qad ht _) qac (roofs_due ok d')⟩
  have d':¬R.sum≤wd:=fun z=>d (decide_eq_true z)
  refine⟨_,rfl,w,W,rfl,hw,by rw[ok.lw];exact ok.n,ok.w,fun M M0 M9 dv=>?_⟩;rw[ok.lw]at dv;refine⟨_,rfl,_,rfl,_,rfl,_,rfl,_,rfl,wd,M,f,r,w,F,R,W,rfl,hf,hR,hw,ok,M0,M9,by omega,by omega,fun lev H1 s1 h1 h2=>?_⟩;refine⟨_,rfl,_,rfl,_,rfl,_,rfl,_,rfl,lev,M,f,r,w,F,R,W,rfl,s1 _ _ hf,s1 _ _ hR,s1 _ _ hw,ok,M0,M9,fun t H2 ht s2 h3=>?_⟩;have t0:H t=none:=s1.free ht;have s02:=s1.trans s2;obtain⟨left,hl⟩:∃left:Nat,(left:Int)=wd-(hads lev M F R W).sum:=⟨(wd-(hads lev M F R W).sum).toNat,by omega⟩;refine⟨_,rfl,_,rfl,t,_,rfl,SqL.of h3,_,_,rfl,rfl,?_⟩;show qa1 7 (V.int (wd-(hads lev M F R W).sum)) _ _ _;rw[←hl];rw[←after_zero (left:=left)]at h3;have n9:=ok.n;refine⟨_,rfl,w,rfl,⟨_,SqL.of (s02 _ _ hw)⟩,qem (xs:=W.map V.int) (fun k σ H'=>Same H H'∧(∃z8 z9,σ=[some (.int wd),some (.ref f),some (.ref r),some (.ref w),some (.int M),some (.int lev),some (.ref t),some (.int (max 0 ((left:Int)-(qaT (qaz lev M F R W) k:Int)))),z8,z9])∧LI H' t (after lev M left F R W k)) ⟨s02,⟨none,none,?_⟩,h3⟩ ?_ ?_ ?_⟩
  ·have:max 0 ((left:Int)-(qaT (qaz lev M F R W) 0:Int))=left:=by
    rw[show qaT (qaz lev M F R W) 0=0 from rfl];omega
   rw[this];rfl
  ·rintro i σ H' hi ⟨s3,_⟩;exact SqL.of (s3 _ _ hw)
  ·rintro k x σ H' T' hx hT ⟨s3,⟨z8,z9,rfl⟩,h4⟩;obtain⟨c,ec,rfl⟩:=qbg hx;have hk:k<F.length:=by rw[←ok.lw];exact(List.getElem?_eq_some_iff.mp ec).1
   have s4:=s3.trans (qad hT (.tup [.int (k:Int),.int c]));have hTT:upd H' T' (.tup [.int (k:Int),.int c]) T'=some (.tup [.int (k:Int),.int c]):=qac;have h5:LI (upd H' T' (.tup [.int (k:Int),.int c])) t (after lev M left F R W k):=qad hT _ _ _ h4;generalize upd H' T' (.tup [.int (k:Int),.int c])=H3 at s4 hTT h5⊢;have al:(after lev M left F R W k).length=F.length:=after_len;have aa:=qeu (lev:=lev) (M:=M) (left:=left) (R:=R) (W:=W) hk;have as_:=after_succ (lev:=lev) (M:=M) (left:=left) (R:=R) (W:=W) hk;have bs_:=qbL (qaz lev M F R W) k;have we:=qaX ec 1;have ol:qaz lev M F R W k=true↔qbx lev M F R W k<R.getD k 0∧qbx lev M F R W k*M=lev*c:=by
    unfold qaz;rw[decide_eq_true_iff,we]
   have at1:atI ((after lev M left F R W k).map V.int) (k:Int)=some (.int (qbx lev M F R W k)):=by
    rw[qba (by rw[al];exact hk) 0,aa]
   have at2:atI (R.map V.int) (k:Int)=some (.int (R.getD k 0)):=qba (by rw[ok.lr];exact hk) 0;refine⟨T',_,rfl,SqT.of hTT,rfl,_,_,rfl,_,_,rfl,rfl,?_⟩;have no:(¬(0<(left:Int)-(qaT (qaz lev M F R W) k:Int)∧qaz lev M F R W k=true))→Same H H3∧(∃z8 z9,([some (.int wd),some (.ref f),some (.ref r),some (.ref w),some (.int M),some (.int lev),some (.ref t),some (.int (max 0 ((left:Int)-(qaT (qaz lev M F R W) k:Int)))),some (.int (k:Int)),some (.int c)]:St)=[some (.int wd),some (.ref f),some (.ref r),some (.ref w),some (.int M),some (.int lev),some (.ref t),some (.int (max 0 ((left:Int)-(qaT (qaz lev M F R W) (k+1):Int)))),z8,z9])∧LI H3 t (after lev M left F R W (k+1)):=fun n=>by
    rw[as_,if_neg n];refine⟨s4,⟨some (.int (k:Int)),some (.int c),?_⟩,h5⟩;have:max 0 ((left:Int)-(qaT (qaz lev M F R W) k:Int))=max 0 ((left:Int)-(qaT (qaz lev M F R W) (k+1):Int)):=by
     rw[bs_]
     by_cases o:qaz lev M F R W k=true
     ·rw[if_pos o];have:¬0<(left:Int)-(qaT (qaz lev M F R W) k:Int):=fun z=>n ⟨z,o⟩
      omega
     ·rw[if_neg o];rfl
    rw[this]
   refine⟨_,rfl,_,_,rfl,rfl,_,rfl,?_⟩;refine ite2 (fun e1=>?_) (fun e1=>?_)
   ·have e1':0<(left:Int)-(qaT (qaz lev M F R W) k:Int):=by
     have:max 0 ((left:Int)-(qaT (qaz lev M F R W) k:Int))>0:=of_decide_eq_true e1;omega
    refine⟨_,rfl,_,rfl,t,_,_,_,rfl,rfl,SqL.of h5,at1,_,rfl,_,rfl,r,_,_,_,rfl,rfl,SqL.of (s4 _ _ hR),at2,_,_,rfl,rfl,_,rfl,?_⟩;refine ite2 (fun e2=>?_) (fun e2=>?_)
    ·have e2':qbx lev M F R W k<R.getD k 0:=of_decide_eq_true e2;have had9:-(2 ^ 64:Int)<M∧M<2 ^ 64:=⟨by omega,by omega⟩;refine⟨_,rfl,_,rfl,t,_,_,_,rfl,rfl,SqL.of h5,at1,_,rfl,_,_,rfl,rfl,.inr had9,_,rfl,_,rfl,_,_,rfl,rfl,.inr ⟨by have:=(ok.w k).1;omega,by have:=(ok.w k).2;omega⟩,rfl,_,rfl,?_⟩
     by_cases e3:qbx lev M F R W k*M=lev*c
     ·rw[decide_eq_true (show V.int (qbx lev M F R W k*M)=V.int (lev*c) by rw[e3])];have on:=ol.mpr ⟨e2',e3⟩;refine iteT ?_;have getk:((after lev M left F R W k).map V.int)[k]?=some (.int (qbx lev M F R W k)):=by
       rw[List.getElem?_map,List.getElem?_eq_getElem (by rw[al];exact hk),←aa,List.getD_eq_getElem?_getD,List.getElem?_eq_getElem (by rw[al];exact hk)];rfl
      refine⟨_,rfl,_,rfl,t,_,k,_,rfl,rfl,SqL.of h5,getk,_,_,rfl,rfl,t,_,k,k,rfl,rfl,h5,?_,?_⟩
      ·rw[List.length_map,al];exact qbW hk
      ·refine⟨_,rfl,_,_,rfl,rfl,qbq s4 t0,⟨some (.int (k:Int)),some (.int c),?_⟩,?_⟩
       ·have:max 0 ((left:Int)-(qaT (qaz lev M F R W) k:Int))-1=max 0 ((left:Int)-(qaT (qaz lev M F R W) (k+1):Int)):=by
         rw[bs_,if_pos on];omega
        rw[←this];rfl
       ·show upd H3 t _ t=_;rw[as_,if_pos ⟨e1',on⟩,aa,qac,List.map_set]
     ·rw[decide_eq_false (show¬V.int (qbx lev M F R W k*M)=V.int (lev*c)from fun z=>e3 (V.int.inj z))];exact iteF (no fun z=>e3 (ol.mp z.2).2)
    ·exact iteF (no fun z=>e2 (decide_eq_true (ol.mp z.2).1))
   ·exact iteF (no fun z=>e1 (decide_eq_true (show max 0 ((left:Int)-(qaT (qaz lev M F R W) k:Int))>0 by have:=z.1;omega)))
  ·rintro σ H' ⟨s3,⟨z8,z9,rfl⟩,h4⟩;rw[List.length_map,ok.lw,after_all]at h4;exact⟨_,rfl,q t H' _ t0 s3 h4 (level_due ok M0 dv (by omega) (by omega) h1 h2 hl)⟩
end
end K22
namespace K22
open PySem L2 Bk Gen Gd Bd Shr Sp0
abbrev sHeldS:Stmt:=top 38
abbrev sAllS:Stmt:=top 35
section
variable{P:Program}{w:World}{K:PySem.W.Frag}{mg:Str→Option Value}{base:Heap}
theorem scHeldS:FnScope ["book", "looks", "bounds", "spans", "node", "kind", "held", "room", "wides"] ["book", "looks", "bounds", "spans", "node"] (qag sHeldS):=⟨rfl,rfl,rfl,by decide +kernel,rfl,by decide +kernel,by decide +kernel⟩
theorem ok_held_spans{fn C a_KINDS_OF_PIECES:Addr}{fd:FuncData}(F:Fun K "held_spans" "held_spans" sHeldS fn fd)(T:BnX mg)(U:NumsS mg)(g_KINDS_OF_PIECES:mg "KINDS_OF_PIECES" = some (.ref a_KINDS_OF_PIECES))(KP:∀H:Hp,SqT K H a_KINDS_OF_PIECES (pieceKinds.map V.str))(F_holds:Fx P w K mg base (CX1 P w) 1 "holds" ["book", "node"] (qdu C))(F_look_at:Fx P w K mg base CX0 1 "look_at" ["looks", "node", "word"] spLook)(F_room_of:Fx P w K mg base CX0 2 "room_of" ["looks", "spans", "node"] spRoom)(F_floors_of:Fx P w K mg base CX0 3 "floors_of" ["looks", "bounds", "held"] (qeP qaS))(F_roofs_of:Fx P w K mg base CX0 4 "roofs_of" ["looks", "bounds", "held"] (qeP qbC))(F_weights_of:Fx P w K mg base CX0 2 "weights_of" ["looks", "held"] spWts)(F_shares:Fx P w K mg base CX0 3 "shares" ["width", "floors", "roofs", "weights"] spShares)(F_one_behind_the_other:Fx P w K mg base CX0 1 "one_behind_the_other" ["left", "wides"] spBehind)(F_cells_of:Fx P w K mg base CX0 2 "cells_of" ["looks", "held"] spCellsOf)(F_cell_spans:Fx P w K mg base CX0 4 "cell_spans" ["room", "columns", "cells"] spCellSpans)(F_aside_span:Fx P w K mg base CX0 2 "aside_span" ["looks", "room", "aside"] spAside) :
  FnOk P w K mg base CX0 5 fn fd ["book", "looks", "bounds", "spans", "node"] spHeldS:=by
 refine F.ok scHeldS (fun vs H Q E h=>?_) (fun cdv A outer s H vs Q E hr h=>?_)
 ·obtain⟨B,p,L,S,n,ds,ls,bs,sp,rfl,_⟩:=h;rfl
 ·obtain⟨B,p,L,S,n,ds,ls,bs,sp,rfl,I,lS,lsp,hn,cx,q⟩:=h;obtain⟨_,g_KIND⟩:=U.kind;obtain⟨_,g_LEFT⟩:=U.left;obtain⟨_,g_WIDE⟩:=U.wide;have hr_holds:Room 1 _:=hr.mono (by decide);have hr_look_at:Room 1 _:=hr.mono (by decide);have hr_room_of:Room 2 _:=hr.mono (by decide);have hr_floors_of:Room 3 _:=hr.mono (by decide);have hr_weights_of:Room 2 _:=hr.mono (by decide);have hr_shares:Room 3 _:=hr.mono (by decide);have hr_one_behind_the_other:Room 1 _:=hr.mono (by decide);have hr_cells_of:Room 2 _:=hr.mono (by decide);have hr_aside_span:Room 2 _:=hr.mono (by decide);have hr_roofs_of:=hr;have hr_cell_spans:=hr;have le:=cx.le;have l13:=cx.l13;have nl:n<ls.length:=by rw[cx.ll];exact hn
  have ns:n<sp.length:=by rw[lsp];exact hn
  refine⟨_,(qab (qah (i:=5) scHeldS.nd (by rfl) (by trivial) (qaj ix_tup (qaj ix_list (pv 0) (pv 4) (fun _ _=>rfl)) (qaD (v:=.int 1) (by rfl) g_KIND ⟨_,rfl⟩) (fun _ _=>rfl)))
   (qab (qah (i:=6) scHeldS.nd (by rfl) (by trivial) (qan F_holds hr_holds (by rfl) qfS (qaa (pv 0) (qaa (pv 4) pa_nil))))
   (qab (qaM (qam op_in_seq (pv 5) (qaD (v:=.ref a_KINDS_OF_PIECES) (by rfl) g_KINDS_OF_PIECES rfl) (by with_unfolding_all rfl)) (qaf (qat (qaI (own:=["one"]) (by rfl) (ix:=[1,3]) (frees:=["looks", "spans"]) (CompScope.frees (by rfl) (by decide +kernel) (by decide +kernel) (by decide +kernel) (by rfl) (by decide +kernel) (by first | exact qbc (by rfl) | exact qa9 (by rfl) (by rfl))) (qaE (pv 6)) (fun cl C s2 H2 fp=>(qai (i:=0) (by show(["one", "looks", "spans"]:List Str).Nodup;decide +kernel) (by rfl) (by trivial) (by trivial))) (fun cl C s2 H2 fp=>qaG) (fun cl C s2 H2 fp=>(qan F_room_of hr_room_of (by rfl) qao (qaa (pv 1) (qaa (pv 2) (qaa qae pa_nil)))))))) pss_nil)
   (qab (qah (i:=7) scHeldS.nd (by rfl) (by trivial) (qan F_room_of hr_room_of (by rfl) qao (qaa (pv 1) (qaa (pv 3) (qaa (pv 4) pa_nil)))))
   (qab (qaM (qam op_eq (pv 5) qau (qaq _)) (qab (qah (i:=8) scHeldS.nd (by rfl) (by trivial) (qan F_shares hr_shares (by rfl) qao (qaa (qaj ix_tup (pv 7) (qaD (v:=.int 1) (by rfl) g_WIDE ⟨_,rfl⟩) (fun _ _=>rfl)) (qaa (qan F_floors_of hr_floors_of (by rfl) qao (qaa (pv 1) (qaa (pv 2) (qaa (pv 6) pa_nil)))) (qaa (qan F_roofs_of hr_roofs_of (by rfl) qao (qaa (pv 1) (qaa (pv 2) (qaa (pv 6) pa_nil)))) (qaa (qan F_weights_of hr_weights_of (by rfl) qao (qaa (pv 1) (qaa (pv 6) pa_nil))) pa_nil))))))
   (qaf (qat (qan F_one_behind_the_other hr_one_behind_the_other (by rfl) qao (qaa (qaj ix_tup (pv 7) (qaD (v:=.int 0) (by rfl) g_LEFT ⟨_,rfl⟩) (fun _ _=>rfl)) (qaa (pv 8) pa_nil)))))) pss_nil)
   (qab (qaM (qam op_eq (pv 5) qau (qaq _)) (qaf (qat (qan F_cell_spans hr_cell_spans (by rfl) qao (qaa (pv 7) (qaa (qan F_look_at hr_look_at (by rfl) qao (qaa (pv 1) (qaa (pv 4) (qaa qau pa_nil)))) (qaa (qan F_cells_of hr_cells_of (by rfl) qao (qaa (pv 1) (qaa (pv 6) pa_nil))) pa_nil)))))) pss_nil)
   (qaf (qat (qaI (own:=["one"]) (by rfl) (ix:=[7,1,0]) (frees:=["room", "looks", "book"]) (CompScope.frees (by rfl) (by decide +kernel) (by decide +kernel) (by decide +kernel) (by rfl) (by decide +kernel) (by first | exact qbc (by rfl) | exact qa9 (by rfl) (by rfl) | exact qft (by rfl) (by rfl) (by rfl))) (qaE (pv 6)) (fun cl C s2 H2 fp=>(qai (i:=0) (by show(["one", "room", "looks", "book"]:List Str).Nodup;decide +kernel) (by rfl) (by trivial) (by trivial))) (fun cl C s2 H2 fp=>qaG) (fun cl C s2 H2 fp=>(qep (qam op_eq (qaj (r:=rIxT K) ix_tup (qaj (r:=rIxL K) ix_list (pv 3) (pv 0) (fun _ _=>rfl)) (qaD (v:=.int 1) (by rfl) g_KIND ⟨_,rfl⟩) (fun _ _=>rfl)) qau (qaq _)) (qan F_aside_span hr_aside_span (by rfl) qao (qaa (pv 2) (qaa (pv 1) (qaa (pv 0) pa_nil)))) (pv 1)))))))))))),?_⟩
  obtain⟨ab,hB,nd⟩:=I.bk;obtain⟨d,ed⟩:∃d,ds[n]?=some d:=⟨_,List.getElem?_eq_getElem hn⟩;obtain⟨c,ec,nc⟩:=nd.get ed;obtain⟨m',s',hc,_⟩:=nc.ex;refine⟨_,rfl,_,rfl,B,_,_,_,rfl,rfl,SqL.of hB,qay ec,c,_,_,_,rfl,rfl,SqT.of hc,rfl,?_⟩;refine⟨_,rfl,_,rfl,B,n,ds,_,rfl,⟨ab,hB,nd⟩,by omega,by show n<_;exact Nat.lt_of_lt_of_le (Nat.lt_of_lt_of_le hn le) (by decide),.inr ⟨⟨by omega,by omega⟩,fun K0 H1 hK s1 hK1=>?_⟩⟩;rw[qcj]at hK1;have kl:=qcO ds n;have kz:(((qav ds n).map fun(j:Nat)=>(j:Int)).map V.int).length<sizeLine:=by rw[List.length_map,List.length_map];exact qak (by omega)
  have kin:∀m∈qav ds n,m<ls.length:=fun m hm=>by rw[cx.ll];exact qbv hm
  have kin2:∀m∈qav ds n,m<ls.length∧m<bs.length:=fun m hm=>⟨kin m hm,by rw[cx.bl];exact qbv hm⟩
  dsimp only[qa1];refine⟨_,rfl,a_KINDS_OF_PIECES,_,rfl,.inr (KP _),rfl,qdK _,_,rfl,?_⟩;rw[if_neg Bool.false_ne_true,piece_in]
  by_cases htx:d.k=.text∨d.k=.head∨d.k=.note
  ·rw[decide_eq_true htx];have eh:=qcS (ls:=ls) (bs:=bs) (sp:=sp) ed htx;refine iteT ⟨_,rfl,K0,rfl,⟨_,SqL.of hK1⟩,qaF (xs:=((qav ds n).map fun(j:Nat)=>(j:Int)).map V.int) (fun i ys σ' H'=>Same H1 H'∧(∃z,σ'=[z,some (.ref p),some (.ref S)])∧∃as,ys=as.map V.ref∧Paired (PrAt H') as ((qaU ds ls bs sp n).take i)) kz ⟨Same.refl _,⟨none,rfl⟩,[],rfl,.nil⟩ ?_ ?_ ?_⟩
   ·rintro i ys σ' H' hi ⟨s2,_,as,rfl,pr⟩;refine⟨SqL.of (s2 _ _ hK1),?_⟩;rw[List.length_map,Paired.length pr,List.length_take];exact Nat.min_le_left _ _
   ·rintro i y ys σ' H' hy ⟨s2,⟨z,rfl⟩,as,rfl,pr⟩;obtain⟨m,em,rfl⟩:=qb7 hy;have s02:=s1.trans s2;refine⟨_,rfl,_,rfl,p,S,0,ls,sp,rfl,qaA s02 I.lk,qaK s02 lS,by rw[cx.ll];exact cx.pos,by rw[lsp];exact cx.pos,l13,fun t H'' ht s3 pt=>?_⟩;refine⟨s2.trans s3,⟨_,rfl⟩,as++[t],by rw[List.map_append];rfl,?_⟩;have e2:(qaU ds ls bs sp n)[i]?=some (qbe ls sp 0):=by rw[eh,List.getElem?_map,em];rfl
    rw[List.take_succ,e2];exact(pr.mono fun _ _ z=>s3 _ _ z).snoc pt
   ·rintro ys σ' H' ⟨s2,_,as,rfl,pr⟩ D hD;have l1:(qaU ds ls bs sp n).length=(qav ds n).length:=by rw[eh,List.length_map]
    rw[List.take_of_length_le (by rw[l1,List.length_map,List.length_map];exact Nat.le_refl _)]at pr;exact q D _ ((s1.trans s2).free hD) ((s1.trans s2).trans (qad hD _)) l1 ⟨as,qac,pr.mono fun _ _ z=>qad hD _ _ _ z⟩
  rw[decide_eq_false htx];refine iteF ?_;refine⟨_,rfl,_,rfl,_,rfl,p,S,n,ls,sp,rfl,qaA s1 I.lk,qaK s1 lS,nl,ns,l13,fun r H2 hr0 s2 hR=>?_⟩;have s02:=s1.trans s2;have hK2:KL H2 K0 (qav ds n):=s2 _ _ hK1;have lk2:=qaA s02 I.lk;have lb2:=qaK s02 I.bd;dsimp only[qa1];refine⟨_,rfl,rfl,_,rfl,?_⟩;rw[show decide (V.str d.k.s=V.str (Str.ofString "shelf"))=decide (d.k=.shelf)from kdt d.k .shelf]
  by_cases hs:d.k=.shelf
  ·rw[decide_eq_true hs];have eh:=qcu (ls:=ls) (bs:=bs) (sp:=sp) ed hs;refine iteT ⟨_,rfl,r,_,_,_,rfl,rfl,SqT.of hR,rfl,?_⟩;refine⟨_,rfl,_,rfl,_,rfl,p,L,K0,_,ls,bs,rfl,lk2,lb2,hK2,by omega,kin2,l13,fun f H3 hf s3 lf=>?_⟩;refine⟨_,rfl,_,rfl,_,rfl,p,L,K0,_,ls,bs,rfl,qaA s3 lk2,qaK s3 lb2,s3 _ _ hK2,by omega,kin2,l13,fun g H4 hg s4 lg=>?_⟩;have s24:=s3.trans s4;refine⟨_,rfl,_,rfl,p,K0,_,ls,rfl,qaA s24 lk2,s24 _ _ hK2,by omega,kin,l13,fun v H5 hv s5 lv=>?_⟩;have s25:=s24.trans s5;refine⟨_,f,g,v,_,_,_,rfl,(s4.trans s5) _ _ lf,s5 _ _ lg,lv,cx.ok n,fun x H6 y hx s6 ly due=>?_⟩;have s26:=s25.trans s6;have ey:y=qcC ls bs (qav ds n) (qbe ls sp n).2:=due.eq;have lyy:y.length=(qav ds n).length:=by rw[ey,qdQ]
   refine⟨_,rfl,r,_,_,_,rfl,rfl,SqT.of (s26 _ _ hR),rfl,_,rfl,_,x,y,rfl,ly,by omega,fun t H7 ht s7 lt=>?_⟩;have s07:=(s02.trans s26).trans s7;have s06:=s02.trans s26;refine q t H7 (s06.free ht) s07 ?_ ?_
   ·rw[eh,qcw,←ey];exact lyy
   ·rw[eh,←ey];exact lt
  rw[decide_eq_false hs];refine iteF ?_;refine⟨_,rfl,rfl,_,rfl,?_⟩;rw[show decide (V.str d.k.s=V.str (Str.ofString "grid"))=decide (d.k=.grid)from kdt d.k .grid]
  by_cases hg:d.k=.grid
  ·rw[decide_eq_true hg];have eh:=qdI (ls:=ls) (bs:=bs) (sp:=sp) ed hg;obtain⟨l,_,lok,lv⟩:=cx.look hn;have cb:=lok.cols;rw[←lv]at cb;refine iteT ⟨_,rfl,_,rfl,_,rfl,p,n,7,_,ls,rfl,lk2,nl,l13,by decide,columns_is,?_⟩;refine⟨_,rfl,_,rfl,p,K0,_,ls,rfl,lk2,hK2,by omega,kin,cx.lk,fun C' H3 hC s3 lC=>?_⟩;refine⟨r,C',_,_,_,rfl,s3 _ _ hR,lC,cx.cells n,by rw[qbS];omega,cb.1,cb.2,fun t H4 ht s4 lpl lt=>?_⟩;have s04:=(s02.trans s3).trans s4;refine q t H4 ((s02.trans s3).free ht) s04 ?_ ?_
   ·rw[eh,List.length_map,lpl,qbS]
   ·rw[eh];exact lt
  rw[decide_eq_false hg];refine iteF ?_;have eh:=qdM (ls:=ls) (bs:=bs) (sp:=sp) ed htx hs hg;refine⟨_,rfl,K0,rfl,⟨_,SqL.of hK2⟩,qaF (xs:=((qav ds n).map fun(j:Nat)=>(j:Int)).map V.int) (fun i ys σ' H'=>Same H2 H'∧(∃z,σ'=[z,some (.ref r),some (.ref p),some (.ref B)])∧∃as,ys=as.map V.ref∧Paired (PrAt H') as ((qaU ds ls bs sp n).take i)) kz ⟨Same.refl _,⟨none,rfl⟩,[],rfl,.nil⟩ ?_ ?_ ?_⟩
  ·rintro i ys σ' H' hi ⟨s3,_,as,rfl,pr⟩;refine⟨SqL.of (s3 _ _ hK2),?_⟩;rw[List.length_map,Paired.length pr,List.length_take];exact Nat.min_le_left _ _
  ·rintro i y ys σ' H' hy ⟨s3,⟨z,rfl⟩,as,rfl,pr⟩;obtain⟨m,em,rfl⟩:=qb7 hy;have hm:=qbv (List.mem_of_getElem? em);have s03:=s02.trans s3;obtain⟨dm,edm⟩:∃dm,ds[m]?=some dm:=⟨_,List.getElem?_eq_getElem hm⟩;obtain⟨cm,ecm,ncm⟩:=nd.get edm;obtain⟨_,_,hcm,_⟩:=ncm.ex;have e2:(qaU ds ls bs sp n)[i]?=some (qbE ds ls (qbe ls sp n) m):=by rw[eh,List.getElem?_map,em];rfl
   have e3:=qer (ls:=ls) (rm:=qbe ls sp n) edm;refine⟨_,rfl,_,rfl,B,_,_,_,rfl,rfl,SqL.of (s03 _ _ hB),qay ecm,cm,_,_,_,rfl,rfl,SqT.of (s03 _ _ hcm),rfl,rfl,_,rfl,?_⟩;rw[show decide (V.str dm.k.s=V.str (Str.ofString "aside"))=decide (dm.k=.aside)from kdt dm.k .aside]
   by_cases ha:dm.k=.aside
   ·rw[decide_eq_true ha];rw[if_pos ha]at e3;refine iteT ⟨_,rfl,_,rfl,_,rfl,p,r,m,ls,_,rfl,qaA s03 I.lk,s3 _ _ hR,by rw[cx.ll];exact hm,cx.lk,fun t H4 ht s4 pt=>?_⟩;refine⟨s3.trans s4,⟨_,rfl⟩,as++[t],by rw[List.map_append];rfl,?_⟩;rw[List.take_succ,e2,e3];exact(pr.mono fun _ _ z=>s4 _ _ z).snoc pt
   ·rw[decide_eq_false ha];rw[if_neg ha]at e3;refine iteF ⟨_,rfl,s3,⟨_,rfl⟩,as++[r],by rw[List.map_append];rfl,?_⟩;rw[List.take_succ,e2,e3];exact pr.snoc (s3 _ _ hR)
  ·rintro ys σ' H' ⟨s3,_,as,rfl,pr⟩ D hD;have l1:(qaU ds ls bs sp n).length=(qav ds n).length:=by rw[eh,List.length_map]
   rw[List.take_of_length_le (by rw[l1,List.length_map,List.length_map];exact Nat.le_refl _)]at pr;exact q D _ ((s02.trans s3).free hD) ((s02.trans s3).trans (qad hD _)) l1 ⟨as,qac,pr.mono fun _ _ z=>qad hD _ _ _ z⟩
theorem scAllS:FnScope ["book", "looks", "bounds", "wide", "spans", "node", "within", "place", "one"] ["book", "looks", "bounds", "wide"] (qag sAllS):=⟨rfl,rfl,rfl,by decide +kernel,rfl,by decide +kernel,by decide +kernel⟩
theorem ok_all_spans{fn C:Addr}{fd:FuncData}(F:Fun K "all_spans" "all_spans" sAllS fn fd)(T:BnX mg)(F_holds:Fx P w K mg base (CX1 P w) 1 "holds" ["book", "node"] (qdu C))(F_held_spans:Fx P w K mg base CX0 5 "held_spans" ["book", "looks", "bounds", "spans", "node"] spHeldS):FnOk P w K mg base CX0 6 fn fd ["book", "looks", "bounds", "wide"] spAllS:=by
 refine F.ok scAllS (fun vs H Q E h=>?_) (fun cdv A outer s H vs Q E hr h=>?_)
 ·obtain⟨B,p,L,wide,ds,ls,bs,rfl,_⟩:=h;rfl
 ·obtain⟨B,p,L,wide,ds,ls,bs,rfl,I,cx,q⟩:=h;have hr_holds:Room 1 _:=hr.mono (by decide);have hr_held_spans:=hr;have le:=cx.le;refine⟨_,(qab (qcg (i:=4) (by rfl) scAllS.nd (by rfl) (by trivial) (own:=["node"]) (ix:=[3]) (frees:=["wide"]) (CompScope.frees (by rfl) (by decide +kernel) (by decide +kernel) (by decide +kernel) (by rfl) (by decide +kernel) (by first | exact qbc (by rfl) | exact qa9 (by rfl) (by rfl))) (qaE (pv 0)) (fun cl C s2 H2 fp=>(qai (i:=0) (by show(["node", "wide"]:List Str).Nodup;decide +kernel) (by rfl) (by trivial) (by trivial))) (fun cl C s2 H2 fp=>qaG) (fun cl C s2 H2 fp=>(qaO (qaa qae (qaa (pv 1) pa_nil)))))
   (qab (qaR PassesOwn.never (by rfl) (qaH (by rfl) T.range (qaa (qal call_len_seq (by rfl) T.len b_len (qaa (pv 0) pa_nil)) pa_nil)) (qai (i:=5) scAllS.nd (by rfl) (by trivial))
   (qab (qah (i:=6) scAllS.nd (by rfl) (by trivial) (qan F_held_spans hr_held_spans (by rfl) qao (qaa (pv 0) (qaa (pv 1) (qaa (pv 2) (qaa (pv 4) (qaa (pv 5) pa_nil)))))))
   (qaf (qaR PassesOwn.never (by rfl) (qcr (by rfl) T.enumerate (qaa (qan F_holds hr_holds (by rfl) qfS (qaa (pv 0) (qaa (pv 5) pa_nil))) pa_nil)) (qcD (by rfl) (qax (qai (i:=7) scAllS.nd (by rfl) (by trivial)) (qax (qai (i:=8) scAllS.nd (by rfl) (by trivial)) pgs_nil)))
   (qaf (qbF (qaj ix_list (pv 6) (pv 7) (fun _ _=>rfl)) (qbP (pv 4) (pv 8) set_list)))))))
   (qaf (qat (pv 4))))),?_⟩
  obtain⟨ab,hB,nd⟩:=I.bk;have lab:ab.length=ds.length:=nd.length;refine⟨_,rfl,B,rfl,⟨_,SqL.of hB⟩,qaF (xs:=ab.map V.ref) (fun i ys σ' H'=>Same H H'∧(∃z,σ'=[z,some (.int wide)])∧∃as,ys=as.map V.ref∧Paired (PrAt H') as (List.replicate i (0,wide))) (by rw[List.length_map];exact qak (by omega)) ⟨Same.refl H,⟨none,rfl⟩,[],rfl,.nil⟩ ?_ ?_ ?_⟩
  ·rintro i ys σ' H' hi ⟨s1,_,as,rfl,pr⟩;refine⟨SqL.of (s1 _ _ hB),?_⟩;rw[List.length_map,Paired.length pr,List.length_replicate];exact Nat.le_refl _
  ·rintro i y ys σ' H' hy ⟨s1,⟨z,rfl⟩,as,rfl,pr⟩;refine⟨_,rfl,by show 2≤sizeLine;decide,fun t ht=>?_⟩;have s2:=qad ht (.tup [.int 0,.int wide]);refine⟨s1.trans s2,⟨_,rfl⟩,as++[t],by rw[List.map_append];rfl,?_⟩;rw[List.replicate_succ'];exact(pr.mono fun _ _ z=>s2 _ _ z).snoc qac
  rintro ys σ' H1 ⟨s1,_,as,rfl,pr⟩ S hS;rw[List.length_map,lab]at pr;have s2:=qad hS (.lst (as.map V.ref));have lS:LstAt PrAt (upd H1 S (.lst (as.map V.ref))) S (spTo ds ls bs wide 0):=⟨as,qac,pr.mono fun _ _ z=>s2 _ _ z⟩;have s02:=s1.trans s2;have S0:H S=none:=s1.free hS;generalize upd H1 S (.lst (as.map V.ref))=H2 at lS s02⊢;clear s2 hS s1 pr as;have el:(((ab.map V.ref).length:Nat):Int)=ds.length:=by rw[List.length_map,lab]
  refine⟨_,rfl,B,_,rfl,.inl (SqL.of (s02 _ _ hB)),_,rfl,by omega,by omega,qaN (fun k σ H'=>Same H H'∧LstAt PrAt H' S (spTo ds ls bs wide k)∧(∃z5 z6 z7 z8,σ=[some (.ref B),some (.ref p),some (.ref L),some (.int wide),some (.ref S),z5,z6,z7,z8])∧∀j,j<k→(qaU ds ls bs (spTo ds ls bs wide j) j).length=(qav ds j).length) ⟨s02,lS,⟨none,none,none,none,rfl⟩,fun j hj=>absurd hj (Nat.not_lt_zero _)⟩ ?_ ?_⟩
  ·rintro n σ H3 hn0 ⟨s03,lS3,⟨z5,z6,z7,z8,rfl⟩,hls⟩;have hn:n<ds.length:=by omega
   rw[show(0:Int)+(n:Int)=(n:Int)from Int.zero_add _];refine⟨_,rfl,_,rfl,_,rfl,_,rfl,_,rfl,B,p,L,S,n,ds,ls,bs,_,rfl,I.same s03,lS3,spTo_len n,hn,cx,fun t H4 ht s4 hl lt=>?_⟩;have s04:=s03.trans s4;have lS4:=qaK s4 lS3;obtain⟨ab4,hB4,nd4⟩:=(I.same s04).bk;refine⟨_,rfl,_,rfl,B,n,ds,_,rfl,⟨ab4,hB4,nd4⟩,by omega,by show n<_;exact Nat.lt_of_lt_of_le (Nat.lt_of_lt_of_le hn le) (by decide),.inr ⟨⟨by omega,by omega⟩,fun K0 H5 hK s5 hK5=>?_⟩⟩;rw[qcj]at hK5;have s05:=s04.trans s5;obtain⟨ts,hts,prt⟩:=qaK s5 lt;have lS5:=qaK s5 lS4;have nS:∀{b:Addr} {o:HO},H b=some o→b≠S:=fun e z=>by rw[z,S0]at e;cases e
   have KS:K0≠S:=fun z=>by
    obtain⟨_,e,_⟩:=lS4;rw[z,e]at hK;cases hK
   have tS:t≠S:=fun z=>by
    obtain⟨_,e,_⟩:=lS3;rw[z,e]at ht;cases ht
   generalize hz:qaU ds ls bs (spTo ds ls bs wide n) n=zs at hl prt;refine⟨K0,rfl,⟨_,SqL.of hK5⟩,qem (xs:=((qav ds n).map fun(j:Nat)=>(j:Int)).map V.int) (fun i σ H'=>Keep1 S H5 H'∧LstAt PrAt H' S (qa3 (spTo ds ls bs wide n) ((qav ds n).take i) (zs.take i))∧∃z7 z8,σ=[some (.ref B),some (.ref p),some (.ref L),some (.int wide),some (.ref S),some (.int (n:Int)),some (.ref t),z7,z8]) ⟨KeepN.refl,lS5,_,_,rfl⟩ ?_ ?_ ?_⟩
   ·rintro i σ H' hi ⟨k1,_⟩;exact SqL.of (k1 _ _ KS hK5)
   ·rintro i y σ H' T' hy hT ⟨k1,⟨as,hSS,pra⟩,z7,z8,rfl⟩;obtain⟨m,em,rfl⟩:=qb7 hy;have hm:=qbv (List.mem_of_getElem? em);have hi:i<(qav ds n).length:=(List.getElem?_eq_some_iff.mp em).1;have hiz:i<zs.length:=by rw[hl];exact hi
    obtain⟨b,eb,hb⟩:=pget prt (List.getElem?_eq_getElem hiz);have st:=qad hT (.tup [.int (i:Int),.int (m:Int)]);have kt:=k1.trans st.keep;have hS6:=st _ _ hSS;have pr6:Paired (PrAt (upd H' T' (.tup [.int (i:Int),.int (m:Int)]))) as (qa3 (spTo ds ls bs wide n) ((qav ds n).take i) (zs.take i)):=pra.mono fun _ _ z=>st _ _ z
    refine⟨T',_,rfl,SqT.of qac,rfl,_,_,rfl,_,_,rfl,rfl,?_⟩;generalize upd H' T' (.tup [.int (i:Int),.int (m:Int)])=H6 at kt hS6 pr6⊢;have bS:b≠S:=fun z=>by
     obtain⟨_,e,_⟩:=lS5;have hb':H5 b=some (.tup _):=hb;rw[z,e]at hb';cases hb'
    have hb6:PrAt H6 b zs[i]:=kt _ _ bS hb;have lse:(as.map V.ref).length=ds.length:=by rw[List.length_map,Paired.length pra,putAll_len,spTo_len]
    refine⟨_,rfl,_,rfl,t,_,_,_,rfl,rfl,SqL.of (kt _ _ tS hts),qay eb,_,rfl,_,rfl,S,_,_,m,rfl,rfl,hS6,by rw[lse];exact qbW hm,?_⟩;have tl:=Tups.lst (o:=.lst ((as.map V.ref).set m (.ref b))) hS6;refine⟨fun c o nn e=>by rw[qap nn];exact kt c o nn e,⟨as.set m b,by rw[qac,List.map_set],?_⟩,_,_,rfl⟩;have e1:(qav ds n).take (i+1)=(qav ds n).take i++[m]:=by rw[List.take_succ,em];rfl
    have e2:zs.take (i+1)=zs.take i++[zs[i]]:=by rw[List.take_succ,List.getElem?_eq_getElem hiz];rfl
    rw[e1,e2,putAll_snoc (by rw[List.length_take,List.length_take,hl])];exact Paired.set (pr6.mono fun _ _ z=>tl _ _ z) (tl _ _ hb6) m
   ·rintro σ H' ⟨k1,lS6,z7,z8,rfl⟩;rw[List.length_map,List.length_map,List.take_length,List.take_of_length_le (by omega)]at lS6;have es:spTo ds ls bs wide (n+1)=qa3 (spTo ds ls bs wide n) (qav ds n) zs:=by rw[←hz];rfl
    rw[←es]at lS6;refine⟨fun b o e=>k1 _ _ (nS e) (s05 _ _ e),lS6,⟨_,_,_,_,rfl⟩,fun j hj=>?_⟩;rcases Nat.lt_succ_iff_lt_or_eq.mp hj with h | h
    ·exact hls j h
    ·rw[h,hz];exact hl
  ·rintro σ H3 ⟨s03,lS3,⟨z5,z6,z7,z8,rfl⟩,hls⟩;have en:(((ab.map V.ref).length:Nat):Int).toNat=ds.length:=by omega
   rw[en]at lS3 hls;exact⟨_,rfl,q S H3 S0 s03 lS3 fun n hn=>spans_is cx.bh cx.pos hn (hls n hn)⟩
end
end K22
namespace Br
open PySem L2 Bk Gen Gd Bd
end Br
namespace L2
open PySem PySem.Spec PyProof.Rows
end L2
namespace Shr
open PySem L2 Bk Gen Gd
def spAhead:Sp:=fun vs H Q _=>∃(w t:Addr) (W x:List Int) (i j:Nat),vs=[.ref w,.ref t,.int i,.int j]∧LI H w W∧LI H t x∧(i<W.length∧j<W.length∧i<x.length∧j<x.length)∧(∀k,1≤W.getD k 1∧W.getD k 1≤9) ∧
 ∀b:Bool,(b=true↔qc7 W i (x.getD i 0-1) j (x.getD j 0))→Q (.bl b) H
def spAheadAll:Sp:=fun vs H Q _=>∃(w t o:Addr) (W x:List Int) (i:Nat) (js:List Nat),vs=[.ref w,.ref t,.int i,.ref o]∧LI H w W∧LI H t x∧H o=some (.lst (js.map fun j:Nat=>V.int j))∧(i<W.length∧i<x.length)∧(∀j∈js,j<W.length∧j<x.length)∧js.length<sizeLine∧(∀k,1≤W.getD k 1∧W.getD k 1≤9) ∧
 ∀(b:Bool) (H':Hp),Same H H'→(b=true↔∀j∈js,qc7 W i (x.getD i 0-1) j (x.getD j 0))→Q (.bl b) H'
def Hold(F R W:List Int)(wd:Int)(x:List Int):Prop:=Fair F R W x∧¬(wd<x.sum∧x≠F)∧¬(x.sum<wd∧x≠R)
def spHold:Sp:=fun vs H Q _=>∃(wd:Int) (f r w t:Addr) (F R W x:List Int),vs=[.int wd,.ref f,.ref r,.ref w,.ref t]∧LI H f F∧LI H r R∧LI H w W∧LI H t x∧Ok F R W∧x.length≤300 ∧
 ∀(b:Bool) (H':Hp),Same H H'→(b=true↔Hold F R W wd x)→Q (.bl b) H'
theorem qdv{P:Nat→Prop}{bs:List Bool}{gs:List Nat}(h:Paired (fun b g=>(b=true↔P g)) bs gs):bs.all id=true↔∀g∈gs,P g:=by
 induction h with
 | nil=>exact⟨fun _ g hg=>absurd hg (List.not_mem_nil),fun _=>rfl⟩
 | cons a _ ih =>
   rw[List.all_cons,Bool.and_eq_true_iff,ih]
   constructor
   · rintro⟨h1,h2⟩ g hg
     rcases List.mem_cons.mp hg with rfl | h
     · exact a.mp h1
     · exact h2 g h
   · exact fun h=>⟨a.mpr (h _ List.mem_cons_self),fun g hg=>h g (List.mem_cons_of_mem _ hg)⟩
def inB(F R x:List Int)(k:Nat):Bool:=if decide (F.getD k 0≤x.getD k 0)=true then decide (x.getD k 0≤R.getD k 0)else false
def giv(F x:List Int)(k:Nat):Bool:=decide (F.getD k 0<x.getD k 0)
theorem inB_all{F R x:List Int}{n:Nat}:((List.range n).map (inB F R x)).all id=true↔∀k,k<n→F.getD k 0≤x.getD k 0∧x.getD k 0≤R.getD k 0:=by
 rw[List.all_map,List.all_eq_true];have one:∀k,(id∘inB F R x) k=true↔F.getD k 0≤x.getD k 0∧x.getD k 0≤R.getD k 0:=fun k=>by
  show inB F R x k=true↔_;unfold inB
  by_cases c:F.getD k 0≤x.getD k 0
  ·rw[if_pos (decide_eq_true c),decide_eq_true_iff];exact⟨fun h=>⟨c,h⟩,fun h=>h.2⟩
  ·rw[if_neg (by rw[decide_eq_true_iff];exact c)];exact⟨fun h=>Bool.noConfusion h,fun h=>absurd h.1 c⟩
 constructor
 ·exact fun h k hk=>(one k).mp (h k (List.mem_range.mpr hk))
 ·exact fun h k hk=>(one k).mpr (h k (List.mem_range.mp hk))
theorem qcp{p:Nat→Bool}{k:Nat}:(List.range (k+1)).filter p=(List.range k).filter p++if p k=true then[k]else[]:=by
 rw[List.range_succ,List.filter_append,List.filter_cons];rfl
theorem qcK{p:Nat→Bool}{k:Nat}:((List.range k).filter p).length≤k:=by
 have:=List.length_filter_le p (List.range k);rw[List.length_range]at this;exact this
theorem ahead_self{W x:List Int}{i:Nat}(hW:0<W.getD i 1):qc7 W i (x.getD i 0-1) i (x.getD i 0):=.inl (Int.mul_lt_mul_of_pos_right (by omega) hW)
theorem hold_iff{F R W x:List Int}{wd:Int}(hW:∀k,0<W.getD k 1)(l:x.length=F.length)(a:∀k,k<F.length→F.getD k 0≤x.getD k 0∧x.getD k 0≤R.getD k 0)(b:¬(wd<x.sum∧x≠F))(c:¬(x.sum<wd∧x≠R)) :
  Hold F R W wd x↔∀g∈(List.range x.length).filter (giv F x),∀j∈(List.range x.length).filter (giv x R),qc7 W g (x.getD g 0-1) j (x.getD j 0):=by
 constructor
 ·rintro⟨f,_,_⟩ g hg j hj;obtain⟨g1,g2⟩:=List.mem_filter.mp hg;obtain⟨j1,j2⟩:=List.mem_filter.mp hj
  by_cases e:g=j
  ·rw[←e];exact ahead_self (hW g)
  ·exact f.ahead g j (List.mem_range.mp g1) (List.mem_range.mp j1) e (of_decide_eq_true g2) (of_decide_eq_true j2)
 ·intro h;refine⟨⟨l,fun k hk=>(a k (l ▸ hk)).1,fun k hk=>(a k (l ▸ hk)).2,fun i j hi hj _ h1 h2=>?_⟩,b,c⟩;exact h i (List.mem_filter.mpr ⟨List.mem_range.mpr hi,decide_eq_true h1⟩) j (List.mem_filter.mpr ⟨List.mem_range.mpr hj,decide_eq_true h2⟩)
theorem IsDue.fair{F R W:List Int}{wd:Int}{x:List Int}(ok:Ok F R W)(h:IsDue F R W wd x):Fair F R W x∧x.sum=F.sum+min (max 0 (wd-F.sum)) (R.sum-F.sum):=by
 obtain⟨room,out,e,s,rfl⟩:=h;rw[←e];exact⟨given_fair ok.w ok.fr s.perm s.le,given_total ok.w ok.lr ok.fr s.perm s.le⟩
theorem IsDue.hold{F R W:List Int}{wd:Int}{x y:List Int}(ok:Ok F R W)(h:IsDue F R W wd y):Hold F R W wd x↔x=y:=by
 obtain⟨f,t⟩:=h.fair ok;exact hold_due ok.pos ok.lr ok.fr f t rfl
theorem ints_inj{x y:List Int}:PySem.W.Dat.list (x.map PySem.W.Dat.int)=PySem.W.Dat.list (y.map PySem.W.Dat.int)↔x=y:=by
 constructor
 ·intro h;have h':=PySem.W.Dat.list.inj h;exact(List.map_inj_right (fun a b e=>PySem.W.Dat.int.inj e)).mp h'
 ·rintro rfl;rfl
theorem qdV{H:Hp}{a:Addr}{x:List Int}(h:LI H a x):DIn H (.ref a) (.list (x.map PySem.W.Dat.int)):=.lst h (qfU x)
end Shr
namespace K22
open PySem L2 Bk Gen Gd Shr
open Bd (qft)
abbrev sAhead:Stmt:=top 31
abbrev sAheadAll:Stmt:=top 30
abbrev sHold:Stmt:=top 29
section
variable{P:Program}{w:World}{K:PySem.W.Frag}{mg:Str→Option Value}{base:Heap}
theorem scAhead:FnScope ["weights", "told", "one", "other", "last", "coming"] ["weights", "told", "one", "other"] (qag sAhead):=⟨rfl,rfl,rfl,by decide +kernel,rfl,by decide +kernel,by decide +kernel⟩
theorem ok_went_ahead{f:Addr}{fd:FuncData}(F:Fun K "went_ahead" "went_ahead" sAhead f fd):FnOk P w K mg base CX0 1 f fd ["weights", "told", "one", "other"] spAhead:=by
 refine F.ok scAhead (fun vs H Q E h=>?_) (fun cdv A outer s H vs Q E hr h=>?_)
 ·obtain⟨w,t,W,x,i,j,rfl,_⟩:=h;rfl
 ·obtain⟨w,t,W,x,i,j,rfl,hw,ht,⟨l1,l2,l3,l4⟩,ok,q⟩:=h;refine⟨_,(qab (qah (i:=4) scAhead.nd (by rfl) (by trivial) (qas op_mul (qas op_sub (qaj ix_list (pv 1) (pv 2) (fun _ _=>rfl)) qae) (qaj ix_list (pv 0) (pv 3) (fun _ _=>rfl))))
   (qab (qah (i:=5) scAhead.nd (by rfl) (by trivial) (qas op_mul (qaj ix_list (pv 1) (pv 3) (fun _ _=>rfl)) (qaj ix_list (pv 0) (pv 2) (fun _ _=>rfl))))
   (qaf (qat (qf8 (qbf op_lt (pv 4) (pv 5) (qaq _)) (qfq (pe_and (qbf op_eq (pv 4) (pv 5) (qaq _)) (qfq (qbf op_lt (pv 2) (pv 3) (qaq _)))))))))),?_⟩
  have wi:=ok i;have wj:=ok j;refine⟨_,rfl,_,rfl,t,_,_,_,rfl,rfl,SqL.of ht,qba l3 0,_,_,rfl,rfl,_,rfl,_,rfl,w,_,_,_,rfl,rfl,SqL.of hw,qba l2 1,_,_,rfl,rfl,.inr ⟨by omega,by omega⟩,?_⟩;refine⟨_,rfl,_,rfl,t,_,_,_,rfl,rfl,SqL.of ht,qba l4 0,_,rfl,_,rfl,w,_,_,_,rfl,rfl,SqL.of hw,qba l1 1,_,_,rfl,rfl,.inr ⟨by omega,by omega⟩,?_⟩;refine⟨_,rfl,_,rfl,_,_,rfl,rfl,_,rfl,?_⟩;refine ite2 (fun c=>?_) (fun c=>?_)
  ·have c':(x.getD i 0-1)*W.getD j 1<x.getD j 0*W.getD i 1:=of_decide_eq_true c;exact q _ ⟨fun _=>.inl c',fun _=>rfl⟩
  have c':¬(x.getD i 0-1)*W.getD j 1<x.getD j 0*W.getD i 1:=fun z=>c (decide_eq_true z)
  refine⟨_,rfl,_,rfl,rfl,_,rfl,?_⟩
  by_cases e:(x.getD i 0-1)*W.getD j 1=x.getD j 0*W.getD i 1
  ·rw[decide_eq_true (show V.int ((x.getD i 0-1)*W.getD j 1)=V.int (x.getD j 0*W.getD i 1) by rw[e])];refine iteT ⟨_,rfl,_,rfl,_,_,rfl,rfl,q _ ?_⟩;rw[decide_eq_true_iff];refine⟨fun z=>.inr ⟨e,by omega⟩,fun z=>?_⟩;rcases z with z | z
   ·exact absurd z c'
   ·have:=z.2;show((i:Nat):Int)<((j:Nat):Int);omega
  ·rw[decide_eq_false (show¬V.int ((x.getD i 0-1)*W.getD j 1)=V.int (x.getD j 0*W.getD i 1)from fun z=>e (V.int.inj z))];refine iteF (q _ ⟨fun z=>Bool.noConfusion z,fun z=>?_⟩);rcases z with z | z
   ·exact absurd z c'
   ·exact absurd z.1 e
theorem scAheadAll:FnScope ["weights", "told", "one", "others"] ["weights", "told", "one", "others"] (qag sAheadAll):=⟨rfl,rfl,rfl,by decide +kernel,rfl,by decide +kernel,by decide +kernel⟩
theorem ok_went_ahead_of_all{f:Addr}{fd:FuncData}(F:Fun K "went_ahead_of_all" "went_ahead_of_all" sAheadAll f fd)(T:BnS mg)(F_went_ahead:Fx P w K mg base CX0 1 "went_ahead" ["weights", "told", "one", "other"] spAhead):FnOk P w K mg base CX0 2 f fd ["weights", "told", "one", "others"] spAheadAll:=by
 refine F.ok scAheadAll (fun vs H Q E h=>?_) (fun cdv A outer s H vs Q E hr h=>?_)
 ·obtain⟨w,t,o,W,x,i,js,rfl,_⟩:=h;rfl
 ·obtain⟨w,t,o,W,x,i,js,rfl,hw,ht,ho,⟨l1,l2⟩,lj,lz,ok,q⟩:=h;have hr_went_ahead:=hr;refine⟨_,(qaf (qat (qal (qcI (by rfl)) (by rfl) T.all b_all (qaa (qaI (own:=["other"]) (by rfl) (ix:=[0,1,2]) (frees:=["weights", "told", "one"]) (CompScope.frees (by rfl) (by decide +kernel) (by decide +kernel) (by decide +kernel) (by rfl) (by decide +kernel) (by first | exact qbc (by rfl) | exact qa9 (by rfl) (by rfl) | exact qft (by rfl) (by rfl) (by rfl))) (qaE (pv 3)) (fun cl C s2 H2 fp=>(qai (i:=0) (by show(["other", "weights", "told", "one"]:List Str).Nodup;decide +kernel) (by rfl) (by trivial) (by trivial))) (fun cl C s2 H2 fp=>qaG) (fun cl C s2 H2 fp=>(qan F_went_ahead hr_went_ahead (by rfl) qao (qaa (pv 1) (qaa (pv 2) (qaa (pv 3) (qaa (pv 0) pa_nil))))))) pa_nil)))),?_⟩;refine⟨_,rfl,o,rfl,⟨_,SqL.of ho⟩,qaF (xs:=js.map fun j:Nat=>V.int j) (fun k ys σ' H'=>H'=H∧(∃z,σ'=[z,some (.ref w),some (.ref t),some (.int (i:Int))])∧∃bs:List Bool,ys=bs.map V.bl∧Paired (fun b j=>(b=true↔qc7 W i (x.getD i 0-1) j (x.getD j 0))) bs (js.take k)) (by rw[List.length_map];exact lz) ⟨rfl,⟨none,rfl⟩,[],rfl,.nil⟩ ?_ ?_ ?_⟩
  ·rintro k ys σ' H' hk ⟨rfl,_,bs,rfl,pr⟩;refine⟨SqL.of ho,?_⟩;rw[List.length_map,Paired.length pr,List.length_take];exact Nat.min_le_left _ _
  ·rintro k y ys σ' H' hy ⟨rfl,⟨z,rfl⟩,bs,rfl,pr⟩;rw[List.getElem?_map]at hy;obtain⟨j,ej,rfl⟩:=Option.map_eq_some_iff.mp hy;obtain⟨m1,m2⟩:=lj j (List.mem_of_getElem? ej);refine⟨_,rfl,_,rfl,_,rfl,_,rfl,w,t,W,x,i,j,rfl,hw,ht,⟨l1,m1,l2,m2⟩,ok,fun b hb=>?_⟩;refine⟨rfl,⟨_,rfl⟩,bs++[b],by rw[List.map_append];rfl,?_⟩;rw[List.take_succ,ej];exact pr.snoc hb
  ·rintro ys σ' H' ⟨rfl,⟨z,rfl⟩,bs,rfl,pr⟩ D hD;rw[List.take_of_length_le (by rw[List.length_map];exact Nat.le_refl _)]at pr;exact⟨D,bs,rfl,SqL.of qac,q _ _ (qad hD _) (qdv pr)⟩
theorem scHold:FnScope ["width", "floors", "roofs", "weights", "told", "givers", "takers"] ["width", "floors", "roofs", "weights", "told"] (qag sHold):=⟨rfl,rfl,rfl,by decide +kernel,rfl,by decide +kernel,by decide +kernel⟩
theorem ok_shares_hold{f:Addr}{fd:FuncData}(F:Fun K "shares_hold" "shares_hold" sHold f fd)(T:BnS mg)(F_went_ahead_of_all:Fx P w K mg base CX0 2 "went_ahead_of_all" ["weights", "told", "one", "others"] spAheadAll):FnOk P w K mg base CX0 3 f fd ["width", "floors", "roofs", "weights", "told"] spHold:=by
 refine F.ok scHold (fun vs H Q E h=>?_) (fun cdv A outer s H vs Q E hr h=>?_)
 ·obtain⟨wd,f,r,w,t,F,R,W,x,rfl,_⟩:=h;rfl
 ·obtain⟨wd,f,r,w,t,F,R,W,x,rfl,hf,hR,hw,ht,ok,l20,q⟩:=h;have hr_went_ahead_of_all:=hr;have hu:=hr.units;refine⟨_,(qab (qaM (qam op_ne (qal call_len_seq (by rfl) T.len b_len (qaa (pv 4) pa_nil)) (qal call_len_seq (by rfl) T.len b_len (qaa (pv 1) pa_nil)) (qaq _)) (qaf (qat qb1)) pss_nil)
   (qab (qaM (qca (qbX (qal (qcI (by rfl)) (by rfl) T.all b_all (qaa (qaI (own:=["floor", "one", "roof"]) (by rfl) (CompScope.plain (by rfl) (by decide +kernel) (by decide +kernel) (by decide +kernel)) (qeT (by rfl) T.zip (qaa (pv 1) (qaa (pv 4) (qaa (pv 2) pa_nil)))) (fun cl C s2 H2 fp=>(qcs K (n:=3) (by rfl) (by rfl) (qax (qai (i:=0) (by show(["floor", "one", "roof"]:List Str).Nodup;decide +kernel) (by rfl) (by trivial) (by trivial)) (qax (qai (i:=1) (by show(["floor", "one", "roof"]:List Str).Nodup;decide +kernel) (by rfl) (by trivial) (by trivial)) (qax (qai (i:=2) (by show(["floor", "one", "roof"]:List Str).Nodup;decide +kernel) (by rfl) (by trivial) (by trivial)) pgs_nil))))) (fun cl C s2 H2 fp=>qaG) (fun cl C s2 H2 fp=>(pe_chain op_le op_le (pv 0) (pv 1) (pv 2)))) pa_nil)))) (qaf (qat qb1)) pss_nil)
   (qab (qaM (PW.pt (qdW (PW.pt (qbT (qam op_gt (qal (qa4 (by rfl)) (by rfl) T.sum b_sum (qaa (pv 4) pa_nil)) (pv 0) (qaq _)) (qbB (qam (qdj hu) (pv 4) (pv 1) (qaq _))))) (qcZ (PW.pt (qbT (qam op_lt (qal (qa4 (by rfl)) (by rfl) T.sum b_sum (qaa (pv 4) pa_nil)) (pv 0) (qaq _)) (qbB (qam (qdj hu) (pv 4) (pv 2) (qaq _)))))))) (qaf (qat qb1)) pss_nil)
   (qab (qcg (i:=5) (by rfl) scHold.nd (by rfl) (by trivial) (own:=["place", "one"]) (ix:=[1]) (frees:=["floors"]) (CompScope.frees (by rfl) (by decide +kernel) (by decide +kernel) (by decide +kernel) (by rfl) (by decide +kernel) (by first | exact qbc (by rfl) | exact qa9 (by rfl) (by rfl))) (qcr (by rfl) T.enumerate (qaa (pv 4) pa_nil)) (fun cl C s2 H2 fp=>(qcs K (n:=2) (by rfl) (by rfl) (qax (qai (i:=0) (by show(["place", "one", "floors"]:List Str).Nodup;decide +kernel) (by rfl) (by trivial) (by trivial)) (qax (qai (i:=1) (by show(["place", "one", "floors"]:List Str).Nodup;decide +kernel) (by rfl) (by trivial) (by trivial)) pgs_nil)))) (fun cl C s2 H2 fp=>(qcU (qam op_gt (pv 1) (qaj (r:=rIxL K) ix_list (pv 2) (pv 0) (fun _ _=>rfl)) (qaq _)))) (fun cl C s2 H2 fp=>(pv 0)))
   (qab (qah (i:=6) scHold.nd (by rfl) (by trivial) (qaI (own:=["place", "one"]) (by rfl) (ix:=[2]) (frees:=["roofs"]) (CompScope.frees (by rfl) (by decide +kernel) (by decide +kernel) (by decide +kernel) (by rfl) (by decide +kernel) (by first | exact qbc (by rfl) | exact qa9 (by rfl) (by rfl))) (qcr (by rfl) T.enumerate (qaa (pv 4) pa_nil)) (fun cl C s2 H2 fp=>(qcs K (n:=2) (by rfl) (by rfl) (qax (qai (i:=0) (by show(["place", "one", "roofs"]:List Str).Nodup;decide +kernel) (by rfl) (by trivial) (by trivial)) (qax (qai (i:=1) (by show(["place", "one", "roofs"]:List Str).Nodup;decide +kernel) (by rfl) (by trivial) (by trivial)) pgs_nil)))) (fun cl C s2 H2 fp=>(qcU (qam op_lt (pv 1) (qaj (r:=rIxL K) ix_list (pv 2) (pv 0) (fun _ _=>rfl)) (qaq _)))) (fun cl C s2 H2 fp=>(pv 0))))
   (qaf (qat (qal (qcI (by rfl)) (by rfl) T.all b_all (qaa (qaI (own:=["giver"]) (by rfl) (ix:=[3,4,6]) (frees:=["weights", "told", "takers"]) (CompScope.frees (by rfl) (by decide +kernel) (by decide +kernel) (by decide +kernel) (by rfl) (by decide +kernel) (by first | exact qbc (by rfl) | exact qa9 (by rfl) (by rfl) | exact qft (by rfl) (by rfl) (by rfl))) (qaE (pv 5)) (fun cl C s2 H2 fp=>(qai (i:=0) (by show(["giver", "weights", "told", "takers"]:List Str).Nodup;decide +kernel) (by rfl) (by trivial) (by trivial))) (fun cl C s2 H2 fp=>qaG) (fun cl C s2 H2 fp=>(qan F_went_ahead_of_all hr_went_ahead_of_all (by rfl) qao (qaa (pv 1) (qaa (pv 2) (qaa (pv 0) (qaa (pv 3) pa_nil))))))) pa_nil))))))))),?_⟩
  refine⟨_,rfl,t,_,rfl,.inl (SqL.of ht),_,rfl,f,_,rfl,.inl (SqL.of hf),rfl,_,rfl,?_⟩;rw[List.length_map,List.length_map]
  by_cases len':¬x.length=F.length
  ·have len:=len';rw[decide_eq_false (show¬V.int (x.length:Nat)=V.int (F.length:Nat)from fun z=>len (by have:=V.int.inj z;omega))];exact iteT (q false H (Same.refl H) ⟨fun z=>Bool.noConfusion z,fun z=>absurd z.1.len len⟩)
  have len:x.length=F.length:=Classical.byContradiction len';rw[decide_eq_true (show V.int (x.length:Nat)=V.int (F.length:Nat) by rw[len])];refine iteF ?_;have n9:=ok.n;refine⟨_,rfl,_,rfl,_,rfl,f,t,r,rfl,⟨_,SqL.of hf⟩,⟨_,SqL.of ht⟩,⟨_,SqL.of hR⟩,comp_zip3 (xs:=F.map V.int) (ys:=x.map V.int) (ws:=R.map V.int) (by rw[List.length_map,List.length_map,len]) (by rw[List.length_map,List.length_map,ok.lr]) (fun k ys σ' H'=>Same H H'∧(∃z0 z1 z2,σ'=[z0,z1,z2])∧ys=((List.range k).map (inB F R x)).map V.bl) (by rw[List.length_map];exact qak (by omega)) ⟨Same.refl H,⟨none,none,none,rfl⟩,rfl⟩ ?_ ?_ ?_⟩
  ·rintro k ys σ' H' hk ⟨s1,_,rfl⟩;refine⟨SqL.of (s1 _ _ hf),SqL.of (s1 _ _ ht),SqL.of (s1 _ _ hR),?_⟩;rw[List.length_map,List.length_map,List.length_range];exact Nat.le_refl _
  ·rintro k a b c ys σ' H' T' ha hb hc hT ⟨s1,⟨z0,z1,z2,rfl⟩,rfl⟩;obtain⟨a,ea,rfl⟩:=qbg ha;obtain⟨b,eb,rfl⟩:=qbg hb;obtain⟨c,ec,rfl⟩:=qbg hc;have s2:=s1.trans (qad hT (.tup [.int a,.int b,.int c]));refine⟨T',_,rfl,SqT.of qac,rfl,_,_,rfl,_,_,rfl,_,_,rfl,rfl,?_⟩;have fin:∀v:Bool,v=inB F R x k→Same H (upd H' T' (.tup [.int a,.int b,.int c]))∧(∃z0 z1 z2,([some (.int a),some (.int b),some (.int c)]:St)=[z0,z1,z2])∧((List.range k).map (inB F R x)).map V.bl++[V.bl v]=((List.range (k+1)).map (inB F R x)).map V.bl:=fun v e=>by
    refine⟨s2,⟨_,_,_,rfl⟩,?_⟩;rw[e,List.range_succ,List.map_append,List.map_append];rfl
   have ei:inB F R x k=if decide (a≤b)=true then decide (b≤c)else false:=by
    unfold inB;rw[qaX ea,qaX eb,qaX ec]
   refine⟨_,rfl,_,rfl,_,_,rfl,rfl,_,rfl,?_⟩;refine ite2 (fun z=>?_) (fun z=>?_)
   ·rw[if_pos z]at ei;exact⟨_,rfl,_,_,rfl,rfl,fin _ ei.symm⟩
   ·rw[if_neg z]at ei;exact fin _ ei.symm
  rintro ys σ' H1 ⟨s1,_,rfl⟩ D hD;have s2:=s1.trans (qad hD (.lst (((List.range (F.map V.int).length).map (inB F R x)).map V.bl)));refine⟨D,_,rfl,SqL.of qac,_,rfl,?_⟩;rw[List.length_map]at s2⊢;generalize upd H1 D (.lst (((List.range F.length).map (inB F R x)).map V.bl))=H2 at s2⊢;clear hD s1;cases eall:((List.range F.length).map (inB F R x)).all id with
  | false =>
    refine iteT (q false H2 s2 ⟨fun z=>Bool.noConfusion z,fun z=>?_⟩)
    have:=inB_all.mpr (fun k hk=>⟨z.1.lo k (by rw[len];exact hk),z.1.hi k (by rw[len];exact hk)⟩:∀k,k<F.length→F.getD k 0≤x.getD k 0∧x.getD k 0≤R.getD k 0)
    rw[eall]at this
    cases this
  | true =>
  refine iteF ?_;have bnd:=inB_all.mp eall;dsimp only[tNext];refine qaV (fun σ' H'=>σ'=[some (.int wd),some (.ref f),some (.ref r),some (.ref w),some (.ref t),none,none]∧H'=H2∧¬(wd<x.sum∧x≠F)∧¬(x.sum<wd∧x≠R)) (fun N hN=>?_) ?_
  ·refine qbI (fun b H'=>H'=H2∧(b=true↔((wd<x.sum∧x≠F)∨(x.sum<wd∧x≠R)))) (fun Q' hQ'=>?_) ?_
   ·refine⟨_,rfl,t,x,rfl,SqL.of (s2 _ _ ht),_,rfl,_,_,rfl,rfl,_,rfl,?_⟩;refine ite2 (fun c=>?_) (fun c=>?_)
    ·have c':x.sum>wd:=of_decide_eq_true c;refine⟨_,rfl,_,rfl,_,_,qdV (s2 _ _ ht),qdV (s2 _ _ hf),qbR x,qbR F,fun e=>⟨_,rfl,iteF ?_⟩,fun e=>⟨_,rfl,iteT ?_⟩⟩
     ·have e':=ints_inj.mp e;have n1:¬(wd<x.sum∧x≠F):=fun z=>z.2 e'
      refine⟨_,rfl,t,x,rfl,SqL.of (s2 _ _ ht),_,rfl,_,_,rfl,rfl,_,rfl,?_⟩;refine ite2 (fun d=>?_) (fun d=>?_)
      ·have d':x.sum<wd:=of_decide_eq_true d;refine⟨_,rfl,_,rfl,_,_,qdV (s2 _ _ ht),qdV (s2 _ _ hR),qbR x,qbR R,fun e=>⟨_,rfl,?_⟩,fun e=>⟨_,rfl,?_⟩⟩
       ·have e':=ints_inj.mp e;exact hQ' _ _ ⟨rfl,fun z=>Bool.noConfusion z,fun z=>z.elim (fun z=>absurd z n1) fun z=>absurd e' z.2⟩
       ·exact hQ' _ _ ⟨rfl,fun _=>.inr ⟨d',fun z=>e (ints_inj.mpr z)⟩,fun _=>rfl⟩
      ·have d':¬x.sum<wd:=fun z=>d (decide_eq_true z)
       exact hQ' _ _ ⟨rfl,fun z=>Bool.noConfusion z,fun z=>z.elim (fun z=>absurd z n1) fun z=>absurd z.1 d'⟩
     ·exact hQ' _ _ ⟨rfl,fun _=>.inl ⟨c',fun z=>e (ints_inj.mpr z)⟩,fun _=>rfl⟩
    ·have c':¬x.sum>wd:=fun z=>c (decide_eq_true z)
     have n1:¬(wd<x.sum∧x≠F):=fun z=>c' z.1
     refine iteF ?_;refine⟨_,rfl,t,x,rfl,SqL.of (s2 _ _ ht),_,rfl,_,_,rfl,rfl,_,rfl,?_⟩;refine ite2 (fun d=>?_) (fun d=>?_)
     ·have d':x.sum<wd:=of_decide_eq_true d;refine⟨_,rfl,_,rfl,_,_,qdV (s2 _ _ ht),qdV (s2 _ _ hR),qbR x,qbR R,fun e=>⟨_,rfl,?_⟩,fun e=>⟨_,rfl,?_⟩⟩
      ·have e':=ints_inj.mp e;exact hQ' _ _ ⟨rfl,fun z=>Bool.noConfusion z,fun z=>z.elim (fun z=>absurd z n1) fun z=>absurd e' z.2⟩
      ·exact hQ' _ _ ⟨rfl,fun _=>.inr ⟨d',fun z=>e (ints_inj.mpr z)⟩,fun _=>rfl⟩
     ·have d':¬x.sum<wd:=fun z=>d (decide_eq_true z)
      exact hQ' _ _ ⟨rfl,fun z=>Bool.noConfusion z,fun z=>z.elim (fun z=>absurd z n1) fun z=>absurd z.1 d'⟩
   ·rintro b H' ⟨rfl,hb⟩;cases b with
    | true =>
      refine iteT (q false H' s2 ⟨fun z=>Bool.noConfusion z,fun z=>?_⟩)
      rcases hb.mp rfl with h | h
      · exact absurd h z.2.1
      · exact absurd h z.2.2
    | false =>
      refine iteF (hN _ _ ⟨rfl,rfl,fun z=>?_,fun z=>?_⟩)
      · have:=hb.mpr (.inl z)
        cases this
      · have:=hb.mpr (.inr z)
        cases this
  ·rintro σ' H' ⟨rfl,rfl,b1,b2⟩;refine⟨_,rfl,t,rfl,⟨_,SqL.of (s2 _ _ ht)⟩,qck (xs:=x.map V.int) (fun k ys σ' H'=>Same H H'∧(∃z0 z1,σ'=[z0,z1,some (.ref f)])∧ys=((List.range k).filter (giv F x)).map fun j:Nat=>V.int j) (by rw[List.length_map];exact qak (by omega)) ⟨s2,⟨none,none,rfl⟩,rfl⟩ ?_ ?_ ?_⟩
   ·rintro k ys σ' H' hk ⟨s3,_,rfl⟩;refine⟨SqL.of (s3 _ _ ht),?_⟩;rw[List.length_map];exact qcK
   ·rintro k a ys σ' H' T' ha hT ⟨s3,⟨z0,z1,rfl⟩,rfl⟩;obtain⟨a,ea,rfl⟩:=qbg ha;have hk:k<F.length:=by rw[←len];exact(List.getElem?_eq_some_iff.mp ea).1
    have s4:=s3.trans (qad hT (.tup [.int (k:Int),.int a]));refine⟨T',_,rfl,SqT.of qac,rfl,_,_,rfl,_,_,rfl,rfl,?_⟩;have ei:giv F x k=decide (F.getD k 0<a):=by
     unfold giv;rw[qaX ea]
    refine⟨_,rfl,_,rfl,_,rfl,f,_,_,_,rfl,rfl,SqL.of (s4 _ _ hf),qba hk 0,_,_,rfl,rfl,_,rfl,?_⟩;refine ite2 (fun z=>?_) (fun z=>?_)
    ·refine⟨_,rfl,s4,⟨_,_,rfl⟩,?_⟩;rw[qcp,if_pos (ei.trans z),List.map_append];rfl
    ·refine⟨s4,⟨_,_,rfl⟩,?_⟩;rw[qcp,if_neg (by rw[ei];exact z),List.append_nil]
   rintro ys σ' H3 ⟨s3,_,rfl⟩ G hG;rw[List.length_map];have s4:=s3.trans (qad hG (.lst (((List.range x.length).filter (giv F x)).map fun j:Nat=>V.int j)));have hG4:upd H3 G (.lst (((List.range x.length).filter (giv F x)).map fun j:Nat=>V.int j)) G=some (.lst (((List.range x.length).filter (giv F x)).map fun j:Nat=>V.int j)):=qac;generalize upd H3 G (.lst (((List.range x.length).filter (giv F x)).map fun j:Nat=>V.int j))=H4 at s4 hG4⊢;clear hG s3;refine⟨_,rfl,t,rfl,⟨_,SqL.of (s4 _ _ ht)⟩,qck (xs:=x.map V.int) (fun k ys σ' H'=>Same H H'∧H' G=some (.lst (((List.range x.length).filter (giv F x)).map fun j:Nat=>V.int j))∧(∃z0 z1,σ'=[z0,z1,some (.ref r)])∧ys=((List.range k).filter (giv x R)).map fun j:Nat=>V.int j) (by rw[List.length_map];exact qak (by omega)) ⟨s4,hG4,⟨none,none,rfl⟩,rfl⟩ ?_ ?_ ?_⟩
   ·rintro k ys σ' H' hk ⟨s3,_,_,rfl⟩;refine⟨SqL.of (s3 _ _ ht),?_⟩;rw[List.length_map];exact qcK
   ·rintro k a ys σ' H' T' ha hT ⟨s3,hG5,⟨z0,z1,rfl⟩,rfl⟩;obtain⟨a,ea,rfl⟩:=qbg ha;have hk:k<F.length:=by rw[←len];exact(List.getElem?_eq_some_iff.mp ea).1
    have s4:=s3.trans (qad hT (.tup [.int (k:Int),.int a]));refine⟨T',_,rfl,SqT.of qac,rfl,_,_,rfl,_,_,rfl,rfl,?_⟩;have hG6:=qad hT (.tup [.int (k:Int),.int a]) _ _ hG5;have ei:giv x R k=decide (a<R.getD k 0):=by
     unfold giv;rw[qaX ea]
    refine⟨_,rfl,_,rfl,_,rfl,r,_,_,_,rfl,rfl,SqL.of (s4 _ _ hR),qba (by rw[ok.lr];exact hk) 0,_,_,rfl,rfl,_,rfl,?_⟩;refine ite2 (fun z=>?_) (fun z=>?_)
    ·refine⟨_,rfl,s4,hG6,⟨_,_,rfl⟩,?_⟩;rw[qcp,if_pos (ei.trans z),List.map_append];rfl
    ·refine⟨s4,hG6,⟨_,_,rfl⟩,?_⟩;rw[qcp,if_neg (by rw[ei];exact z),List.append_nil]
   rintro ys σ' H3 ⟨s3,hG5,_,rfl⟩ M hM;rw[List.length_map];have s6:=s3.trans (qad hM (.lst (((List.range x.length).filter (giv x R)).map fun j:Nat=>V.int j)));have hM6:upd H3 M (.lst (((List.range x.length).filter (giv x R)).map fun j:Nat=>V.int j)) M=some (.lst (((List.range x.length).filter (giv x R)).map fun j:Nat=>V.int j)):=qac;have hG6:=qad hM (.lst (((List.range x.length).filter (giv x R)).map fun j:Nat=>V.int j)) _ _ hG5;generalize upd H3 M (.lst (((List.range x.length).filter (giv x R)).map fun j:Nat=>V.int j))=H6 at s6 hM6 hG6⊢;clear hM s3 hG5 hG4 s4;have lg:((List.range x.length).filter (giv F x)).length≤x.length:=qcK;have lm:((List.range x.length).filter (giv x R)).length≤x.length:=qcK;have inx:∀(p:Nat→Bool) j,j∈(List.range x.length).filter p→j<W.length∧j<x.length:=fun p j hj=>by
    have:=List.mem_range.mp (List.mem_filter.mp hj).1;exact⟨by rw[ok.lw,←len];exact this,this⟩
   refine⟨_,rfl,G,rfl,⟨_,SqL.of hG6⟩,qaF (xs:=((List.range x.length).filter (giv F x)).map fun j:Nat=>V.int j) (fun k ys σ' H'=>Same H6 H'∧(∃z,σ'=[z,some (.ref w),some (.ref t),some (.ref M)])∧∃bs:List Bool,ys=bs.map V.bl∧Paired (fun b g=>(b=true↔∀j∈(List.range x.length).filter (giv x R),qc7 W g (x.getD g 0-1) j (x.getD j 0))) bs (((List.range x.length).filter (giv F x)).take k)) (by rw[List.length_map];exact qak (by omega)) ⟨Same.refl _,⟨none,rfl⟩,[],rfl,.nil⟩ ?_ ?_ ?_⟩
   ·rintro k ys σ' H' hk ⟨s7,_,bs,rfl,pr⟩;refine⟨SqL.of (s7 _ _ hG6),?_⟩;rw[List.length_map,Paired.length pr,List.length_take];exact Nat.min_le_left _ _
   ·rintro k y ys σ' H' hy ⟨s7,⟨z,rfl⟩,bs,rfl,pr⟩;rw[List.getElem?_map]at hy;obtain⟨g,eg,rfl⟩:=Option.map_eq_some_iff.mp hy;have s67:=s6.trans s7;refine⟨_,rfl,_,rfl,_,rfl,_,rfl,w,t,M,W,x,g,_,rfl,s67 _ _ hw,s67 _ _ ht,s7 _ _ hM6,inx _ g (List.mem_of_getElem? eg),inx _,qak (by omega),ok.w,fun b H8 s8 hb=>?_⟩;refine⟨s7.trans s8,⟨_,rfl⟩,bs++[b],by rw[List.map_append];rfl,?_⟩;rw[List.take_succ,eg];exact pr.snoc hb
   ·rintro ys σ' H' ⟨s7,⟨z,rfl⟩,bs,rfl,pr⟩ D2 hD2;rw[List.take_of_length_le (by rw[List.length_map];exact Nat.le_refl _)]at pr;exact⟨D2,bs,rfl,SqL.of qac,q _ _ ((s6.trans s7).trans (qad hD2 _)) ((qdv pr).trans (hold_iff ok.pos len bnd b1 b2).symm)⟩
end
end K22
namespace Sp0
open PySem L2 Bk Gen Gd Bd Shr
theorem op_in_seqK{X:Cx}(K:PySem.W.Frag)(hK:X.K=K):OpR X (compareOp .In) (rIn K false):=by
 subst hK;exact op_in_seq
theorem qd3(xs:List Int):(xs.map V.int).all flatV=true:=by
 rw[List.all_eq_true];intro v hv;obtain⟨x,_,rfl⟩:=List.mem_map.mp hv;rfl
theorem inV_int(x:Int)(l:List Int):inV (.int x) (l.map V.int)=decide (x∈l):=by
 by_cases h:x∈l
 ·rw[decide_eq_true h];unfold inV;rw[List.any_eq_true];exact⟨.int x,List.mem_map_of_mem h,by show(x == x)=true;simp⟩
 ·rw[decide_eq_false h];unfold inV;rw[List.any_eq_false];intro v hv;obtain⟨y,hy,rfl⟩:=List.mem_map.mp hv;show¬(y == x)=true;intro z;exact h (by rw[←beq_iff_eq.mp z];exact hy)
def code(cols:Nat)(x:Nat×Nat):Int:=((x.1*cols+x.2:Nat):Int)
def qaC(cols:Nat)(q:Pl)(n:Nat):List Int:=(qbn q n).map (code cols)
structure Codes(cols:Nat)(ps:List Pl)(xs:List Int):Prop where
 mem:∀x:Nat×Nat,x.2<cols→(code cols x∈xs↔(ps.any fun p=>cov p x)=true)
 len:xs.length≤24*ps.length
theorem code_inj{cols:Nat}{x y:Nat×Nat}(hx:x.2<cols)(hy:y.2<cols)(h:code cols x=code cols y):x=y:=by
 unfold code at h;have h':x.1*cols+x.2=y.1*cols+y.2:=by omega
 have e1:(x.1*cols+x.2) / cols=x.1:=by
  rw[Nat.mul_comm,Nat.mul_add_div (by omega),Nat.div_eq_of_lt hx,Nat.add_zero]
 have e2:(y.1*cols+y.2) / cols=y.1:=by
  rw[Nat.mul_comm,Nat.mul_add_div (by omega),Nat.div_eq_of_lt hy,Nat.add_zero]
 have e3:x.1=y.1:=by rw[←e1,←e2,h']
 rw[e3]at h';have e4:x.2=y.2:=by omega
 exact Prod.ext e3 e4
theorem Codes.nil(cols:Nat):Codes cols [] []:=⟨fun x _=>by simp,by simp⟩
theorem Codes.snoc{cols:Nat}{ps:List Pl}{xs:List Int}{q:Pl}(c:Codes cols ps xs)(hc:q.c+q.s≤cols)(hd:q.d≤4)(hs:q.s≤6):Codes cols (ps++[q]) (xs++qaC cols q q.d):=by
 refine⟨fun x hx=>?_,?_⟩
 ·rw[List.mem_append,List.any_append,Bool.or_eq_true,c.mem x hx];have:code cols x∈qaC cols q q.d↔([q].any fun p=>cov p x)=true:=by
   rw[List.any_cons,List.any_nil,Bool.or_false,←mem_spots];unfold qaC;rw[List.mem_map];constructor
   ·rintro⟨y,hy,e⟩;have hy':=of_decide_eq_true (mem_spots.mp (show y∈spots q from hy));have:=code_inj (show y.2<cols by omega) hx e;rw[←this];exact hy
   ·exact fun h=>⟨x,h,rfl⟩
  rw[this]
 ·rw[List.length_append,List.length_append];have:=qbs (p:=q) (n:=q.d) hd hs;have e:(qaC cols q q.d).length=(qbn q q.d).length:=by unfold qaC;rw[List.length_map]
  have:=c.len;rw[e,List.length_singleton];omega
theorem codes_free{cols:Nat}{ps:List Pl}{xs:List Int}{q:Pl}(c:Codes cols ps xs)(ok:PsOk cols ps)(hc:q.c+q.s≤cols)(s1:1≤q.s)(d1:1≤q.d):((qaC cols q q.d).filter fun v=>decide (v∈xs))=[]↔free ps q=true:=by
 have a:=qd2 (ps:=ps) (q:=q) ok.one s1 d1;rw[List.filter_eq_nil_iff];constructor
 ·intro h;cases e:free ps q with
  | true=>rfl
  | false =>
    rw[e]at a
    obtain⟨x,hx,hp⟩:=List.any_eq_true.mp a
    have hx':=of_decide_eq_true (mem_spots.mp hx)
    refine absurd ?_ (h (code cols x) (List.mem_map_of_mem hx))
    exact decide_eq_true ((c.mem x (by omega)).mpr hp)
 ·intro h v hv;obtain⟨x,hx,rfl⟩:=List.mem_map.mp hv;have hx':=of_decide_eq_true (mem_spots.mp (show x∈spots q from hx));rw[decide_eq_true_iff,c.mem x (by omega)];intro hp;rw[h]at a;have:((spots q).any fun x=>ps.any fun p=>cov p x)=true:=List.any_eq_true.mpr ⟨x,hx,hp⟩;rw[a]at this;cases this
def qcb(ps:List Pl)(cols s d a:Nat):Prop:=a % cols+s≤cols∧free ps ⟨a / cols,a % cols,s,d⟩=true
theorem qe8{cols r c:Nat}(h:c<cols):(r*cols+c) / cols=r∧(r*cols+c) % cols=c:=by
 constructor
 ·rw[Nat.mul_comm,Nat.mul_add_div (by omega),Nat.div_eq_of_lt h,Nat.add_zero]
 ·rw[Nat.mul_comm,Nat.mul_add_mod,Nat.mod_eq_of_lt h]
theorem good_first{ps:List Pl}{cols s d a:Nat}(hc:0<cols)(hs:1≤s)(g:qcb ps cols s d a)(no:∀a',a'<a→¬qcb ps cols s d a'):First ps cols s d ⟨a / cols,a % cols,s,d⟩:=by
 have ea:a / cols*cols+a % cols=a:=by rw[Nat.mul_comm];exact Nat.div_add_mod a cols
 refine⟨rfl,rfl,g.1,g.2,fun c hc'=>?_,fun r hr c hcc=>?_⟩
 ·have hc'':c<a % cols:=hc';have lt:c<cols:=Nat.lt_trans hc'' (Nat.mod_lt _ hc);have n:=no (a / cols*cols+c) (by omega);obtain⟨e1,e2⟩:=qe8 (r:=a / cols) lt;unfold qcb at n;rw[e1,e2]at n;cases e:free ps ⟨a / cols,c,s,d⟩with
  | false=>rfl
  | true =>
    have g1:a % cols+s≤cols:=g.1
    exact absurd ⟨by omega,e⟩ n
 ·have hr':r<a / cols:=hr;have lt:c<cols:=by omega
  have le:(r+1)*cols≤a / cols*cols:=Nat.mul_le_mul_right _ hr';rw[Nat.add_mul,Nat.one_mul]at le;have n:=no (r*cols+c) (by omega);obtain⟨e1,e2⟩:=qe8 (r:=r) lt;unfold qcb at n;rw[e1,e2]at n;cases e:free ps ⟨r,c,s,d⟩with
  | false=>rfl
  | true=>exact absurd ⟨hcc,e⟩ n
theorem good_end{ps:List Pl}{cols s d:Nat}(ok:PsOk cols ps)(hc:0<cols)(hs:s≤cols):qcb ps cols s d (4*ps.length*cols):=by
 obtain⟨e1,e2⟩:=qe8 (r:=4*ps.length) hc;rw[Nat.add_zero]at e1 e2;unfold qcb;rw[e1,e2];exact⟨by omega,qdz ok (Nat.le_refl _)⟩
theorem codesTo_succ{cols:Nat}{q:Pl}{n:Nat}:qaC cols q (n+1)=qaC cols q n++(List.range q.s).map fun j=>code cols (q.r+n,q.c+j):=by
 unfold qaC;rw[qb0,List.map_append]
 congr 1
 unfold qbp;rw[List.map_map];rfl
def spColumn2:Sp:=fun vs H Q _=>∃(T:Addr) (cols s d:Nat) (ps:List Pl) (xs:List Int),vs=[.ref T,.int cols,.int s,.int d]∧LI H T xs∧Codes cols ps xs∧PsOk cols ps∧ps.length≤100∧1≤s∧s≤cols∧cols≤6∧1≤d∧d≤4 ∧
 ∀(q:Pl) (H':Hp),First ps cols s d q→LI H' T (xs++qaC cols q q.d)→Keep1 T H H'→Q (.int q.c) H'
def spLCells:Sp:=fun vs H Q _=>∃(p k r:Addr) (n:Nat) (ks:List Nat) (ls:List (List Int)) (rm:Int×Int),vs=[.ref p,.int n,.ref k,.ref r]∧LstAt LkAt H p ls∧KL H k ks∧PrAt H r rm∧n<ls.length∧ks.length≤100∧(∀m∈ks,m<ls.length)∧(∀l∈ls,Lk2 l) ∧
 ∀(t:Addr) (H':Hp),H t=none→Same H H'→LstAt PrAt H' t ((plF (lkA ls n 7).toNat (qbH ls ks)).map (qcY rm (lkA ls n 7)))→Q (.ref t) H'
theorem beg_zero{rm:Int×Int}{cols:Int}(h:0<cols):begS rm cols 0=rm.1:=by
 have:=Int.emod_nonneg rm.2 (show cols≠0 by omega);unfold begS;rw[show(((0:Nat):Int))=0 from rfl,Int.zero_mul];omega
theorem beg_succ{rm:Int×Int}{cols:Int}{k:Nat}:begS rm cols (k+1)=begS rm cols k+rm.2 / cols+if(k:Int)<rm.2 % cols then 1 else 0:=by
 unfold begS;rw[show(((k+1:Nat):Int))=(k:Int)+1 by omega,Int.add_mul,Int.one_mul]
 split<;>omega
theorem qd9{rm:Int×Int}{cols:Int}{n k:Nat}(h:k<n):atI (((List.range n).map (begS rm cols)).map V.int) (k:Int)=some (.int (begS rm cols k)):=qa6 (by rw[List.getElem?_map,List.getElem?_map,List.getElem?_range h];rfl)
theorem book_note{ds:List Nd}(b:Book ds){n:Nat}{d:Nd}(h:ds[n]?=some d)(hk:d.k=.note):qav ds n=[]:=by
 have h1:=(Bk.Book.each b h).kids.1;have e:kk ds n=[]:=by
  refine List.eq_nil_iff_forall_not_mem.mpr fun c hc=>?_
  have:=h1 c hc;rw[hk]at this;cases c<;>cases this
 have l:=Fc.kids_kk ds n;rw[e]at l;exact List.eq_nil_of_length_eq_zero l
theorem book_pos{ds:List Nd}(b:Book ds):0<ds.length:=by
 obtain⟨d,sub,ks,rfl,_⟩:=b.tree;exact Nat.succ_pos _
theorem side_or{ls:List (List Int)}(h:∀l∈ls,Lk2 l)(m:Nat):lkA ls m 10=0∨lkA ls m 10=1:=by
 unfold lkA
 by_cases hm:m<ls.length
 ·rw[List.getElem?_eq_getElem hm];exact(h _ (List.getElem_mem hm)).side
 ·rw[List.getElem?_eq_none (by omega)];exact .inl rfl
end Sp0
namespace Sp0
open PySem L2 Bk Gen Gd Bd Shr
def qdg(ds:List Nd)(ls:List (List Int))(bs:List (Int×Int))(wide:Int)(sp:List (Int×Int)):Prop:=bsA sp 0=(0,wide)∧∀n,n<ds.length→(qav ds n).map (bsA sp)=qaU ds ls bs sp n
theorem list_eq{x y:List (Int×Int)}(l:x.length=y.length)(h:∀m,m<x.length→bsA x m=bsA y m):x=y:=by
 refine List.ext_getElem? fun m=>?_
 by_cases hm:m<x.length
 ·rw[qbw hm,qbw (by omega),h m hm]
 ·rw[List.getElem?_eq_none (by omega),List.getElem?_eq_none (by omega)]
def Hung(ds:List Nd):Prop:=∀m,0<m→m<ds.length→∃n,n<m∧m∈qav ds n
theorem holds_one{ds:List Nd}{ls:List (List Int)}{bs sp sp':List (Int×Int)}{wide:Int}(hg:Hung ds)(l:sp.length=ds.length)(l':sp'.length=ds.length)(a:qdg ds ls bs wide sp)(b:qdg ds ls bs wide sp'):sp=sp':=by
 refine list_eq (l.trans l'.symm) fun m hm=>?_
 rw[l]at hm
 induction m using Nat.strongRecOn with
 | ind m ih =>
   rcases Nat.eq_zero_or_pos m with h | h
   · rw[h,a.1,b.1]
   · obtain⟨n,hn,mem⟩:=hg m h hm
     have e1:=a.2 n (by omega)
     have e2:=b.2 n (by omega)
     have r1:qbe ls sp n=qbe ls sp' n:=qdw (ih n hn (by omega))
     have r0:qbe ls sp 0=qbe ls sp' 0:=qdw (by rw[a.1,b.1])
     have e:qaU ds ls bs sp n=qaU ds ls bs sp' n:=by
       unfold qaU
       rw[r1,r0]
     have em:(qav ds n).map (bsA sp)=(qav ds n).map (bsA sp'):=by rw[e1,e2,e]
     exact List.map_inj_left.mp em m mem
theorem book_hung{ds:List Nd}(b:Book ds):Hung ds:=fun m h0 hm=>by
 obtain⟨d,ed⟩:∃d,ds[m]?=some d:=⟨_,List.getElem?_eq_getElem hm⟩;rcases(Bk.Book.each b ed).up with⟨rfl,e⟩ | ⟨pos,j,x,ej,lt,_⟩
 ·omega
 ·refine⟨j,lt,List.mem_filter.mpr ⟨List.mem_range.mpr hm,decide_eq_true ?_⟩⟩;rw[ed];show some d.e=some (j:Int);rw[ej]
theorem behind_wides{left:Int}{y:List Int}:(qa0 left y).map Prod.snd=y:=by
 unfold qa0;rw[List.map_map];refine List.ext_getElem? fun k=>?_
 rw[List.getElem?_map]
 by_cases hk:k<y.length
 ·rw[List.getElem?_range hk,List.getElem?_eq_getElem hk];show some (y.getD k 0)=_;rw[qaX (List.getElem?_eq_getElem hk)]
 ·rw[List.getElem?_eq_none (by rw[List.length_range];omega),List.getElem?_eq_none (by omega)];rfl
theorem behind_iff{left:Int}{zs:List (Int×Int)}{y:List Int}:(zs.map Prod.snd=y∧zs=qa0 left (zs.map Prod.snd))↔zs=qa0 left y:=by
 constructor
 ·rintro⟨e,h⟩;rw[e]at h;exact h
 ·intro h;have e:zs.map Prod.snd=y:=by rw[h,behind_wides]
  exact⟨e,by rw[e];exact h⟩
theorem qe2{x y:Int×Int}(h:prD x=prD y):x=y:=by
 have h1:=List.cons.inj (PySem.W.Dat.tuple.inj h);have h2:=List.cons.inj h1.2;exact Prod.ext (PySem.W.Dat.int.inj h1.1) (PySem.W.Dat.int.inj h2.1)
theorem prs_inj{x y:List (Int×Int)}:PySem.W.Dat.list (x.map prD)=PySem.W.Dat.list (y.map prD)↔x=y:=by
 constructor
 ·intro h;exact(List.map_inj_right (fun a b e=>qe2 e)).mp (PySem.W.Dat.list.inj h)
 ·rintro rfl;rfl
def spRightB:Sp:=fun vs H Q _=>∃(B p L R:Addr) (wide:Int) (ds:List Nd) (ls:List (List Int)) (bs sp:List (Int×Int)),vs=[.ref B,.ref p,.ref L,.int wide,.ref R]∧InS H B p L ds ls bs∧LstAt PrAt H R sp∧sp.length=ds.length∧Cx2 ds ls bs∧(∀(n:Nat) (d:Nd),ds[n]?=some d→d.k=.note→qav ds n=[]) ∧
 ∀(b:Bool) (H':Hp),Same H H'→(b=true↔qdg ds ls bs wide sp)→Q (.bl b) H'
def spHeldHold:Sp:=fun vs H Q _=>∃(B p L R:Addr) (n:Nat) (ds:List Nd) (ls:List (List Int)) (bs sp:List (Int×Int)),vs=[.ref B,.ref p,.ref L,.ref R,.int n]∧InS H B p L ds ls bs∧LstAt PrAt H R sp∧sp.length=ds.length∧n<ds.length∧Cx2 ds ls bs ∧
 ∀(b:Bool) (H':Hp),Same H H'→(b=true↔(qav ds n).map (bsA sp)=qaU ds ls bs sp n)→Q (.bl b) H'
def spSpansHold:Sp:=fun vs H Q _=>∃(B p L R:Addr) (wide:Int) (ds:List Nd) (ls:List (List Int)) (bs sp:List (Int×Int)),vs=[.ref B,.ref p,.ref L,.int wide,.ref R]∧InS H B p L ds ls bs∧LstAt PrAt H R sp∧sp.length=ds.length∧Cx2 ds ls bs ∧
 ∀(b:Bool) (H':Hp),Same H H'→(b=true↔qdg ds ls bs wide sp)→Q (.bl b) H'
def spBelowAll:Sp:=fun vs H Q _=>∃(B:Addr) (n:Nat) (ds:List Nd),vs=[.ref B,.int n]∧qbd (fun _=>True) H B ds∧n<ds.length∧ds.length≤100 ∧
 ∀(L:Addr) (H':Hp) (ks:List Nat),H L=none→Same H H'→KL H' L ks→ks.length≤101→(∀m∈ks,m<ds.length)→Q (.ref L) H'
def spMoved:Sp:=fun vs H Q _=>∃(B S:Addr) (n:Nat) (by0:Int) (ds:List Nd) (sp:List (Int×Int)),vs=[.ref B,.ref S,.int n,.int by0]∧qbd (fun _=>True) H B ds∧LstAt PrAt H S sp∧sp.length=ds.length∧n<ds.length∧ds.length≤100 ∧
 ∀(D:Addr) (H':Hp) (sp':List (Int×Int)),H D=none→Same H H'→LstAt PrAt H' D sp'→sp'.length=sp.length→Q (.ref D) H'
theorem book_keep{H H':Hp}{B:Addr}{ds:List Nd}(s:Same H H')(h:qbd (fun _=>True) H B ds):qbd (fun _=>True) H' B ds:=by
 obtain⟨as,e,nd⟩:=h;exact⟨as,s _ _ e,nd.keep s.keep fun _ _ _=>trivial⟩
structure BS(H:Hp)(st g:Addr)(n:Nat)(H':Hp):Prop where
 g:∃x,LstAt PrAt H' g x∧x.length=n
 k:Keep1 st H H'
 st:StOk H' st
section
variable{H H' H2:Hp}{st g:Addr}{n:Nat}
theorem BS.same(b:BS H st g n H')(s:Same H' H2):BS H st g n H2:=by
 obtain⟨x,l,e⟩:=b.g;exact⟨⟨x,qaK s l,e⟩,b.k.trans s.keep,b.st.same s⟩
theorem BS.take(b:BS H st g n H')(gs:g≠st)(S:StOk H2 st)(k:Keep1 st H' H2):BS H st g n H2:=by
 obtain⟨x,⟨as,e,pr⟩,l⟩:=b.g;have nst:∀{b':Addr} {xs:List V},H' b'=some (.tup xs)→b'≠st:=fun e z=>by
  obtain⟨_,_,e2,_⟩:=b.st;rw[z,e2]at e;cases e
 exact⟨⟨x,⟨as,k _ _ gs e,pr.mono fun _ _ z=>k _ _ (nst z) z⟩,l⟩,b.k.trans k,S⟩
theorem BS.put{x:List (Int×Int)}{as:List Addr}{t:Addr}{v:Int×Int}{i:Nat}(b:BS H st g n H')(g0:H g=none)(gs:g≠st)(hg:H' g=some (.lst (as.map V.ref)))(pr:Paired (PrAt H') as x)(l:x.length=n)(ht:PrAt H' t v):BS H st g n (upd H' g (.lst ((as.map V.ref).set i (.ref t)))):=by
 have tl:=Tups.lst (o:=.lst ((as.map V.ref).set i (.ref t))) hg;exact⟨⟨x.set i v,⟨as.set i t,by rw[qac,List.map_set],Paired.set (pr.mono fun _ _ z=>tl _ _ z) (tl _ _ ht) i⟩,by rw[List.length_set];exact l⟩,k1_put b.k g0,st_put b.st gs⟩
end
def spBentS:Sp:=fun vs H Q _=>∃(B S st:Addr) (ds:List Nd) (sp:List (Int×Int)),vs=[.ref B,.ref S,.ref st]∧qbd (fun b=>b≠st) H B ds∧B≠st∧LstAt PrAt H S sp∧S≠st∧sp.length=ds.length∧0<ds.length∧ds.length≤100∧StOk H st ∧
 ∀(D:Addr) (H':Hp),H D=none→BS H st D ds.length H'→Q (.ref D) H'
def qfR(ds:List Nd)(ls:List (List Int))(bs sp:List (Int×Int)):PySem.W.Dat:=.list [bkD ds,.list (ls.map lkD),.list (bs.map prD),.list (sp.map prD)]
theorem qe7{ds:List Nd}(h:∀d∈ds,Form d)(ls:List (List Int))(bs sp:List (Int×Int)):PySem.W.kqdOk 9 (qfR ds ls bs sp)=true:=by
 have h1:=bk_ok8 h;unfold qfR;simp only[PySem.W.kqdOk,List.all_cons,List.all_nil,Bool.and_true,Bool.and_eq_true,List.all_eq_true,List.mem_map];refine⟨h1,?_,?_,?_⟩
 ·rintro _ ⟨l,_,rfl⟩;simp[lkD,PySem.W.kqdOk]
 ·rintro _ ⟨r,_,rfl⟩;simp[prD,PySem.W.kqdOk]
 ·rintro _ ⟨r,_,rfl⟩;simp[prD,PySem.W.kqdOk]
theorem qfi{J:Hp}{w b q l t:Addr}{ds:List Nd}{ls:List (List Int)}{bs sp:List (Int×Int)}(e:J w=some (.lst [.ref b,.ref q,.ref l,.ref t]))(I:InS J b q l ds ls bs)(lt:LstAt PrAt J t sp):DIn J (.ref w) (qfR ds ls bs sp):=by
 obtain⟨aq,eq,pq⟩:=I.lk;obtain⟨al,el,pl⟩:=I.bd;obtain⟨a2,e2,p2⟩:=lt;exact .lst e (.cons (bk_in I.bk) (.cons (.lst eq (qfH pq)) (.cons (.lst el (qbY pl)) (.cons (.lst e2 (qbY p2)) .nil))))
def spLetS:Sp:=fun vs H Q _=>∃(n t d B p L:Addr) (wide:Int) (ds:List Nd) (ls:List (List Int)) (bs sp due:List (Int×Int)),vs=[.ref n,.ref t,.ref d]∧H n=some (.lst [.ref B,.ref p,.ref L,.int wide])∧InS H B p L ds ls bs∧LstAt PrAt H t sp∧LstAt PrAt H d due∧sp.length=ds.length∧due.length=ds.length∧qdg ds ls bs wide due∧Cx2 ds ls bs∧(∀(n:Nat) (d:Nd),ds[n]?=some d→d.k=.note→qav ds n=[])∧Hung ds∧(∀d∈ds,Form d) ∧
 ∀H':Hp,Same H H'→Q (.bl true) H'
end Sp0
namespace K22
open PySem L2 Bk Gen Gd Bd Shr Sp0
open Br (qfx)
abbrev sHeldHold:Stmt:=top 37
abbrev sSpansHold:Stmt:=top 36
section
variable{P:Program}{w:World}{K:PySem.W.Frag}{mg:Str→Option Value}{base:Heap}
theorem scHeldHold:FnScope ["book", "looks", "bounds", "told", "node", "held", "within", "room", "wides"] ["book", "looks", "bounds", "told", "node"] (qag sHeldHold):=⟨rfl,rfl,rfl,by decide +kernel,rfl,by decide +kernel,by decide +kernel⟩
theorem ok_held_spans_hold{fn C:Addr}{fd:FuncData}(F:Fun K "held_spans_hold" "held_spans_hold" sHeldHold fn fd)(T:BnX mg)(U:NumsS mg)(F_holds:Fx P w K mg base (CX1 P w) 1 "holds" ["book", "node"] (qdu C))(F_held_spans:Fx P w K mg base CX0 5 "held_spans" ["book", "looks", "bounds", "spans", "node"] spHeldS)(F_room_of:Fx P w K mg base CX0 2 "room_of" ["looks", "spans", "node"] spRoom)(F_floors_of:Fx P w K mg base CX0 3 "floors_of" ["looks", "bounds", "held"] (qeP qaS))(F_roofs_of:Fx P w K mg base CX0 4 "roofs_of" ["looks", "bounds", "held"] (qeP qbC))(F_weights_of:Fx P w K mg base CX0 2 "weights_of" ["looks", "held"] spWts)(F_shares_hold:Fx P w K mg base CX0 3 "shares_hold" ["width", "floors", "roofs", "weights", "told"] spHold)(F_one_behind_the_other:Fx P w K mg base CX0 1 "one_behind_the_other" ["left", "wides"] spBehind):FnOk P w K mg base CX0 6 fn fd ["book", "looks", "bounds", "told", "node"] spHeldHold:=by
 refine F.ok scHeldHold (fun vs H Q E h=>?_) (fun cdv A outer s H vs Q E hr h=>?_)
 ·obtain⟨B,p,L,R,n,ds,ls,bs,sp,rfl,_⟩:=h;rfl
 ·obtain⟨B,p,L,R,n,ds,ls,bs,sp,rfl,I,lR,lsp,hn,cx,q⟩:=h;obtain⟨_,g_KIND⟩:=U.kind;obtain⟨_,g_LEFT⟩:=U.left;obtain⟨_,g_WIDE⟩:=U.wide;have hr_holds:Room 1 _:=hr.mono (by decide);have hr_room_of:Room 2 _:=hr.mono (by decide);have hr_floors_of:Room 3 _:=hr.mono (by decide);have hr_roofs_of:Room 4 _:=hr.mono (by decide);have hr_weights_of:Room 2 _:=hr.mono (by decide);have hr_shares_hold:Room 3 _:=hr.mono (by decide);have hr_one_behind_the_other:Room 1 _:=hr.mono (by decide);have hr_held_spans:=hr;have hu:=hr.units;have le:=cx.le;have l13:=cx.l13;have nl:n<ls.length:=by rw[cx.ll];exact hn
  refine⟨_,(qab (qah (i:=5) scHeldHold.nd (by rfl) (by trivial) (qan F_holds hr_holds (by rfl) qfS (qaa (pv 0) (qaa (pv 4) pa_nil))))
   (qab (qcg (i:=6) (by rfl) scHeldHold.nd (by rfl) (by trivial) (own:=["one"]) (ix:=[3]) (frees:=["told"]) (CompScope.frees (by rfl) (by decide +kernel) (by decide +kernel) (by decide +kernel) (by rfl) (by decide +kernel) (by first | exact qbc (by rfl) | exact qa9 (by rfl) (by rfl))) (qaE (pv 5)) (fun cl C s2 H2 fp=>(qai (i:=0) (by show(["one", "told"]:List Str).Nodup;decide +kernel) (by rfl) (by trivial) (by trivial))) (fun cl C s2 H2 fp=>qaG) (fun cl C s2 H2 fp=>(qaj (r:=rIxL K) ix_list (pv 1) (pv 0) (fun _ _=>rfl))))
   (qab (qaM (qam op_ne (qaj ix_tup (qaj ix_list (pv 0) (pv 4) (fun _ _=>rfl)) (qaD (v:=.int 1) (by rfl) g_KIND ⟨_,rfl⟩) (fun _ _=>rfl)) qau (qaq _)) (qaf (qat (qbf (qex hu) (pv 6) (qan F_held_spans hr_held_spans (by rfl) qao (qaa (pv 0) (qaa (pv 1) (qaa (pv 2) (qaa (pv 3) (qaa (pv 4) pa_nil)))))) (qaq _)))) pss_nil)
   (qab (qah (i:=7) scHeldHold.nd (by rfl) (by trivial) (qan F_room_of hr_room_of (by rfl) qao (qaa (pv 1) (qaa (pv 3) (qaa (pv 4) pa_nil)))))
   (qab (qcg (i:=8) (by rfl) scHeldHold.nd (by rfl) (by trivial) (own:=["span"]) (CompScope.plain (by rfl) (by decide +kernel) (by decide +kernel) (by decide +kernel)) (qaE (pv 6)) (fun cl C s2 H2 fp=>(qai (i:=0) (by show(["span"]:List Str).Nodup;decide +kernel) (by rfl) (by trivial) (by trivial))) (fun cl C s2 H2 fp=>qaG) (fun cl C s2 H2 fp=>(qaj (r:=rIxT K) ix_tup (pv 0) (qaD (v:=.int 1) (by rfl) g_WIDE ⟨_,rfl⟩) (fun _ _=>rfl))))
   (qab (qaM (qca (qbX (qan F_shares_hold hr_shares_hold (by rfl) qao (qaa (qaj ix_tup (pv 7) (qaD (v:=.int 1) (by rfl) g_WIDE ⟨_,rfl⟩) (fun _ _=>rfl)) (qaa (qan F_floors_of hr_floors_of (by rfl) qao (qaa (pv 1) (qaa (pv 2) (qaa (pv 5) pa_nil)))) (qaa (qan F_roofs_of hr_roofs_of (by rfl) qao (qaa (pv 1) (qaa (pv 2) (qaa (pv 5) pa_nil)))) (qaa (qan F_weights_of hr_weights_of (by rfl) qao (qaa (pv 1) (qaa (pv 5) pa_nil))) (qaa (pv 8) pa_nil)))))))) (qaf (qat qb1)) pss_nil)
   (qaf (qat (qbf (qex hu) (pv 6) (qan F_one_behind_the_other hr_one_behind_the_other (by rfl) qao (qaa (qaj ix_tup (pv 7) (qaD (v:=.int 0) (by rfl) g_LEFT ⟨_,rfl⟩) (fun _ _=>rfl)) (qaa (pv 8) pa_nil))) (qaq _)))))))))),?_⟩
  obtain⟨ab,hB,nd⟩:=I.bk;obtain⟨d,ed⟩:∃d,ds[n]?=some d:=⟨_,List.getElem?_eq_getElem hn⟩;obtain⟨c,ec,nc⟩:=nd.get ed;obtain⟨m',s',hc,_⟩:=nc.ex;obtain⟨aR,hR,pR⟩:=id lR;refine⟨_,rfl,_,rfl,B,n,ds,_,rfl,⟨ab,hB,nd⟩,by omega,by show n<_;exact Nat.lt_of_lt_of_le (Nat.lt_of_lt_of_le hn le) (by decide),.inr ⟨⟨by omega,by omega⟩,fun K0 H1 hK s1 hK1=>?_⟩⟩;rw[qcj]at hK1;have kl:=qcO ds n;have kz:(((qav ds n).map fun(j:Nat)=>(j:Int)).map V.int).length<sizeLine:=by rw[List.length_map,List.length_map];exact qak (by omega)
  have kin:∀m∈qav ds n,m<ls.length:=fun m hm=>by rw[cx.ll];exact qbv hm
  have kin2:∀m∈qav ds n,m<ls.length∧m<bs.length:=fun m hm=>⟨kin m hm,by rw[cx.bl];exact qbv hm⟩
  refine⟨_,rfl,K0,rfl,⟨_,SqL.of hK1⟩,qaF (xs:=((qav ds n).map fun(j:Nat)=>(j:Int)).map V.int) (fun i ys σ' H'=>H'=H1∧(∃z,σ'=[z,some (.ref R)])∧∃as,ys=as.map V.ref∧Paired (PrAt H') as (((qav ds n).map (bsA sp)).take i)) kz ⟨rfl,⟨none,rfl⟩,[],rfl,.nil⟩ ?_ ?_ ?_⟩
  ·rintro i ys σ' H' hi ⟨rfl,_,as,rfl,pr⟩;refine⟨SqL.of hK1,?_⟩;rw[List.length_map,Paired.length pr,List.length_take];exact Nat.min_le_left _ _
  ·rintro i y ys σ' H' hy ⟨rfl,⟨z,rfl⟩,as,rfl,pr⟩;obtain⟨m,em,rfl⟩:=qb7 hy;obtain⟨a,ea,ha⟩:=pget pR (qbw (m:=m) (by rw[lsp];exact qbv (List.mem_of_getElem? em)));refine⟨_,rfl,_,rfl,R,_,_,_,rfl,rfl,SqL.of (s1 _ _ hR),qay ea,rfl,⟨_,rfl⟩,as++[a],by rw[List.map_append];rfl,?_⟩;have e2:((qav ds n).map (bsA sp))[i]?=some (bsA sp m):=by rw[List.getElem?_map,em];rfl
   rw[List.take_succ,e2];exact pr.snoc (s1 _ _ ha)
  rintro ys σ' H2 ⟨rfl,_,as,rfl,pr⟩ W hW;rw[List.take_of_length_le (by rw[List.length_map,List.length_map,List.length_map];exact Nat.le_refl _)]at pr;have s2:=qad hW (.lst (as.map V.ref));have hWW:upd H2 W (.lst (as.map V.ref)) W=some (.lst (as.map V.ref)):=qac;have pW:Paired (PrAt (upd H2 W (.lst (as.map V.ref)))) as ((qav ds n).map (bsA sp)):=pr.mono fun _ _ z=>s2 _ _ z
  have s02:=s1.trans s2;have hK2:KL (upd H2 W (.lst (as.map V.ref))) K0 (qav ds n):=s2 _ _ hK1;generalize upd H2 W (.lst (as.map V.ref))=H3 at s2 hWW pW s02 hK2⊢;have la:as.length=(qav ds n).length:=by have:=Paired.length pW;rw[List.length_map]at this;exact this
  clear pr hK1 s2 hW hK;dsimp only[qa1];refine⟨_,rfl,_,rfl,B,_,_,_,rfl,rfl,SqL.of (s02 _ _ hB),qay ec,c,_,_,_,rfl,rfl,SqT.of (s02 _ _ hc),rfl,rfl,_,rfl,?_⟩;rw[show decide (V.str d.k.s=V.str (Str.ofString "shelf"))=decide (d.k=.shelf)from kdt d.k .shelf]
  by_cases hs:¬d.k=.shelf
  ·rw[decide_eq_false hs];refine iteT ⟨_,rfl,_,rfl,_,rfl,_,rfl,_,rfl,_,rfl,B,p,L,R,n,ds,ls,bs,sp,rfl,I.same s02,qaK s02 lR,lsp,hn,cx,fun t H4 ht s4 _ lt=>?_⟩;obtain⟨at_,ht4,pt4⟩:=lt;refine⟨_,_,.lst (s4 _ _ hWW) (qbY (pW.mono fun _ _ z=>s4 _ _ z)),.lst ht4 (qbY pt4),qcE _,qcE _,fun e=>q true _ (s02.trans s4) ⟨fun _=>prs_inj.mp e,fun _=>rfl⟩,fun e=>q false _ (s02.trans s4) ⟨fun z=>Bool.noConfusion z,fun z=>absurd (prs_inj.mpr z) e⟩⟩
  have hs:d.k=.shelf:=Classical.byContradiction hs;rw[decide_eq_true hs];refine iteF ?_;have eh:=qcu (ls:=ls) (bs:=bs) (sp:=sp) ed hs;refine⟨_,rfl,_,rfl,_,rfl,p,R,n,ls,sp,rfl,qaA s02 I.lk,qaK s02 lR,nl,by rw[lsp];exact hn,l13,fun r H4 hr0 s4 pr4=>?_⟩;have s04:=s02.trans s4;have hW4:=s4 _ _ hWW;have pW4:Paired (PrAt H4) as ((qav ds n).map (bsA sp)):=pW.mono fun _ _ z=>s4 _ _ z
  have hK4:KL H4 K0 (qav ds n):=s4 _ _ hK2;refine⟨_,rfl,W,rfl,⟨_,SqL.of hW4⟩,qaF (xs:=as.map V.ref) (fun i ys σ' H'=>H'=H4∧(∃z,σ'=[z])∧ys=((((qav ds n).map (bsA sp)).map Prod.snd).take i).map V.int) (by rw[List.length_map];exact qak (by omega)) ⟨rfl,⟨none,rfl⟩,rfl⟩ ?_ ?_ ?_⟩
  ·rintro i ys σ' H' hi ⟨rfl,_,rfl⟩;refine⟨SqL.of hW4,?_⟩;rw[List.length_map,List.length_take];exact Nat.min_le_left _ _
  ·rintro i y ys σ' H' hy ⟨rfl,⟨z,rfl⟩,rfl⟩;obtain⟨a,ea,rfl⟩:=qci hy;obtain⟨x,ex,ha⟩:=qbM pW4 ea;refine⟨_,rfl,a,_,_,_,rfl,rfl,SqT.of ha,rfl,rfl,⟨_,rfl⟩,?_⟩;have e2:(((qav ds n).map (bsA sp)).map Prod.snd)[i]?=some x.2:=by rw[List.getElem?_map,ex];rfl
   rw[List.take_succ,e2,List.map_append];rfl
  rintro ys σ' H5 ⟨rfl,_,rfl⟩ X hX;rw[List.take_of_length_le (by rw[List.length_map,List.length_map,List.length_map,la];exact Nat.le_refl _)];generalize hx:((qav ds n).map (bsA sp)).map Prod.snd=x;have lx:x.length=(qav ds n).length:=by rw[←hx,List.length_map,List.length_map]
  have s5:=qad hX (.lst (x.map V.int));have hXX:LI (upd H5 X (.lst (x.map V.int))) X x:=qac;have s05:=s04.trans s5;have hW5:=s5 _ _ hW4;have pW5:Paired (PrAt (upd H5 X (.lst (x.map V.int)))) as ((qav ds n).map (bsA sp)):=pW4.mono fun _ _ z=>s5 _ _ z
  have hK5:KL (upd H5 X (.lst (x.map V.int))) K0 (qav ds n):=s5 _ _ hK4;have pr5:PrAt (upd H5 X (.lst (x.map V.int))) r (qbe ls sp n):=s5 _ _ pr4;generalize upd H5 X (.lst (x.map V.int))=H6 at hXX s05 hW5 pW5 hK5 pr5⊢;clear s5 hX hK4 pW4 hW4 pr4 s04 s4;have lk6:=qaA s05 I.lk;have lb6:=qaK s05 I.bd;dsimp only[qa1];refine⟨_,rfl,r,_,_,_,rfl,rfl,SqT.of pr5,rfl,?_⟩;refine⟨_,rfl,_,rfl,_,rfl,p,L,K0,_,ls,bs,rfl,lk6,lb6,hK5,by omega,kin2,l13,fun f H7 hf s7 lf=>?_⟩;refine⟨_,rfl,_,rfl,_,rfl,p,L,K0,_,ls,bs,rfl,qaA s7 lk6,qaK s7 lb6,s7 _ _ hK5,by omega,kin2,l13,fun g H8 hg s8 lg=>?_⟩;have s68:=s7.trans s8;refine⟨_,rfl,_,rfl,p,K0,_,ls,rfl,qaA s68 lk6,s68 _ _ hK5,by omega,kin,l13,fun v H9 hv s9 lv=>?_⟩;have s69:=s68.trans s9;refine⟨_,rfl,_,f,g,v,X,_,_,_,x,rfl,(s8.trans s9) _ _ lf,s9 _ _ lg,lv,s69 _ _ hXX,cx.ok n,by omega,fun b HA sA hb=>?_⟩;have s6A:=s69.trans sA;have s0A:=s05.trans s6A;have hb':b=true↔x=qcC ls bs (qav ds n) (qbe ls sp n).2:=hb.trans (IsDue.hold (cx.ok n) (qeL _ _ _ _));refine⟨_,rfl,?_⟩;cases b with
  | false =>
    refine iteT (q false _ s0A ⟨fun z=>Bool.noConfusion z,fun z=>?_⟩)
    rw[eh]at z
    have:=(behind_iff.mpr z).1
    rw[hx]at this
    exact hb'.mpr this
  | true =>
    refine iteF ?_
    have ex:=hb'.mp rfl
    refine⟨_,rfl,_,rfl,r,_,_,_,rfl,rfl,SqT.of (s6A _ _ pr5),rfl,_,rfl,_,X,x,rfl,s6A _ _ hXX,by omega,fun t HB ht sB lt=>?_⟩
    obtain⟨at_,htB,ptB⟩:=lt
    have s6B:=s6A.trans sB
    refine⟨_,_,.lst (s6B _ _ hW5) (qbY (pW5.mono fun _ _ z=>s6B _ _ z)),.lst htB (qbY ptB),qcE _,qcE _,fun e=>q true _ (s05.trans s6B) ⟨fun _=>?_,fun _=>rfl⟩,fun e=>q false _ (s05.trans s6B) ⟨fun z=>Bool.noConfusion z,fun z=>absurd (prs_inj.mpr ?_) e⟩⟩
    · rw[eh,←ex]
      exact prs_inj.mp e
    · rw[eh,←ex]at z
      exact z
theorem scSpansHold:FnScope ["book", "looks", "bounds", "wide", "told"] ["book", "looks", "bounds", "wide", "told"] (qag sSpansHold):=⟨rfl,rfl,rfl,by decide +kernel,rfl,by decide +kernel,by decide +kernel⟩
theorem ok_spans_hold{fn:Addr}{fd:FuncData}(F:Fun K "spans_hold" "spans_hold" sSpansHold fn fd)(T:BnX mg)(F_held_spans_hold:Fx P w K mg base CX0 6 "held_spans_hold" ["book", "looks", "bounds", "told", "node"] spHeldHold):FnOk P w K mg base CX0 7 fn fd ["book", "looks", "bounds", "wide", "told"] spSpansHold:=by
 refine F.ok scSpansHold (fun vs H Q E h=>?_) (fun cdv A outer s H vs Q E hr h=>?_)
 ·obtain⟨B,p,L,R,wide,ds,ls,bs,sp,rfl,_⟩:=h;rfl
 ·obtain⟨B,p,L,R,wide,ds,ls,bs,sp,rfl,I,lR,lsp,cx,q⟩:=h;have hr_held_spans_hold:=hr;have hu:=hr.units;have le:=cx.le;refine⟨_,(qab (qaM (PW.pt (qdW (qam op_ne (qal call_len_seq (by rfl) T.len b_len (qaa (pv 4) pa_nil)) (qal call_len_seq (by rfl) T.len b_len (qaa (pv 0) pa_nil)) (qaq _)) (qcZ (qam (qdj hu) (qaj ix_list (pv 4) qae (fun _ _=>rfl)) (qaO (qaa qae (qaa (pv 3) pa_nil))) (qaq _))))) (qaf (qat qb1)) pss_nil)
   (qaf (qat (qal (qcI (by rfl)) (by rfl) T.all b_all (qaa (qaI (own:=["node"]) (by rfl) (ix:=[0,1,2,4]) (frees:=["book", "looks", "bounds", "told"]) (CompScope.frees (by rfl) (by decide +kernel) (by decide +kernel) (by decide +kernel) (by rfl) (by decide +kernel) (by first | exact qbc (by rfl) | exact qa9 (by rfl) (by rfl) | exact qfx (by rfl) (by rfl) (by rfl) (by rfl))) (qaH (by rfl) T.range (qaa (qal call_len_seq (by rfl) T.len b_len (qaa (pv 0) pa_nil)) pa_nil)) (fun cl C s2 H2 fp=>(qai (i:=0) (by show(["node", "book", "looks", "bounds", "told"]:List Str).Nodup;decide +kernel) (by rfl) (by trivial) (by trivial))) (fun cl C s2 H2 fp=>qaG) (fun cl C s2 H2 fp=>(qan F_held_spans_hold hr_held_spans_hold (by rfl) qao (qaa (pv 1) (qaa (pv 2) (qaa (pv 3) (qaa (pv 4) (qaa (pv 0) pa_nil)))))))) pa_nil))))),?_⟩
  obtain⟨aR,hR,pR⟩:=id lR;obtain⟨ab,hB,nd⟩:=I.bk;have e1:(((aR.map V.ref).length:Nat):Int)=ds.length:=by rw[List.length_map,Paired.length pR,lsp]
  have e2:(((ab.map V.ref).length:Nat):Int)=ds.length:=by rw[List.length_map,nd.length]
  refine⟨_,rfl,R,_,rfl,.inl (SqL.of hR),_,rfl,B,_,rfl,.inl (SqL.of hB),rfl,_,rfl,?_⟩;rw[e1,e2,decide_eq_true (rfl:V.int (ds.length:Int)=V.int (ds.length:Int))];refine iteF ?_;obtain⟨a0,e0,h0⟩:=pget pR (qbw (m:=0) (by rw[lsp];exact cx.pos));refine⟨_,rfl,R,_,_,_,rfl,rfl,SqL.of hR,qay (i:=0) e0,_,rfl,by show 2≤sizeLine;decide,fun t0 ht0=>?_⟩;have s1:=qad ht0 (.tup [.int 0,.int wide]);have pt0:PrAt (upd H t0 (.tup [.int 0,.int wide])) t0 (0,wide):=qac;generalize upd H t0 (.tup [.int 0,.int wide])=H1 at s1 pt0⊢;refine⟨_,_,qfb (h0.same s1),qfb pt0,qfv _,qfv _,fun e=>⟨_,rfl,iteF ?_⟩,fun e=>⟨_,rfl,iteT (q false H1 s1 ⟨fun z=>Bool.noConfusion z,fun z=>absurd (congrArg prD z.1) e⟩)⟩⟩;have sp0:bsA sp 0=(0,wide):=qe2 e;have en:(((ab.map V.ref).length:Nat):Int).toNat=ds.length:=by omega
  refine⟨_,rfl,B,_,rfl,.inl (SqL.of (s1 _ _ hB)),_,rfl,by omega,by omega,?_⟩;rw[en];refine qa7 (fun i ys σ' H'=>Same H1 H'∧(∃z,σ'=[z,some (.ref B),some (.ref p),some (.ref L),some (.ref R)])∧∃us:List Bool,ys=us.map V.bl∧Paired (fun b n=>(b=true↔(qav ds n).map (bsA sp)=qaU ds ls bs sp n)) us (List.range i)) (qak (by omega)) ⟨Same.refl _,⟨none,rfl⟩,[],rfl,.nil⟩ ?_ ?_ ?_
  ·rintro i ys σ' H' hi ⟨s2,_,us,rfl,pu⟩;rw[List.length_map,Paired.length pu,List.length_range];exact Nat.le_refl _
  ·rintro i ys σ' H' hi ⟨s2,⟨z,rfl⟩,us,rfl,pu⟩;rw[show(0:Int)+(i:Int)=(i:Int)from Int.zero_add _];have s02:=s1.trans s2;refine⟨_,rfl,_,rfl,_,rfl,_,rfl,_,rfl,B,p,L,R,i,ds,ls,bs,sp,rfl,I.same s02,qaK s02 lR,lsp,hi,cx,fun b H3 s3 hb=>?_⟩;refine⟨s2.trans s3,⟨_,rfl⟩,us++[b],by rw[List.map_append];rfl,?_⟩;rw[List.range_succ];exact pu.snoc hb
  ·rintro ys σ' H' ⟨s2,_,us,rfl,pu⟩ D hD;refine⟨D,us,rfl,SqL.of qac,q _ _ ((s1.trans s2).trans (qad hD _)) ((qdv pu).trans ?_)⟩;exact⟨fun h=>⟨sp0,fun n hn=>h n (List.mem_range.mpr hn)⟩,fun h n hn=>h.2 n (List.mem_range.mp hn)⟩
end
end K22
namespace K22
open PySem L2 Bk Gen Gd Bd Sp0
abbrev sHeld:Stmt:=top 57
abbrev sLooks:Stmt:=top 58
abbrev sBounds:Stmt:=top 59
theorem qfD(a b:Int)(f:Bool):atI [V.int a,V.int b] (if f=true then 1 else 0)=some (.int (if f=true then b else a)):=by cases f<;>rfl
section
variable{P:Program}{w:World}{K:PySem.W.Frag}{mg:Str→Option Value}{base:Heap}
theorem scHeld:FnScope ["_law_book_here", "_law_node"] ["_law_book_here", "_law_node"] (qag sHeld):=⟨rfl,rfl,rfl,by decide +kernel,rfl,by decide +kernel,by decide +kernel⟩
theorem ok_held{f:Addr}{fd:FuncData}(F:Fun K "_law_held" "_law_held" sHeld f fd)(T:BnX mg):FnOk P w K mg base CX0 1 f fd ["_law_book_here", "_law_node"] spHeld:=by
 refine F.ok scHeld (fun vs H Q E h=>?_) (fun cdv A outer s H vs Q E hr h=>?_)
 ·obtain⟨B,n,ds,rfl,_⟩:=h;rfl
 ·obtain⟨B,n,ds,rfl,⟨ab,hB,nd⟩,le,q⟩:=h;have lab:ab.length=ds.length:=nd.length;refine⟨_,(qaf (qat (qaI (own:=["_law_other"]) (by rfl) (ix:=[1,0]) (frees:=["_law_node", "_law_book_here"]) (CompScope.frees (by rfl) (by decide +kernel) (by decide +kernel) (by decide +kernel) (by rfl) (by decide +kernel) (by first | exact qbc (by rfl) | exact qa9 (by rfl) (by rfl))) (qaH (by rfl) T.range (qaa (qal call_len_seq (by rfl) T.len b_len (qaa (pv 0) pa_nil)) pa_nil)) (fun cl C s2 H2 fp=>(qai (i:=0) (by show(["_law_other", "_law_node", "_law_book_here"]:List Str).Nodup;decide +kernel) (by rfl) (by trivial) (by trivial))) (fun cl C s2 H2 fp=>(qcU (qam op_eq (qaj (r:=rIxT K) ix_tup (qaj (r:=rIxL K) ix_list (pv 2) (pv 0) (fun _ _=>rfl)) qae (fun _ _=>rfl)) (pv 1) (qaq _)))) (fun cl C s2 H2 fp=>(pv 0))))),?_⟩;have el:(((ab.map V.ref).length:Nat):Int).toNat=ds.length:=by rw[List.length_map,lab];omega
  refine⟨_,rfl,B,_,rfl,.inl (SqL.of hB),_,rfl,by omega,by rw[List.length_map,lab];omega,qa7 (n:=(((ab.map V.ref).length:Nat):Int).toNat) (fun i ys σ' H'=>H'=H∧ys=(qbO ds n i).map V.int∧∃z,σ'=[z,some (.int n),some (.ref B)]) (by rw[el];exact qak (by omega)) ⟨rfl,rfl,none,rfl⟩ ?_ ?_ ?_⟩
  ·rintro i ys σ' H' hi ⟨rfl,rfl,_⟩;rw[List.length_map];exact qdP _ _ _
  ·rintro i ys σ' H' hi ⟨rfl,rfl,z,rfl⟩;rw[el]at hi;rw[show(0:Int)+(i:Int)=(i:Int)from Int.zero_add _];have ed:ds[i]?=some ds[i]:=List.getElem?_eq_getElem hi;obtain⟨a,ea,na⟩:=nd.get ed;obtain⟨m',s',ha,_⟩:=na.ex;refine⟨_,rfl,_,rfl,B,_,_,_,rfl,rfl,SqL.of hB,qay ea,a,_,_,_,rfl,rfl,SqT.of ha,rfl,_,rfl,rfl,_,rfl,?_⟩
   by_cases he:ds[i].e=(n:Int)
   ·rw[decide_eq_true (congrArg V.int he)];refine iteT ⟨_,rfl,rfl,?_,_,rfl⟩;rw[qdd ed he,List.map_append];rfl
   ·rw[decide_eq_false fun z=>he (V.int.inj z)];refine iteF ⟨rfl,?_,_,rfl⟩;rw[qdZ ed he]
  ·rintro ys σ' H' ⟨rfl,rfl,_⟩ D hD;rw[el,qcj];exact q D _ hD (qad hD _) qac
theorem scLooks:FnScope ["_law_book_here", "_law_stream_here", "_law_far", "_law_found", "_law_node", "_law_inset", "_law_least", "_law_most", "_law_columns", "_law_span", "_law_deep", "_law_side", "_law_wide"] ["_law_book_here", "_law_stream_here"] (qag sLooks):=⟨rfl,rfl,rfl,by decide +kernel,rfl,by decide +kernel,by decide +kernel⟩
theorem ok_looks{f:Addr}{fd:FuncData}(F:Fun K "_law_looks" "_law_looks" sLooks f fd)(T:BnX mg)(F_take:Fx P w K mg base CX0 1 "_law_take" ["_law_stream_here", "_law_most"] spTake):FnOk P w K mg base CX0 2 f fd ["_law_book_here", "_law_stream_here"] spLooks2:=by
 refine F.ok scLooks (fun vs H Q E h=>?_) (fun cdv A outer s H vs Q E hr h=>?_)
 ·obtain⟨B,st,ds,rfl,_⟩:=h;rfl
 ·obtain⟨B,st,ds,rfl,⟨ab,hB,nd⟩,Bst,le,S0,q⟩:=h;have lab:ab.length=ds.length:=nd.length;have hr_take:=hr;refine⟨_,(qab (qah (i:=2) scLooks.nd (by rfl) (by trivial) (qbf op_eq (qan F_take hr_take (by rfl) qao (qaa (pv 1) (qaa qae pa_nil))) qae (qaq _)))
   (qab (qah (i:=3) scLooks.nd (by rfl) (by trivial) (qaB pa_nil))
   (qab (qaR PassesOwn.never (by rfl) (qaE (pv 0)) (qai (i:=4) scLooks.nd (by rfl) (by trivial))
   (qab (qah (i:=5) scLooks.nd (by rfl) (by trivial) (qan F_take hr_take (by rfl) qao (qaa (pv 1) (qaa (qaj ix_list (qaB (qaa qae (qaa qae pa_nil))) (qaJ call_int1 (by rfl) T.int b_int (qaa (pv 2) pa_nil)) (fun _ _=>rfl)) pa_nil))))
   (qab (qah (i:=6) scLooks.nd (by rfl) (by trivial) (qan F_take hr_take (by rfl) qao (qaa (pv 1) (qaa (qaj ix_list (qaB (qaa qae (qaa qae pa_nil))) (qaJ call_int1 (by rfl) T.int b_int (qaa (pv 2) pa_nil)) (fun _ _=>rfl)) pa_nil))))
   (qab (qah (i:=7) scLooks.nd (by rfl) (by trivial) (qan F_take hr_take (by rfl) qao (qaa (pv 1) (qaa (qaj ix_list (qaB (qaa qae (qaa qae pa_nil))) (qaJ call_int1 (by rfl) T.int b_int (qaa (pv 2) pa_nil)) (fun _ _=>rfl)) pa_nil))))
   (qab (qah (i:=8) scLooks.nd (by rfl) (by trivial) (qas op_add qae (qan F_take hr_take (by rfl) qao (qaa (pv 1) (qaa qae pa_nil)))))
   (qab (qah (i:=9) scLooks.nd (by rfl) (by trivial) (qas op_add qae (qan F_take hr_take (by rfl) qao (qaa (pv 1) (qaa qae pa_nil)))))
   (qab (qah (i:=10) scLooks.nd (by rfl) (by trivial) (qas op_add qae (qan F_take hr_take (by rfl) qao (qaa (pv 1) (qaa qae pa_nil)))))
   (qab (qah (i:=11) scLooks.nd (by rfl) (by trivial) (qan F_take hr_take (by rfl) qao (qaa (pv 1) (qaa qae pa_nil))))
   (qab (qah (i:=12) scLooks.nd (by rfl) (by trivial) (qas op_add qae (qan F_take hr_take (by rfl) qao (qaa (pv 1) (qaa (qaj ix_list (qaB (qaa qae (qaa qae pa_nil))) (qaJ call_int1 (by rfl) T.int b_int (qaa (pv 2) pa_nil)) (fun _ _=>rfl)) pa_nil)))))
   (qaf (qaP (qb6 PySem.F.plainAttrs_list PySem.F.slot_list_append PySem.F.type_list_append mt_append (pv 3) (qaa (qaB (qaa qae (qaa qae (qaa qae (qaa (pv 5) (qaa (qas op_add qae (qan F_take hr_take (by rfl) qao (qaa (pv 1) (qaa qae pa_nil)))) (qaa (pv 6) (qaa (pv 7) (qaa (pv 8) (qaa (pv 9) (qaa (pv 10) (qaa (pv 11) (qaa (pv 12) (qaa qae pa_nil)))))))))))))) pa_nil)))))))))))))
   (qaf (qat (pv 3)))))),?_⟩
  refine⟨_,rfl,st,4,rfl,S0,by decide,by decide,fun r1 H1 r10 r11 S1 K1=>⟨rfl,?_⟩⟩;generalize decide (V.int r1=V.int 1)=far;refine⟨by show 0≤sizeLine;decide,fun p hp=>?_⟩;have sp:=qad hp (.lst []);have hpp:upd H1 p (.lst []) p=some (.lst (([]:List Addr).map V.ref)):=qac;have pst:p≠st:=qaw S1.some hp;have hp0:H p=none:=K1.back pst hp;have K2:Keep1 st H (upd H1 p (.lst [])):=K1.trans sp.keep;have S2:=S1.same sp;generalize upd H1 p (.lst [])=H2 at sp hpp K2 S2⊢;have hB2:=K2 _ _ Bst hB;refine⟨_,rfl,B,rfl,⟨_,SqL.of hB2⟩,qbj (xs:=ab.map V.ref) (fun i σ H'=>StOk H' st∧Keep1 st H H'∧(∃z4 z5 z6 z7 z8 z9 z10 z11 z12,σ=[some (.ref B),some (.ref st),some (.bl far),some (.ref p),z4,z5,z6,z7,z8,z9,z10,z11,z12])∧∃as ls,H' p=some (.lst (as.map V.ref))∧Paired (LkN (fun b=>b≠st∧b≠p) H') as ls∧(∀l∈ls,Lk2 l)∧ls.length=i) ⟨S2,K2,⟨none,none,none,none,none,none,none,none,none,rfl⟩,[],[],hpp,.nil,(fun l hl=>nomatch hl),rfl⟩ ?_ ?_ ?_⟩
  ·rintro i σ H' hi ⟨_,K3,_⟩;exact SqL.of (K3 _ _ Bst hB)
  ·rintro i y σ H3 hy ⟨S3,K3,⟨z4,z5,z6,z7,z8,z9,z10,z11,z12,rfl⟩,as,ls,hp3,pr,lok,ll⟩;have hi:i<ds.length:=by
    have:=(List.getElem?_eq_some_iff.mp hy).1;rw[List.length_map,lab]at this;exact this
   have la:=Paired.length pr;have drawF:∀(a b:Int) (Ha:Hp) (σ:St) (Qa:VK),0<a→a≤b→b≤5000→σ[1]?=some (some (.ref st))→σ[2]?=some (some (.bl far))→StOk Ha st→(∀(r:Int) (Hb:Hp),0≤r→r<b→StOk Hb st→Keep1 st Ha Hb→Qa (.int r) Hb) →
     qfT spTake [] E0 (qcH (tVar 1) (qcH (tOp (rIxL K) (tLst (qcH (tC (.int a)) (qcH (tC (.int b)) tNil))) (tCB (fun xs H Q=>(∃i,xs=[.int i]∧Q (.int i) H)∨∃k,xs=[.bl k]∧Q (.int (if k=true then 1 else 0)) H) (qcH (tVar 2) tNil))) tNil)) σ Ha Qa:=fun a b Ha σ Qa a0 ab b1 e1 e2 Sa qa=>by
    refine⟨_,e1,by show 2≤sizeLine;decide,fun t ht=>?_⟩;have s:=qad ht (.lst [V.int a,V.int b]);refine⟨_,e2,.inr ⟨far,rfl,t,_,_,_,rfl,rfl,SqL.of qac,qfD a b far,st,_,rfl,Sa.same s,by split<;>omega,by split<;>omega,fun r Hb r0 r1 Sb Kb=>?_⟩⟩;exact qa r Hb r0 (by split at r1<;>omega) Sb (s.keep.trans Kb)
   dsimp only[qa1];show tSeq _ _ _ [some (.ref B),some (.ref st),some (.bl far),some (.ref p),some y,z5,z6,z7,z8,z9,z10,z11,z12] H3;refine drawF 10 401 H3 _ _ (by decide) (by decide) (by decide) rfl rfl S3 fun inset H5 i0 _ S5 K5=>?_
   refine drawF 61 4001 H5 _ _ (by decide) (by decide) (by decide) rfl rfl S5 fun least H6 l0 l4 S6 K6=>?_
   refine drawF 201 4001 H6 _ _ (by decide) (by decide) (by decide) rfl rfl S6 fun most H7 m0 m4 S7 K7=>?_
   dsimp only[qa1];show tSeq _ _ _ [some (.ref B),some (.ref st),some (.bl far),some (.ref p),some y,some (.int inset),some (.int least),some (.int most),z8,z9,z10,z11,z12] H7;refine⟨_,rfl,st,6,rfl,S7,by decide,by decide,fun c H8 c0 c1 S8 K8=>⟨_,_,rfl,rfl,?_⟩⟩;refine⟨_,rfl,st,6,rfl,S8,by decide,by decide,fun sn H9 sn0 sn1 S9 K9=>⟨_,_,rfl,rfl,?_⟩⟩;refine⟨_,rfl,st,4,rfl,S9,by decide,by decide,fun dp H10 dp0 dp1 S10 K10=>⟨_,_,rfl,rfl,?_⟩⟩;refine⟨_,rfl,st,2,rfl,S10,by decide,by decide,fun sd H11 sd0 sd1 S11 K11=>?_⟩;dsimp only[qa1];show tSeq _ _ _ [some (.ref B),some (.ref st),some (.bl far),some (.ref p),some y,some (.int inset),some (.int least),some (.int most),some (.int (1+c)),some (.int (1+sn)),some (.int (1+dp)),some (.int sd),z12] H11;refine drawF 90 4000 H11 _ _ (by decide) (by decide) (by decide) rfl rfl S11 fun wd H12 w0 _ S12 K12=>⟨_,_,rfl,rfl,?_⟩
   dsimp only[qa1];have K312:Keep1 st H3 H12:=((((((K5.trans K6).trans K7).trans K8).trans K9).trans K10).trans K11).trans K12;have hp12:=K312 _ _ pst hp3;refine⟨_,rfl,.inl ⟨rfl,_,SqL.of hp12⟩,_,rfl,_,rfl,st,9,rfl,S12,by decide,by decide,fun wt H13 wt0 wt1 S13 K13=>⟨_,_,rfl,rfl,?_⟩⟩;refine⟨_,rfl,_,rfl,_,rfl,_,rfl,_,rfl,_,rfl,_,rfl,by show 13≤sizeLine;decide,fun t ht=>?_⟩;have s14:=qad ht (.lst ([0,0,0,inset,1+wt,least,most,1+c,1+sn,1+dp,sd,1+wd,0].map V.int));have hT:upd H13 t (.lst ([0,0,0,inset,1+wt,least,most,1+c,1+sn,1+dp,sd,1+wd,0].map V.int)) t=some (.lst ([0,0,0,inset,1+wt,least,most,1+c,1+sn,1+dp,sd,1+wd,0].map V.int)):=qac;have K314:Keep1 st H3 (upd H13 t (.lst ([0,0,0,inset,1+wt,least,most,1+c,1+sn,1+dp,sd,1+wd,0].map V.int))):=(K312.trans K13).trans s14.keep;have S14:=S13.same s14;have tst:t≠st:=qaw S13.some ht;have tp:t≠p:=qaw ⟨_,(K312.trans K13) _ _ pst hp3⟩ ht;have hp14:=K314 _ _ pst hp3;refine⟨p,_,_,rfl,rfl,hp14,qak (by rw[List.length_map];omega),?_⟩;have ok:Lk2 [0,0,0,inset,1+wt,least,most,1+c,1+sn,1+dp,sd,1+wd,0]:=⟨⟨rfl,i0,l0,m0,⟨by show 1≤1+c;omega,by show 1+c≤6;omega⟩,⟨by show 1≤1+sn;omega,by show 1+sn≤6;omega⟩,by show 0≤1+wd;omega⟩,⟨by show 1≤1+wt;omega,by show 1+wt≤9;omega⟩,by show least≤4000;omega,by show most≤4000;omega,⟨by show 1≤1+dp;omega,by show 1+dp≤4;omega⟩,by show sd=0∨sd=1;omega⟩;have kU:KeepN (fun b=>b≠st∧b≠p) H3 (upd (upd H13 t (.lst ([0,0,0,inset,1+wt,least,most,1+c,1+sn,1+dp,sd,1+wd,0].map V.int))) p (.lst (as.map V.ref++[.ref t]))):=fun b o n e=>by rw[qap n.2];exact K314 _ _ n.1 e
   refine⟨?_,fun b o n e=>?_,⟨_,_,_,_,_,_,_,_,_,rfl⟩,as++[t],ls++[[0,0,0,inset,1+wt,least,most,1+c,1+sn,1+dp,sd,1+wd,0]],by rw[qac,List.map_append];rfl,(pr.mono fun _ _ z=>z.keep kU fun _ n _=>n).snoc ⟨⟨tst,tp⟩,by rw[qap tp];exact hT⟩,fun l hl=>?_,by rw[List.length_append,ll];rfl⟩
   ·obtain⟨x,y,e,z⟩:=S14;exact⟨x,y,by rw[qap (Ne.symm pst)];exact e,z⟩
   ·rw[qap (qar e hp0)];exact K314 _ _ n (K3 _ _ n e)
   ·rcases List.mem_append.mp hl with h | h
    ·exact lok l h
    ·have e:l=[0,0,0,inset,1+wt,least,most,1+c,1+sn,1+dp,sd,1+wd,0]:=by simpa using h
     rw[e];exact ok
  ·rintro σ H' ⟨S3,K3,⟨z4,z5,z6,z7,z8,z9,z10,z11,z12,rfl⟩,as,ls,hp3,pr,lok,ll⟩;rw[List.length_map,lab]at ll;exact⟨_,rfl,q p ls H' hp0 ⟨as,hp3,pr.mono fun _ _ z=>z.2⟩ ll lok S3 K3⟩
theorem scBounds:FnScope ["_law_book_here", "_law_stream_here", "_law_found", "_law_node", "_law_low"] ["_law_book_here", "_law_stream_here"] (qag sBounds):=⟨rfl,rfl,rfl,by decide +kernel,rfl,by decide +kernel,by decide +kernel⟩
theorem ok_drawn_bounds{f:Addr}{fd:FuncData}(F:Fun K "_law_drawn_bounds" "_law_drawn_bounds" sBounds f fd)(T:BnX mg)(F_take:Fx P w K mg base CX0 1 "_law_take" ["_law_stream_here", "_law_most"] spTake):FnOk P w K mg base CX0 2 f fd ["_law_book_here", "_law_stream_here"] spBounds:=by
 refine F.ok scBounds (fun vs H Q E h=>?_) (fun cdv A outer s H vs Q E hr h=>?_)
 ·obtain⟨B,st,ds,rfl,_⟩:=h;rfl
 ·obtain⟨B,st,ds,rfl,⟨ab,hB,nd⟩,Bst,le,S0,q⟩:=h;have lab:ab.length=ds.length:=nd.length;have hr_take:=hr;refine⟨_,(qab (qah (i:=2) scBounds.nd (by rfl) (by trivial) (qaB pa_nil))
   (qab (qaR PassesOwn.never (by rfl) (qaE (pv 0)) (qai (i:=3) scBounds.nd (by rfl) (by trivial))
   (qab (qah (i:=4) scBounds.nd (by rfl) (by trivial) (qan F_take hr_take (by rfl) qao (qaa (pv 1) (qaa (qaj ix_list (qaB (qaa qae (qaa qae pa_nil))) (qaJ call_int1 (by rfl) T.int b_int (qaa (qbf op_eq (qan F_take hr_take (by rfl) qao (qaa (pv 1) (qaa qae pa_nil))) qae (qaq _)) pa_nil)) (fun _ _=>rfl)) pa_nil))))
   (qaf (qaP (qb6 PySem.F.plainAttrs_list PySem.F.slot_list_append PySem.F.type_list_append mt_append (pv 2) (qaa (qaO (qaa (pv 4) (qaa (qas op_add (pv 4) (qan F_take hr_take (by rfl) qao (qaa (pv 1) (qaa qae pa_nil)))) pa_nil))) pa_nil))))))
   (qaf (qat (pv 2))))),?_⟩
  refine⟨by show 0≤sizeLine;decide,fun p hp=>?_⟩;have sp:=qad hp (.lst []);have hpp:upd H p (.lst []) p=some (.lst (([]:List Addr).map V.ref)):=qac;have pst:p≠st:=qaw S0.some hp;have S2:=S0.same sp;have K2:Keep1 st H (upd H p (.lst [])):=sp.keep;generalize upd H p (.lst [])=H2 at sp hpp K2 S2⊢;have nst:∀{b:Addr} {H':Hp} {xs:List V},StOk H' st→H' b=some (.tup xs)→b≠st:=fun S e z=>by
   obtain⟨x,y,e2,_⟩:=S;rw[z,e2]at e;cases e
  refine⟨_,rfl,B,rfl,⟨_,SqL.of (K2 _ _ Bst hB)⟩,qbj (xs:=ab.map V.ref) (fun i σ H'=>StOk H' st∧Keep1 st H H'∧(∃z3 z4,σ=[some (.ref B),some (.ref st),some (.ref p),z3,z4])∧∃as bs,H' p=some (.lst (as.map V.ref))∧Paired (PrAt H') as bs∧(∀b∈bs,0≤b.1∧b.1≤4000)∧bs.length=i) ⟨S2,K2,⟨none,none,rfl⟩,[],[],hpp,.nil,(fun b hb=>nomatch hb),rfl⟩ ?_ ?_ ?_⟩
  ·rintro i σ H' hi ⟨_,K3,_⟩;exact SqL.of (K3 _ _ Bst hB)
  ·rintro i y σ H3 hy ⟨S3,K3,⟨z3,z4,rfl⟩,as,bs,hp3,pr,bok,lb⟩;have hi:i<ds.length:=by
    have:=(List.getElem?_eq_some_iff.mp hy).1;rw[List.length_map,lab]at this;exact this
   have la:=Paired.length pr;refine⟨_,rfl,by show 2≤sizeLine;decide,fun t ht=>?_⟩;have s4:=qad ht (.lst [.int 61,.int 4001]);have htt:upd H3 t (.lst [.int 61,.int 4001]) t=some (.lst [.int 61,.int 4001]):=qac;have ts:t≠st:=qaw S3.some ht;have S4:=S3.same s4;have k34:Keep1 st H3 (upd H3 t (.lst [.int 61,.int 4001])):=s4.keep;generalize upd H3 t (.lst [.int 61,.int 4001])=H4 at htt S4 k34⊢;refine⟨_,rfl,st,8,rfl,S4,by decide,by decide,fun e H5 e0 e1 S5 K5=>⟨rfl,?_⟩⟩;generalize decide (V.int e=V.int 1)=far;refine .inr ⟨far,rfl,t,_,_,_,rfl,rfl,SqL.of (K5 _ _ ts htt),qfD 61 4001 far,st,_,rfl,S5,by split<;>omega,by split<;>omega,fun low H6 l0 l1 S6 K6=>?_⟩;have l4:low≤4000:=by split at l1<;>omega
   have k36:=(k34.trans K5).trans K6;have hp6:=k36 _ _ pst hp3;refine⟨_,rfl,.inl ⟨rfl,_,SqL.of hp6⟩,_,rfl,_,rfl,_,rfl,st,100,rfl,S6,by decide,by decide,fun g H7 g0 g1 S7 K7=>⟨_,_,rfl,rfl,by show 2≤sizeLine;decide,fun u hu=>?_⟩⟩;have s8:=qad hu (.tup [.int low,.int (low+g)]);have huu:upd H7 u (.tup [.int low,.int (low+g)]) u=some (.tup [.int low,.int (low+g)]):=qac;have k38:Keep1 st H3 (upd H7 u (.tup [.int low,.int (low+g)])):=(k36.trans K7).trans s8.keep;have S8:=S7.same s8;generalize upd H7 u (.tup [.int low,.int (low+g)])=H8 at huu k38 S8⊢;have hp8:=k38 _ _ pst hp3;have pr8:Paired (PrAt H8) as bs:=pr.mono fun _ _ z=>k38 _ _ (nst S3 z) z
   refine⟨p,_,_,rfl,rfl,hp8,qak (by rw[List.length_map];omega),?_⟩;have tl:=Tups.lst (o:=.lst (as.map V.ref++[.ref u])) hp8;refine⟨?_,fun b o n e=>?_,⟨_,_,rfl⟩,as++[u],bs++[(low,low+g)],by rw[qac,List.map_append];rfl,(pr8.mono fun _ _ z=>tl _ _ z).snoc (tl _ _ huu),fun b hb=>?_,by rw[List.length_append,lb];rfl⟩
   ·obtain⟨x,y,e,z⟩:=S8;exact⟨x,y,by rw[qap (Ne.symm pst)];exact e,z⟩
   ·rw[qap (qar e hp)];exact k38 _ _ n (K3 _ _ n e)
   ·rcases List.mem_append.mp hb with h | h
    ·exact bok b h
    ·have e:b=(low,low+g):=by simpa using h
     rw[e];exact⟨l0,l4⟩
  ·rintro σ H' ⟨S3,K3,⟨z3,z4,rfl⟩,as,bs,hp3,pr,bok,lb⟩;rw[List.length_map,lab]at lb;exact⟨_,rfl,q p bs H' hp ⟨as,hp3,pr⟩ lb bok S3 K3⟩
end
end K22
namespace K22
open PySem L2 Bk Gen Gd Shr
abbrev sDots:Stmt:=top 60
section
variable{P:Program}{w:World}{K:PySem.W.Frag}{mg:Str→Option Value}{base:Heap}
theorem scDots:FnScope ["_law_width", "_law_floors", "_law_roofs", "_law_weights", "_law_room_here", "_law_dots_here", "_law_k", "_law_by", "_law_found", "_law_key"] ["_law_width", "_law_floors", "_law_roofs", "_law_weights"] (qag sDots):=⟨rfl,rfl,rfl,by decide +kernel,rfl,by decide +kernel,by decide +kernel⟩
theorem ok_dots{f:Addr}{fd:FuncData}(F:Fun K "_law_dots" "_law_dots" sDots f fd)(T:BnS mg):FnOk P w K mg base CX0 1 f fd ["_law_width", "_law_floors", "_law_roofs", "_law_weights"] spDots:=by
 refine F.ok scDots (fun vs H Q E h=>?_) (fun cdv A outer s H vs Q E hr h=>?_)
 ·obtain⟨wd,f,r,w,F,R,W,rfl,_⟩:=h;rfl
 ·obtain⟨wd,f,r,w,F,R,W,rfl,hf,hR,hw,ok,q⟩:=h;refine⟨_,(qab (qah (i:=4) scDots.nd (by rfl) (by trivial) (qal (qbk (by rfl)) (by rfl) T.max b_max (qaa qae (qaa (qas op_sub (pv 0) (qal (qa4 (by rfl)) (by rfl) T.sum b_sum (qaa (pv 1) pa_nil))) pa_nil))))
   (qab (qah (i:=5) scDots.nd (by rfl) (by trivial) (qaB pa_nil))
   (qab (qaR PassesOwn.never (by rfl) (qaH (by rfl) T.range (qaa (qal call_len_seq (by rfl) T.len b_len (qaa (pv 1) pa_nil)) pa_nil)) (qai (i:=6) scDots.nd (by rfl) (by trivial))
   (qab (qah (i:=7) scDots.nd (by rfl) (by trivial) (qas op_fdivL qae (qaj ix_list (pv 3) (pv 6) (fun _ _=>rfl))))
   (qaf (qah (i:=5) scDots.nd (by rfl) (by trivial) (qas op_cat (pv 5) (qaI (own:=["_law_dot"]) (by rfl) (ix:=[6,7]) (frees:=["_law_k", "_law_by"]) (CompScope.frees (by rfl) (by decide +kernel) (by decide +kernel) (by decide +kernel) (by rfl) (by decide +kernel) (by first | exact qbc (by rfl) | exact qa9 (by rfl) (by rfl))) (qbQ (by rfl) T.range (qaa (qaj ix_list (pv 1) (pv 6) (fun _ _=>rfl)) (qaa (qal (qbG (by rfl)) (by rfl) T.min b_min (qaa (qaj ix_list (pv 2) (pv 6) (fun _ _=>rfl)) (qaa (qas op_add (qaj ix_list (pv 1) (pv 6) (fun _ _=>rfl)) (pv 4)) pa_nil))) pa_nil))) (fun cl C s2 H2 fp=>(qai (i:=0) (by show(["_law_dot", "_law_k", "_law_by"]:List Str).Nodup;decide +kernel) (by rfl) (by trivial) (by trivial))) (fun cl C s2 H2 fp=>qaG) (fun cl C s2 H2 fp=>(qaO (qaa (qas op_mul (pv 2) (pv 0)) (qaa (pv 1) pa_nil))))))))))
   (qab (qah (i:=8) scDots.nd (by rfl) (by trivial) (qaJ call_list_of (by rfl) T.list b_list (qaa (pv 1) pa_nil)))
   (qab (qaR PassesOwn.never (by rfl) (qaE (qco sl_list (qal call_sortedP (by rfl) T.sorted b_sorted (qaa (pv 5) pa_nil)) po_none (qcx (pv 4)))) (qcD (by rfl) (qax (qai (i:=9) scDots.nd (by rfl) (by trivial)) (qax (qai (i:=6) scDots.nd (by rfl) (by trivial)) pgs_nil)))
   (qaf (qbF (qas op_add (qaj ix_list (pv 8) (pv 6) (fun _ _=>rfl)) qae) (qbP (pv 8) (pv 6) set_list))))
   (qaf (qat (pv 8)))))))),?_⟩
  have sum0:=ok.sum0;have n9:=ok.n;obtain⟨room,er⟩:∃room:Nat,(room:Int)=max 0 (wd-F.sum):=⟨(max 0 (wd-F.sum)).toNat,by omega⟩;refine⟨_,rfl,_,rfl,f,F,rfl,SqL.of hf,_,_,rfl,rfl,_,_,rfl,?_⟩;show qa1 4 (V.int (if wd-F.sum>0 then wd-F.sum else 0)) _ _ _;rw[qdT,←er];refine⟨by show 0≤sizeLine;decide,fun L hL=>?_⟩;have s1:=qad hL (.lst []);have hLL:upd H L (.lst []) L=some (.lst (([]:List Addr).map V.ref)):=qac;generalize upd H L (.lst [])=H1 at s1 hLL⊢;refine⟨_,rfl,f,_,rfl,.inl (SqL.of (s1 _ _ hf)),_,rfl,by rw[List.length_map];omega,by rw[List.length_map];omega,qaN (fun i σ H'=>Same H H'∧∃(d:Addr) (as:List Addr) (z6 z7:Option V),σ=[some (.int wd),some (.ref f),some (.ref r),some (.ref w),some (.int (room:Int)),some (.ref d),z6,z7,none,none]∧H d=none∧H' d=some (.lst (as.map V.ref))∧as.length≤10000*i∧Paired (iAt H') as (dots 0 ((places F R W room).take i))) ⟨s1,L,[],none,none,rfl,hL,hLL,by decide,.nil⟩ ?_ ?_⟩
  ·rintro i σ H' hi ⟨s2,d,as,z6,z7,rfl,hd,hdd,al,pr⟩;rw[List.length_map]at hi;have hi:i<F.length:=by omega
   rw[show(0:Int)+(i:Int)=(i:Int)from Int.zero_add _];have wi:=ok.w i;have fi:=ok.f i hi;have fri:=ok.fr i hi;have ri:=ok.r i hi;have a1:atI (W.map V.int) (i:Int)=some (.int (W.getD i 1)):=qba (by rw[ok.lw];exact hi) 1;have a2:atI (F.map V.int) (i:Int)=some (.int (F.getD i 0)):=qba hi 0;have a3:atI (R.map V.int) (i:Int)=some (.int (R.getD i 0)):=qba (by rw[ok.lr];exact hi) 0;have by1:=qdS wi;have by2:2520 / W.getD i 1≤2520:=Int.ediv_le_self _ (by decide);refine⟨_,rfl,_,rfl,w,_,_,_,rfl,rfl,SqL.of (s2 _ _ hw),a1,_,_,rfl,rfl,⟨by omega,by omega⟩,?_⟩;refine⟨_,rfl,_,rfl,_,rfl,f,_,_,_,rfl,rfl,SqL.of (s2 _ _ hf),a2,_,rfl,_,rfl,r,_,_,_,rfl,rfl,SqL.of (s2 _ _ hR),a3,_,rfl,_,rfl,f,_,_,_,rfl,rfl,SqL.of (s2 _ _ hf),a2,_,rfl,_,_,rfl,rfl,_,_,rfl,?_⟩;rw[qeK];obtain⟨p,hp⟩:∃p:Int×Int×Nat,p=(2520 / W.getD i 1,F.getD i 0,(min (R.getD i 0) (F.getD i 0+(room:Int))-F.getD i 0).toNat):=⟨_,rfl⟩;have dt:=dots_take (R:=R) (W:=W) (room:=room) hi;rw[←hp]at dt;have p1:p.1=2520 / W.getD i 1:=by rw[hp]
   have p2:p.2.1=F.getD i 0:=by rw[hp]
   have p3:p.2.2=(min (R.getD i 0) (F.getD i 0+(room:Int))-F.getD i 0).toNat:=by rw[hp]
   have p4:(min (R.getD i 0) (F.getD i 0+(room:Int))-F.getD i 0).toNat≤10000:=by omega
   refine⟨_,_,rfl,⟨by omega,by omega,by omega,by omega⟩,?_⟩;refine qa7 (fun j ys σ' H3=>Same H' H3∧(∃z,σ'=[z,some (.int (i:Int)),some (.int (2520 / W.getD i 1))])∧∃bs,ys=bs.map V.ref∧Paired (iAt H3) bs ((row i p).take j)) (Nat.lt_of_le_of_lt p4 (by show 10000<sizeLine;decide)) ⟨Same.refl _,⟨none,rfl⟩,[],rfl,.nil⟩ ?_ ?_ ?_
   ·rintro j ys σ' H3 hj ⟨s3,_,bs,rfl,pr3⟩;rw[List.length_map,Paired.length pr3,List.length_take];exact Nat.min_le_left _ _
   ·rintro j ys σ' H3 hj ⟨s3,⟨z,rfl⟩,bs,rfl,pr3⟩;refine⟨_,rfl,_,rfl,_,_,rfl,rfl,.inl ⟨by omega,by omega⟩,_,rfl,by show 2≤sizeLine;decide,fun t' ht'=>?_⟩;have s4:=qad ht' (.tup [.int (2520 / W.getD i 1*(F.getD i 0+(j:Int))),.int (i:Int)]);refine⟨s3.trans s4,⟨_,rfl⟩,bs++[t'],by rw[List.map_append];rfl,?_⟩;rw[List.take_succ,qeY (by rw[p3];exact hj),p1,p2];exact(qc9 (.of s4) pr3).snoc qac
   ·rintro ys σ' H3 ⟨s3,⟨z,rfl⟩,bs,rfl,pr3⟩ D hD;rw[←p3,List.take_of_length_le (by rw[qdl];exact Nat.le_refl _)]at pr3;have l2:=Paired.length pr3;rw[qdl]at l2;have s4:=qad hD (.lst (bs.map V.ref));have hd3:=s4 _ _ (s3 _ _ hdd);refine⟨d,D,_,_,rfl,rfl,hd3,qac,?_,fun e he=>?_⟩
    ·rw[List.length_map,List.length_map];exact Nat.le_trans (show as.length+bs.length≤1010000 by omega) (by show 1010000≤sizeLine;decide)
    ·have s5:=(s3.trans s4).trans (qad he (.lst (as.map V.ref++bs.map V.ref)));refine⟨s2.trans s5,e,as++bs,_,_,rfl,(s2.trans (s3.trans s4)).free he,?_,?_,?_⟩
     ·rw[qac,List.map_append]
     ·rw[List.length_append];omega
     ·rw[dt];exact qb3 (qc9 (.of s5) pr) (qc9 (.of (s4.trans (qad he _))) pr3)
  ·rintro σ H' ⟨s2,d,as,z6,z7,rfl,hd,hdd,al,pr⟩;have en:(((F.map V.int).length:Nat):Int).toNat=F.length:=by rw[List.length_map];exact Int.toNat_natCast _
   rw[en]at pr;rw[List.take_of_length_le (by rw[qct];exact Nat.le_refl _)]at pr;refine⟨_,rfl,f,_,rfl,.inl (SqL.of (s2 _ _ hf)),fun g hg=>?_⟩;have s3:=qad hg (.lst (F.map V.int));have hgg:LI (upd H' g (.lst (F.map V.int))) g F:=qac;have g0:H g=none:=s2.free hg;have hd3:=s3 _ _ hdd;have pr3:=qc9 (.of s3) pr;have s03:=s2.trans s3;generalize upd H' g (.lst (F.map V.int))=H3 at s3 hgg hd3 pr3 s03⊢;refine⟨_,rfl,d,as,_,rfl,SqL.of hd3,pr3,fun e bs os he pro pm pw=>?_⟩;have s4:=qad he (.lst (bs.map V.ref));have hee:upd H3 e (.lst (bs.map V.ref)) e=some (.lst (bs.map V.ref)):=qac;have hg4:LI (upd H3 e (.lst (bs.map V.ref))) g F:=s4 _ _ hgg;have s04:=s03.trans s4;have pr4:=qc9 (.of s4) pro;generalize upd H3 e (.lst (bs.map V.ref))=H4 at hee hg4 s04 pr4⊢;refine⟨_,rfl,(room:Int),rfl,e,_,rfl,SqL.of hee,fun S hS=>?_⟩;rw[cut_take];have s5:=qad hS (.lst ((bs.take room).map V.ref));have hSS:upd H4 S (.lst ((bs.take room).map V.ref)) S=some (.lst ((bs.take room).map V.ref)):=qac;have hg5:LI (upd H4 S (.lst ((bs.take room).map V.ref))) g F:=s5 _ _ hg4;have s05:=s04.trans s5;have pr5:=qc9 (.of s5) pr4;have Sg:S≠g:=fun z=>by rw[z]at hS;rw[hg4]at hS;cases hS
   generalize upd H4 S (.lst ((bs.take room).map V.ref))=H5 at hSS hg5 s05 pr5⊢;clear hee hg4 s04 pr4 pro hd3 pr3 hgg s4 s5 s3 s03;have lo:=Paired.length pr5;refine⟨S,rfl,⟨_,SqL.of hSS⟩,qbj (xs:=(bs.take room).map V.ref) (fun i σ H'=>Keep1 g H5 H'∧(∃z6 z9,σ=[some (.int wd),some (.ref f),some (.ref r),some (.ref w),some (.int (room:Int)),some (.ref d),z6,z7,some (.ref g),z9])∧LI H' g (((os.take room).take i).foldl Shr.bump F)) ⟨KeepN.refl,⟨_,none,rfl⟩,hg5⟩ ?_ ?_ ?_⟩
   ·rintro i σ H' hi ⟨k1,_⟩;exact SqL.of (k1 _ _ Sg hSS)
   ·rintro i x σ H' hx ⟨k1,⟨y6,y9,rfl⟩,hx5⟩;obtain⟨b,eb,rfl⟩:=qci hx;have ir:i<room:=by
     have:=(List.getElem?_eq_some_iff.mp eb).1;rw[List.length_take]at this;omega
    rw[List.getElem?_take_of_lt ir]at eb;obtain⟨p,ep,hb⟩:=qbM pr5 eb;have mem:p∈dots 0 (places F R W room):=pm.mem_iff.mp (List.mem_of_getElem? ep);obtain⟨k,_,hk,ek⟩:=dots_place mem;rw[qct,Nat.zero_add]at hk;have bg:b≠g:=fun z=>by
     rw[z]at hb;have h1:H5 g=some (.lst (F.map V.int)):=hg5;rw[show H5 g=_ from hb]at h1;cases h1
    have hb':H' b=some (.tup [.int p.1,.int (k:Int)]):=by rw[←ek];exact k1 _ _ bg hb
    have len:(((os.take room).take i).foldl Shr.bump F).length=F.length:=fold_len _ _;have et:(os.take room).take (i+1)=(os.take room).take i++[p]:=by
     rw[List.take_succ,List.getElem?_take_of_lt ir,ep];rfl
    refine⟨b,_,rfl,SqT.of hb',rfl,_,_,rfl,_,_,rfl,rfl,?_⟩;refine⟨_,rfl,_,rfl,g,_,_,_,rfl,rfl,SqL.of hx5,qba (by rw[len];exact hk) 0,_,_,rfl,rfl,_,rfl,_,rfl,g,_,_,k,rfl,rfl,hx5,by rw[List.length_map,len];exact qbW hk,?_⟩;refine⟨fun b o n e=>by rw[qap n];exact k1 b o n e,⟨_,_,rfl⟩,?_⟩;show upd H' g _ g=_;rw[qac,et,List.foldl_append];show some (HO.lst _)=some (HO.lst ((Shr.bump _ p).map V.int));unfold Shr.bump;rw[ek,Int.toNat_natCast,List.map_set]
   ·rintro σ H' ⟨k1,⟨y6,y9,rfl⟩,hx5⟩;have eo:(os.take room).take ((bs.take room).map V.ref).length=os.take room:=by
     rw[List.length_map,List.length_take,lo,List.take_of_length_le];rw[List.length_take];exact Nat.le_refl _
    rw[eo,dots_given pm]at hx5;refine⟨_,rfl,q g H' _ g0 (fun b o e=>?_) hx5 ⟨room,os,er,⟨pm,pw⟩,rfl⟩⟩;exact k1 _ _ (fun z=>by rw[z]at e;rw[g0]at e;cases e) (s05 _ _ e)
end
end K22
namespace K22
open PySem L2 Bk Gen Gd Bd Shr Sp0
abbrev sLRoom:Stmt:=top 61
abbrev sBelow:Stmt:=top 62
abbrev sBeside:Stmt:=top 63
section
variable{P:Program}{w:World}{K:PySem.W.Frag}{mg:Str→Option Value}{base:Heap}
theorem scLRoom:FnScope ["_law_looks_here", "_law_told", "_law_node", "_law_inset"] ["_law_looks_here", "_law_told", "_law_node"] (qag sLRoom):=⟨rfl,rfl,rfl,by decide +kernel,rfl,by decide +kernel,by decide +kernel⟩
theorem ok_room{fn:Addr}{fd:FuncData}(F:Fun K "_law_room" "_law_room" sLRoom fn fd)(T:BnX mg):FnOk P w K mg base CX0 1 fn fd ["_law_looks_here", "_law_told", "_law_node"] spRoom:=by
 refine F.ok scLRoom (fun vs H Q E h=>?_) (fun cdv A outer s H vs Q E hr h=>?_)
 ·obtain⟨p,S,n,ls,sp,rfl,_⟩:=h;rfl
 ·obtain⟨p,S,n,ls,sp,rfl,⟨ak,hk,pk⟩,⟨as,hS,pr⟩,hn,hs,l13,q⟩:=h;refine⟨_,(qab (qah (i:=3) scLRoom.nd (by rfl) (by trivial) (qaj ix_list (qaj ix_list (pv 0) (pv 2) (fun _ _=>rfl)) qae (fun _ _=>rfl)))
   (qaf (qat (qaO (qaa (qas op_add (qaj ix_tup (qaj ix_list (pv 1) (pv 2) (fun _ _=>rfl)) qae (fun _ _=>rfl)) (pv 3)) (qaa (qal (qbk (by rfl)) (by rfl) T.max b_max (qaa qae (qaa (qas op_sub (qaj ix_tup (qaj ix_list (pv 1) (pv 2) (fun _ _=>rfl)) qae (fun _ _=>rfl)) (qas op_mul qae (pv 3))) pa_nil))) pa_nil)))))),?_⟩
  obtain⟨a,ea,ha⟩:=pget pr (qbw hs);obtain⟨b,eb,hb⟩:=pget pk (List.getElem?_eq_getElem hn);refine⟨_,rfl,_,rfl,p,_,_,_,rfl,rfl,SqL.of hk,qay eb,b,_,_,_,rfl,rfl,SqL.of hb,qa6 (j:=3) (lkg hn l13 (by decide)),?_⟩;refine⟨_,rfl,_,rfl,S,_,_,_,rfl,rfl,SqL.of hS,qay ea,a,_,_,_,rfl,rfl,SqT.of ha,rfl,_,rfl,_,_,rfl,rfl,_,rfl,_,rfl,S,_,_,_,rfl,rfl,SqL.of hS,qay ea,a,_,_,_,rfl,rfl,SqT.of ha,rfl,_,rfl,_,_,rfl,rfl,.inl ⟨by decide,by decide⟩,_,_,rfl,rfl,_,_,rfl,by show 2≤sizeLine;decide,fun t ht=>?_⟩;refine q t _ ht (qad ht _) ?_;show upd H t _ t=_;rw[qac,qdT];rfl
theorem scBelow:FnScope ["_law_book_here", "_law_looks_here", "_law_some", "_law_room_here", "_law_found", "_law_node", "_law_span", "_law_own"] ["_law_book_here", "_law_looks_here", "_law_some", "_law_room_here"] (qag sBelow):=⟨rfl,rfl,rfl,by decide +kernel,rfl,by decide +kernel,by decide +kernel⟩
theorem ok_below{fn:Addr}{fd:FuncData}(F:Fun K "_law_below" "_law_below" sBelow fn fd)(T:BnX mg):FnOk P w K mg base CX0 1 fn fd ["_law_book_here", "_law_looks_here", "_law_some", "_law_room_here"] spBelow:=by
 refine F.ok scBelow (fun vs H Q E h=>?_) (fun cdv A outer s H vs Q E hr h=>?_)
 ·obtain⟨B,p,k,r,ks,ds,ls,rm,rfl,_⟩:=h;rfl
 ·obtain⟨B,p,k,r,ks,ds,ls,rm,rfl,⟨ab,hB,nd⟩,⟨ak,hk,pk⟩,hK,hR,l100,kin,l13,sd,q⟩:=h;refine⟨_,(qab (qah (i:=4) scBelow.nd (by rfl) (by trivial) (qaB pa_nil))
   (qab (qaR PassesOwn.never (by rfl) (qaE (pv 2)) (qai (i:=5) scBelow.nd (by rfl) (by trivial))
   (qab (qah (i:=6) scBelow.nd (by rfl) (by trivial) (pv 3))
   (qab (qaM (qam op_eq (qaj ix_tup (qaj ix_list (pv 0) (pv 5) (fun _ _=>rfl)) qae (fun _ _=>rfl)) qau (qaq _)) (qab (qah (i:=7) scBelow.nd (by rfl) (by trivial) (qal (qbG (by rfl)) (by rfl) T.min b_min (qaa (qaj ix_list (qaj ix_list (pv 1) (pv 5) (fun _ _=>rfl)) qae (fun _ _=>rfl)) (qaa (qas op_fdiv (qaj ix_tup (pv 3) qae (fun _ _=>rfl)) qae) pa_nil))))
   (qaf (qah (i:=6) scBelow.nd (by rfl) (by trivial) (qaO (qaa (qas op_add (qaj ix_tup (pv 3) qae (fun _ _=>rfl)) (qas op_mul (qaj ix_list (qaj ix_list (pv 1) (pv 5) (fun _ _=>rfl)) qae (fun _ _=>rfl)) (qas op_sub (qaj ix_tup (pv 3) qae (fun _ _=>rfl)) (pv 7)))) (qaa (pv 7) pa_nil)))))) pss_nil)
   (qaf (qaP (qb6 PySem.F.plainAttrs_list PySem.F.slot_list_append PySem.F.type_list_append mt_append (pv 4) (qaa (pv 6) pa_nil)))))))
   (qaf (qat (pv 4))))),?_⟩
  refine⟨by show 0≤sizeLine;decide,fun L hL=>?_⟩;have s1:=qad hL (.lst []);have hLL:upd H L (.lst []) L=some (.lst (([]:List Addr).map V.ref)):=qac;generalize upd H L (.lst [])=H1 at s1 hLL⊢;refine⟨_,rfl,k,rfl,⟨_,SqL.of (s1 _ _ hK)⟩,qbj (xs:=(ks.map fun(j:Nat)=>(j:Int)).map V.int) (fun i σ H'=>Same H H'∧(∃z5 z6 z7,σ=[some (.ref B),some (.ref p),some (.ref k),some (.ref r),some (.ref L),z5,z6,z7])∧LstAt PrAt H' L ((ks.map (qbE ds ls rm)).take i)) ⟨s1,⟨none,none,none,rfl⟩,[],hLL,.nil⟩ ?_ ?_ ?_⟩
  ·rintro i σ H' hi ⟨s2,_⟩;exact SqL.of (s2 _ _ hK)
  ·rintro i y σ H' hy ⟨s2,⟨z5,z6,z7,rfl⟩,as,hL',pr⟩;obtain⟨m,em,rfl⟩:=qb7 hy;obtain⟨m1,m2⟩:=kin m (List.mem_of_getElem? em);have hi:i<ks.length:=(List.getElem?_eq_some_iff.mp em).1;have la:=Paired.length pr;rw[List.length_take,List.length_map]at la;obtain⟨dm,edm⟩:∃dm,ds[m]?=some dm:=⟨_,List.getElem?_eq_getElem m1⟩;obtain⟨cm,ecm,ncm⟩:=nd.get edm;obtain⟨_,_,hcm,_⟩:=ncm.ex;have e2:(ks.map (qbE ds ls rm))[i]?=some (qbE ds ls rm m):=by rw[List.getElem?_map,em];rfl
   have e3:=qer (ls:=ls) (rm:=rm) edm;obtain⟨b,eb,hb⟩:=pget pk (List.getElem?_eq_getElem m2);dsimp only[qa1];refine⟨_,rfl,?_⟩;dsimp only[qa1];refine qaV (fun σ' H''=>∃t z7,Same H H''∧H'' L=some (.lst (as.map V.ref))∧Paired (PrAt H'') as ((ks.map (qbE ds ls rm)).take i)∧PrAt H'' t (qbE ds ls rm m)∧σ'=[some (.ref B),some (.ref p),some (.ref k),some (.ref r),some (.ref L),some (.int (m:Int)),some (.ref t),z7]) (fun N hN=>?_) ?_
   ·refine⟨_,rfl,_,rfl,B,_,_,_,rfl,rfl,SqL.of (s2 _ _ hB),qay ecm,cm,_,_,_,rfl,rfl,SqT.of (s2 _ _ hcm),rfl,rfl,_,rfl,?_⟩;rw[show decide (V.str dm.k.s=V.str (Str.ofString "aside"))=decide (dm.k=.aside)from kdt dm.k .aside]
    by_cases ha:dm.k=.aside
    ·rw[decide_eq_true ha];rw[if_pos ha]at e3;refine iteT ⟨_,rfl,_,rfl,p,_,_,_,rfl,rfl,SqL.of (s2 _ _ hk),qay eb,b,_,_,_,rfl,rfl,SqL.of (s2 _ _ hb),qa6 (j:=11) (lkg m2 l13 (by decide)),_,rfl,r,_,_,_,rfl,rfl,SqT.of (s2 _ _ hR),rfl,_,_,rfl,rfl,⟨by decide,by decide⟩,_,_,rfl,?_⟩;rw[qeK];refine⟨_,rfl,r,_,_,_,rfl,rfl,SqT.of (s2 _ _ hR),rfl,_,rfl,_,rfl,p,_,_,_,rfl,rfl,SqL.of (s2 _ _ hk),qay eb,b,_,_,_,rfl,rfl,SqL.of (s2 _ _ hb),qa6 (j:=10) (lkg m2 l13 (by decide)),_,rfl,r,_,_,_,rfl,rfl,SqT.of (s2 _ _ hR),rfl,_,rfl,_,_,rfl,rfl,_,_,rfl,rfl,.inl (by rcases sd m with e | e<;>rw[e]<;>exact⟨by decide,by decide⟩),_,_,rfl,rfl,_,rfl,by show 2≤sizeLine;decide,fun t ht=>?_⟩;have s3:=qad ht (.tup [.int (rm.1+lkA ls m 10*(rm.2-min (lkA ls m 11) (rm.2 / 2))),.int (min (lkA ls m 11) (rm.2 / 2))]);refine hN _ _ ⟨t,_,s2.trans s3,s3 _ _ hL',pr.mono fun _ _ z=>s3 _ _ z,?_,rfl⟩;rw[e3];exact qac
    ·rw[decide_eq_false ha];rw[if_neg ha]at e3;refine iteF (hN _ _ ⟨r,_,s2,hL',pr,?_,rfl⟩);rw[e3];exact s2 _ _ hR
   ·rintro σ' H'' ⟨t,z7',s3,hL3,pr3,pt,rfl⟩;refine⟨_,rfl,.inl ⟨rfl,_,SqL.of hL3⟩,_,rfl,L,_,_,rfl,rfl,hL3,qak (by rw[List.length_map];omega),?_⟩;have tl:=Tups.lst (o:=.lst (as.map V.ref++[.ref t])) hL3;refine⟨qbq s3 hL,⟨_,_,_,rfl⟩,as++[t],by rw[qac,List.map_append];rfl,?_⟩;rw[List.take_succ,e2];exact(pr3.mono fun _ _ z=>tl _ _ z).snoc (tl _ _ pt)
  ·rintro σ H' ⟨s2,⟨z5,z6,z7,rfl⟩,lL⟩;rw[List.take_of_length_le (by rw[List.length_map,List.length_map,List.length_map];exact Nat.le_refl _)]at lL;exact⟨_,rfl,q L H' hL s2 lL⟩
theorem scBeside:FnScope ["_law_looks_here", "_law_bounds", "_law_some", "_law_room_here", "_law_floors", "_law_roofs", "_law_wides"] ["_law_looks_here", "_law_bounds", "_law_some", "_law_room_here"] (qag sBeside):=⟨rfl,rfl,rfl,by decide +kernel,rfl,by decide +kernel,by decide +kernel⟩
theorem ok_beside{fn:Addr}{fd:FuncData}(F:Fun K "_law_beside" "_law_beside" sBeside fn fd)(T:BnX mg)(F_dots:Fx P w K mg base CX0 1 "_law_dots" ["_law_width", "_law_floors", "_law_roofs", "_law_weights"] spDots):FnOk P w K mg base CX0 2 fn fd ["_law_looks_here", "_law_bounds", "_law_some", "_law_room_here"] spBeside:=by
 refine F.ok scBeside (fun vs H Q E h=>?_) (fun cdv A outer s H vs Q E hr h=>?_)
 ·obtain⟨p,L,k,r,ks,ls,bs,rm,rfl,_⟩:=h;rfl
 ·obtain⟨p,L,k,r,ks,ls,bs,rm,rfl,⟨ak,hk,pk⟩,⟨al,hLb,pl⟩,hK,hR,l100,kin,l13,ok,q⟩:=h;have hr_dots:=hr;refine⟨_,(qab (qcg (i:=4) (by rfl) scBeside.nd (by rfl) (by trivial) (own:=["_law_node"]) (ix:=[1,0]) (frees:=["_law_bounds", "_law_looks_here"]) (CompScope.frees (by rfl) (by decide +kernel) (by decide +kernel) (by decide +kernel) (by rfl) (by decide +kernel) (by first | exact qbc (by rfl) | exact qa9 (by rfl) (by rfl))) (qaE (pv 2)) (fun cl C s2 H2 fp=>(qai (i:=0) (by show(["_law_node", "_law_bounds", "_law_looks_here"]:List Str).Nodup;decide +kernel) (by rfl) (by trivial) (by trivial))) (fun cl C s2 H2 fp=>qaG) (fun cl C s2 H2 fp=>(qal (qbk (by rfl)) (by rfl) T.max b_max (qaa (qaj (r:=rIxT K) ix_tup (qaj (r:=rIxL K) ix_list (pv 1) (pv 0) (fun _ _=>rfl)) qae (fun _ _=>rfl)) (qaa (qaj (r:=rIxL K) ix_list (qaj (r:=rIxL K) ix_list (pv 2) (pv 0) (fun _ _=>rfl)) qae (fun _ _=>rfl)) pa_nil)))))
   (qab (qcg (i:=5) (by rfl) scBeside.nd (by rfl) (by trivial) (own:=["_law_node", "_law_floor"]) (ix:=[0]) (frees:=["_law_looks_here"]) (CompScope.frees (by rfl) (by decide +kernel) (by decide +kernel) (by decide +kernel) (by rfl) (by decide +kernel) (by first | exact qbc (by rfl) | exact qa9 (by rfl) (by rfl))) (pi_zip (by rfl) T.zip (qaa (pv 2) (qaa (pv 4) pa_nil))) (fun cl C s2 H2 fp=>(qcs K (n:=2) (by rfl) (by rfl) (qax (qai (i:=0) (by show(["_law_node", "_law_floor", "_law_looks_here"]:List Str).Nodup;decide +kernel) (by rfl) (by trivial) (by trivial)) (qax (qai (i:=1) (by show(["_law_node", "_law_floor", "_law_looks_here"]:List Str).Nodup;decide +kernel) (by rfl) (by trivial) (by trivial)) pgs_nil)))) (fun cl C s2 H2 fp=>qaG) (fun cl C s2 H2 fp=>(qal (qbk (by rfl)) (by rfl) T.max b_max (qaa (qaj (r:=rIxL K) ix_list (qaj (r:=rIxL K) ix_list (pv 2) (pv 0) (fun _ _=>rfl)) qae (fun _ _=>rfl)) (qaa (pv 1) pa_nil)))))
   (qab (qah (i:=6) scBeside.nd (by rfl) (by trivial) (qan F_dots hr_dots (by rfl) qao (qaa (qaj ix_tup (pv 3) qae (fun _ _=>rfl)) (qaa (pv 4) (qaa (pv 5) (qaa (qaI (own:=["_law_node"]) (by rfl) (ix:=[0]) (frees:=["_law_looks_here"]) (CompScope.frees (by rfl) (by decide +kernel) (by decide +kernel) (by decide +kernel) (by rfl) (by decide +kernel) (by first | exact qbc (by rfl) | exact qa9 (by rfl) (by rfl))) (qaE (pv 2)) (fun cl C s2 H2 fp=>(qai (i:=0) (by show(["_law_node", "_law_looks_here"]:List Str).Nodup;decide +kernel) (by rfl) (by trivial) (by trivial))) (fun cl C s2 H2 fp=>qaG) (fun cl C s2 H2 fp=>(qaj (r:=rIxL K) ix_list (qaj (r:=rIxL K) ix_list (pv 1) (pv 0) (fun _ _=>rfl)) qae (fun _ _=>rfl)))) pa_nil))))))
   (qaf (qat (qaI (own:=["_law_k"]) (by rfl) (ix:=[6,3]) (frees:=["_law_wides", "_law_room_here"]) (CompScope.frees (by rfl) (by decide +kernel) (by decide +kernel) (by decide +kernel) (by rfl) (by decide +kernel) (by first | exact qbc (by rfl) | exact qa9 (by rfl) (by rfl))) (qaH (by rfl) T.range (qaa (qal call_len_seq (by rfl) T.len b_len (qaa (pv 2) pa_nil)) pa_nil)) (fun cl C s2 H2 fp=>(qai (i:=0) (by show(["_law_k", "_law_wides", "_law_room_here"]:List Str).Nodup;decide +kernel) (by rfl) (by trivial) (by trivial))) (fun cl C s2 H2 fp=>qaG) (fun cl C s2 H2 fp=>(qaO (qaa (qas op_add (qaj (r:=rIxT K) ix_tup (pv 2) qae (fun _ _=>rfl)) (qal (r:=qfw K) (qdf K (by rfl) (by rfl)) (by rfl) T.sum b_sum (qaa (qco (r:=rSlL K) (qeq K (by rfl)) (pv 1) po_none (qcx (pv 0))) pa_nil))) (qaa (qaj (r:=rIxL K) ix_list (pv 1) (pv 0) (fun _ _=>rfl)) pa_nil)))))))))),?_⟩
  have kz:((ks.map fun(j:Nat)=>(j:Int)).map V.int).length<sizeLine:=by rw[List.length_map,List.length_map];exact qak (by omega)
  refine⟨_,rfl,k,rfl,⟨_,SqL.of hK⟩,qaF (xs:=(ks.map fun(j:Nat)=>(j:Int)).map V.int) (fun i ys σ' H'=>H'=H∧(∃z,σ'=[z,some (.ref L),some (.ref p)])∧ys=((ks.map (qaS ls bs)).take i).map V.int) kz ⟨rfl,⟨none,rfl⟩,rfl⟩ ?_ ?_ ?_⟩
  ·rintro i ys σ' H' hi ⟨rfl,_,rfl⟩;refine⟨SqL.of hK,?_⟩;rw[List.length_map,List.length_take];exact Nat.min_le_left _ _
  ·rintro i y ys σ' H' hy ⟨rfl,⟨z,rfl⟩,rfl⟩;obtain⟨m,em,rfl⟩:=qb7 hy;obtain⟨m1,m2⟩:=kin m (List.mem_of_getElem? em);obtain⟨b,eb,hb⟩:=pget pk (List.getElem?_eq_getElem m1);obtain⟨a,ea,ha⟩:=pget pl (qbw m2);refine⟨_,rfl,_,rfl,L,_,_,_,rfl,rfl,SqL.of hLb,qay ea,a,_,_,_,rfl,rfl,SqT.of ha,rfl,_,rfl,_,rfl,p,_,_,_,rfl,rfl,SqL.of hk,qay eb,b,_,_,_,rfl,rfl,SqL.of hb,qa6 (j:=5) (lkg m1 l13 (by decide)),_,_,rfl,?_⟩;rw[qdT];refine⟨rfl,⟨_,rfl⟩,?_⟩;have e2:(ks.map (qaS ls bs))[i]?=some (qaS ls bs m):=by rw[List.getElem?_map,em];rfl
   rw[List.take_succ,e2,List.map_append];rfl
  rintro ys σ' H1 ⟨rfl,_,rfl⟩ f hf;rw[List.take_of_length_le (by rw[List.length_map,List.length_map,List.length_map];exact Nat.le_refl _)];have s1:=qad hf (.lst ((ks.map (qaS ls bs)).map V.int));have hff:LI (upd H1 f (.lst ((ks.map (qaS ls bs)).map V.int))) f (ks.map (qaS ls bs)):=qac;generalize upd H1 f (.lst ((ks.map (qaS ls bs)).map V.int))=H2 at s1 hff⊢;refine⟨_,rfl,_,rfl,k,f,rfl,⟨_,SqL.of (s1 _ _ hK)⟩,⟨_,SqL.of hff⟩,comp_zip (xs:=(ks.map fun(j:Nat)=>(j:Int)).map V.int) (ys:=(ks.map (qaS ls bs)).map V.int) (by rw[List.length_map,List.length_map,List.length_map,List.length_map]) (fun i ys σ' H'=>Same H2 H'∧(∃z0 z1,σ'=[z0,z1,some (.ref p)])∧ys=((ks.map (qbC ls bs)).take i).map V.int) kz ⟨Same.refl _,⟨none,none,rfl⟩,rfl⟩ ?_ ?_ ?_⟩
  ·rintro i ys σ' H' hi ⟨s2,_,rfl⟩;refine⟨SqL.of (s2 _ _ (s1 _ _ hK)),SqL.of (s2 _ _ hff),?_⟩;rw[List.length_map,List.length_take];exact Nat.min_le_left _ _
  ·rintro i x y ys σ' H' T' hx hy hT ⟨s2,⟨z0,z1,rfl⟩,rfl⟩;obtain⟨m,em,rfl⟩:=qb7 hx;obtain⟨v,ev,rfl⟩:=qbg hy;have ev':v=qaS ls bs m:=by
    rw[List.getElem?_map,em]at ev;exact(Option.some.inj ev).symm
   subst ev';obtain⟨m1,m2⟩:=kin m (List.mem_of_getElem? em);obtain⟨b,eb,hb⟩:=pget pk (List.getElem?_eq_getElem m1);have s3:=s2.trans (qad hT (.tup [.int (m:Int),.int (qaS ls bs m)]));refine⟨T',_,rfl,SqT.of qac,rfl,_,_,rfl,_,_,rfl,rfl,?_⟩;generalize upd H' T' (.tup [.int (m:Int),.int (qaS ls bs m)])=H3 at s3⊢;have s03:=s1.trans s3;refine⟨_,rfl,_,rfl,p,_,_,_,rfl,rfl,SqL.of (s03 _ _ hk),qay eb,b,_,_,_,rfl,rfl,SqL.of (s03 _ _ hb),qa6 (j:=6) (lkg m1 l13 (by decide)),_,rfl,_,_,rfl,?_⟩;rw[qdT];refine⟨s3,⟨_,_,rfl⟩,?_⟩;have e2:(ks.map (qbC ls bs))[i]?=some (qbC ls bs m):=by rw[List.getElem?_map,em];rfl
   rw[List.take_succ,e2,List.map_append];rfl
  rintro ys σ' H3 ⟨s3,_,rfl⟩ g hg;rw[List.take_of_length_le (by rw[List.length_map,List.length_map,List.length_map];exact Nat.le_refl _)];have s4:=s3.trans (qad hg (.lst ((ks.map (qbC ls bs)).map V.int)));have hgg:LI (upd H3 g (.lst ((ks.map (qbC ls bs)).map V.int))) g (ks.map (qbC ls bs)):=qac;generalize upd H3 g (.lst ((ks.map (qbC ls bs)).map V.int))=H4 at s4 hgg⊢;have s04:=s1.trans s4;refine⟨_,rfl,r,_,_,_,rfl,rfl,SqT.of (s04 _ _ hR),rfl,_,rfl,_,rfl,_,rfl,k,rfl,⟨_,SqL.of (s04 _ _ hK)⟩,qaF (xs:=(ks.map fun(j:Nat)=>(j:Int)).map V.int) (fun i ys σ' H'=>H'=H4∧(∃z,σ'=[z,some (.ref p)])∧ys=((ks.map fun m=>lkA ls m 4).take i).map V.int) kz ⟨rfl,⟨none,rfl⟩,rfl⟩ ?_ ?_ ?_⟩
  ·rintro i ys σ' H' hi ⟨rfl,_,rfl⟩;refine⟨SqL.of (s04 _ _ hK),?_⟩;rw[List.length_map,List.length_take];exact Nat.min_le_left _ _
  ·rintro i y ys σ' H' hy ⟨rfl,⟨z,rfl⟩,rfl⟩;obtain⟨m,em,rfl⟩:=qb7 hy;obtain⟨m1,m2⟩:=kin m (List.mem_of_getElem? em);obtain⟨b,eb,hb⟩:=pget pk (List.getElem?_eq_getElem m1);refine⟨_,rfl,_,rfl,p,_,_,_,rfl,rfl,SqL.of (s04 _ _ hk),qay eb,b,_,_,_,rfl,rfl,SqL.of (s04 _ _ hb),qa6 (j:=4) (lkg m1 l13 (by decide)),rfl,⟨_,rfl⟩,?_⟩;have e2:(ks.map fun m=>lkA ls m 4)[i]?=some (lkA ls m 4):=by rw[List.getElem?_map,em];rfl
   rw[List.take_succ,e2,List.map_append];rfl
  rintro ys σ' H5 ⟨rfl,_,rfl⟩ v hv;rw[List.take_of_length_le (by rw[List.length_map,List.length_map,List.length_map];exact Nat.le_refl _)];have s5:=qad hv (.lst ((ks.map fun m=>lkA ls m 4).map V.int));have hvv:LI (upd H5 v (.lst ((ks.map fun m=>lkA ls m 4).map V.int))) v (ks.map fun m=>lkA ls m 4):=qac;have s05:=s04.trans s5;have hf5:LI (upd H5 v (.lst ((ks.map fun m=>lkA ls m 4).map V.int))) f (ks.map (qaS ls bs)):=s5 _ _ (s4 _ _ hff);have hg5:LI (upd H5 v (.lst ((ks.map fun m=>lkA ls m 4).map V.int))) g (ks.map (qbC ls bs)):=s5 _ _ hgg;generalize upd H5 v (.lst ((ks.map fun m=>lkA ls m 4).map V.int))=H6 at hvv s05 hf5 hg5⊢;refine⟨_,f,g,v,_,_,_,rfl,hf5,hg5,hvv,ok,fun x H7 y hx s7 ly is=>?_⟩;have ey:y=qcC ls bs ks rm.2:=isDue_eq ok is;have lyy:y.length=ks.length:=by rw[ey,qdQ]
  have s07:=s05.trans s7;have el:((((ks.map fun(j:Nat)=>(j:Int)).map V.int).length:Nat):Int).toNat=ks.length:=by rw[List.length_map,List.length_map];omega
  dsimp only[qa1];refine⟨_,rfl,k,_,rfl,.inl (SqL.of (s07 _ _ hK)),_,rfl,by omega,by rw[List.length_map,List.length_map];omega,?_⟩;rw[el];refine qa7 (fun i ys σ' H'=>Same H7 H'∧(∃z,σ'=[z,some (.ref x),some (.ref r)])∧∃as,ys=as.map V.ref∧Paired (PrAt H') as ((qa0 rm.1 y).take i)) (qak (by omega)) ⟨Same.refl _,⟨none,rfl⟩,[],rfl,.nil⟩ ?_ ?_ ?_
  ·rintro i ys σ' H' hi ⟨s8,_,as,rfl,pr⟩;rw[List.length_map,Paired.length pr,List.length_take];exact Nat.min_le_left _ _
  ·rintro i ys σ' H' hi ⟨s8,⟨z,rfl⟩,as,rfl,pr⟩;rw[show(0:Int)+(i:Int)=(i:Int)from Int.zero_add _];have s08:=s07.trans s8;have hi':i<y.length:=by omega
   refine⟨_,rfl,r,_,_,_,rfl,rfl,SqT.of (s08 _ _ hR),rfl,_,rfl,_,rfl,(i:Int),rfl,x,_,rfl,SqL.of (s8 _ _ ly),fun S hS=>?_⟩;rw[qc0];have s9:=qad hS (.lst ((y.take i).map V.int));refine⟨S,_,rfl,SqL.of qac,_,_,rfl,rfl,_,rfl,_,rfl,x,_,_,_,rfl,rfl,SqL.of (s9 _ _ (s8 _ _ ly)),qba hi' 0,by show 2≤sizeLine;decide,fun t ht=>?_⟩;have s10:=s9.trans (qad ht (.tup [.int (rm.1+(y.take i).sum),.int (y.getD i 0)]));refine⟨s8.trans s10,⟨_,rfl⟩,as++[t],by rw[List.map_append];rfl,?_⟩;have ec:(qa0 rm.1 y)[i]?=some (rm.1+(y.take i).sum,y.getD i 0):=by
    unfold qa0;rw[List.getElem?_map,List.getElem?_range hi'];rfl
   rw[List.take_succ,ec];exact(pr.mono fun _ _ z=>s10 _ _ z).snoc qac
  ·rintro ys σ' H' ⟨s8,_,as,rfl,pr⟩ D hD;rw[List.take_of_length_le (by rw[qcw];omega),ey]at pr;exact q D _ ((s07.trans s8).free hD) ((s07.trans s8).trans (qad hD _)) ⟨as,qac,pr.mono fun _ _ z=>qad hD _ _ _ z⟩
end
end K22
namespace K22
open PySem L2 Bk Gen Gd Bd Shr Sp0
open Br (qfx)
abbrev sColumn:Stmt:=top 64
abbrev sLCells:Stmt:=top 65
section
variable{P:Program}{w:World}{K:PySem.W.Frag}{mg:Str→Option Value}{base:Heap}
theorem scColumn:FnScope ["_law_taken", "_law_columns", "_law_span", "_law_deep", "_law_at", "_law_row", "_law_column_here", "_law_own", "_law_k"] ["_law_taken", "_law_columns", "_law_span", "_law_deep"] (qag sColumn):=⟨rfl,rfl,rfl,by decide +kernel,rfl,by decide +kernel,by decide +kernel⟩
theorem ok_column{fn:Addr}{fd:FuncData}(F:Fun K "_law_column" "_law_column" sColumn fn fd)(T:BnX mg):FnOk P w K mg base CX0 1 fn fd ["_law_taken", "_law_columns", "_law_span", "_law_deep"] spColumn2:=by
 refine F.ok scColumn (fun vs H Q E h=>?_) (fun cdv A outer s H vs Q E hr h=>?_)
 ·obtain⟨Tk,cols,sn,d,ps,xs,rfl,_⟩:=h;rfl
 ·obtain⟨Tk,cols,sn,d,ps,xs,rfl,hT,cd,pok,l100,s1,sc,c6,d1,d4,q⟩:=h;have hu:=hr.units;refine⟨_,(qab (qah (i:=4) scColumn.nd (by rfl) (by trivial) qae)
   (qaf (qcM PassesOwn.never (qbX qb1) (qab (qah (i:=5) scColumn.nd (by rfl) (by trivial) (qas op_fdivL (pv 4) (pv 1)))
   (qab (qah (i:=6) scColumn.nd (by rfl) (by trivial) (qas op_mod (pv 4) (pv 1)))
   (qab (qah (i:=7) scColumn.nd (by rfl) (by trivial) (qaB pa_nil))
   (qab (qaR PassesOwn.never (by rfl) (qaH (by rfl) T.range (qaa (pv 3) pa_nil)) (qai (i:=8) scColumn.nd (by rfl) (by trivial))
   (qaf (qah (i:=7) scColumn.nd (by rfl) (by trivial) (qas op_cat (pv 7) (qaI (own:=["_law_j"]) (by rfl) (ix:=[6,1,5,8]) (frees:=["_law_column_here", "_law_columns", "_law_row", "_law_k"]) (CompScope.frees (by rfl) (by decide +kernel) (by decide +kernel) (by decide +kernel) (by rfl) (by decide +kernel) (by first | exact qbc (by rfl) | exact qa9 (by rfl) (by rfl) | exact qfx (by rfl) (by rfl) (by rfl) (by rfl))) (qaH (by rfl) T.range (qaa (pv 2) pa_nil)) (fun cl C s2 H2 fp=>(qai (i:=0) (by show(["_law_j", "_law_column_here", "_law_columns", "_law_row", "_law_k"]:List Str).Nodup;decide +kernel) (by rfl) (by trivial) (by trivial))) (fun cl C s2 H2 fp=>qaG) (fun cl C s2 H2 fp=>(qas op_add (qas op_add (qas op_mul (qas op_add (pv 3) (pv 4)) (pv 2)) (pv 1)) (pv 0))))))))
   (qab (qaM (PW.pt (qbT (qam op_le (qas op_add (pv 6) (pv 2)) (pv 1) (qaq _)) (qbB (qam (qex hu) (qaI (own:=["_law_one"]) (by rfl) (ix:=[0]) (frees:=["_law_taken"]) (CompScope.frees (by rfl) (by decide +kernel) (by decide +kernel) (by decide +kernel) (by rfl) (by decide +kernel) (by first | exact qbc (by rfl) | exact qa9 (by rfl) (by rfl))) (qaE (pv 7)) (fun cl C s2 H2 fp=>(qai (i:=0) (by show(["_law_one", "_law_taken"]:List Str).Nodup;decide +kernel) (by rfl) (by trivial) (by trivial))) (fun cl C s2 H2 fp=>(qcU (qam (op_in_seqK K (by rfl)) (pv 0) (pv 1) (by with_unfolding_all rfl)))) (fun cl C s2 H2 fp=>(pv 0))) (qaB pa_nil) (qaq _))))) (qab (qaP (qb6 PySem.F.plainAttrs_list PySem.F.slot_list_extend PySem.F.type_list_extend mt_extend (pv 0) (qaa (pv 7) pa_nil)))
   (qaf (qat (pv 6)))) pss_nil)
   (qaf (qah (i:=4) scColumn.nd (by rfl) (by trivial) (qas op_add (pv 4) qae))))))))))),?_⟩
  have lx:=cd.len;have ge:=good_end (d:=d) pok (show 0<cols by omega) sc;refine⟨fun m σ H'=>Same H H'∧∃(a:Nat) (z5 z6 z7 z8:Option V),σ=[some (.ref Tk),some (.int cols),some (.int sn),some (.int d),some (.int (a:Int)),z5,z6,z7,z8]∧a≤4*ps.length*cols∧m=4*ps.length*cols-a∧∀a',a'<a→¬qcb ps cols sn d a',⟨_,Same.refl H,0,none,none,none,none,rfl,Nat.zero_le _,rfl,fun a' h=>absurd h (Nat.not_lt_zero _)⟩,?_⟩;rintro m σ H1 ⟨sH,a,z5,z6,z7,z8,rfl,al,rfl,no⟩;refine⟨_,rfl,iteT ⟨fun σ' H'=>Same H H'∧∃(z5 z6 z7 z8:Option V),σ'=[some (.ref Tk),some (.int cols),some (.int sn),some (.int d),some (.int ((a+1:Nat):Int)),z5,z6,z7,z8]∧¬qcb ps cols sn d a,?_,?_⟩⟩
  ·rintro σ' H' ⟨s2,z5,z6,z7,z8,rfl,ng⟩;have lt:a<4*ps.length*cols:=by
    rcases Nat.lt_or_eq_of_le al with h | h
    ·exact h
    ·rw[h]at ng;exact absurd ge ng
   refine⟨4*ps.length*cols-(a+1),by omega,s2,a+1,z5,z6,z7,z8,rfl,by omega,rfl,fun a' h=>?_⟩;rcases Nat.lt_succ_iff_lt_or_eq.mp h with h | h
   ·exact no a' h
   ·rw[h];exact ng
  have a400:a≤2400:=Nat.le_trans al (Nat.le_trans (Nat.mul_le_mul_left _ c6) (by omega));have rl:a / cols≤2400:=Nat.le_trans (Nat.div_le_self _ _) a400;have cl:a % cols<cols:=Nat.mod_lt _ (by omega);refine⟨_,rfl,_,rfl,_,_,rfl,rfl,⟨by omega,by omega⟩,?_⟩;refine⟨_,rfl,_,rfl,_,_,rfl,rfl,(show(0:Int)<(cols:Int) by omega),?_⟩;have e1:(a:Int) / (cols:Int)=((a / cols:Nat):Int):=(Int.natCast_ediv a cols).symm;have e2:(a:Int) % (cols:Int)=((a % cols:Nat):Int):=(Int.natCast_emod a cols).symm;obtain⟨q0,hq0⟩:∃q0:Pl,q0=⟨a / cols,a % cols,sn,d⟩:=⟨_,rfl⟩;have qr:q0.r=a / cols:=by rw[hq0]
  have qc:q0.c=a % cols:=by rw[hq0]
  have qs:q0.s=sn:=by rw[hq0]
  have qd:q0.d=d:=by rw[hq0]
  refine⟨by show 0≤sizeLine;decide,fun L hL=>?_⟩;have sL:=sH.trans (qad hL (.lst []));have hLL:LI (upd H1 L (.lst [])) L (qaC cols q0 0):=qac;generalize upd H1 L (.lst [])=H2 at sL hLL⊢;dsimp only[qa1];show tSeq _ _ _ [some (.ref Tk),some (.int cols),some (.int sn),some (.int d),some (.int (a:Int)),some (.int ((a:Int) / (cols:Int))),some (.int ((a:Int) % (cols:Int))),some (.ref L),z8] H2;rw[e1,e2];refine⟨_,rfl,_,rfl,by omega,by omega,qaN (fun k σ H'=>Same H H'∧∃(L:Addr) (z8:Option V),σ=[some (.ref Tk),some (.int cols),some (.int sn),some (.int d),some (.int (a:Int)),some (.int ((a / cols:Nat):Int)),some (.int ((a % cols:Nat):Int)),some (.ref L),z8]∧LI H' L (qaC cols q0 k)) ⟨sL,L,z8,rfl,hLL⟩ ?_ ?_⟩
  ·rintro k σ H3 hk ⟨s3,L',z8',rfl,hL3⟩;have hk':k<d:=by omega
   rw[show(0:Int)+(k:Int)=(k:Int)from Int.zero_add _];have len3:(qaC cols q0 k).length≤24:=by
    unfold qaC;rw[List.length_map];exact qbs (by omega) (by omega)
   refine⟨_,rfl,_,rfl,_,rfl,by omega,by omega,?_⟩;rw[Int.toNat_natCast];refine qa7 (fun j ys σ' H'=>H'=H3∧(∃z,σ'=[z,some (.int ((a % cols:Nat):Int)),some (.int cols),some (.int ((a / cols:Nat):Int)),some (.int (k:Int))])∧ys=(((List.range sn).map fun j=>code cols (q0.r+k,q0.c+j)).take j).map V.int) (qak (by omega)) ⟨rfl,⟨none,rfl⟩,rfl⟩ ?_ ?_ ?_
   ·rintro j ys σ' H' hj ⟨rfl,_,rfl⟩;rw[List.length_map,List.length_take];exact Nat.min_le_left _ _
   ·rintro j ys σ' H' hj ⟨rfl,⟨z,rfl⟩,rfl⟩;rw[show(0:Int)+(j:Int)=(j:Int)from Int.zero_add _];refine⟨_,rfl,_,rfl,_,_,rfl,rfl,_,rfl,_,_,rfl,rfl,.inr ⟨by omega,by omega⟩,_,rfl,_,_,rfl,rfl,_,rfl,_,_,rfl,rfl,rfl,⟨_,rfl⟩,?_⟩;have ec:((List.range sn).map fun j=>code cols (q0.r+k,q0.c+j))[j]?=some ((((a / cols:Nat):Int)+(k:Int))*(cols:Int)+((a % cols:Nat):Int)+(j:Int)):=by
     rw[List.getElem?_map,List.getElem?_range hj];show some (code cols (q0.r+k,q0.c+j))=_;unfold Sp0.code;rw[qr,qc];show some ((((a / cols+k)*cols+(a % cols+j):Nat):Int))=_;rw[Int.natCast_add,Int.natCast_mul,Int.natCast_add,Int.natCast_add,Int.add_assoc]
    rw[List.take_succ,ec,List.map_append];rfl
   ·rintro ys σ' H' ⟨rfl,_,rfl⟩ D hD;rw[List.take_of_length_le (by rw[List.length_map,List.length_range];exact Nat.le_refl _)];have s4:=qad hD (.lst (((List.range sn).map fun j=>code cols (q0.r+k,q0.c+j)).map V.int));have hL4:LI (upd H' D (.lst (((List.range sn).map fun j=>code cols (q0.r+k,q0.c+j)).map V.int))) L' (qaC cols q0 k):=s4 _ _ hL3;refine⟨L',D,_,_,rfl,rfl,hL4,qac,Nat.le_of_lt (qak (by rw[List.length_map,List.length_map,List.length_map,List.length_range];omega)),fun M hM=>?_⟩;have s5:=s4.trans (qad hM (.lst ((qaC cols q0 k).map V.int++((List.range sn).map fun j=>code cols (q0.r+k,q0.c+j)).map V.int)));refine⟨s3.trans s5,M,_,rfl,?_⟩;show upd _ M _ M=_;rw[qac,codesTo_succ,qs,List.map_append]
  rintro σ H3 ⟨s3,L',z8',rfl,hL3⟩;rw[show((d:Nat):Int).toNat=q0.d by rw[qd];exact Int.toNat_natCast _]at hL3;have len3:(qaC cols q0 q0.d).length≤24:=by
   unfold qaC;rw[List.length_map];exact qbs (by omega) (by omega)
  dsimp only[qa1];refine qaV (fun σ' H'=>Same H H'∧σ'=[some (.ref Tk),some (.int cols),some (.int sn),some (.int d),some (.int (a:Int)),some (.int ((a / cols:Nat):Int)),some (.int ((a % cols:Nat):Int)),some (.ref L'),z8']∧¬qcb ps cols sn d a) (fun N hN=>?_) ?_
  ·refine qbI (fun b H'=>Same H H'∧LI H' L' (qaC cols q0 q0.d)∧(b=true↔qcb ps cols sn d a)) (fun Q' hQ'=>?_) ?_
   ·refine⟨_,rfl,_,rfl,_,_,rfl,rfl,_,rfl,_,_,rfl,rfl,_,rfl,?_⟩;refine ite2 (fun c=>?_) (fun c=>hQ' _ _ ⟨s3,hL3,fun z=>Bool.noConfusion z,fun z=>absurd (decide_eq_true (show((a % cols:Nat):Int)+(sn:Int)≤(cols:Int) by have:=z.1;omega)) c⟩);have c':a % cols+sn≤cols:=by
     have:((a % cols:Nat):Int)+(sn:Int)≤(cols:Int):=of_decide_eq_true c;omega
    have cf:=codes_free cd pok (q:=q0) (by omega) (by omega) (by omega);rw[hq0]at cf;refine⟨_,rfl,L',rfl,⟨_,SqL.of hL3⟩,qaF (xs:=(qaC cols q0 q0.d).map V.int) (fun i ys σ' H'=>H'=H3∧(∃z,σ'=[z,some (.ref Tk)])∧ys=(((qaC cols q0 q0.d).take i).filter fun v=>decide (v∈xs)).map V.int) (by rw[List.length_map];exact qak (by omega)) ⟨rfl,⟨none,rfl⟩,rfl⟩ ?_ ?_ ?_⟩
    ·rintro i ys σ' H' hi ⟨rfl,_,rfl⟩;refine⟨SqL.of hL3,?_⟩;rw[List.length_map];exact Nat.le_trans (List.length_filter_le _ _) (by rw[List.length_take];exact Nat.min_le_left _ _)
    ·rintro i y ys σ' H' hy ⟨rfl,⟨z,rfl⟩,rfl⟩;obtain⟨v,ev,rfl⟩:=qbg hy;refine⟨_,rfl,_,rfl,Tk,_,rfl,.inl (SqL.of (s3 _ _ hT)),rfl,qd3 _,_,rfl,?_⟩;rw[if_neg Bool.false_ne_true,inV_int]
     by_cases hv:v∈xs
     ·rw[decide_eq_true hv];refine iteT ⟨_,rfl,rfl,⟨_,rfl⟩,?_⟩;rw[List.take_succ,ev,List.filter_append];show _=List.map V.int (_++List.filter _ [v]);rw[List.filter_cons,if_pos (decide_eq_true hv),List.filter_nil,List.map_append];rfl
     ·rw[decide_eq_false hv];refine iteF ⟨rfl,⟨_,rfl⟩,?_⟩;rw[List.take_succ,ev,List.filter_append];show _=List.map V.int (_++List.filter _ [v]);rw[List.filter_cons,if_neg (by rw[decide_eq_true_iff];exact hv),List.filter_nil,List.append_nil]
    ·rintro ys σ' H' ⟨rfl,_,rfl⟩ D hD;rw[List.take_of_length_le (by rw[List.length_map];exact Nat.le_refl _)];have s4:=qad hD (.lst (((qaC cols q0 q0.d).filter fun v=>decide (v∈xs)).map V.int));refine⟨by show 0≤sizeLine;decide,fun M hM=>?_⟩;have s5:=qad hM (.lst []);have d5:LI (upd (upd H' D (.lst (((qaC cols q0 q0.d).filter fun v=>decide (v∈xs)).map V.int))) M (.lst [])) D ((qaC cols q0 q0.d).filter fun v=>decide (v∈xs)):=s5 _ _ qac;have m5:LI (upd (upd H' D (.lst (((qaC cols q0 q0.d).filter fun v=>decide (v∈xs)).map V.int))) M (.lst [])) M []:=qac;have s35:=s3.trans (s4.trans s5);have hL5:LI (upd (upd H' D (.lst (((qaC cols q0 q0.d).filter fun v=>decide (v∈xs)).map V.int))) M (.lst [])) L' (qaC cols q0 q0.d):=s5 _ _ (s4 _ _ hL3);rw[←hq0]at cf;refine⟨_,_,qdV d5,qdV m5,qbR _,qbR [],fun e=>⟨_,rfl,hQ' _ _ ⟨s35,hL5,fun _=>⟨c',?_⟩,fun _=>rfl⟩⟩,fun e=>⟨_,rfl,hQ' _ _ ⟨s35,hL5,fun z=>Bool.noConfusion z,fun z=>?_⟩⟩⟩
     ·have:=cf.mp (ints_inj.mp e);rw[hq0]at this;exact this
     ·refine absurd (ints_inj.mpr (cf.mpr ?_)) e;rw[hq0];exact z.2
   ·rintro b H' ⟨s4,hL4,hb⟩;cases b with
    | false=>exact iteF (hN _ _ ⟨s4,rfl,fun z=>Bool.noConfusion (hb.mpr z)⟩)
    | true =>
      have g:=hb.mp rfl
      have fi:=good_first (by omega) s1 g no
      have hT4:LI H' Tk xs:=s4 _ _ hT
      refine iteT ⟨_,rfl,.inl ⟨rfl,_,SqL.of hT4⟩,_,rfl,Tk,L',_,_,rfl,rfl,hT4,hL4,?_,?_⟩
      · rw[List.length_map,List.length_map]
        exact Nat.le_trans (show xs.length+(qaC cols q0 q0.d).length≤3000 by omega) (by show 3000≤sizeLine;decide)
      · refine⟨_,rfl,?_⟩
        rw[←hq0]at fi
        have:=q q0 (upd H' Tk (.lst (xs.map V.int++(qaC cols q0 q0.d).map V.int))) fi (by show upd H' Tk _ Tk=_;rw[qac,List.map_append]) fun b o n e=>by rw[qap n];exact s4 _ _ e
        rw[qc]at this
        exact this
  ·rintro σ' H' ⟨s4,rfl,ng⟩;refine⟨_,rfl,_,_,rfl,rfl,s4,some (.int ((a / cols:Nat):Int)),some (.int ((a % cols:Nat):Int)),some (.ref L'),z8',?_,ng⟩;rw[show((a+1:Nat):Int)=(a:Int)+1 by omega];rfl
theorem scLCells:FnScope ["_law_looks_here", "_law_node", "_law_some", "_law_room_here", "_law_columns", "_law_begins", "_law_k", "_law_more", "_law_taken", "_law_found", "_law_other", "_law_span", "_law_column_here", "_law_left"] ["_law_looks_here", "_law_node", "_law_some", "_law_room_here"] (qag sLCells):=⟨rfl,rfl,rfl,by decide +kernel,rfl,by decide +kernel,by decide +kernel⟩
theorem ok_cells{fn:Addr}{fd:FuncData}(F:Fun K "_law_cells" "_law_cells" sLCells fn fd)(T:BnX mg)(F_column:Fx P w K mg base CX0 1 "_law_column" ["_law_taken", "_law_columns", "_law_span", "_law_deep"] spColumn2):FnOk P w K mg base CX0 2 fn fd ["_law_looks_here", "_law_node", "_law_some", "_law_room_here"] spLCells:=by
 refine F.ok scLCells (fun vs H Q E h=>?_) (fun cdv A outer s H vs Q E hr h=>?_)
 ·obtain⟨p,k,r,n,ks,ls,rm,rfl,_⟩:=h;rfl
 ·obtain⟨p,k,r,n,ks,ls,rm,rfl,⟨ak,hk,pk⟩,hK,hR,hn,l100,kin,lok,q⟩:=h;have hr_column:=hr;have l13:∀l∈ls,l.length=13:=fun l h=>(lok l h).len
  have lv:∀{m:Nat} (hm:m<ls.length) (i:Nat),lkA ls m i=(ls[m]'hm).getD i 0:=fun hm i=>by unfold lkA;rw[List.getElem?_eq_getElem hm];rfl
  have cb:=(lok _ (List.getElem_mem hn)).cols;rw[←lv hn]at cb;refine⟨_,(qab (qah (i:=4) scLCells.nd (by rfl) (by trivial) (qaj ix_list (qaj ix_list (pv 0) (pv 1) (fun _ _=>rfl)) qae (fun _ _=>rfl)))
   (qab (qah (i:=5) scLCells.nd (by rfl) (by trivial) (qaB (qaa (qaj ix_tup (pv 3) qae (fun _ _=>rfl)) pa_nil)))
   (qab (qaR PassesOwn.never (by rfl) (qaH (by rfl) T.range (qaa (pv 4) pa_nil)) (qai (i:=6) scLCells.nd (by rfl) (by trivial))
   (qab (qah (i:=7) scLCells.nd (by rfl) (by trivial) (qaJ call_int1 (by rfl) T.int b_int (qaa (qbf op_lt (pv 6) (qas op_mod (qaj ix_tup (pv 3) qae (fun _ _=>rfl)) (pv 4)) (qaq _)) pa_nil)))
   (qaf (qaP (qb6 PySem.F.plainAttrs_list PySem.F.slot_list_append PySem.F.type_list_append mt_append (pv 5) (qaa (qas op_add (qas op_add (qaj ix_list (pv 5) (pv 6) (fun _ _=>rfl)) (qas op_fdivL (qaj ix_tup (pv 3) qae (fun _ _=>rfl)) (pv 4))) (pv 7)) pa_nil))))))
   (qab (qah (i:=8) scLCells.nd (by rfl) (by trivial) (qaB pa_nil))
   (qab (qah (i:=9) scLCells.nd (by rfl) (by trivial) (qaB pa_nil))
   (qab (qaR PassesOwn.never (by rfl) (qaE (pv 2)) (qai (i:=10) scLCells.nd (by rfl) (by trivial))
   (qab (qah (i:=11) scLCells.nd (by rfl) (by trivial) (qal (qbG (by rfl)) (by rfl) T.min b_min (qaa (pv 4) (qaa (qaj ix_list (qaj ix_list (pv 0) (pv 10) (fun _ _=>rfl)) qae (fun _ _=>rfl)) pa_nil))))
   (qab (qah (i:=12) scLCells.nd (by rfl) (by trivial) (qan F_column hr_column (by rfl) qao (qaa (pv 8) (qaa (pv 4) (qaa (pv 11) (qaa (qaj ix_list (qaj ix_list (pv 0) (pv 10) (fun _ _=>rfl)) qae (fun _ _=>rfl)) pa_nil))))))
   (qab (qah (i:=13) scLCells.nd (by rfl) (by trivial) (qaj ix_list (pv 5) (pv 12) (fun _ _=>rfl)))
   (qaf (qaP (qb6 PySem.F.plainAttrs_list PySem.F.slot_list_append PySem.F.type_list_append mt_append (pv 9) (qaa (qaO (qaa (pv 13) (qaa (qas op_sub (qaj ix_list (pv 5) (qas op_add (pv 12) (pv 11)) (fun _ _=>rfl)) (pv 13)) pa_nil))) pa_nil))))))))
   (qaf (qat (pv 9))))))))),?_⟩
  obtain⟨b,eb,hb⟩:=pget pk (List.getElem?_eq_getElem hn);refine⟨_,rfl,_,rfl,p,_,_,_,rfl,rfl,SqL.of hk,qay eb,b,_,_,_,rfl,rfl,SqL.of hb,qa6 (j:=7) (lkg hn l13 (by decide)),?_⟩;obtain⟨cn,hcn⟩:∃cn:Nat,lkA ls n 7=(cn:Int):=⟨(lkA ls n 7).toNat,by omega⟩;rw[hcn]at q cb⊢;rw[Int.toNat_natCast]at q;have c0:(0:Int)<(cn:Int):=by omega
  refine⟨_,rfl,r,_,_,_,rfl,rfl,SqT.of hR,rfl,by show 1≤sizeLine;decide,fun Bg hBg=>?_⟩;have s1:=qad hBg (.lst [.int rm.1]);have hB1:LI (upd H Bg (.lst [.int rm.1])) Bg ((List.range (0+1)).map (begS rm (cn:Int))):=by
   show upd H Bg _ Bg=_;rw[qac];show some (HO.lst [V.int rm.1])=some (HO.lst [V.int (begS rm (cn:Int) 0)]);rw[beg_zero c0]
  generalize upd H Bg (.lst [.int rm.1])=H1 at s1 hB1⊢;refine⟨_,rfl,_,rfl,by omega,by omega,qaN (fun i σ H'=>Same H H'∧(∃z6 z7,σ=[some (.ref p),some (.int (n:Int)),some (.ref k),some (.ref r),some (.int (cn:Int)),some (.ref Bg),z6,z7,none,none,none,none,none,none])∧LI H' Bg ((List.range (i+1)).map (begS rm (cn:Int)))) ⟨s1,⟨none,none,rfl⟩,hB1⟩ ?_ ?_⟩
  ·rintro i σ H2 hi ⟨s2,⟨z6,z7,rfl⟩,hB2⟩;have hi':i<cn:=by omega
   rw[show(0:Int)+(i:Int)=(i:Int)from Int.zero_add _];refine⟨_,rfl,_,rfl,r,_,_,_,rfl,rfl,SqT.of (s2 _ _ hR),rfl,_,rfl,_,_,rfl,rfl,c0,_,_,rfl,rfl,.inr ⟨_,rfl,?_⟩⟩;refine⟨_,rfl,.inl ⟨rfl,_,SqL.of hB2⟩,_,rfl,_,rfl,Bg,_,_,_,rfl,rfl,SqL.of hB2,qd9 (by omega),_,rfl,r,_,_,_,rfl,rfl,SqT.of (s2 _ _ hR),rfl,_,rfl,_,_,rfl,rfl,⟨c0,by omega⟩,_,_,rfl,rfl,_,rfl,_,_,rfl,rfl,Bg,_,_,rfl,rfl,hB2,qak (by rw[List.length_map,List.length_map,List.length_range];omega),?_⟩;refine⟨qbq s2 hBg,⟨_,_,rfl⟩,?_⟩;show upd H2 Bg _ Bg=_;rw[qac,List.range_succ (n:=i+1),List.map_append,List.map_append];have e:begS rm (cn:Int) i+rm.2 / (cn:Int)+(if decide ((i:Int)<rm.2 % (cn:Int))=true then 1 else 0)=begS rm (cn:Int) (i+1):=by
    rw[beg_succ]
    by_cases c:(i:Int)<rm.2 % (cn:Int)
    ·rw[if_pos c,if_pos (decide_eq_true c)]
    ·rw[if_neg c,if_neg (by rw[decide_eq_true_iff];exact c)]
   show some (HO.lst (_++[V.int (begS rm (cn:Int) i+rm.2 / (cn:Int)+(if decide ((i:Int)<rm.2 % (cn:Int))=true then 1 else 0))]))=_;rw[e];rfl
  rintro σ H2 ⟨s2,⟨z6,z7,rfl⟩,hB2⟩;rw[show((cn:Nat):Int).toNat=cn from Int.toNat_natCast _]at hB2;refine⟨by show 0≤sizeLine;decide,fun Tk hTk=>?_⟩;have s3:=s2.trans (qad hTk (.lst []));have hT3:LI (upd H2 Tk (.lst [])) Tk []:=qac;have T0:H Tk=none:=s2.free hTk;have hB3:LI (upd H2 Tk (.lst [])) Bg ((List.range (cn+1)).map (begS rm (cn:Int))):=qad hTk _ _ _ hB2;have BT:Bg≠Tk:=fun z=>by
   rw[z]at hB2;rw[show H2 Tk=_ from hB2]at hTk;cases hTk
  generalize upd H2 Tk (.lst [])=H3 at s3 hT3 hB3⊢;refine⟨by show 0≤sizeLine;decide,fun Fo hFo=>?_⟩;have s4:=s3.trans (qad hFo (.lst []));have hF4:upd H3 Fo (.lst []) Fo=some (.lst (([]:List Addr).map V.ref)):=qac;have F0:H Fo=none:=s3.free hFo;have hT4:LI (upd H3 Fo (.lst [])) Tk []:=qad hFo _ _ _ hT3;have hB4:LI (upd H3 Fo (.lst [])) Bg ((List.range (cn+1)).map (begS rm (cn:Int))):=qad hFo _ _ _ hB3;have FT:Fo≠Tk:=fun z=>by
   rw[←z]at hT3;rw[show H3 Fo=_ from hT3]at hFo;cases hFo
  have FB:Bg≠Fo:=fun z=>by
   rw[z]at hB3;rw[show H3 Fo=_ from hB3]at hFo;cases hFo
  generalize upd H3 Fo (.lst [])=H4 at s4 hF4 hT4 hB4⊢;dsimp only[qa1];refine⟨_,rfl,k,rfl,⟨_,SqL.of (s4 _ _ hK)⟩,qbj (xs:=(ks.map fun(j:Nat)=>(j:Int)).map V.int) (fun i σ H'=>Same H H'∧(∃z10 z11 z12 z13,σ=[some (.ref p),some (.int (n:Int)),some (.ref k),some (.ref r),some (.int (cn:Int)),some (.ref Bg),z6,z7,some (.ref Tk),some (.ref Fo),z10,z11,z12,z13])∧LI H' Bg ((List.range (cn+1)).map (begS rm (cn:Int)))∧∃ps xs,Placed cn ((qbH ls ks).take i) ps∧PsOk cn ps∧Codes cn ps xs∧LI H' Tk xs∧LstAt PrAt H' Fo (ps.map (qcY rm (cn:Int)))) ⟨s4,⟨none,none,none,none,rfl⟩,hB4,[],[],.nil,(fun p hp=>nomatch hp),Codes.nil cn,hT4,[],hF4,.nil⟩ ?_ ?_ ?_⟩
  ·rintro i σ H' hi ⟨s5,_⟩;exact SqL.of (s5 _ _ hK)
  ·rintro i y σ H5 hy ⟨s5,⟨z10,z11,z12,z13,rfl⟩,hB5,ps,xs,pd,pok,cd,hT5,as,hF5,pr⟩;obtain⟨m,em,rfl⟩:=qb7 hy;have hm:=kin m (List.mem_of_getElem? em);have hi:i<ks.length:=(List.getElem?_eq_some_iff.mp em).1;obtain⟨b',eb',hb'⟩:=pget pk (List.getElem?_eq_getElem hm);have lo:=lok _ (List.getElem_mem hm);have x1:=lo.span;have x2:=lo.deep;rw[←lv hm]at x1 x2;have lps:ps.length=i:=by rw[pd.len,List.length_take,qbS];omega
   have la:as.length=ps.length:=by have:=Paired.length pr;rw[List.length_map]at this;exact this
   have ec:(qbH ls ks)[i]?=some ((lkA ls m 8).toNat,(lkA ls m 9).toNat):=by unfold qbH;rw[List.getElem?_map,em];rfl
   obtain⟨sn,hsn⟩:∃sn:Nat,min (cn:Int) (lkA ls m 8)=(sn:Int):=⟨(min (cn:Int) (lkA ls m 8)).toNat,by omega⟩;obtain⟨dn,hdn⟩:∃dn:Nat,lkA ls m 9=(dn:Int):=⟨(lkA ls m 9).toNat,by omega⟩;have esn:min (lkA ls m 8).toNat cn=sn:=by omega
   have edn:(lkA ls m 9).toNat=dn:=by omega
   refine⟨_,rfl,_,rfl,_,rfl,p,_,_,_,rfl,rfl,SqL.of (s5 _ _ hk),qay eb',b',_,_,_,rfl,rfl,SqL.of (s5 _ _ hb'),qa6 (j:=8) (lkg hm l13 (by decide)),_,_,rfl,?_⟩;rw[qeK,hsn];refine⟨_,rfl,_,rfl,_,rfl,_,rfl,_,rfl,p,_,_,_,rfl,rfl,SqL.of (s5 _ _ hk),qay eb',b',_,_,_,rfl,rfl,SqL.of (s5 _ _ hb'),qa6 (j:=9) (lkg hm l13 (by decide)),?_⟩;refine⟨Tk,cn,sn,dn,ps,xs,by rw[←hdn];rfl,hT5,cd,pok,by omega,by omega,by omega,by omega,by omega,by omega,fun pl H6 fi hT6 k6=>?_⟩;have hB6:LI H6 Bg ((List.range (cn+1)).map (begS rm (cn:Int))):=k6 _ _ BT hB5;have hF6:=k6 _ _ FT hF5;have nT:∀{b:Addr} {xs:List V},H5 b=some (.tup xs)→b≠Tk:=fun e z=>by
    rw[z]at e;rw[show H5 Tk=_ from hT5]at e;cases e
   have pr6:Paired (PrAt H6) as (ps.map (qcY rm (cn:Int))):=pr.mono fun _ _ z=>k6 _ _ (nT z) z
   have s6:Same H H6:=fun b o e=>k6 _ _ (fun z=>by rw[z,T0]at e;cases e) (s5 _ _ e)
   have f1:=fi.ec;have f2:=fi.es;have f3:=fi.ed;refine⟨_,rfl,_,rfl,Bg,_,_,_,rfl,rfl,SqL.of hB6,qd9 (by omega),?_⟩;have eat:atI (((List.range (cn+1)).map (begS rm (cn:Int))).map V.int) ((pl.c:Int)+(sn:Int))=some (.int (begS rm (cn:Int) (pl.c+pl.s))):=by
    have:=qd9 (rm:=rm) (cols:=(cn:Int)) (n:=cn+1) (k:=pl.c+pl.s) (by omega);rw[show((pl.c+pl.s:Nat):Int)=(pl.c:Int)+(sn:Int) by omega]at this;exact this
   refine⟨_,rfl,.inl ⟨rfl,_,SqL.of hF6⟩,_,rfl,_,rfl,_,rfl,_,rfl,_,_,rfl,rfl,Bg,_,_,_,rfl,rfl,SqL.of hB6,eat,_,rfl,_,_,rfl,rfl,by show 2≤sizeLine;decide,fun t ht=>?_⟩;have s7:=qad ht (.tup [.int (begS rm (cn:Int) pl.c),.int (begS rm (cn:Int) (pl.c+pl.s)-begS rm (cn:Int) pl.c)]);have htt:upd H6 t (.tup [.int (begS rm (cn:Int) pl.c),.int (begS rm (cn:Int) (pl.c+pl.s)-begS rm (cn:Int) pl.c)]) t=some (.tup [.int (begS rm (cn:Int) pl.c),.int (begS rm (cn:Int) (pl.c+pl.s)-begS rm (cn:Int) pl.c)]):=qac;have hF7:=s7 _ _ hF6;have hB7:LI (upd H6 t (.tup [.int (begS rm (cn:Int) pl.c),.int (begS rm (cn:Int) (pl.c+pl.s)-begS rm (cn:Int) pl.c)])) Bg ((List.range (cn+1)).map (begS rm (cn:Int))):=s7 _ _ hB6;have hT7:LI (upd H6 t (.tup [.int (begS rm (cn:Int) pl.c),.int (begS rm (cn:Int) (pl.c+pl.s)-begS rm (cn:Int) pl.c)])) Tk (xs++qaC cn pl pl.d):=s7 _ _ hT6;have pr7:Paired (PrAt (upd H6 t (.tup [.int (begS rm (cn:Int) pl.c),.int (begS rm (cn:Int) (pl.c+pl.s)-begS rm (cn:Int) pl.c)]))) as (ps.map (qcY rm (cn:Int))):=pr6.mono fun _ _ z=>s7 _ _ z
   have s07:=s6.trans s7;generalize upd H6 t (.tup [.int (begS rm (cn:Int) pl.c),.int (begS rm (cn:Int) (pl.c+pl.s)-begS rm (cn:Int) pl.c)])=H7 at htt hF7 hB7 hT7 pr7 s07⊢;refine⟨Fo,_,_,rfl,rfl,hF7,qak (by rw[List.length_map];omega),?_⟩;have tl:=Tups.lst (o:=.lst (as.map V.ref++[.ref t])) hF7;refine⟨qbq s07 F0,⟨_,_,_,_,rfl⟩,qfN hB7 FB,ps++[pl],xs++qaC cn pl pl.d,?_,pok.snoc fi (by omega) (by omega) (by omega) (by omega) (by omega),cd.snoc (by omega) (by omega) (by omega),qfN hT7 (Ne.symm FT),as++[t],by rw[qac,List.map_append];rfl,?_⟩
   ·rw[List.take_succ,ec];refine pd.snoc ?_;show First ps cn (min (lkA ls m 8).toNat cn) (lkA ls m 9).toNat pl;rw[esn,edn];exact fi
   ·rw[List.map_append];exact(pr7.mono fun _ _ z=>tl _ _ z).snoc (tl _ _ htt)
  ·rintro σ H5 ⟨s5,⟨z10,z11,z12,z13,rfl⟩,hB5,ps,xs,pd,pok,cd,hT5,lF⟩;rw[List.take_of_length_le (by rw[qbS,List.length_map,List.length_map];exact Nat.le_refl _)]at pd;rw[pd.eq]at lF;exact⟨_,rfl,q Fo H5 F0 s5 lF⟩
end
end K22
namespace K22
open PySem L2 Bk Gen Gd Bd Shr Sp0
abbrev sRight:Stmt:=top 66
section
variable{P:Program}{w:World}{K:PySem.W.Frag}{mg:Str→Option Value}{base:Heap}
theorem scRight:FnScope ["_law_book_here", "_law_looks_here", "_law_bounds", "_law_wide", "_law_told", "_law_node", "_law_some", "_law_room_here", "_law_due"] ["_law_book_here", "_law_looks_here", "_law_bounds", "_law_wide", "_law_told"] (qag sRight):=⟨rfl,rfl,rfl,by decide +kernel,rfl,by decide +kernel,by decide +kernel⟩
theorem ok_right{fn:Addr}{fd:FuncData}(F:Fun K "_law_right" "_law_right" sRight fn fd)(T:BnX mg)(F_held:Fx P w K mg base CX0 1 "_law_held" ["_law_book_here", "_law_node"] spHeld)(F_room:Fx P w K mg base CX0 1 "_law_room" ["_law_looks_here", "_law_told", "_law_node"] spRoom)(F_below:Fx P w K mg base CX0 1 "_law_below" ["_law_book_here", "_law_looks_here", "_law_some", "_law_room_here"] spBelow)(F_beside:Fx P w K mg base CX0 2 "_law_beside" ["_law_looks_here", "_law_bounds", "_law_some", "_law_room_here"] spBeside)(F_cells:Fx P w K mg base CX0 2 "_law_cells" ["_law_looks_here", "_law_node", "_law_some", "_law_room_here"] spLCells):FnOk P w K mg base CX0 3 fn fd ["_law_book_here", "_law_looks_here", "_law_bounds", "_law_wide", "_law_told"] spRightB:=by
 refine F.ok scRight (fun vs H Q E h=>?_) (fun cdv A outer s H vs Q E hr h=>?_)
 ·obtain⟨B,p,L,R,wide,ds,ls,bs,sp,rfl,_⟩:=h;rfl
 ·obtain⟨B,p,L,R,wide,ds,ls,bs,sp,rfl,I,lR,lsp,cx,nk,q⟩:=h;have hr_held:Room 1 _:=hr.mono (by decide);have hr_room:Room 1 _:=hr.mono (by decide);have hr_below:Room 1 _:=hr.mono (by decide);have hr_beside:=hr;have hr_cells:=hr;have hu:=hr.units;have le:=cx.le;have l13:=cx.l13;refine⟨_,(qab (qaM (qam (qdj hu) (qaj ix_list (pv 4) qae (fun _ _=>rfl)) (qaO (qaa qae (qaa (pv 3) pa_nil))) (qaq _)) (qaf (qat qb1)) pss_nil)
   (qab (qaR PassesOwn.never (by rfl) (qaH (by rfl) T.range (qaa (qal call_len_seq (by rfl) T.len b_len (qaa (pv 0) pa_nil)) pa_nil)) (qai (i:=5) scRight.nd (by rfl) (by trivial))
   (qab (qah (i:=6) scRight.nd (by rfl) (by trivial) (qan F_held hr_held (by rfl) qao (qaa (pv 0) (qaa (pv 5) pa_nil))))
   (qab (qah (i:=7) scRight.nd (by rfl) (by trivial) (qan F_room hr_room (by rfl) qao (qaa (pv 1) (qaa (pv 4) (qaa (pv 5) pa_nil)))))
   (qab (qah (i:=8) scRight.nd (by rfl) (by trivial) (qan F_below hr_below (by rfl) qao (qaa (pv 0) (qaa (pv 1) (qaa (pv 6) (qaa (pv 7) pa_nil))))))
   (qab (qaM (qam op_eq (qaj ix_tup (qaj ix_list (pv 0) (pv 5) (fun _ _=>rfl)) qae (fun _ _=>rfl)) qau (qaq _)) (qaf (qah (i:=8) scRight.nd (by rfl) (by trivial) (qan F_beside hr_beside (by rfl) qao (qaa (pv 1) (qaa (pv 2) (qaa (pv 6) (qaa (pv 7) pa_nil))))))) pss_nil)
   (qab (qaM (qam op_eq (qaj ix_tup (qaj ix_list (pv 0) (pv 5) (fun _ _=>rfl)) qae (fun _ _=>rfl)) qau (qaq _)) (qaf (qah (i:=8) scRight.nd (by rfl) (by trivial) (qan F_cells hr_cells (by rfl) qao (qaa (pv 1) (qaa (pv 5) (qaa (pv 6) (qaa (pv 7) pa_nil))))))) pss_nil)
   (qab (qaM (PW.pt (qdW (qam op_eq (qaj ix_tup (qaj ix_list (pv 0) (pv 5) (fun _ _=>rfl)) qae (fun _ _=>rfl)) qau (qaq _)) (qcZ (qam op_eq (qaj ix_tup (qaj ix_list (pv 0) (pv 5) (fun _ _=>rfl)) qae (fun _ _=>rfl)) qau (qaq _))))) (qaf (qcg (i:=8) (by rfl) scRight.nd (by rfl) (by trivial) (own:=["_law_note"]) (ix:=[1,4]) (frees:=["_law_looks_here", "_law_told"]) (CompScope.frees (by rfl) (by decide +kernel) (by decide +kernel) (by decide +kernel) (by rfl) (by decide +kernel) (by first | exact qbc (by rfl) | exact qa9 (by rfl) (by rfl))) (qaE (pv 6)) (fun cl C s2 H2 fp=>(qai (i:=0) (by show(["_law_note", "_law_looks_here", "_law_told"]:List Str).Nodup;decide +kernel) (by rfl) (by trivial) (by trivial))) (fun cl C s2 H2 fp=>qaG) (fun cl C s2 H2 fp=>(qan F_room hr_room (by rfl) qao (qaa (pv 1) (qaa (pv 2) (qaa qae pa_nil))))))) pss_nil)
   (qaf (qaM (qam (qdj hu) (qaI (own:=["_law_other"]) (by rfl) (ix:=[4]) (frees:=["_law_told"]) (CompScope.frees (by rfl) (by decide +kernel) (by decide +kernel) (by decide +kernel) (by rfl) (by decide +kernel) (by first | exact qbc (by rfl) | exact qa9 (by rfl) (by rfl))) (qaE (pv 6)) (fun cl C s2 H2 fp=>(qai (i:=0) (by show(["_law_other", "_law_told"]:List Str).Nodup;decide +kernel) (by rfl) (by trivial) (by trivial))) (fun cl C s2 H2 fp=>qaG) (fun cl C s2 H2 fp=>(qaj (r:=rIxL K) ix_list (pv 1) (pv 0) (fun _ _=>rfl)))) (pv 8) (qaq _)) (qaf (qat qb1)) pss_nil)))))))))
   (qaf (qat qb1)))),?_⟩
  obtain⟨aR,hR,pR⟩:=lR;obtain⟨a0,e0,h0⟩:=pget pR (qbw (m:=0) (by rw[lsp];exact cx.pos));refine⟨_,rfl,R,_,_,_,rfl,rfl,SqL.of hR,qay (i:=0) e0,_,rfl,by show 2≤sizeLine;decide,fun t0 ht0=>?_⟩;have s1:=qad ht0 (.tup [.int 0,.int wide]);have pt0:PrAt (upd H t0 (.tup [.int 0,.int wide])) t0 (0,wide):=qac;generalize upd H t0 (.tup [.int 0,.int wide])=H1 at s1 pt0⊢;refine⟨_,_,qfb (h0.same s1),qfb pt0,qfv _,qfv _,fun e=>⟨_,rfl,iteF ?_⟩,fun e=>⟨_,rfl,iteT (q false H1 s1 ⟨fun z=>Bool.noConfusion z,fun z=>absurd (congrArg prD z.1) e⟩)⟩⟩;have sp0:bsA sp 0=(0,wide):=qe2 e;obtain⟨ab0,hB0,nd0⟩:=I.bk;have lab:(((ab0.map V.ref).length:Nat):Int)=ds.length:=by rw[List.length_map,nd0.length]
  refine⟨_,rfl,B,_,rfl,.inl (SqL.of (s1 _ _ hB0)),_,rfl,by omega,by omega,qaN (fun i σ H'=>Same H H'∧(∀j,j<i→(qav ds j).map (bsA sp)=qaU ds ls bs sp j)∧∃z5 z6 z7 z8,σ=[some (.ref B),some (.ref p),some (.ref L),some (.int wide),some (.ref R),z5,z6,z7,z8]) ⟨s1,fun j hj=>absurd hj (Nat.not_lt_zero _),none,none,none,none,rfl⟩ ?_ ?_⟩
  ·rintro n σ H2 hn0 ⟨s2,hls,z5,z6,z7,z8,rfl⟩;have hn:n<ds.length:=by omega
   rw[show(0:Int)+(n:Int)=(n:Int)from Int.zero_add _];clear hn0;have nl:n<ls.length:=by rw[cx.ll];exact hn
   have kl:=qcO ds n;have kin:∀m∈qav ds n,m<ls.length:=fun m hm=>by rw[cx.ll];exact qbv hm
   have kin2:∀m∈qav ds n,m<ls.length∧m<bs.length:=fun m hm=>⟨kin m hm,by rw[cx.bl];exact qbv hm⟩
   have kin3:∀m∈qav ds n,m<ds.length∧m<ls.length:=fun m hm=>⟨qbv hm,kin m hm⟩
   obtain⟨d,ed⟩:∃d,ds[n]?=some d:=⟨_,List.getElem?_eq_getElem hn⟩;have I2:=I.same s2;refine⟨_,rfl,_,rfl,B,n,ds,rfl,I2.bk,le,fun K0 H3 hK s3 hK3=>?_⟩;have s03:=s2.trans s3;refine⟨_,rfl,_,rfl,_,rfl,p,R,n,ls,sp,rfl,qaA s03 I.lk,⟨aR,s03 _ _ hR,pR.mono fun _ _ z=>s03 _ _ z⟩,nl,by rw[lsp];exact hn,l13,fun r H4 hr0 s4 pr4=>?_⟩;have s04:=s03.trans s4;have I4:=I.same s04;have hK4:KL H4 K0 (qav ds n):=s4 _ _ hK3;refine⟨_,rfl,_,rfl,_,rfl,_,rfl,B,p,K0,r,_,ds,ls,_,rfl,I4.bk,I4.lk,hK4,pr4,by omega,kin3,l13,side_or cx.lk,fun t5 H5 ht5 s5 lt5=>?_⟩;have s05:=s04.trans s5;have hK5:KL H5 K0 (qav ds n):=s5 _ _ hK4;have pr5:PrAt H5 r (qbe ls sp n):=s5 _ _ pr4;dsimp only[qa1];clear hK4 pr4 hK3;have kind:∀{H':Hp},Same H H'→∃(ab:List Addr) (c:Addr) (m' s':V),H' B=some (.lst (ab.map V.ref))∧ab[n]?=some c∧H' c=some (.tup [.int d.e,.str d.k.s,.str d.nm,m',s']):=fun s'=>by
    obtain⟨ab,hB,nd⟩:=(I.same s').bk;obtain⟨c,ec,nc⟩:=nd.get ed;obtain⟨m',s',hc,_⟩:=nc.ex;exact⟨ab,c,_,_,hB,ec,hc⟩
   show tSeq _ _ _ [some (.ref B),some (.ref p),some (.ref L),some (.int wide),some (.ref R),some (.int (n:Int)),some (.ref K0),some (.ref r),some (.ref t5)] H5;refine qaV (fun σ' H'=>Same H H'∧KL H' K0 (qav ds n)∧PrAt H' r (qbe ls sp n)∧∃t zs,LstAt PrAt H' t zs∧(d.k=.shelf→zs=qaU ds ls bs sp n)∧(d.k≠.shelf→zs=(qav ds n).map (qbE ds ls (qbe ls sp n)))∧σ'=[some (.ref B),some (.ref p),some (.ref L),some (.int wide),some (.ref R),some (.int (n:Int)),some (.ref K0),some (.ref r),some (.ref t)]) (fun N hN=>?_) ?_
   ·obtain⟨ab,c,m',s',hB,ec,hc⟩:=kind s05;refine⟨_,rfl,_,rfl,B,_,_,_,rfl,rfl,SqL.of hB,qay ec,c,_,_,_,rfl,rfl,SqT.of hc,rfl,rfl,_,rfl,?_⟩;rw[show decide (V.str d.k.s=V.str (Str.ofString "shelf"))=decide (d.k=.shelf)from kdt d.k .shelf]
    by_cases hk:d.k=.shelf
    ·rw[decide_eq_true hk];refine iteT ⟨_,rfl,_,rfl,_,rfl,_,rfl,p,L,K0,r,_,ls,bs,_,rfl,qaA s05 I.lk,qaK s05 I.bd,hK5,pr5,by omega,kin2,l13,cx.ok n,fun t6 H6 ht6 s6 lt6=>?_⟩;refine hN _ _ ⟨s05.trans s6,s6 _ _ hK5,s6 _ _ pr5,t6,_,lt6,fun _=>(qcu ed hk).symm,fun z=>absurd hk z,rfl⟩
    ·rw[decide_eq_false hk];exact iteF (hN _ _ ⟨s05,hK5,pr5,t5,_,lt5,fun z=>absurd z hk,fun _=>rfl,rfl⟩)
   clear lt5 hK5 pr5 s05 s5 s04 s4 ht5 s03 s3 hK;rintro _ H6 ⟨s6,hK6,pr6,t6,z6',lt6,w1,w2,rfl⟩;refine qaV (fun σ' H'=>Same H H'∧KL H' K0 (qav ds n)∧∃t zs,LstAt PrAt H' t zs∧(d.k=.shelf∨d.k=.grid→zs=qaU ds ls bs sp n)∧(¬(d.k=.shelf∨d.k=.grid)→zs=(qav ds n).map (qbE ds ls (qbe ls sp n)))∧σ'=[some (.ref B),some (.ref p),some (.ref L),some (.int wide),some (.ref R),some (.int (n:Int)),some (.ref K0),some (.ref r),some (.ref t)]) (fun N hN=>?_) ?_
   ·obtain⟨ab,c,m',s',hB,ec,hc⟩:=kind s6;refine⟨_,rfl,_,rfl,B,_,_,_,rfl,rfl,SqL.of hB,qay ec,c,_,_,_,rfl,rfl,SqT.of hc,rfl,rfl,_,rfl,?_⟩;rw[show decide (V.str d.k.s=V.str (Str.ofString "grid"))=decide (d.k=.grid)from kdt d.k .grid]
    by_cases hk:d.k=.grid
    ·rw[decide_eq_true hk];refine iteT ⟨_,rfl,_,rfl,_,rfl,_,rfl,p,K0,r,n,_,ls,_,rfl,qaA s6 I.lk,hK6,pr6,nl,by omega,kin,cx.lk,fun t7 H7 ht7 s7 lt7=>?_⟩;refine hN _ _ ⟨s6.trans s7,s7 _ _ hK6,t7,_,lt7,fun _=>(qdI ed hk).symm,fun z=>absurd (.inr hk) z,rfl⟩
    ·rw[decide_eq_false hk];refine iteF (hN _ _ ⟨s6,hK6,t6,z6',lt6,fun z=>w1 (z.elim id fun z=>absurd z hk),fun z=>w2 fun e=>z (.inl e),rfl⟩)
   rintro _ H7 ⟨s7,hK7,t7,z7',lt7,v1,v2,rfl⟩;refine qaV (fun σ' H'=>Same H H'∧KL H' K0 (qav ds n)∧∃t,LstAt PrAt H' t (qaU ds ls bs sp n)∧σ'=[some (.ref B),some (.ref p),some (.ref L),some (.int wide),some (.ref R),some (.int (n:Int)),some (.ref K0),some (.ref r),some (.ref t)]) (fun N hN=>?_) ?_
   ·refine qbI (fun b H'=>H'=H7∧(b=true↔(d.k=.text∨d.k=.head))) (fun Q' hQ'=>?_) ?_
    ·obtain⟨ab,c,m',s',hB,ec,hc⟩:=kind s7;refine⟨_,rfl,_,rfl,B,_,_,_,rfl,rfl,SqL.of hB,qay ec,c,_,_,_,rfl,rfl,SqT.of hc,rfl,rfl,_,rfl,?_⟩;rw[show decide (V.str d.k.s=V.str (Str.ofString "text"))=decide (d.k=.text)from kdt d.k .text]
     by_cases hk:d.k=.text
     ·rw[decide_eq_true hk];exact iteT (hQ' _ _ ⟨rfl,fun _=>.inl hk,fun _=>rfl⟩)
     ·rw[decide_eq_false hk];refine iteF ⟨_,rfl,_,rfl,B,_,_,_,rfl,rfl,SqL.of hB,qay ec,c,_,_,_,rfl,rfl,SqT.of hc,rfl,rfl,_,rfl,?_⟩;rw[show decide (V.str d.k.s=V.str (Str.ofString "head"))=decide (d.k=.head)from kdt d.k .head];exact hQ' _ _ ⟨rfl,fun z=>.inr (of_decide_eq_true z),fun z=>decide_eq_true (z.elim (fun z=>absurd z hk) id)⟩
    ·rintro b H' ⟨rfl,hb⟩;cases b with
     | true =>
       have hk:=hb.mp rfl
       have eh:=qcS (ls:=ls) (bs:=bs) (sp:=sp) ed (show d.k=.text∨d.k=.head∨d.k=.note from hk.elim .inl fun z=>.inr (.inl z))
       refine iteT ⟨_,rfl,K0,rfl,⟨_,SqL.of hK7⟩,qaF (xs:=((qav ds n).map fun(j:Nat)=>(j:Int)).map V.int) (fun i ys σ' H8=>Same H' H8∧(∃z,σ'=[z,some (.ref p),some (.ref R)])∧∃as,ys=as.map V.ref∧Paired (PrAt H8) as ((qaU ds ls bs sp n).take i)) (by rw[List.length_map,List.length_map];exact qak (by omega)) ⟨Same.refl _,⟨none,rfl⟩,[],rfl,.nil⟩ ?_ ?_ ?_⟩
       · rintro i ys σ' H8 hi ⟨s8,_,as,rfl,pr⟩
         refine⟨SqL.of (s8 _ _ hK7),?_⟩
         rw[List.length_map,Paired.length pr,List.length_take]
         exact Nat.min_le_left _ _
       · rintro i y ys σ' H8 hy ⟨s8,⟨z,rfl⟩,as,rfl,pr⟩
         obtain⟨m,em,rfl⟩:=qb7 hy
         have s08:=s7.trans s8
         refine⟨_,rfl,_,rfl,p,R,0,ls,sp,rfl,qaA s08 I.lk,⟨aR,s08 _ _ hR,pR.mono fun _ _ z=>s08 _ _ z⟩,by rw[cx.ll];exact cx.pos,by rw[lsp];exact cx.pos,l13,fun t H9 ht s9 pt=>?_⟩
         refine⟨s8.trans s9,⟨_,rfl⟩,as++[t],by rw[List.map_append];rfl,?_⟩
         have e2:(qaU ds ls bs sp n)[i]?=some (qbe ls sp 0):=by rw[eh,List.getElem?_map,em];rfl
         rw[List.take_succ,e2]
         exact(pr.mono fun _ _ z=>s9 _ _ z).snoc pt
       · rintro ys σ' H8 ⟨s8,_,as,rfl,pr⟩ D hD
         rw[List.take_of_length_le (by rw[eh,List.length_map,List.length_map,List.length_map];exact Nat.le_refl _)]at pr
         have s9:=s8.trans (qad hD (.lst (as.map V.ref)))
         exact hN _ _ ⟨s7.trans s9,s9 _ _ hK7,D,⟨as,qac,pr.mono fun _ _ z=>qad hD _ _ _ z⟩,rfl⟩
     | false =>
       have hk:¬(d.k=.text∨d.k=.head):=fun z=>Bool.noConfusion (hb.mpr z)
       refine iteF (hN _ _ ⟨s7,hK7,t7,?_,rfl⟩)
       have:z7'=qaU ds ls bs sp n:=by
         by_cases g:d.k=.shelf∨d.k=.grid
         · exact v1 g
         · rw[v2 g]
           by_cases nt:d.k=.note
           · rw[qcS ed (.inr (.inr nt)),nk n d ed nt]
             rfl
           · exact(qdM ed (fun z=>z.elim (fun z=>hk (.inl z)) fun z=>z.elim (fun z=>hk (.inr z)) nt) (fun z=>g (.inl z)) fun z=>g (.inr z)).symm
       rw[←this]
       exact lt7
   rintro _ H8 ⟨s8,hK8,t8,lt8,rfl⟩;refine⟨_,rfl,K0,rfl,⟨_,SqL.of hK8⟩,qaF (xs:=((qav ds n).map fun(j:Nat)=>(j:Int)).map V.int) (fun i ys σ' H'=>H'=H8∧(∃z,σ'=[z,some (.ref R)])∧∃as,ys=as.map V.ref∧Paired (PrAt H') as (((qav ds n).map (bsA sp)).take i)) (by rw[List.length_map,List.length_map];exact qak (by omega)) ⟨rfl,⟨none,rfl⟩,[],rfl,.nil⟩ ?_ ?_ ?_⟩
   ·rintro i ys σ' H' hi ⟨rfl,_,as,rfl,pr⟩;refine⟨SqL.of hK8,?_⟩;rw[List.length_map,Paired.length pr,List.length_take];exact Nat.min_le_left _ _
   ·rintro i y ys σ' H' hy ⟨rfl,⟨z,rfl⟩,as,rfl,pr⟩;obtain⟨m,em,rfl⟩:=qb7 hy;obtain⟨a,ea,ha⟩:=pget pR (qbw (m:=m) (by rw[lsp];exact qbv (List.mem_of_getElem? em)));refine⟨_,rfl,_,rfl,R,_,_,_,rfl,rfl,SqL.of (s8 _ _ hR),qay ea,rfl,⟨_,rfl⟩,as++[a],by rw[List.map_append];rfl,?_⟩;have e2:((qav ds n).map (bsA sp))[i]?=some (bsA sp m):=by rw[List.getElem?_map,em];rfl
    rw[List.take_succ,e2];exact pr.snoc (s8 _ _ ha)
   ·rintro ys σ' H' ⟨rfl,_,as,rfl,pr⟩ D hD;rw[List.take_of_length_le (by rw[List.length_map,List.length_map,List.length_map];exact Nat.le_refl _)]at pr;have s9:=qad hD (.lst (as.map V.ref));obtain⟨ct,ht8,pt8⟩:=lt8;refine⟨_,rfl,_,_,.lst qac (qbY (pr.mono fun _ _ z=>s9 _ _ z)),.lst (s9 _ _ ht8) (qbY (pt8.mono fun _ _ z=>s9 _ _ z)),qcE _,qcE _,fun e=>⟨_,rfl,iteF ?_⟩,fun e=>⟨_,rfl,iteT (q false _ (s8.trans s9) ⟨fun z=>Bool.noConfusion z,fun z=>absurd (prs_inj.mpr (z.2 n hn)) e⟩)⟩⟩;refine⟨s8.trans s9,fun j hj=>?_,_,_,_,_,rfl⟩;rcases Nat.lt_succ_iff_lt_or_eq.mp hj with h | h
    ·exact hls j h
    ·rw[h];exact prs_inj.mp e
  ·rintro σ H2 ⟨s2,hls,z5,z6,z7,z8,rfl⟩;exact q true H2 s2 ⟨fun _=>⟨sp0,fun n hn=>hls n (by omega)⟩,fun _=>rfl⟩
end
end K22
namespace K22
open PySem L2 Bk Gen Gd Bd Shr Sp0
open Br (qe1)
abbrev sLet:Stmt:=top 70
section
variable{P:Program}{w:World}{K:PySem.W.Frag}{mg:Str→Option Value}{base:Heap}
theorem k_bb{K:PySem.W.Frag}:PySem.W.kitOne K (.type "bool") (.type "bool")=some true:=by unfold PySem.W.kitOne;rw[if_pos (by decide)]
theorem scLet:FnScope ["_law_case", "_law_told", "_law_due", "_law_book_here", "_law_looks_here", "_law_bounds", "_law_wide", "_law_handed", "_law_found", "_law_right_here"] ["_law_case", "_law_told", "_law_due"] (qag sLet):=⟨rfl,rfl,rfl,by decide +kernel,rfl,by decide +kernel,by decide +kernel⟩
theorem ok_let_by{fn:Addr}{fd:FuncData}(F:Fun K "_law_let_by" "_law_let_by" sLet fn fd)(T:BnX mg)(F_spans_hold:Fx P w K mg base CX0 7 "spans_hold" ["book", "looks", "bounds", "wide", "told"] spSpansHold)(F_right:Fx P w K mg base CX0 3 "_law_right" ["_law_book_here", "_law_looks_here", "_law_bounds", "_law_wide", "_law_told"] spRightB):FnOk P w K mg base CX0 8 fn fd ["_law_case", "_law_told", "_law_due"] spLetS:=by
 refine F.ok scLet (fun vs H Q E h=>?_) (fun cdv A outer s H vs Q E hr h=>?_)
 ·obtain⟨n,t,d,B,p,L,wide,ds,ls,bs,sp,due,rfl,_⟩:=h;rfl
 ·obtain⟨n,t,d,B,p,L,wide,ds,ls,bs,sp,due,rfl,hn,I9,lT,lD,lsp,ldue,hdue,cx,nk,hung,fm,q⟩:=h;have hr_right:Room 3 _:=hr.mono (by decide);have hr_spans_hold:=hr;have hu:=hr.units;have le:=cx.le;refine⟨_,(qab (qbF (pv 0) (qe1 (by rfl) (qax (qai (i:=3) scLet.nd (by rfl) (by trivial)) (qax (qai (i:=4) scLet.nd (by rfl) (by trivial)) (qax (qai (i:=5) scLet.nd (by rfl) (by trivial)) (qax (qai (i:=6) scLet.nd (by rfl) (by trivial)) pgs_nil))))))
   (qab (qah (i:=7) scLet.nd (by rfl) (by trivial) (qaB (qaa (qaJ call_list_of (by rfl) T.list b_list (qaa (pv 3) pa_nil)) (qaa (qaI (own:=["_law_look"]) (by rfl) (CompScope.plain (by rfl) (by decide +kernel) (by decide +kernel) (by decide +kernel)) (qaE (pv 4)) (fun cl C s2 H2 fp=>(qai (i:=0) (by show(["_law_look"]:List Str).Nodup;decide +kernel) (by rfl) (by trivial) (by trivial))) (fun cl C s2 H2 fp=>qaG) (fun cl C s2 H2 fp=>(qaJ (call_listK K (by rfl)) (by rfl) T.list b_list (qaa (pv 0) pa_nil)))) (qaa (qaJ call_list_of (by rfl) T.list b_list (qaa (pv 5) pa_nil)) (qaa (qaJ call_list_of (by rfl) T.list b_list (qaa (pv 1) pa_nil)) pa_nil))))))
   (qab (qah (i:=8) scLet.nd (by rfl) (by trivial) (qan F_spans_hold hr_spans_hold (by rfl) qao (qaa (qaj ix_list (pv 7) qae (fun _ _=>rfl)) (qaa (qaj ix_list (pv 7) qae (fun _ _=>rfl)) (qaa (qaj ix_list (pv 7) qae (fun _ _=>rfl)) (qaa (pv 6) (qaa (qaj ix_list (pv 7) qae (fun _ _=>rfl)) pa_nil)))))))
   (qab (qah (i:=9) scLet.nd (by rfl) (by trivial) (qan F_right hr_right (by rfl) qao (qaa (pv 3) (qaa (pv 4) (qaa (pv 5) (qaa (pv 6) (qaa (pv 1) pa_nil)))))))
   (qab (qaM (PW.pt (qdW (qca (qbX (pe_isi T.isinstance (by rfl) T.bool (by rfl) b_bool (pv 8)))) (qdW (qam op_ne (pv 8) (pv 9) (qaq _)) (qcZ (qam (qdj hu) (pv 7) (qaB (qaa (pv 3) (qaa (pv 4) (qaa (pv 5) (qaa (pv 1) pa_nil))))) (qaq _)))))) (qaf (qat qb1)) pss_nil)
   (qaf (qat (qbf op_eq (pv 9) (qbf (qex hu) (pv 1) (pv 2) (qaq _)) (qaq _))))))))),?_⟩
  refine⟨_,rfl,n,_,rfl,SqL.of hn,rfl,_,_,rfl,_,_,rfl,_,_,rfl,_,_,rfl,rfl,?_⟩;obtain⟨ab,hB6,nd6⟩:=I9.bk;obtain⟨ap,hp6,pp6⟩:=I9.lk;obtain⟨al,hL6,pl6⟩:=I9.bd;obtain⟨aT,hT6,pT6⟩:=id lT;have lap:=Paired.length pp6;have ll:=cx.ll;refine⟨_,rfl,B,_,rfl,.inl (SqL.of hB6),fun B' hB'=>?_⟩;have t1:=qad hB' (.lst (ab.map V.ref));have hB7:upd H B' (.lst (ab.map V.ref)) B'=some (.lst (ab.map V.ref)):=qac;generalize upd H B' (.lst (ab.map V.ref))=J1 at t1 hB7⊢;refine⟨_,rfl,p,rfl,⟨_,SqL.of (t1 _ _ hp6)⟩,qaF (xs:=ap.map V.ref) (fun i ys σ' H'=>Same J1 H'∧(∃cs,ys=cs.map V.ref∧Paired (LkAt H') cs (ls.take i))∧∃z,σ'=[z]) (by rw[List.length_map];exact qak (by omega)) ⟨Same.refl _,⟨[],rfl,.nil⟩,none,rfl⟩ ?_ ?_ ?_⟩
  ·rintro i ys σ' H' hi ⟨s8,⟨cs,rfl,pc⟩,_⟩;refine⟨SqL.of (s8 _ _ (t1 _ _ hp6)),?_⟩;rw[List.length_map,Paired.length pc,List.length_take];exact Nat.min_le_left _ _
  ·rintro i y ys σ' H' hy ⟨s8,⟨cs,rfl,pc⟩,z,rfl⟩;obtain⟨c,ec,rfl⟩:=qci hy;obtain⟨l,el,hl⟩:=qbM pp6 ec;have hl8:LkAt H' c l:=(hl.same t1).same s8;refine⟨_,rfl,c,_,rfl,.inl (SqL.of hl8),fun t ht=>?_⟩;have s9:=qad ht (.lst (l.map V.int));refine⟨s8.trans s9,⟨cs++[t],by rw[List.map_append];rfl,?_⟩,_,rfl⟩;rw[List.take_succ,el];exact(pc.mono fun _ _ h=>LkAt.same s9 h).snoc qac
  rintro ys σ' J2 ⟨t2,⟨cs,rfl,pc⟩,_⟩ p' hp';rw[List.take_of_length_le (by rw[List.length_map];omega)]at pc;have t3:=qad hp' (.lst (cs.map V.ref));have hp9:upd J2 p' (.lst (cs.map V.ref)) p'=some (.lst (cs.map V.ref)):=qac;have pc9:Paired (LkAt (upd J2 p' (.lst (cs.map V.ref)))) cs ls:=pc.mono fun _ _ h=>LkAt.same t3 h
  have t13:=t2.trans t3;generalize upd J2 p' (.lst (cs.map V.ref))=J3 at t3 hp9 pc9 t13⊢;have t03:=t1.trans t13;refine⟨_,rfl,L,_,rfl,.inl (SqL.of (t03 _ _ hL6)),fun L' hL'=>?_⟩;have t4:=qad hL' (.lst (al.map V.ref));have hL7:upd J3 L' (.lst (al.map V.ref)) L'=some (.lst (al.map V.ref)):=qac;have t04:=t03.trans t4;generalize upd J3 L' (.lst (al.map V.ref))=J4 at t4 hL7 t04⊢;refine⟨_,rfl,t,_,rfl,.inl (SqL.of (t04 _ _ hT6)),fun T' hT'=>?_⟩;have t5:=qad hT' (.lst (aT.map V.ref));have hT7:upd J4 T' (.lst (aT.map V.ref)) T'=some (.lst (aT.map V.ref)):=qac;have t05:=t04.trans t5;generalize upd J4 T' (.lst (aT.map V.ref))=J5 at t5 hT7 t05⊢;refine⟨by show 4≤sizeLine;decide,fun W hW=>?_⟩;have t6:=qad hW (.lst [.ref B',.ref p',.ref L',.ref T']);have hWW:upd J5 W (.lst [.ref B',.ref p',.ref L',.ref T']) W=some (.lst [.ref B',.ref p',.ref L',.ref T']):=qac;generalize upd J5 W (.lst [.ref B',.ref p',.ref L',.ref T'])=J6 at t6 hWW⊢;have t06:=t05.trans t6;have t56:=t5.trans t6;have t46:=t4.trans t56;have IC:InS J6 B' p' L' ds ls bs:=⟨⟨ab,(t13.trans t46) _ _ hB7,nd6.keep t06.keep fun _ _ _=>trivial⟩,⟨cs,t46 _ _ hp9,pc9.mono fun _ _ h=>LkAt.same t46 h⟩,⟨al,t56 _ _ hL7,pl6.mono fun _ _ h=>t06 _ _ h⟩⟩;have lTC:LstAt PrAt J6 T' sp:=⟨aT,t6 _ _ hT7,pT6.mono fun _ _ h=>t06 _ _ h⟩;dsimp only[qa1];refine⟨_,rfl,W,_,_,_,rfl,rfl,SqL.of hWW,rfl,_,rfl,W,_,_,_,rfl,rfl,SqL.of hWW,rfl,_,rfl,W,_,_,_,rfl,rfl,SqL.of hWW,rfl,_,rfl,_,rfl,W,_,_,_,rfl,rfl,SqL.of hWW,rfl,B',p',L',T',wide,ds,ls,bs,sp,rfl,IC,lTC,lsp,cx,fun b1 J7 t7 hb1=>?_⟩;have t07:=t06.trans t7;refine⟨_,rfl,_,rfl,_,rfl,_,rfl,_,rfl,B,p,L,t,wide,ds,ls,bs,sp,rfl,I9.same t07,qaK t07 lT,lsp,cx,nk,fun b2 J8 t8 hb2=>?_⟩;have t08:=t07.trans t8;have t68:=t7.trans t8;obtain rfl:b1=b2:=by rw[Bool.eq_iff_iff,hb1,hb2]
  have one:b1=true↔sp=due:=hb1.trans ⟨fun h=>holds_one hung lsp ldue h hdue,fun h=>by rw[h];exact hdue⟩;dsimp only[qa1];refine⟨_,rfl,_,_,_,_,rfl,.bl b1,⟨_,fun u r=>r,k_bb⟩,_,rfl,iteF ?_⟩;refine⟨_,rfl,_,rfl,rfl,_,rfl,?_⟩;rw[decide_eq_true (rfl:V.bl b1=V.bl b1)];refine iteF ⟨_,rfl,_,rfl,_,rfl,_,rfl,_,rfl,by show 4≤sizeLine;decide,fun Y hY=>?_⟩;have t9:=qad hY (.lst [.ref B,.ref p,.ref L,.ref t]);have hYY:upd J8 Y (.lst [.ref B,.ref p,.ref L,.ref t]) Y=some (.lst [.ref B,.ref p,.ref L,.ref t]):=qac;have t09:=t08.trans t9;have t69:=t68.trans t9;generalize upd J8 Y (.lst [.ref B,.ref p,.ref L,.ref t])=J9 at hYY t09 t69⊢;refine⟨_,_,qfi (t69 _ _ hWW) (IC.same t69) (qaK t69 lTC),qfi hYY (I9.same t09) (qaK t09 lT),qe7 fm ls bs sp,qe7 fm ls bs sp,fun _=>⟨_,rfl,iteF ?_⟩,fun z=>absurd rfl z⟩;obtain⟨a1,h1,p1⟩:=qaK t09 lT;obtain⟨a2,h2,p2⟩:=qaK t09 lD;refine⟨_,rfl,_,rfl,_,rfl,_,_,.lst h1 (qbY p1),.lst h2 (qbY p2),qcE _,qcE _,fun e=>⟨rfl,?_⟩,fun e=>⟨rfl,?_⟩⟩
  ·rw[one.mpr (prs_inj.mp e)];exact q _ t09
  ·have nb:b1=false:=by
    cases b1 with
    | false=>rfl
    | true=>exact absurd (prs_inj.mpr (one.mp rfl)) e
   rw[nb];exact q _ t09
end
end K22
namespace K22
open PySem L2 Bk Gen Gd Bd Shr Sp0
abbrev sBelowAll:Stmt:=top 67
abbrev sMoved:Stmt:=top 68
section
variable{P:Program}{w:World}{K:PySem.W.Frag}{mg:Str→Option Value}{base:Heap}
theorem scBelowAll:FnScope ["_law_book_here", "_law_node", "_law_found", "_law_other"] ["_law_book_here", "_law_node"] (qag sBelowAll):=⟨rfl,rfl,rfl,by decide +kernel,rfl,by decide +kernel,by decide +kernel⟩
theorem ok_below_all{fn:Addr}{fd:FuncData}(F:Fun K "_law_below_all" "_law_below_all" sBelowAll fn fd)(T:BnX mg):FnOk P w K mg base CX0 1 fn fd ["_law_book_here", "_law_node"] spBelowAll:=by
 refine F.ok scBelowAll (fun vs H Q E h=>?_) (fun cdv A outer s H vs Q E hr h=>?_)
 ·obtain⟨B,n,ds,rfl,_⟩:=h;rfl
 ·obtain⟨B,n,ds,rfl,⟨ab,hB,nd⟩,hn,le,q⟩:=h;refine⟨_,(qab (qah (i:=2) scBelowAll.nd (by rfl) (by trivial) (qaB (qaa (pv 1) pa_nil)))
   (qab (qaR PassesOwn.never (by rfl) (qbQ (by rfl) T.range (qaa (qas op_add (pv 1) qae) (qaa (qal call_len_seq (by rfl) T.len b_len (qaa (pv 0) pa_nil)) pa_nil))) (qai (i:=3) scBelowAll.nd (by rfl) (by trivial))
   (qaf (qaM (qam op_in_seq (qaj ix_tup (qaj ix_list (pv 0) (pv 3) (fun _ _=>rfl)) qae (fun _ _=>rfl)) (pv 2) (by with_unfolding_all rfl)) (qaf (qaP (qb6 PySem.F.plainAttrs_list PySem.F.slot_list_append PySem.F.type_list_append mt_append (pv 2) (qaa (pv 3) pa_nil)))) pss_nil)))
   (qaf (qat (pv 2))))),?_⟩
  refine⟨_,rfl,by show 1≤sizeLine;decide,fun L hL=>?_⟩;have s1:=qad hL (.lst [.int (n:Int)]);have hLL:KL (upd H L (.lst [.int (n:Int)])) L [n]:=qac;generalize upd H L (.lst [.int (n:Int)])=H1 at s1 hLL⊢;have el:(((ab.map V.ref).length:Nat):Int)=ds.length:=by rw[List.length_map,nd.length]
  refine⟨_,rfl,_,_,rfl,rfl,_,rfl,B,_,rfl,.inl (SqL.of (s1 _ _ hB)),_,_,rfl,⟨by omega,by omega,by omega,by omega⟩,qaN (fun i σ H'=>Same H H'∧∃z3 ks,σ=[some (.ref B),some (.int (n:Int)),some (.ref L),z3]∧KL H' L ks∧ks.length≤i+1∧∀m∈ks,m<ds.length) ⟨s1,none,[n],rfl,hLL,Nat.le_refl _,fun m hm=>by rw[List.mem_singleton.mp hm];exact hn⟩ ?_ ?_⟩
  ·rintro i σ H2 hi ⟨s2,z3,ks,rfl,hL2,lks,kin⟩;obtain⟨o,ho⟩:∃o:Nat,(n:Int)+1+(i:Int)=(o:Int):=⟨n+1+i,by omega⟩;rw[ho];have hm:o<ds.length:=by omega
   obtain⟨d,ed⟩:∃d,ds[o]?=some d:=⟨_,List.getElem?_eq_getElem hm⟩;obtain⟨c,ec,nc⟩:=nd.get ed;obtain⟨_,_,hc,_⟩:=nc.ex;refine⟨_,rfl,_,rfl,B,_,_,_,rfl,rfl,SqL.of (s2 _ _ hB),qay ec,c,_,_,_,rfl,rfl,SqT.of (s2 _ _ hc),rfl,_,rfl,L,_,rfl,.inl (SqL.of hL2),rfl,qd3 _,_,rfl,?_⟩;refine ite2 (fun z=>?_) (fun z=>⟨s2,_,ks,rfl,hL2,by omega,kin⟩);refine⟨_,rfl,.inl ⟨rfl,_,SqL.of hL2⟩,_,rfl,L,_,_,rfl,rfl,hL2,qak (by rw[List.length_map,List.length_map];omega),?_⟩;refine⟨qbq s2 hL,_,ks++[o],rfl,?_,by rw[List.length_append];show ks.length+1≤_;omega,fun m hm'=>?_⟩
   ·show upd H2 L _ L=_;rw[qac,List.map_append,List.map_append];rfl
   ·rcases List.mem_append.mp hm' with h | h
    ·exact kin m h
    ·rw[List.mem_singleton.mp h];exact hm
  ·rintro σ H2 ⟨s2,z3,ks,rfl,hL2,lks,kin⟩;exact⟨_,rfl,q L H2 ks hL s2 hL2 (by omega) kin⟩
theorem scMoved:FnScope ["_law_book_here", "_law_spans", "_law_node", "_law_by", "_law_found", "_law_other"] ["_law_book_here", "_law_spans", "_law_node", "_law_by"] (qag sMoved):=⟨rfl,rfl,rfl,by decide +kernel,rfl,by decide +kernel,by decide +kernel⟩
theorem ok_moved{fn:Addr}{fd:FuncData}(F:Fun K "_law_moved" "_law_moved" sMoved fn fd)(T:BnX mg)(F_below_all:Fx P w K mg base CX0 1 "_law_below_all" ["_law_book_here", "_law_node"] spBelowAll):FnOk P w K mg base CX0 2 fn fd ["_law_book_here", "_law_spans", "_law_node", "_law_by"] spMoved:=by
 refine F.ok scMoved (fun vs H Q E h=>?_) (fun cdv A outer s H vs Q E hr h=>?_)
 ·obtain⟨B,S,n,by0,ds,sp,rfl,_⟩:=h;rfl
 ·obtain⟨B,S,n,by0,ds,sp,rfl,bk,⟨aS,hS,pS⟩,lsp,hn,le,q⟩:=h;have hr_below_all:=hr;refine⟨_,(qab (qah (i:=4) scMoved.nd (by rfl) (by trivial) (qaJ call_list_of (by rfl) T.list b_list (qaa (pv 1) pa_nil)))
   (qab (qaR PassesOwn.never (by rfl) (qaE (qan F_below_all hr_below_all (by rfl) qao (qaa (pv 0) (qaa (pv 2) pa_nil)))) (qai (i:=5) scMoved.nd (by rfl) (by trivial))
   (qaf (qbF (qaO (qaa (qas op_add (qaj ix_tup (qaj ix_list (pv 1) (pv 5) (fun _ _=>rfl)) qae (fun _ _=>rfl)) (pv 3)) (qaa (qaj ix_tup (qaj ix_list (pv 1) (pv 5) (fun _ _=>rfl)) qae (fun _ _=>rfl)) pa_nil))) (qbP (pv 4) (pv 5) set_list))))
   (qaf (qat (pv 4))))),?_⟩
  refine⟨_,rfl,S,_,rfl,.inl (SqL.of hS),fun D hD=>?_⟩;have s1:=qad hD (.lst (aS.map V.ref));have hDD:upd H D (.lst (aS.map V.ref)) D=some (.lst (aS.map V.ref)):=qac;generalize upd H D (.lst (aS.map V.ref))=H1 at s1 hDD⊢;refine⟨_,rfl,_,rfl,B,n,ds,rfl,book_keep s1 bk,hn,le,fun L H2 ks hL s2 hL2 lks kin=>?_⟩;have s02:=s1.trans s2;have hD2:=s2 _ _ hDD;have LD:L≠D:=fun z=>by rw[z,hDD]at hL;cases hL
  have SD:S≠D:=qar hS hD;refine⟨L,rfl,⟨_,SqL.of hL2⟩,qbj (xs:=(ks.map fun(j:Nat)=>(j:Int)).map V.int) (fun i σ H'=>Keep1 D H2 H'∧(∃z5,σ=[some (.ref B),some (.ref S),some (.int (n:Int)),some (.int by0),some (.ref D),z5])∧∃sp',LstAt PrAt H' D sp'∧sp'.length=sp.length) ⟨KeepN.refl,⟨none,rfl⟩,sp,⟨aS,hD2,pS.mono fun _ _ z=>s02 _ _ z⟩,rfl⟩ ?_ ?_ ?_⟩
  ·rintro i σ H' hi ⟨k1,_⟩;exact SqL.of (k1 _ _ LD hL2)
  ·rintro i y σ H' hy ⟨k1,⟨z5,rfl⟩,sp',⟨aD,hD',pD⟩,lsp'⟩;obtain⟨m,em,rfl⟩:=qb7 hy;have hm:=kin m (List.mem_of_getElem? em);obtain⟨a,ea,ha⟩:=pget pS (qbw (m:=m) (by rw[lsp];exact hm));have hS':=k1 _ _ SD (s02 _ _ hS);have aD0:a≠D:=fun z=>by
    have:=s02 _ _ ha;rw[z,hD2]at this;cases this
   have ha':PrAt H' a (bsA sp m):=k1 _ _ aD0 (s02 _ _ ha);refine⟨_,rfl,_,rfl,S,_,_,_,rfl,rfl,SqL.of hS',qay ea,a,_,_,_,rfl,rfl,SqT.of ha',rfl,_,rfl,_,_,rfl,rfl,_,rfl,_,rfl,S,_,_,_,rfl,rfl,SqL.of hS',qay ea,a,_,_,_,rfl,rfl,SqT.of ha',rfl,by show 2≤sizeLine;decide,fun t ht=>?_⟩;have s3:=qad ht (.tup [.int ((bsA sp m).1+by0),.int (bsA sp m).2]);have htt:PrAt (upd H' t (.tup [.int ((bsA sp m).1+by0),.int (bsA sp m).2])) t ((bsA sp m).1+by0,(bsA sp m).2):=qac;have hD3:=s3 _ _ hD';have pD3:Paired (PrAt (upd H' t (.tup [.int ((bsA sp m).1+by0),.int (bsA sp m).2]))) aD sp':=pD.mono fun _ _ z=>s3 _ _ z
   have k3:=k1.trans s3.keep;generalize upd H' t (.tup [.int ((bsA sp m).1+by0),.int (bsA sp m).2])=H3 at htt hD3 pD3 k3⊢;have lD:(aD.map V.ref).length=ds.length:=by rw[List.length_map,Paired.length pD,lsp',lsp]
   refine⟨_,rfl,_,rfl,D,_,_,m,rfl,rfl,hD3,by rw[lD];exact qbW hm,?_⟩;have tl:=Tups.lst (o:=.lst ((aD.map V.ref).set m (.ref t))) hD3;exact⟨fun b o n e=>by rw[qap n];exact k3 b o n e,⟨_,rfl⟩,sp'.set m ((bsA sp m).1+by0,(bsA sp m).2),⟨aD.set m t,by rw[qac,List.map_set],Paired.set (pD3.mono fun _ _ z=>tl _ _ z) (tl _ _ htt) m⟩,by rw[List.length_set];exact lsp'⟩
  ·rintro σ H' ⟨k1,⟨z5,rfl⟩,sp',lD,lsp'⟩;exact⟨_,rfl,q D H' sp' hD (fun b o e=>k1 _ _ (qar e hD) (s02 _ _ e)) lD lsp'⟩
end
end K22
namespace K22
open PySem L2 Bk Gen Gd Bd Shr Sp0
abbrev sBent:Stmt:=top 69
section
variable{P:Program}{w:World}{K:PySem.W.Frag}{mg:Str→Option Value}{base:Heap}
theorem scBent:FnScope ["_law_book_here", "_law_spans", "_law_stream_here", "_law_kind", "_law_found", "_law_one", "_law_other", "_law_by", "_law_left", "_law_wide"] ["_law_book_here", "_law_spans", "_law_stream_here"] (qag sBent):=⟨rfl,rfl,rfl,by decide +kernel,rfl,by decide +kernel,by decide +kernel⟩
theorem ok_bent{fn:Addr}{fd:FuncData}(F:Fun K "_law_bent" "_law_bent" sBent fn fd)(T:BnX mg)(F_take:Fx P w K mg base CX0 1 "_law_take" ["_law_stream_here", "_law_most"] spTake)(F_moved:Fx P w K mg base CX0 2 "_law_moved" ["_law_book_here", "_law_spans", "_law_node", "_law_by"] spMoved):FnOk P w K mg base CX0 3 fn fd ["_law_book_here", "_law_spans", "_law_stream_here"] spBentS:=by
 refine F.ok scBent (fun vs H Q E h=>?_) (fun cdv A outer s H vs Q E hr h=>?_)
 ·obtain⟨B,S,st,ds,sp,rfl,_⟩:=h;rfl
 ·obtain⟨B,S,st,ds,sp,rfl,⟨ab,hB,nd⟩,Bst,⟨aS,hS,pS⟩,Sst,lsp,pos,le,S0,q⟩:=h;have hr_take:Room 1 _:=hr.mono (by decide);have hr_moved:=hr;have el:(((ab.map V.ref).length:Nat):Int)=ds.length:=by rw[List.length_map,nd.length]
  refine⟨_,(qab (qah (i:=3) scBent.nd (by rfl) (by trivial) (qan F_take hr_take (by rfl) qao (qaa (pv 2) (qaa qae pa_nil))))
   (qab (qah (i:=4) scBent.nd (by rfl) (by trivial) (qaJ call_list_of (by rfl) T.list b_list (qaa (pv 1) pa_nil)))
   (qab (qah (i:=5) scBent.nd (by rfl) (by trivial) (qan F_take hr_take (by rfl) qao (qaa (pv 2) (qaa (qal call_len_seq (by rfl) T.len b_len (qaa (pv 0) pa_nil)) pa_nil))))
   (qab (qah (i:=6) scBent.nd (by rfl) (by trivial) (qan F_take hr_take (by rfl) qao (qaa (pv 2) (qaa (qal call_len_seq (by rfl) T.len b_len (qaa (pv 0) pa_nil)) pa_nil))))
   (qab (qah (i:=7) scBent.nd (by rfl) (by trivial) (qaj ix_list (qaB (qaa qae (qaa (qe4 un_neg qae) (qaa qae (qaa qae pa_nil))))) (qan F_take hr_take (by rfl) qao (qaa (pv 2) (qaa qae pa_nil))) (fun _ _=>rfl)))
   (qab (qbF (qaj ix_list (pv 4) (pv 5) (fun _ _=>rfl)) (qcD (by rfl) (qax (qai (i:=8) scBent.nd (by rfl) (by trivial)) (qax (qai (i:=9) scBent.nd (by rfl) (by trivial)) pgs_nil))))
   (qab (qaM (qam op_eq (pv 3) qae (qaq _)) (qaf (qbF (qaO (qaa (qas op_add (pv 8) (pv 7)) (qaa (pv 9) pa_nil))) (qbP (pv 4) (pv 5) set_list))) pss_nil)
   (qab (qaM (qam op_eq (pv 3) qae (qaq _)) (qaf (qbF (qaO (qaa (pv 8) (qaa (qas op_add (pv 9) (pv 7)) pa_nil))) (qbP (pv 4) (pv 5) set_list))) pss_nil)
   (qab (qaM (qam op_eq (pv 3) qae (qaq _)) (qaf (qbF (qaO (qaa (qaj ix_list (pv 4) (pv 6) (fun _ _=>rfl)) (qaa (qaj ix_list (pv 4) (pv 5) (fun _ _=>rfl)) pa_nil))) (qcD (by rfl) (qax (qbP (pv 4) (pv 5) set_list) (qax (qbP (pv 4) (pv 6) set_list) pgs_nil))))) pss_nil)
   (qab (qaM (qam op_eq (pv 3) qae (qaq _)) (qaf (qah (i:=4) scBent.nd (by rfl) (by trivial) (qan F_moved hr_moved (by rfl) qao (qaa (pv 0) (qaa (pv 4) (qaa (pv 5) (qaa (pv 7) pa_nil))))))) pss_nil)
   (qab (qaM (PW.pt (qbT (qam op_eq (pv 3) qae (qaq _)) (qbB (qam op_lt (qas op_add (pv 5) qae) (qal call_len_seq (by rfl) T.len b_len (qaa (pv 0) pa_nil)) (qaq _))))) (qab (qbF (qaO (qaa (pv 8) (qaa (qas op_add (pv 9) (pv 7)) pa_nil))) (qbP (pv 4) (pv 5) set_list))
   (qaf (qbF (qaO (qaa (qas op_add (qaj ix_tup (qaj ix_list (pv 4) (qas op_add (pv 5) qae) (fun _ _=>rfl)) qae (fun _ _=>rfl)) (pv 7)) (qaa (qas op_sub (qaj ix_tup (qaj ix_list (pv 4) (qas op_add (pv 5) qae) (fun _ _=>rfl)) qae (fun _ _=>rfl)) (pv 7)) pa_nil))) (qbP (pv 4) (qas op_add (pv 5) qae) set_list)))) pss_nil)
   (qab (qaM (qam op_eq (pv 3) qae (qaq _)) (qaf (qbF (qaO (qaa (qan F_take hr_take (by rfl) qao (qaa (pv 2) (qaa qae pa_nil))) (qaa (qan F_take hr_take (by rfl) qao (qaa (pv 2) (qaa qae pa_nil))) pa_nil))) (qbP (pv 4) (pv 5) set_list))) pss_nil)
   (qaf (qat (pv 4))))))))))))))),?_⟩
  refine⟨_,rfl,st,6,rfl,S0,by decide,by decide,fun kd H1 k0 k6 S1 K1=>?_⟩;refine⟨_,rfl,S,_,rfl,.inl (SqL.of (K1 _ _ Sst hS)),fun g hg=>?_⟩;have gs:g≠st:=qaw S1.some hg;have g0:H g=none:=K1.back gs hg;have nst:∀{b':Addr} {xs:List V},H b'=some (.tup xs)→b'≠st:=fun e z=>by
   obtain⟨_,_,e2,_⟩:=S0;rw[z,e2]at e;cases e
  have s2:=qad hg (.lst (aS.map V.ref));have B2:BS H st g ds.length (upd H1 g (.lst (aS.map V.ref))):=⟨⟨sp,⟨aS,qac,pS.mono fun _ _ z=>s2 _ _ (K1 _ _ (nst z) z)⟩,lsp⟩,K1.trans s2.keep,S1.same s2⟩;generalize upd H1 g (.lst (aS.map V.ref))=H2 at B2⊢;clear s2 hg K1 S1;refine⟨_,rfl,_,rfl,B,_,rfl,.inl (SqL.of (B2.k _ _ Bst hB)),st,_,rfl,B2.st,by omega,by omega,fun one H3 o0 o1 S3 K3=>?_⟩;have B3:=B2.take gs S3 K3;refine⟨_,rfl,_,rfl,B,_,rfl,.inl (SqL.of (B3.k _ _ Bst hB)),st,_,rfl,S3,by omega,by omega,fun oth H4 t0 t1 S4 K4=>?_⟩;have B4:=B3.take gs S4 K4;obtain⟨i,hi,rfl⟩:∃i:Nat,i<ds.length∧one=(i:Int):=⟨one.toNat,by omega,by omega⟩;obtain⟨j,hj,rfl⟩:∃j:Nat,j<ds.length∧oth=(j:Int):=⟨oth.toNat,by omega,by omega⟩;refine⟨_,rfl,by show 4≤sizeLine;decide,fun L hL=>?_⟩;have B5:=B4.same (qad hL (.lst [.int 1,.int (-1),.int 7,.int 300]));have hLL:LI (upd H4 L (.lst [.int 1,.int (-1),.int 7,.int 300])) L [1,-1,7,300]:=qac;have Ls:L≠st:=qaw S4.some hL;generalize upd H4 L (.lst [.int 1,.int (-1),.int 7,.int 300])=H5 at hLL B5⊢;refine⟨_,rfl,st,4,rfl,B5.st,by decide,by decide,fun e H6 e0 e1 S6 K6=>?_⟩;obtain⟨by0,vm,va⟩:=pick_at (ns:=[1,-1,7,300]) e0 (by show e<4;omega);refine⟨L,_,_,_,rfl,rfl,SqL.of (K6 _ _ Ls hLL),va,?_⟩;have B6:=B5.take gs S6 K6;clear hLL B5 B4 B3 B2 K3 K4 K6 S3 S4 S6 hL va o0 o1 t0 t1;obtain⟨x,⟨as,hg,pr⟩,lx⟩:=B6.g;obtain⟨a,ea,ha⟩:=pget pr (qbw (m:=i) (by rw[lx];exact hi));obtain⟨v,hv⟩:∃v,bsA x i=v:=⟨_,rfl⟩;rw[hv]at ha;dsimp only[qa1];refine⟨_,rfl,_,rfl,g,_,_,_,rfl,rfl,SqL.of hg,qay ea,a,_,rfl,SqT.of ha,rfl,_,_,rfl,_,_,rfl,rfl,?_⟩;clear hg pr lx ea ha hv x as a;have Bk_:=B6;clear B6 gs;dsimp only[qa1];refine qaV (fun σ' H'=>∃g,σ'=[some (.ref B),some (.ref S),some (.ref st),some (.int kd),some (.ref g),some (.int (i:Int)),some (.int (j:Int)),some (.int by0),some (.int v.1),some (.int v.2)]∧H g=none∧BS H st g ds.length H') (fun N hN=>?_) ?_
  ·refine⟨_,rfl,rfl,_,rfl,?_⟩;refine ite2 (fun c=>?_) (fun c=>hN _ _ ⟨g,rfl,g0,Bk_⟩);have gs:g≠st:=qaw S0.some g0;obtain⟨x,⟨as,hg,pr⟩,lx⟩:=Bk_.g;have la:(as.map V.ref).length=ds.length:=by rw[List.length_map,Paired.length pr,lx]
   refine⟨_,rfl,_,rfl,_,_,rfl,rfl,_,rfl,by show 2≤sizeLine;decide,fun t ht=>?_⟩;have s1:=qad ht (.tup [.int (v.1+by0),.int (v.2)]);have B1:=Bk_.same s1;refine⟨_,rfl,_,rfl,g,_,_,i,rfl,rfl,s1 _ _ hg,by rw[la];exact qbW hi,?_⟩;exact hN _ _ ⟨g,rfl,g0,B1.put (v:=(v.1+by0,v.2)) g0 gs (s1 _ _ hg) (pr.mono fun _ _ z=>s1 _ _ z) lx qac⟩
  clear Bk_ g0 g;rintro σ_ H_ ⟨g,rfl,g0,Bk_⟩;refine qaV (fun σ' H'=>∃g,σ'=[some (.ref B),some (.ref S),some (.ref st),some (.int kd),some (.ref g),some (.int (i:Int)),some (.int (j:Int)),some (.int by0),some (.int v.1),some (.int v.2)]∧H g=none∧BS H st g ds.length H') (fun N hN=>?_) ?_
  ·refine⟨_,rfl,rfl,_,rfl,?_⟩;refine ite2 (fun c=>?_) (fun c=>hN _ _ ⟨g,rfl,g0,Bk_⟩);have gs:g≠st:=qaw S0.some g0;obtain⟨x,⟨as,hg,pr⟩,lx⟩:=Bk_.g;have la:(as.map V.ref).length=ds.length:=by rw[List.length_map,Paired.length pr,lx]
   refine⟨_,rfl,_,rfl,_,rfl,_,_,rfl,rfl,by show 2≤sizeLine;decide,fun t ht=>?_⟩;have s1:=qad ht (.tup [.int (v.1),.int (v.2+by0)]);have B1:=Bk_.same s1;refine⟨_,rfl,_,rfl,g,_,_,i,rfl,rfl,s1 _ _ hg,by rw[la];exact qbW hi,?_⟩;exact hN _ _ ⟨g,rfl,g0,B1.put (v:=(v.1,v.2+by0)) g0 gs (s1 _ _ hg) (pr.mono fun _ _ z=>s1 _ _ z) lx qac⟩
  clear Bk_ g0 g;rintro σ_ H_ ⟨g,rfl,g0,Bk_⟩;refine qaV (fun σ' H'=>∃g,σ'=[some (.ref B),some (.ref S),some (.ref st),some (.int kd),some (.ref g),some (.int (i:Int)),some (.int (j:Int)),some (.int by0),some (.int v.1),some (.int v.2)]∧H g=none∧BS H st g ds.length H') (fun N hN=>?_) ?_
  ·refine⟨_,rfl,rfl,_,rfl,?_⟩;refine ite2 (fun c=>?_) (fun c=>hN _ _ ⟨g,rfl,g0,Bk_⟩);have gs:g≠st:=qaw S0.some g0;obtain⟨x,⟨as,hg,pr⟩,lx⟩:=Bk_.g;have la:(as.map V.ref).length=ds.length:=by rw[List.length_map,Paired.length pr,lx]
   obtain⟨a,ea,ha⟩:=pget pr (qbw (m:=j) (by rw[lx];exact hj));obtain⟨b,eb,hb⟩:=pget pr (qbw (m:=i) (by rw[lx];exact hi));refine⟨_,rfl,_,rfl,g,_,_,_,rfl,rfl,SqL.of hg,qay ea,_,rfl,_,rfl,g,_,_,_,rfl,rfl,SqL.of hg,qay eb,by show 2≤sizeLine;decide,fun t ht=>?_⟩;have s1:=qad ht (.tup [.ref a,.ref b]);have htt:upd H_ t (.tup [.ref a,.ref b]) t=some (.tup [.ref a,.ref b]):=qac;have B1:=Bk_.same s1;have hg1:=s1 _ _ hg;have pr1:Paired (PrAt (upd H_ t (.tup [.ref a,.ref b]))) as x:=pr.mono fun _ _ z=>s1 _ _ z
   have ha1:PrAt (upd H_ t (.tup [.ref a,.ref b])) a (bsA x j):=s1 _ _ ha;have hb1:PrAt (upd H_ t (.tup [.ref a,.ref b])) b (bsA x i):=s1 _ _ hb;generalize upd H_ t (.tup [.ref a,.ref b])=H1 at htt B1 hg1 pr1 ha1 hb1⊢;refine⟨t,_,rfl,SqT.of htt,rfl,_,_,rfl,_,rfl,_,rfl,g,_,_,i,rfl,rfl,hg1,by rw[la];exact qbW hi,?_⟩;have tl:=Tups.lst (o:=.lst ((as.map V.ref).set i (.ref a))) hg1;have B2:=B1.put (v:=bsA x j) (i:=i) g0 gs hg1 pr1 lx ha1;have hg2:upd H1 g (.lst ((as.map V.ref).set i (.ref a))) g=some (.lst ((as.set i a).map V.ref)):=by rw[qac,List.map_set]
   have pr2:=Paired.set (pr1.mono fun _ _ z=>tl _ _ z) (tl _ _ ha1) i;have hb2:PrAt (upd H1 g (.lst ((as.map V.ref).set i (.ref a)))) b (bsA x i):=tl _ _ hb1;refine⟨_,_,rfl,_,rfl,_,rfl,g,_,_,j,rfl,rfl,hg2,by rw[List.length_map,List.length_set,←List.length_map (f:=V.ref),la];exact qbW hj,rfl,?_⟩;exact hN _ _ ⟨g,rfl,g0,B2.put (v:=bsA x i) g0 gs hg2 pr2 (by rw[List.length_set];exact lx) hb2⟩
  clear Bk_ g0 g;rintro σ_ H_ ⟨g,rfl,g0,Bk_⟩;refine qaV (fun σ' H'=>∃g,σ'=[some (.ref B),some (.ref S),some (.ref st),some (.int kd),some (.ref g),some (.int (i:Int)),some (.int (j:Int)),some (.int by0),some (.int v.1),some (.int v.2)]∧H g=none∧BS H st g ds.length H') (fun N hN=>?_) ?_
  ·refine⟨_,rfl,rfl,_,rfl,?_⟩;refine ite2 (fun c=>?_) (fun c=>hN _ _ ⟨g,rfl,g0,Bk_⟩);have gs:g≠st:=qaw S0.some g0;obtain⟨x,⟨as,hg,pr⟩,lx⟩:=Bk_.g;have la:(as.map V.ref).length=ds.length:=by rw[List.length_map,Paired.length pr,lx]
   refine⟨_,rfl,_,rfl,_,rfl,_,rfl,B,g,i,by0,ds,x,rfl,⟨ab,Bk_.k _ _ Bst hB,nd.keep Bk_.k fun _ _ _=>trivial⟩,⟨as,hg,pr⟩,lx,hi,le,fun D H1 x' hD s1 lD lx'=>?_⟩;have B1:=Bk_.same s1;exact hN _ _ ⟨D,rfl,Bk_.k.back (qaw Bk_.st.some hD) hD,⟨x',lD,by rw[lx',lx]⟩,B1.k,B1.st⟩
  clear Bk_ g0 g;rintro σ_ H_ ⟨g,rfl,g0,Bk_⟩;refine qaV (fun σ' H'=>∃g,σ'=[some (.ref B),some (.ref S),some (.ref st),some (.int kd),some (.ref g),some (.int (i:Int)),some (.int (j:Int)),some (.int by0),some (.int v.1),some (.int v.2)]∧H g=none∧BS H st g ds.length H') (fun N hN=>?_) ?_
  ·refine qbI (fun b H'=>H'=H_∧(b=true→i+1<ds.length)) (fun Q' hQ'=>?_) ?_
   ·refine⟨_,rfl,rfl,_,rfl,?_⟩;refine ite2 (fun c=>?_) (fun c=>hQ' _ _ ⟨rfl,fun z=>Bool.noConfusion z⟩);refine⟨_,rfl,_,_,rfl,rfl,_,rfl,B,_,rfl,.inl (SqL.of (Bk_.k _ _ Bst hB)),_,_,rfl,rfl,_,rfl,hQ' _ _ ⟨rfl,fun z=>?_⟩⟩;have:(i:Int)+1<(((ab.map V.ref).length:Nat):Int):=of_decide_eq_true z;omega
   ·rintro b H' ⟨rfl,hb⟩;cases b with
    | false=>exact iteF (hN _ _ ⟨g,rfl,g0,Bk_⟩)
    | true =>
    have hi1:=hb rfl;have gs:g≠st:=qaw S0.some g0;obtain⟨x,⟨as,hg,pr⟩,lx⟩:=Bk_.g;have la:(as.map V.ref).length=ds.length:=by rw[List.length_map,Paired.length pr,lx]
    refine iteT ⟨_,rfl,_,rfl,_,rfl,_,_,rfl,rfl,by show 2≤sizeLine;decide,fun t ht=>?_⟩;have s1:=qad ht (.tup [.int v.1,.int (v.2+by0)]);have B1:=Bk_.same s1;have hg1:=s1 _ _ hg;have pr1:Paired (PrAt (upd H' t (.tup [.int v.1,.int (v.2+by0)]))) as x:=pr.mono fun _ _ z=>s1 _ _ z
    have ht1:PrAt (upd H' t (.tup [.int v.1,.int (v.2+by0)])) t (v.1,v.2+by0):=qac;generalize upd H' t (.tup [.int v.1,.int (v.2+by0)])=H1 at B1 hg1 pr1 ht1⊢;refine⟨_,rfl,_,rfl,g,_,_,i,rfl,rfl,hg1,by rw[la];exact qbW hi,?_⟩;have tl:=Tups.lst (o:=.lst ((as.map V.ref).set i (.ref t))) hg1;have B2:=B1.put (v:=(v.1,v.2+by0)) (i:=i) g0 gs hg1 pr1 lx ht1;have hg2:upd H1 g (.lst ((as.map V.ref).set i (.ref t))) g=some (.lst ((as.set i t).map V.ref)):=by rw[qac,List.map_set]
    have pr2:=Paired.set (pr1.mono fun _ _ z=>tl _ _ z) (tl _ _ ht1) i;have lx2:(x.set i (v.1,v.2+by0)).length=ds.length:=by rw[List.length_set];exact lx
    have la2:((as.set i t).map V.ref).length=ds.length:=by rw[List.length_map,List.length_set,←List.length_map (f:=V.ref),la]
    generalize upd H1 g (.lst ((as.map V.ref).set i (.ref t)))=H2 at B2 hg2 pr2⊢;generalize x.set i (v.1,v.2+by0)=x2 at pr2 lx2;generalize as.set i t=as2 at hg2 pr2 la2;obtain⟨b,eb,hb2⟩:=pget pr2 (qbw (m:=i+1) (by rw[lx2];exact hi1));have e1:(i:Int)+1=((i+1:Nat):Int):=by omega
    have eat:atI (as2.map V.ref) ((i:Int)+1)=some (.ref b):=by rw[e1];exact qay eb
    refine⟨_,rfl,_,rfl,_,_,rfl,rfl,g,_,_,_,rfl,rfl,SqL.of hg2,eat,b,_,_,_,rfl,rfl,SqT.of hb2,rfl,_,rfl,_,_,rfl,rfl,_,rfl,_,rfl,_,_,rfl,rfl,g,_,_,_,rfl,rfl,SqL.of hg2,eat,b,_,_,_,rfl,rfl,SqT.of hb2,rfl,_,rfl,_,_,rfl,rfl,by show 2≤sizeLine;decide,fun u hu=>?_⟩;have s3:=qad hu (.tup [.int ((bsA x2 (i+1)).1+by0),.int ((bsA x2 (i+1)).2-by0)]);have B3:=B2.same s3;refine⟨_,rfl,_,rfl,_,_,rfl,rfl,g,_,_,i+1,rfl,rfl,s3 _ _ hg2,by rw[la2,e1];exact qbW hi1,?_⟩;exact hN _ _ ⟨g,rfl,g0,B3.put (v:=((bsA x2 (i+1)).1+by0,(bsA x2 (i+1)).2-by0)) g0 gs (s3 _ _ hg2) (pr2.mono fun _ _ z=>s3 _ _ z) lx2 qac⟩
  clear Bk_ g0 g;rintro σ_ H_ ⟨g,rfl,g0,Bk_⟩;refine qaV (fun σ' H'=>∃g,σ'=[some (.ref B),some (.ref S),some (.ref st),some (.int kd),some (.ref g),some (.int (i:Int)),some (.int (j:Int)),some (.int by0),some (.int v.1),some (.int v.2)]∧H g=none∧BS H st g ds.length H') (fun N hN=>?_) ?_
  ·refine⟨_,rfl,rfl,_,rfl,?_⟩;refine ite2 (fun c=>?_) (fun c=>hN _ _ ⟨g,rfl,g0,Bk_⟩);have gs:g≠st:=qaw S0.some g0;refine⟨_,rfl,st,400,rfl,Bk_.st,by decide,by decide,fun a H1 a0 a1 S1 K1=>?_⟩;have B1:=Bk_.take gs S1 K1;refine⟨_,rfl,st,400,rfl,S1,by decide,by decide,fun b H2 b0 b1 S2 K2=>?_⟩;have B2:=B1.take gs S2 K2;refine⟨by show 2≤sizeLine;decide,fun t ht=>?_⟩;have s3:=qad ht (.tup [.int a,.int b]);have B3:=B2.same s3;obtain⟨x,⟨as,hg,pr⟩,lx⟩:=B2.g;have la:(as.map V.ref).length=ds.length:=by rw[List.length_map,Paired.length pr,lx]
   refine⟨_,rfl,_,rfl,g,_,_,i,rfl,rfl,s3 _ _ hg,by rw[la];exact qbW hi,?_⟩;exact hN _ _ ⟨g,rfl,g0,B3.put (v:=(a,b)) g0 gs (s3 _ _ hg) (pr.mono fun _ _ z=>s3 _ _ z) lx qac⟩
  clear Bk_ g0 g;rintro σ_ H_ ⟨g,rfl,g0,Bk_⟩;exact⟨_,rfl,q g H_ g0 Bk_⟩
end
end K22
namespace K22
open PySem L2 Bk Gen Gd Bd Shr Sp0
abbrev sLaw:Stmt:=top 71
section
variable{P:Program}{w:World}{K:PySem.W.Frag}{mg:Str→Option Value}{base:Heap}
def qfu(K:PySem.W.Frag):Sp:=fun vs H Q _=>∃(a:Addr) (ns:List Int),vs=[.ref a]∧SqL K H a (ns.map V.int)∧ns.length≤63∧∀H',Q (.bl true) H'
theorem qeo{K:PySem.W.Frag}{H H':Hp}{a:Addr}{xs:List V}(h:SqL K H a xs)(k:∀o,H a=some o→H' a=some o):SqL K H' a xs:=by
 rcases h with(h | ⟨o,h⟩) | h
 ·exact .inl (.inl (k _ h))
 ·exact .inl (.inr ⟨o,k _ h⟩)
 ·exact .inr h
theorem qcJ{H1 H2 H3:Hp}{st:Addr}(s:Same H1 H2)(n:H1 st=none)(k:Keep1 st H2 H3):Same H1 H3:=fun b o e=>k _ _ (qar e n) (s _ _ e)
theorem scLaw:FnScope ["_law_script", "_law_book_here", "_law_looks_here", "_law_stream_here", "_law_bounds", "_law_wide", "_law_case", "_law_due", "_law_other", "_law_step"] ["_law_script"] (qag sLaw):=⟨rfl,rfl,rfl,by decide +kernel,rfl,by decide +kernel,by decide +kernel⟩
theorem ok_law{fn:Addr}{fd:FuncData}(F:Fun K "law" "law" sLaw fn fd)(T:BnX mg)(F_stream:Fx P w K mg base CX0 1 "_law_stream" ["_law_script", "_law_k"] (qen K))(F_take:Fx P w K mg base CX0 1 "_law_take" ["_law_stream_here", "_law_most"] spTake)(F_book:Fx P w K mg base CX0 10 "_law_book" ["_law_stream_here"] spBook3)(F_looks:Fx P w K mg base CX0 2 "_law_looks" ["_law_book_here", "_law_stream_here"] spLooks2)(F_drawn_bounds:Fx P w K mg base CX0 2 "_law_drawn_bounds" ["_law_book_here", "_law_stream_here"] spBounds)(F_bent:Fx P w K mg base CX0 3 "_law_bent" ["_law_book_here", "_law_spans", "_law_stream_here"] spBentS)(F_let_by:Fx P w K mg base CX0 8 "_law_let_by" ["_law_case", "_law_told", "_law_due"] spLetS)(F_all_spans:Fx P w K mg base CX0 6 "all_spans" ["book", "looks", "bounds", "wide"] spAllS):FnOk P w K mg base CX0 11 fn fd ["_law_script"] (qfu K):=by
 refine F.ok scLaw (fun vs H Q E h=>?_) (fun cdv A outer s H vs Q E hr h=>?_)
 ·obtain⟨a,ns,rfl,_⟩:=h;rfl
 ·obtain⟨a,ns,rfl,hS,h63,q⟩:=h;have hr_stream:Room 1 _:=hr.mono (by decide);have hr_take:Room 1 _:=hr.mono (by decide);have hr_looks:Room 2 _:=hr.mono (by decide);have hr_drawn_bounds:Room 2 _:=hr.mono (by decide);have hr_bent:Room 3 _:=hr.mono (by decide);have hr_let_by:Room 8 _:=hr.mono (by decide);have hr_all_spans:Room 6 _:=hr.mono (by decide);have hr_book:=hr;refine⟨_,(qab (qah (i:=1) scLaw.nd (by rfl) (by trivial) (qan F_book hr_book (by rfl) qao (qaa (qan F_stream hr_stream (by rfl) qao (qaa (pv 0) (qaa qae pa_nil))) pa_nil)))
   (qab (qah (i:=2) scLaw.nd (by rfl) (by trivial) (qan F_looks hr_looks (by rfl) qao (qaa (pv 1) (qaa (qan F_stream hr_stream (by rfl) qao (qaa (pv 0) (qaa qae pa_nil))) pa_nil))))
   (qab (qah (i:=3) scLaw.nd (by rfl) (by trivial) (qan F_stream hr_stream (by rfl) qao (qaa (pv 0) (qaa qae pa_nil))))
   (qab (qah (i:=4) scLaw.nd (by rfl) (by trivial) (qan F_drawn_bounds hr_drawn_bounds (by rfl) qao (qaa (pv 1) (qaa (pv 3) pa_nil))))
   (qab (qah (i:=5) scLaw.nd (by rfl) (by trivial) (qas op_add qae (qan F_take hr_take (by rfl) qao (qaa (pv 3) (qaa qae pa_nil)))))
   (qab (qah (i:=6) scLaw.nd (by rfl) (by trivial) (qaB (qaa (pv 1) (qaa (pv 2) (qaa (pv 4) (qaa (pv 5) pa_nil))))))
   (qab (qah (i:=7) scLaw.nd (by rfl) (by trivial) (qan F_all_spans hr_all_spans (by rfl) qao (qaa (pv 1) (qaa (pv 2) (qaa (pv 4) (qaa (pv 5) pa_nil))))))
   (qab (qaM (qca (qbX (qan F_let_by hr_let_by (by rfl) qao (qaa (pv 6) (qaa (pv 7) (qaa (pv 7) pa_nil)))))) (qaf (qat qb1)) pss_nil)
   (qab (qah (i:=8) scLaw.nd (by rfl) (by trivial) (qan F_stream hr_stream (by rfl) qao (qaa (pv 0) (qaa qae pa_nil))))
   (qab (qaM (qca (qbX (qan F_let_by hr_let_by (by rfl) qao (qaa (pv 6) (qaa (qan F_all_spans hr_all_spans (by rfl) qao (qaa (pv 1) (qaa (pv 2) (qaa (pv 4) (qaa (qas op_add qae (qan F_take hr_take (by rfl) qao (qaa (pv 8) (qaa qae pa_nil)))) pa_nil))))) (qaa (pv 7) pa_nil)))))) (qaf (qat qb1)) pss_nil)
   (qab (qaM (qca (qbX (qan F_let_by hr_let_by (by rfl) qao (qaa (pv 6) (qaa (qan F_all_spans hr_all_spans (by rfl) qao (qaa (pv 1) (qaa (pv 2) (qaa (qan F_drawn_bounds hr_drawn_bounds (by rfl) qao (qaa (pv 1) (qaa (pv 8) pa_nil))) (qaa (pv 5) pa_nil))))) (qaa (pv 7) pa_nil)))))) (qaf (qat qb1)) pss_nil)
   (qab (qaM (qca (qbX (qan F_let_by hr_let_by (by rfl) qao (qaa (pv 6) (qaa (qan F_all_spans hr_all_spans (by rfl) qao (qaa (pv 1) (qaa (qan F_looks hr_looks (by rfl) qao (qaa (pv 1) (qaa (pv 8) pa_nil))) (qaa (pv 4) (qaa (pv 5) pa_nil))))) (qaa (pv 7) pa_nil)))))) (qaf (qat qb1)) pss_nil)
   (qab (qaR PassesOwn.never (by rfl) (qaH (by rfl) T.range (qaa qae pa_nil)) (qai (i:=9) scLaw.nd (by rfl) (by trivial))
   (qaf (qaM (qca (qbX (qan F_let_by hr_let_by (by rfl) qao (qaa (pv 6) (qaa (qan F_bent hr_bent (by rfl) qao (qaa (pv 1) (qaa (pv 7) (qaa (pv 8) pa_nil)))) (qaa (pv 7) pa_nil)))))) (qaf (qat qb1)) pss_nil)))
   (qaf (qat (qan F_let_by hr_let_by (by rfl) qao (qaa (pv 6) (qaa (pv 7) (qaa (pv 7) pa_nil))))))))))))))))))),?_⟩
  refine⟨_,rfl,a,ns,0,rfl,hS,by decide,by decide,fun st H1 hst S1 s1=>?_⟩;refine⟨st,rfl,S1,fun B ds H2 bk le hB0 B2 S2 K2=>?_⟩;have s02:Same H H2:=qcJ s1 hst K2;refine⟨_,rfl,_,rfl,a,ns,1,rfl,qeo hS fun o e=>s02 _ _ e,by decide,by decide,fun st2 H3 hst2 S3 s3=>?_⟩;have somB:∃o,H2 B=some o:=by obtain⟨ab,e,_⟩:=B2;exact⟨_,e⟩
  have B3:qbd (fun b=>b≠st2) H3 B ds:=by
   obtain⟨ab,e,nd⟩:=B2;exact⟨ab,s3 _ _ e,(nd.keep (N':=fun b=>(H2 b).isSome=true) KeepN.refl fun b _ z=>z).keep s3.keep fun b n _ z=>by rw[z,hst2]at n;cases n⟩
  have Bst2:B≠st2:=by obtain⟨o,e⟩:=somB;exact qar e hst2
  refine⟨B,st2,ds,rfl,B3,Bst2,by omega,S3,fun p ls H4 hp0 lk4 ll lok S4 K4=>?_⟩;have s24:Same H2 H4:=qcJ s3 hst2 K4;refine⟨_,rfl,a,ns,2,rfl,qeo hS fun o e=>s24 _ _ (s02 _ _ e),by decide,by decide,fun st3 H5 hst3 S5 s5=>?_⟩;have B5:qbd (fun b=>b≠st3) H5 B ds:=by
   obtain⟨ab,e,nd⟩:=B2;exact⟨ab,s5 _ _ (s24 _ _ e),(nd.keep (N':=fun b=>(H2 b).isSome=true) KeepN.refl fun b _ z=>z).keep (s24.trans s5).keep fun b n _ z=>by
    obtain⟨o,eo⟩:=Option.isSome_iff_exists.mp n;rw[z]at eo;rw[s24 _ _ eo]at hst3;cases hst3⟩
  have Bst3:B≠st3:=by obtain⟨o,e⟩:=somB;exact qar (s24 _ _ e) hst3
  dsimp only[qa1];refine⟨_,rfl,_,rfl,B,st3,ds,rfl,B5,Bst3,by omega,S5,fun L bs H6 hL0 lb6 lbs bok S6 K6=>?_⟩;dsimp only[qa1];refine⟨_,rfl,st3,400,rfl,S6,by decide,by decide,fun w0 H9 w00 w01 S9 k69=>⟨_,_,rfl,rfl,?_⟩⟩;have k59:Keep1 st3 H5 H9:=K6.trans k69;have s49:Same H4 H9:=qcJ s5 hst3 k59;have s29:=s24.trans s49;have nst:∀{b:Addr} {xs:List V},H6 b=some (.tup xs)→b≠st3:=fun e z=>by
   obtain⟨x,y,e2,_⟩:=S6;rw[z,e2]at e;cases e
  have Lst:L≠st3:=qaw S5.some hL0;have I9:InS H9 B p L ds ls bs:=by
   obtain⟨ab,e,nd⟩:=B2;obtain⟨al,el,pl⟩:=lb6;exact⟨⟨ab,s29 _ _ e,nd.keep s29.keep fun _ _ _=>trivial⟩,qaA s49 lk4,⟨al,k69 _ _ Lst el,pl.mono fun _ _ z=>k69 _ _ (nst z) z⟩⟩
  have cx:Cx2 ds ls bs:=⟨by omega,book_pos bk,ll,lbs,lok,book_behind bk,bok⟩;have nk:∀(n:Nat) (d:Nd),ds[n]?=some d→d.k=.note→qav ds n=[]:=fun n d h hk=>book_note bk h hk
  have hung:=book_hung bk;have fm:=bk.form;have hS9:SqL K H9 a (ns.map V.int):=qeo hS fun o e=>s29 _ _ (s02 _ _ e)
  clear B3 B5 S1 S2 S3 S4 S5 S6 S9 K2 K4 K6 k59 k69 lb6 lk4 s49 s29 s24 s3 s5 B2 nst s02 hS s1;dsimp only[qa1];show tSeq _ _ _ [some (.ref a),some (.ref B),some (.ref p),some (.ref st3),some (.ref L),some (.int (1+w0)),none,none,none,none] H9;generalize (1+w0)=wide;refine⟨_,rfl,_,rfl,_,rfl,_,rfl,by show 4≤sizeLine;decide,fun C hC=>?_⟩;have t1:=qad hC (.lst [.ref B,.ref p,.ref L,.int wide]);have hCC:upd H9 C (.lst [.ref B,.ref p,.ref L,.int wide]) C=some (.lst [.ref B,.ref p,.ref L,.int wide]):=qac;generalize upd H9 C (.lst [.ref B,.ref p,.ref L,.int wide])=J1 at t1 hCC⊢;refine⟨_,rfl,_,rfl,_,rfl,_,rfl,B,p,L,wide,ds,ls,bs,rfl,I9.same t1,cx,fun D J2 hD t2 lD hs=>?_⟩;have t02:=t1.trans t2;have ldue:(spans ds ls bs wide).length=ds.length:=spTo_len _;have hdue:qdg ds ls bs wide (spans ds ls bs wide):=⟨qcc cx.bh cx.pos _,hs⟩;refine⟨_,rfl,_,rfl,_,rfl,C,D,D,B,p,L,wide,ds,ls,bs,_,_,rfl,t2 _ _ hCC,I9.same t02,lD,lD,ldue,ldue,hdue,cx,nk,hung,fm,fun J3 t3=>⟨_,rfl,iteF ?_⟩⟩;have t03:=t02.trans t3;have I3:=I9.same t03;have lD3:=qaK t3 lD;have hC3:=t3 _ _ (t2 _ _ hCC);have le':=cx.le;dsimp only[qa1];refine⟨_,rfl,a,ns,3,rfl,qeo hS9 fun o e=>t03 _ _ e,by decide,by decide,fun st4 J4 hst4 S4 t4=>?_⟩;have Bst:B≠st4:=by obtain⟨_,e,_⟩:=I3.bk;exact qar e hst4
  have Cst:C≠st4:=qar hC3 hst4;have Dst:D≠st4:=by obtain⟨_,e,_⟩:=lD3;exact qar e hst4
  have bk4:qbd (fun b=>b≠st4) J4 B ds:=by
   obtain⟨ab,e,nd⟩:=I3.bk;exact⟨ab,t4 _ _ e,(nd.keep (N':=fun b=>(J3 b).isSome=true) KeepN.refl fun b _ z=>z).keep t4.keep fun b n _ z=>by rw[z,hst4]at n;cases n⟩
  have base_:∀{J:Hp},Keep1 st4 J4 J→InS J B p L ds ls bs∧LstAt PrAt J D (spans ds ls bs wide)∧J C=some (.lst [.ref B,.ref p,.ref L,.int wide])∧qbd (fun b=>b≠st4) J B ds:=fun k=>by
   have s:=qcJ t4 hst4 k;refine⟨I3.same s,qaK s lD3,s _ _ hC3,?_⟩;obtain⟨ab,e,nd⟩:=bk4;exact⟨ab,k _ _ Bst e,nd.keep k fun b n _=>n⟩
  clear hCC t1 t2 t3 hC hD I9 t02 t03 hS9 bk4;dsimp only[qa1];refine⟨_,rfl,_,rfl,_,rfl,_,rfl,_,rfl,st4,400,rfl,S4,by decide,by decide,fun w2 J5 w20 w21 S5 k5=>⟨_,_,rfl,rfl,?_⟩⟩;obtain⟨I5,lD5,hC5,b5⟩:=base_ k5;refine⟨B,p,L,_,ds,ls,bs,rfl,I5,cx,fun R6 J6 hR6 t6 lR6 hs6=>?_⟩;refine⟨_,rfl,C,R6,D,B,p,L,wide,ds,ls,bs,_,_,rfl,t6 _ _ hC5,I5.same t6,lR6,qaK t6 lD5,spTo_len _,ldue,hdue,cx,nk,hung,fm,fun J7 t7=>⟨_,rfl,iteF ?_⟩⟩;have k7:=k5.trans (t6.trans t7).keep;have S7:=S5.same (t6.trans t7);obtain⟨I7,lD7,hC7,b7⟩:=base_ k7;clear I5 lD5 hC5 b5 lR6 t6 t7 k5 S5;refine⟨_,rfl,_,rfl,_,rfl,_,rfl,_,rfl,B,st4,ds,rfl,b7,Bst,by omega,S7,fun L2 bs2 J8 hL2 lb8 lbs2 bok2 S8 k8=>?_⟩;have k48:=k7.trans k8;obtain⟨I8,lD8,hC8,b8⟩:=base_ k48;have cx2:Cx2 ds ls bs2:=⟨cx.le,cx.pos,cx.ll,lbs2,cx.lk,cx.bh,bok2⟩;refine⟨_,rfl,B,p,L2,_,ds,ls,bs2,rfl,⟨I8.bk,I8.lk,lb8⟩,cx2,fun R9 J9 hR9 t9 lR9 hs9=>?_⟩;refine⟨_,rfl,C,R9,D,B,p,L,wide,ds,ls,bs,_,_,rfl,t9 _ _ hC8,I8.same t9,lR9,qaK t9 lD8,spTo_len _,ldue,hdue,cx,nk,hung,fm,fun JA tA=>⟨_,rfl,iteF ?_⟩⟩;have kA:=k48.trans (t9.trans tA).keep;have SA:=S8.same (t9.trans tA);obtain⟨IA,lDA,hCA,bA⟩:=base_ kA;clear I7 lD7 hC7 b7 I8 lD8 hC8 b8 lR9 lb8 t9 tA k48 k8 S8 k7 S7;refine⟨_,rfl,_,rfl,_,rfl,_,rfl,B,st4,ds,rfl,bA,Bst,by omega,SA,fun p2 ls2 JB hp2 lkB ll2 lok2 SB kB=>?_⟩;have k4B:=kA.trans kB;obtain⟨IB,lDB,hCB,bB⟩:=base_ k4B;have cx3:Cx2 ds ls2 bs:=⟨cx.le,cx.pos,ll2,cx.bl,lok2,cx.bh,cx.bb⟩;refine⟨_,rfl,_,rfl,B,p2,L,wide,ds,ls2,bs,rfl,⟨IB.bk,lkB,IB.bd⟩,cx3,fun RC JC hRC tC lRC hsC=>?_⟩;refine⟨_,rfl,C,RC,D,B,p,L,wide,ds,ls,bs,_,_,rfl,tC _ _ hCB,IB.same tC,lRC,qaK tC lDB,spTo_len _,ldue,hdue,cx,nk,hung,fm,fun JD tD=>⟨_,rfl,iteF ?_⟩⟩;have kD:=k4B.trans (tC.trans tD).keep;have SD:=SB.same (tC.trans tD);clear IB lDB hCB bB IA lDA hCA bA lRC lkB tC tD k4B kB SB kA SA;refine⟨9,rfl,by decide,by decide,qaN (fun i σ J=>StOk J st4∧Keep1 st4 J4 J∧∃z,σ=[some (.ref a),some (.ref B),some (.ref p),some (.ref st3),some (.ref L),some (.int wide),some (.ref C),some (.ref D),some (.ref st4),z]) ⟨SD,kD,none,rfl⟩ ?_ ?_⟩
  ·rintro i σ JE hi ⟨SE,kE,z,rfl⟩;obtain⟨IE,lDE,hCE,bE⟩:=base_ kE;refine⟨_,rfl,_,rfl,_,rfl,_,rfl,B,D,st4,ds,_,rfl,bE,Bst,lDE,Dst,ldue,cx.pos,cx.le,SE,fun X JF hX bF=>?_⟩;obtain⟨x,lX,lx⟩:=bF.g;have kF:=kE.trans bF.k;obtain⟨IF,lDF,hCF,_⟩:=base_ kF;refine⟨_,rfl,C,X,D,B,p,L,wide,ds,ls,bs,x,_,rfl,hCF,IF,lX,lDF,lx,ldue,hdue,cx,nk,hung,fm,fun JG tG=>⟨_,rfl,iteF ?_⟩⟩;exact⟨bF.st.same tG,kF.trans tG.keep,_,rfl⟩
  ·rintro σ JE ⟨SE,kE,z,rfl⟩;obtain⟨IE,lDE,hCE,bE⟩:=base_ kE;exact⟨_,rfl,_,rfl,_,rfl,C,D,D,B,p,L,wide,ds,ls,bs,_,_,rfl,hCE,IE,lDE,lDE,ldue,ldue,hdue,cx,nk,hung,fm,fun JF tF=>q _⟩
end
end K22
namespace K22
open PySem L2 Bk Gen Gd Bd
theorem qfA{K:PySem.W.Frag}{a:Addr}{od:Option Addr}{its:Array Value}{n:Nat}{sl:Array (Option Value)}{H:Hp}{vs:List V}(l:K.lookup a=some ⟨.type "tuple",od,.seq its n,sl⟩)(z:its.size≤sizeLine)(v:Vals vs its.toList):SqT K H a vs :=
 .inr ⟨_,its,n,l,rfl,rfl,z,v⟩
open PySem.W
structure At(K:Frag)(n:Str)(st:Stmt)(f:Addr)(fd:FuncData):Prop where
 a:nsIn K mainGlobals n=some (some (.ref f))
 d:FunD K n n st f fd
 f:Fun K n n st f fd
theorem at_mk{K:Frag}{n:Str}{st:Stmt}{f:Addr}{oc:Value}{od an:Option Addr}{sl:Array (Option Value)}{kV dc pm cd ct:Value}(a:nsIn K mainGlobals n=some (some (.ref f)))(l:K.lookup f=some ⟨oc,od,.func (fnOf n n (qa5 st) (qaZ st) (qag st) .none kV dc pm an cd ct),sl⟩)(e:codeIn K cd n=true)(k:keepIn K (.ref f)=true):At K n st f (fnOf n n (qa5 st) (qaZ st) (qag st) .none kV dc pm an cd ct):=⟨a,fund_mk l e k,fun_mk l e k⟩
def Bo(n:Str)(st:Stmt)(ps:List Str):Prop:=∀(kV doc pm:Value) (an:Option Addr) (cdv ct:Value) (us:List Value),us.length=ps.length→bindArgs (fnOf n n (qa5 st) (qaZ st) (qag st) .none kV doc pm an cdv ct) ⟨us,[]⟩=pure (ps.zip us)
theorem us_s{n:Nat}{us:List Value}(h:us.length=n+1):∃u r,us=u::r∧r.length=n:=by
 cases us with
 | nil=>cases h
 | cons u r=>exact⟨u,r,rfl,Nat.succ.inj h⟩
theorem bo1{n:Str}{st:Stmt}{p0:Str}(h:∀(kV doc pm:Value) (an:Option Addr) (cdv ct u0:Value),bindArgs (fnOf n n (qa5 st) (qaZ st) (qag st) .none kV doc pm an cdv ct) ⟨[u0],[]⟩=pure [(p0,u0)]):Bo n st [p0]:=fun kV doc pm an cdv ct us hl=>by
 obtain⟨u0,r0,rfl,h0⟩:=us_s hl;obtain rfl:=List.eq_nil_of_length_eq_zero h0;exact h _ _ _ _ _ _ _
theorem bo2{n:Str}{st:Stmt}{p0 p1:Str}(h:∀(kV doc pm:Value) (an:Option Addr) (cdv ct u0 u1:Value),bindArgs (fnOf n n (qa5 st) (qaZ st) (qag st) .none kV doc pm an cdv ct) ⟨[u0,u1],[]⟩=pure [(p0,u0),(p1,u1)]):Bo n st [p0,p1]:=fun kV doc pm an cdv ct us hl=>by
 obtain⟨u0,r0,rfl,h0⟩:=us_s hl;obtain⟨u1,r1,rfl,h1⟩:=us_s h0;obtain rfl:=List.eq_nil_of_length_eq_zero h1;exact h _ _ _ _ _ _ _ _
theorem bo3{n:Str}{st:Stmt}{p0 p1 p2:Str}(h:∀(kV doc pm:Value) (an:Option Addr) (cdv ct u0 u1 u2:Value),bindArgs (fnOf n n (qa5 st) (qaZ st) (qag st) .none kV doc pm an cdv ct) ⟨[u0,u1,u2],[]⟩=pure [(p0,u0),(p1,u1),(p2,u2)]):Bo n st [p0,p1,p2]:=fun kV doc pm an cdv ct us hl=>by
 obtain⟨u0,r0,rfl,h0⟩:=us_s hl;obtain⟨u1,r1,rfl,h1⟩:=us_s h0;obtain⟨u2,r2,rfl,h2⟩:=us_s h1;obtain rfl:=List.eq_nil_of_length_eq_zero h2;exact h _ _ _ _ _ _ _ _ _
theorem bo4{n:Str}{st:Stmt}{p0 p1 p2 p3:Str}(h:∀(kV doc pm:Value) (an:Option Addr) (cdv ct u0 u1 u2 u3:Value),bindArgs (fnOf n n (qa5 st) (qaZ st) (qag st) .none kV doc pm an cdv ct) ⟨[u0,u1,u2,u3],[]⟩=pure [(p0,u0),(p1,u1),(p2,u2),(p3,u3)]):Bo n st [p0,p1,p2,p3]:=fun kV doc pm an cdv ct us hl=>by
 obtain⟨u0,r0,rfl,h0⟩:=us_s hl;obtain⟨u1,r1,rfl,h1⟩:=us_s h0;obtain⟨u2,r2,rfl,h2⟩:=us_s h1;obtain⟨u3,r3,rfl,h3⟩:=us_s h2;obtain rfl:=List.eq_nil_of_length_eq_zero h3;exact h _ _ _ _ _ _ _ _ _ _
theorem bo5{n:Str}{st:Stmt}{p0 p1 p2 p3 p4:Str}(h:∀(kV doc pm:Value) (an:Option Addr) (cdv ct u0 u1 u2 u3 u4:Value),bindArgs (fnOf n n (qa5 st) (qaZ st) (qag st) .none kV doc pm an cdv ct) ⟨[u0,u1,u2,u3,u4],[]⟩=pure [(p0,u0),(p1,u1),(p2,u2),(p3,u3),(p4,u4)]):Bo n st [p0,p1,p2,p3,p4]:=fun kV doc pm an cdv ct us hl=>by
 obtain⟨u0,r0,rfl,h0⟩:=us_s hl;obtain⟨u1,r1,rfl,h1⟩:=us_s h0;obtain⟨u2,r2,rfl,h2⟩:=us_s h1;obtain⟨u3,r3,rfl,h3⟩:=us_s h2;obtain⟨u4,r4,rfl,h4⟩:=us_s h3;obtain rfl:=List.eq_nil_of_length_eq_zero h4;exact h _ _ _ _ _ _ _ _ _ _ _
theorem fx_mk{P:Program}{w:World}{K:Frag}{mg:Str→Option Value}{base h:Heap}(X:K.In h)(G:h.Ns mainGlobals mg){n:Str}{st:Stmt}{f:Addr}{fd:FuncData}{CX:CXT}{k:Nat}{ps:List Str}{sp:Sp}(A:At K n st f fd)(o:FnOk P w K mg base CX k f fd ps sp)(b:Bo n st ps:=by first | exact bo1 (by intros;rfl) | exact bo2 (by intros;rfl) | exact bo3 (by intros;rfl) | exact bo4 (by intros;rfl) | exact bo5 (by intros;rfl)):Fx P w K mg base CX k n ps sp:=⟨_,_,o,A.f.binds b,A.f.kp,mg_of X G A.a⟩
theorem fx_no{P:Program}{w:World}{K:Frag}{mg:Str→Option Value}{base h:Heap}(X:K.In h)(G:h.Ns mainGlobals mg){n:Str}{st:Stmt}{f:Addr}{fd:FuncData}{CX:CXT}{k:Nat}{ps:List Str}{sp:Sp}(A:At K n st f fd)(no:∀vs H Q E,¬sp vs H Q E)(b:Bo n st ps:=by first | exact bo1 (by intros;rfl) | exact bo2 (by intros;rfl) | exact bo3 (by intros;rfl) | exact bo4 (by intros;rfl) | exact bo5 (by intros;rfl)):Fx P w K mg base CX k n ps sp:=.none (A.f.binds b) A.f.kp (mg_of X G A.a) no
theorem all_mk{l:OpenLaw}{w:World}{K:Frag}{h:Heap}{mg:Str→Option Value}{fa f1 f2 f3 f4 f5 f6 f7 f8 f9 f10 f11 f12 f13 f14 f15 f16 f17 f18 f19 f20 f21 f22 f23 f24 f25 f26 f27 f28 f29 f30 f31 f32 f33 f34 f35 f36 f37 f38 f39 f40 f41 f42 f43 f44 f45 f46 f47 f48 f49 f50 C:Addr}{d1 d2 d3 d4 d5 d6 d7 d8 d9 d10 d11 d12 d13 d14 d15 d16 d17 d18 d19 d20 d21 d22 d23 d24 d25 d26 d27 d28 d29 d30 d31 d32 d33 d34 d35 d36 d37 d38 d39 d40 d41 d42 d43 d44 d45 d46 d47 d48 d49 d50:FuncData}(X:K.In h)(G:h.Ns mainGlobals mg)(hfa:mg "law" = some (.ref fa)){t_ELDER t_KIND t_LOW t_ROW t_COLUMN t_SPAN t_DEEP t_LEFT t_WIDE:Tok}{q_KP q_PROPERTIES:Addr}{tk_K0 tk_K1 tk_K2 tk_P0 tk_P1 tk_P2 tk_P3 tk_P4 tk_P5 tk_P6 tk_P7 tk_P8 tk_P9 tk_P10 tk_P11 tk_P12:Tok}{n_KP n_PROPERTIES_:Nat}{od_KP:Option Addr}{sl_KP sl_PROPERTIES:Array (Option Value)}(A1:At K "holds" sHolds f1 d1)(A2:At K "look_at" sLook f2 d2)(A3:At K "floor_of" sFloor f3 d3)(A4:At K "roof_of" sRoof f4 d4)(A5:At K "cells_of" sCellsOf f5 d5)(A6:At K "grid_places" sPlaces f6 d6)(A7:At K "first_place" sFirst f7 d7)(A8:At K "spots_of" sSpots f8 d8)(A9:At K "shares" sShares f9 d9)(A10:At K "common_multiple" sMult f10 d10)(A11:At K "last_level" sLast f11 d11)(A12:At K "had_below" sHad f12 d12)(A13:At K "shares_hold" sHold f13 d13)(A14:At K "went_ahead_of_all" sAheadAll f14 d14)(A15:At K "went_ahead" sAhead f15 d15)(A16:At K "spans_hold" sSpansHold f16 d16)(A17:At K "held_spans_hold" sHeldHold f17 d17)(A18:At K "all_spans" sAllS f18 d18)(A19:At K "held_spans" sHeldS f19 d19)(A20:At K "room_of" sRoom f20 d20)(A21:At K "floors_of" sFloors f21 d21)(A22:At K "roofs_of" sRoofs f22 d22)(A23:At K "weights_of" sWts f23 d23)(A24:At K "one_behind_the_other" sBehind f24 d24)(A25:At K "cell_spans" sCellSp f25 d25)(A26:At K "even_columns" sEven f26 d26)(A27:At K "aside_span" sAside f27 d27)(A28:At K "_law_stream" sStream f28 d28)(A29:At K "_law_take" sTake f29 d29)(A30:At K "_law_word" sWord f30 d30)(A31:At K "_law_pieces" sPieces f31 d31)(A32:At K "_law_add" sAdd f32 d32)(A33:At K "_law_text" sText f33 d33)(A34:At K "_law_item" sItem f34 d34)(A35:At K "_law_book" sBook f35 d35)(A36:At K "_law_held" sHeld f36 d36)(A37:At K "_law_looks" sLooks f37 d37)(A38:At K "_law_drawn_bounds" sBounds f38 d38)(A39:At K "_law_dots" sDots f39 d39)(A40:At K "_law_room" sLRoom f40 d40)(A41:At K "_law_below" sBelow f41 d41)(A42:At K "_law_beside" sBeside f42 d42)(A43:At K "_law_column" sColumn f43 d43)(A44:At K "_law_cells" sLCells f44 d44)(A45:At K "_law_right" sRight f45 d45)(A46:At K "_law_below_all" sBelowAll f46 d46)(A47:At K "_law_moved" sMoved f47 d47)(A48:At K "_law_bent" sBent f48 d48)(A49:At K "_law_let_by" sLet f49 d49)(A50:At K "law" sLaw f50 d50)(c_C:nsIn K mainGlobals "NoNode" = some (some (.ref C)))(xc:excIn K C [.type "ValueError",.type "Exception",.type "BaseException",.type "object"] "ValueError.__new__" = true)(x_KP:nsIn K mainGlobals "KINDS_OF_PIECES" = some (some (.ref q_KP)))(l_KP:K.lookup q_KP=some ⟨.type "tuple",od_KP,.seq #[.str (Str.ofString "text") tk_K0,.str (Str.ofString "head") tk_K1,.str (Str.ofString "note") tk_K2] n_KP,sl_KP⟩)(x_PROPERTIES:nsIn K mainGlobals "PROPERTIES" = some (some (.ref q_PROPERTIES)))(l_PROPERTIES:K.lookup q_PROPERTIES=some ⟨.type "tuple",none,.seq #[.str (Str.ofString "face") tk_P0,.str (Str.ofString "align") tk_P1,.str (Str.ofString "above") tk_P2,.str (Str.ofString "inset") tk_P3,.str (Str.ofString "weight") tk_P4,.str (Str.ofString "least") tk_P5,.str (Str.ofString "most") tk_P6,.str (Str.ofString "columns") tk_P7,.str (Str.ofString "span") tk_P8,.str (Str.ofString "deep") tk_P9,.str (Str.ofString "side") tk_P10,.str (Str.ofString "wide") tk_P11,.str (Str.ofString "fresh") tk_P12] n_PROPERTIES_,sl_PROPERTIES⟩)(n_isinstance:nsIn K mainGlobals "isinstance" = some none)(n_len:nsIn K mainGlobals "len" = some none)(n_range:nsIn K mainGlobals "range" = some none)(n_sorted:nsIn K mainGlobals "sorted" = some none)(n_int:nsIn K mainGlobals "int" = some none)(n_bool:nsIn K mainGlobals "bool" = some none)(n_list:nsIn K mainGlobals "list" = some none)(n_tuple:nsIn K mainGlobals "tuple" = some none)(n_str:nsIn K mainGlobals "str" = some none)(n_set:nsIn K mainGlobals "set" = some none)(n_enumerate:nsIn K mainGlobals "enumerate" = some none)(n_all:nsIn K mainGlobals "all" = some none)(n_ValueError:nsIn K mainGlobals "ValueError" = some none)(n_any:nsIn K mainGlobals "any" = some none)(n_min:nsIn K mainGlobals "min" = some none)(n_max:nsIn K mainGlobals "max" = some none)(n_sum:nsIn K mainGlobals "sum" = some none)(n_zip:nsIn K mainGlobals "zip" = some none)(i_ELDER:nsIn K mainGlobals "ELDER" = some (some (.int 0 t_ELDER)))(i_KIND:nsIn K mainGlobals "KIND" = some (some (.int 1 t_KIND)))(i_LOW:nsIn K mainGlobals "LOW" = some (some (.int 0 t_LOW)))(i_ROW:nsIn K mainGlobals "ROW" = some (some (.int 0 t_ROW)))(i_COLUMN:nsIn K mainGlobals "COLUMN" = some (some (.int 1 t_COLUMN)))(i_SPAN:nsIn K mainGlobals "SPAN" = some (some (.int 2 t_SPAN)))(i_DEEP:nsIn K mainGlobals "DEEP" = some (some (.int 3 t_DEEP)))(i_LEFT:nsIn K mainGlobals "LEFT" = some (some (.int 0 t_LEFT)))(i_WIDE:nsIn K mainGlobals "WIDE" = some (some (.int 1 t_WIDE))): ∃fd:FuncData,(∀(s:Shared) (v:Value),BindsTo s fd ⟨[v],[]⟩ [("_law_script",v)])∧∀base:Heap,K.In base→base.Ns mainGlobals mg→FnOk l.prog w K mg base CX0 11 fa fd ["_law_script"] (qfu K):=by
 have e0:=hfa.symm.trans (mg_of X G A50.a);cases e0;have m_C:=mg_of X G c_C;have z_isinstance:=mg_none_of X G n_isinstance;have z_len:=mg_none_of X G n_len;have z_range:=mg_none_of X G n_range;have z_sorted:=mg_none_of X G n_sorted;have z_int:=mg_none_of X G n_int;have z_bool:=mg_none_of X G n_bool;have z_list:=mg_none_of X G n_list;have z_tuple:=mg_none_of X G n_tuple;have z_str:=mg_none_of X G n_str;have z_set:=mg_none_of X G n_set;have z_enumerate:=mg_none_of X G n_enumerate;have z_all:=mg_none_of X G n_all;have z_ValueError:=mg_none_of X G n_ValueError;have z_any:=mg_none_of X G n_any;have z_min:=mg_none_of X G n_min;have z_max:=mg_none_of X G n_max;have z_sum:=mg_none_of X G n_sum;have z_zip:=mg_none_of X G n_zip;have j_ELDER:=mg_of X G i_ELDER;have j_KIND:=mg_of X G i_KIND;have j_LOW:=mg_of X G i_LOW;have j_ROW:=mg_of X G i_ROW;have j_COLUMN:=mg_of X G i_COLUMN;have j_SPAN:=mg_of X G i_SPAN;have j_DEEP:=mg_of X G i_DEEP;have j_LEFT:=mg_of X G i_LEFT;have j_WIDE:=mg_of X G i_WIDE;have T:BnX mg:=⟨⟨z_isinstance,z_len,z_range,z_sorted,z_int,z_bool,z_list,z_tuple,z_str,z_set,z_enumerate,z_all,z_ValueError⟩,z_any,z_min,z_max,z_sum,z_zip⟩;have TS:Shr.BnS mg:=⟨T.isinstance,T.len,T.range,T.int,T.bool,T.list,T.min,T.max,T.sum,T.zip,T.enumerate,T.sorted,T.all⟩;have TG:BnG mg:=⟨T.isinstance,T.len,T.range,T.int,T.bool,T.list,T.tuple,T.any,T.min,T.max,T.sum,T.zip⟩;have U:Sp0.NumsS mg:=⟨⟨_,j_KIND⟩,⟨_,j_LOW⟩,⟨_,j_LEFT⟩,⟨_,j_WIDE⟩,⟨_,j_COLUMN⟩,⟨_,j_SPAN⟩⟩;have UG:NumsG mg:=⟨⟨_,j_ROW⟩,⟨_,j_COLUMN⟩,⟨_,j_SPAN⟩,⟨_,j_DEEP⟩⟩;have KP0:∀H:Hp,SqT K H q_KP (Sp0.pieceKinds.map V.str):=fun H=>qfA (vs:=Sp0.pieceKinds.map V.str) l_KP (by show 3≤sizeLine;decide) (.cons ⟨_,rfl⟩ (.cons ⟨_,rfl⟩ (.cons ⟨_,rfl⟩ (.nil))))
 have mg_KP:=mg_of X G x_KP;have PT:PropT K q_PROPERTIES:=⟨fun H=>qfA (vs:=propNames.map V.str) l_PROPERTIES (by show 13≤sizeLine;decide) (.cons ⟨_,rfl⟩ (.cons ⟨_,rfl⟩ (.cons ⟨_,rfl⟩ (.cons ⟨_,rfl⟩ (.cons ⟨_,rfl⟩ (.cons ⟨_,rfl⟩ (.cons ⟨_,rfl⟩ (.cons ⟨_,rfl⟩ (.cons ⟨_,rfl⟩ (.cons ⟨_,rfl⟩ (.cons ⟨_,rfl⟩ (.cons ⟨_,rfl⟩ (.cons ⟨_,rfl⟩ (.nil)))))))))))))),⟨_,l_PROPERTIES,rfl,rfl⟩⟩;have mg_PROPERTIES:=mg_of X G x_PROPERTIES;obtain⟨_,_,_,_,_,_,_,_,_,e,_⟩:=A50.f.ex;refine⟨d50,fun s v=>by rw[e];exact .of_eq rfl,fun base KB GB=>?_⟩;have fx:=@fx_mk l.prog w K mg base h X G;have O:=own_at KB GB c_C xc;have x28:=fx A28 (ok_stream A28.f T.toBn);have x29:=fx A29 (ok_take A29.f);have x30:=fx A30 (ok_word A30.f T.toBn x29);have x31:=fx A31 (ok_pieces A31.f T.toBn x29 x30);have x32:=fx A32 (ok_add A32.f T.toBn);have x33:=fx A33 (ok_text A33.f T.toBn x29 x31 x32);have X_item0:Fx l.prog w K mg base CX0 (5+0) "_law_item" ["_law_nodes", "_law_elder", "_law_level", "_law_stream_here"] (qbK 0):=fx_no X G A34 item2_none;have X_item1:Fx l.prog w K mg base CX0 (5+1) "_law_item" ["_law_nodes", "_law_elder", "_law_level", "_law_stream_here"] (qbK 1):=fx A34 (qdn A34.f T.toBn x29 x32 x33 X_item0);have X_item2:Fx l.prog w K mg base CX0 (5+2) "_law_item" ["_law_nodes", "_law_elder", "_law_level", "_law_stream_here"] (qbK 2):=fx A34 (qdn A34.f T.toBn x29 x32 x33 X_item1);have X_item3:Fx l.prog w K mg base CX0 (5+3) "_law_item" ["_law_nodes", "_law_elder", "_law_level", "_law_stream_here"] (qbK 3):=fx A34 (qdn A34.f T.toBn x29 x32 x33 X_item2);have X_item4:Fx l.prog w K mg base CX0 (5+4) "_law_item" ["_law_nodes", "_law_elder", "_law_level", "_law_stream_here"] (qbK 4):=fx A34 (qdn A34.f T.toBn x29 x32 x33 X_item3);have x35:=fx A35 (ok_book A35.f T.toBn x29 x32 X_item4);have x1:=fx A1 (ok_holds A1.d T.toBn ⟨_,j_ELDER⟩ O PySem.F.excBase_ValueError);have x2:=fx A2 (ok_look_at A2.f mg_PROPERTIES PT);have x3:=fx A3 (ok_floor_of A3.f T U x2);have x4:=fx A4 (ok_roof_of A4.f T x2 x3);have x5:=fx A5 (ok_cells_of A5.f x2);have x8:=fx A8 (ok_spots_of A8.f TG UG);have x7:=fx A7 (ok_first_place A7.f TG x8);have x6:=fx A6 (ok_grid_places A6.f TG x8 x7);have x12:=fx A12 (ok_had_below A12.f TS);have x10:=fx A10 (ok_common_multiple A10.f);have x11:=fx A11 (ok_last_level A11.f TS x12);have x9:=fx A9 (ok_shares A9.f TS x10 x11 x12);have x20:=fx A20 (ok_room_of A20.f T U x2);have x21:=fx A21 (ok_floors_of A21.f x3);have x22:=fx A22 (ok_roofs_of A22.f x4);have x23:=fx A23 (ok_weights_of A23.f x2);have x24:=fx A24 (ok_one_behind_the_other A24.f T);have x26:=fx A26 (ok_even_columns A26.f T);have x25:=fx A25 (ok_cell_spans A25.f T U x26 x6);have x27:=fx A27 (ok_aside_span A27.f T U x2);have x19:=fx A19 (ok_held_spans A19.f T U mg_KP KP0 x1 x2 x20 x21 x22 x23 x9 x24 x5 x25 x27);have x18:=fx A18 (ok_all_spans A18.f T x1 x19);have x15:=fx A15 (ok_went_ahead A15.f);have x14:=fx A14 (ok_went_ahead_of_all A14.f TS x15);have x13:=fx A13 (ok_shares_hold A13.f TS x14);have x17:=fx A17 (ok_held_spans_hold A17.f T U x1 x19 x20 x21 x22 x23 x13 x24);have x16:=fx A16 (ok_spans_hold A16.f T x17);have x36:=fx A36 (ok_held A36.f T);have x37:=fx A37 (ok_looks A37.f T x29);have x38:=fx A38 (ok_drawn_bounds A38.f T x29);have x39:=fx A39 (ok_dots A39.f TS);have x40:=fx A40 (ok_room A40.f T);have x41:=fx A41 (ok_below A41.f T);have x42:=fx A42 (ok_beside A42.f T x39);have x43:=fx A43 (ok_column A43.f T);have x44:=fx A44 (ok_cells A44.f T x43);have x45:=fx A45 (ok_right A45.f T x36 x40 x41 x42 x44);have x46:=fx A46 (ok_below_all A46.f T);have x47:=fx A47 (ok_moved A47.f T x46);have x48:=fx A48 (ok_bent A48.f T x29 x47);have x49:=fx A49 (ok_let_by A49.f T x16 x45);exact ok_law A50.f T x28 x29 x35 x37 x38 x48 x49 x18
theorem walk{l:OpenLaw}{q:Program}{loose:List Str}{XP:(Str→Option Value)→Heap→Prop}{YP:World→Heap→Prop}{d:DefRec}{K:Params→Frag}(hn:l.most=some 63)(hdf:d.params.defaults=[])(hY:∀(w:World) (h:Heap),YP w h→(K w.params).In h)(F:∀(w:World) (mg:Str→Option Value) (fa:Addr) (h:Heap),(K w.params).In h→h.Ns mainGlobals mg→mg d.name=some (.ref fa) →
   ∃fd:FuncData,(∀(s:Shared) (u:Value),BindsTo s fd ⟨[u],[]⟩ [("_law_script",u)])∧∀base:Heap,(K w.params).In base→base.Ns mainGlobals mg→FnOk l.prog w (K w.params) mg base CX0 11 fa fd ["_law_script"] (qfu (K w.params))) :
  WalkO q loose XP YP l.row.toRowW d [] (fun f vs=>PySem.call f vs) :=
 L2.walk_of (n:=63) (k:=11) (x := "_law_script") (CX:=fun _=>CX0) (sp:=fun w=>qfu (K w.params)) hn (by decide) hdf ⟨rfl,by decide,by decide⟩ hY F (fun _ _ a ns hl _ hS=>⟨a,ns,rfl,hS,hl,fun _=>rfl⟩) fun _ _ _ _ _ z=>z
end K22
namespace PySem.W.Fast
theorem te17314274161548704806:True:=trivial
def tw17314274161548704806:Unit:=()
def tw10290151551563204854:PySem.Program:=PySem.Challenge.pw_leafpress_k22_whole_spans_hold
theorem te10290151551563204854:PySem.Challenge.pw_leafpress_k22_whole_spans_hold=tw10290151551563204854:=rfl
def tw1247403310055642168:=()
def tw16932199391653636267:=()
def tw14537175813758160162:=()
def tw17124773934271234510:=()
def tw586797541501716959:=()
def tw35048579213651185:=()
def tw4651011921858663548:=()
def tw8000086067236010637:=()
def tw16715155798475648655:=()
def tw13245974094425769485:=()
def tw1136293206911411836:=()
def tw5907308289082657522:=()
def tw8326876130780171193:=()
def tw10387675153176901710:=()
def tw10402088772966215894:=()
def tw1503794257035828737:=()
def tw13524644665582921220:=()
def tw100644417664490001:=()
def tw11303305388478007357:=()
def tw5188391950186430338:=()
def tw11582477122511208158:=()
def tw14874621002149297805:=()
def tw8477949180323478632:=()
def tw7605925985724725905:=()
def tw12042059969244581560:=()
def tw18283172638026559978:=()
def tw17777204101720474671:=()
def tw1904767764242786503:=()
def tw14910485776753274806:=()
def tw9125224328179030955:=()
def tw13229495689711908663:=()
def tw10670887306968084597:=()
def tw3361348833776469730:=()
def tw5836898621284292355:=()
def tw3664871448856013279:=()
def tw8921025171808952177:=()
def tw3448236924801149851:=()
def tw6396553847252176784:=()
def tw8119409530556787239:=()
def tw12354882341518115149:=()
def tw16444775353779658441:=()
def tw4744123411549814505:=()
def tw7899898672193649640:=()
def tw15040497775558173472:=()
def tw880541540915571990:=()
def tw5400070223539776826:=()
def tw6943232001603263716:=()
def tw11704169134488948616:=()
def tw10040637431465891616:=()
def tw6650125288828199428:=()
def tw12319007109680395446:=()
def tw3904930250868202222:=()
def tw17503904425039046680:=()
def tw7158774523753654486:=()
def tw15576414708738113677:=()
def tw1577413796989888423:=()
def tw14847266460896227981:=()
def tw11473790587700241181:=()
def tw11193567587301241298:=()
def tw9598484949828456824:=()
def tw401665645264940203:=()
def tw11977751433900190710:=()
def tw7266192503718159130:=()
def tw2188609116929092635:=()
def tw6090019079348978329:=()
def tw11159496826423788778:=()
def tw17058145304668429571:=()
def tw4325669523985350030:=()
def tw11534390913746326836:=()
def tw15007032974852543053:=()
def tw16667795118786341950:=()
def tw5241636755954503614:=()
def tw11320289860800513385:=()
def tw10250177400128146314:=()
def tw9105945102010823133:=()
def tw9251594794756357186:=()
def tw17755228806195060271:=()
def tw13899242908180404122:=()
def tw2710025348989038918:=()
def tw9846347447734329359:=()
def tw11088088755226570217:=()
def tw2793998796169259090:=()
def tw9488908800408342696:=()
def tw6265513798322853426:=()
def tw11503344701744981612:=()
def tw14916447556342811123:=()
def tw17181075977268578667:=()
def tw4153191756737282198:=()
def tw17101973861343572935:=()
def tw2892577955054961888:=()
def tw6652561943132958674:=()
def tw4690812750944042171:=()
def tw1691008260329481843:=()
def tw1741638102728721327:=()
def tw12142944491399026650:=()
def tw8615830026895200180:=()
def tw12826577967128362440:=()
def tw8150733429650751394:=()
def tw11527485911362074141:=()
def tw11308018157716425453:=()
def tw17752039992722708699:=()
def tw193166428436314710:=()
def tw12255626529711381914:=()
def tw3527887205784852925:=()
def tw8811041171319076688:=()
def tw4208101282441202087:=()
def tw6562047088413874026:=()
def tw18235536417952994504:=()
def tw13334203920936966799:=()
def tw3011480860431576327:=()
def tw16490527823285201570:=()
def tw4168861085788373238:=()
def tw2927716225656143267:=()
def tw17408985813447269781:=()
def tw17865486559819129893:=()
def tw13106349169241789721:=()
def tw11156823387310845960:=()
def tw16831265577701953264:=()
def tw11307591435359187639:=()
def tw1318863508034603072:=()
def tw10659485469359322538:=()
def tw637184769738463870:=()
def tw4317271426025708071:=()
def tw9148297516060033086:=()
def tw13464201717728363089:=()
def tw3126660003563669900:=()
def tw442049596206175488:=()
def tw18223979527846085418:=()
def tw5157461155617515668:=()
def tw8028367351819060747:=()
def tw17953435411002202067:=()
def tw11900407791531024210:=()
def tw7314570600858217454:=()
def tw9936640280752981392:=()
def tw475194610497294489:=()
def tw7279718885570146025:=()
def tw572505248656617121:=()
def tw13478124741388868557:=()
def tw291439807205036295:=()
def tw7082435122370801419:=()
def tw9113478402653235325:=()
def tw15340021668015275959:=()
def tw765534308537171173:=()
def tw13691705378132499994:=()
def tw14556755342756456250:=()
def tw9003341753678682215:=()
def tw17672427610444105742:=()
def tw16053468062732027740:=()
end PySem.W.Fast
open PySem PySem.W PyProof.Rows
local macro_rules | `(tactic| trivial)=>`(tactic| (refine' K22.at_mk ?a ?l ?e ?k;(case a=>k_is);(case l=>k_is);(case e=>k_is);(case k=>k_is)))
set_option maxRecDepth 100000 in
set_option maxHeartbeats 0 in
theorem PySem.Challenge.cw_leafpress_k22_whole_spans_hold_holds : PySem.Challenge.rw_leafpress_k22_whole_spans_hold.Holds := by
 w_on;o_law;k_head;(case hw=>w_witness2)
 k_fill
 refine K22.walk (l:=PySem.Challenge.rw_leafpress_k22_whole_spans_hold) rfl rfl (fun w h Y=>PySem.W.kIn_of Y) ?F
 case F =>
  intro w mg fa h KX G hmg;refine' K22.all_mk KX G hmg ?A1 ?A2 ?A3 ?A4 ?A5 ?A6 ?A7 ?A8 ?A9 ?A10 ?A11 ?A12 ?A13 ?A14 ?A15 ?A16 ?A17 ?A18 ?A19 ?A20 ?A21 ?A22 ?A23 ?A24 ?A25 ?A26 ?A27 ?A28 ?A29 ?A30 ?A31 ?A32 ?A33 ?A34 ?A35 ?A36 ?A37 ?A38 ?A39 ?A40 ?A41 ?A42 ?A43 ?A44 ?A45 ?A46 ?A47 ?A48 ?A49 ?A50 ?c_C ?xc ?x_KP ?l_KP ?x_PROPERTIES ?l_PROPERTIES ?n_isinstance ?n_len ?n_range ?n_sorted ?n_int ?n_bool ?n_list ?n_tuple ?n_str ?n_set ?n_enumerate ?n_all ?n_ValueError ?n_any ?n_min ?n_max ?n_sum ?n_zip ?i_ELDER ?i_KIND ?i_LOW ?i_ROW ?i_COLUMN ?i_SPAN ?i_DEEP ?i_LEFT ?i_WIDE
  (case A1=>trivial)
  (case A2=>trivial)
  (case A3=>trivial)
  (case A4=>trivial)
  (case A5=>trivial)
  (case A6=>trivial)
  (case A7=>trivial)
  (case A8=>trivial)
  (case A9=>trivial)
  (case A10=>trivial)
  (case A11=>trivial)
  (case A12=>trivial)
  (case A13=>trivial)
  (case A14=>trivial)
  (case A15=>trivial)
  (case A16=>trivial)
  (case A17=>trivial)
  (case A18=>trivial)
  (case A19=>trivial)
  (case A20=>trivial)
  (case A21=>trivial)
  (case A22=>trivial)
  (case A23=>trivial)
  (case A24=>trivial)
  (case A25=>trivial)
  (case A26=>trivial)
  (case A27=>trivial)
  (case A28=>trivial)
  (case A29=>trivial)
  (case A30=>trivial)
  (case A31=>trivial)
  (case A32=>trivial)
  (case A33=>trivial)
  (case A34=>trivial)
  (case A35=>trivial)
  (case A36=>trivial)
  (case A37=>trivial)
  (case A38=>trivial)
  (case A39=>trivial)
  (case A40=>trivial)
  (case A41=>trivial)
  (case A42=>trivial)
  (case A43=>trivial)
  (case A44=>trivial)
  (case A45=>trivial)
  (case A46=>trivial)
  (case A47=>trivial)
  (case A48=>trivial)
  (case A49=>trivial)
  (case A50=>trivial)
  (case c_C=>k_is)
  (case xc=>k_exc)
  (case x_KP=>k_is)
  (case l_KP=>k_is)
  (case x_PROPERTIES=>k_is)
  (case l_PROPERTIES=>k_is)
  (case n_isinstance=>k_is)
  (case n_len=>k_is)
  (case n_range=>k_is)
  (case n_sorted=>k_is)
  (case n_int=>k_is)
  (case n_bool=>k_is)
  (case n_list=>k_is)
  (case n_tuple=>k_is)
  (case n_str=>k_is)
  (case n_set=>k_is)
  (case n_enumerate=>k_is)
  (case n_all=>k_is)
  (case n_ValueError=>k_is)
  (case n_any=>k_is)
  (case n_min=>k_is)
  (case n_max=>k_is)
  (case n_sum=>k_is)
  (case n_zip=>k_is)
  (case i_ELDER=>k_is)
  (case i_KIND=>k_is)
  (case i_LOW=>k_is)
  (case i_ROW=>k_is)
  (case i_COLUMN=>k_is)
  (case i_SPAN=>k_is)
  (case i_DEEP=>k_is)
  (case i_LEFT=>k_is)
  (case i_WIDE=>k_is)
