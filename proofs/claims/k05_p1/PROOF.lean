import PyProof.Rows.All
import Wide.All
import OpenK.AllK
import Wide.FinOn
import Lean
import PyProof.EqAt
import PyProof.EqKinds
import PyProof.TupleCall
import KE.KEqDat
import PyProof.CompMap
import PyProof.WalksEnum
import PyProof.EnumMake
import PyProof.Draws
import PyProof.Rows.SetFrom
import PyProof.SetKind
import PyProof.WalksS
import PyProof.CollectWalk
import PyProof.FactsAll.set_1
import PyProof.DictIter
import PyProof.TupleIter
import PyProof.FactsAll.set_2
import PyProof.Rows.SortStr
import PyProof.StrBlockH
import PyProof.Rows.StrClose
import PyProof.FitsInt
import PyProof.Rows.FStr
import PyProof.StrLoop
import PyProof.StrWalks
import PyProof.StrLawsIn
import PyProof.ListRange
import PyProof.ZipIter
import PyProof.DictRoads
import PyProof.DictList
import PyProof.StrOps2
import PyProof.StrCalls2
import PyProof.Rows.StrJoin2
import PyProof.StrLaws
import PyProof.SeqI3
import PyProof.WalkInts
import PyProof.Rows.CallKwBuiltin
import PyProof.FactsAll.tuple_2
import PyProof.FactsAll.tuple_3
import PyProof.TupleKey
import PyProof.FactsAll.tuple_0
import PyProof.Rows.Range3
import PyProof.SumAny
import KE.KUnpack
import PySem.Challenge.RW_leafpress_k05_books_refused
local macro_rules | `(tactic| omega) => `(tactic| lia)
local macro_rules | `(tactic| trivial) => `(tactic| first | exact Or.inl (by rfl) | exact Or.inr (by rfl))
noncomputable section
set_option Elab.async false
set_option linter.all false
set_option maxRecDepth 100000
namespace L2
open PySem PySem.Spec PyProof.Rows
abbrev Key:=Sum Int Str
def keyIs:Key→Value→Bool
 | .inl k,v=>Value.isInt k v
 | .inr x,v=>Value.isStrOf x v
def keyH(w:World):Key→Int
 | .inl k=>hashInt k
 | .inr x=>hashStr w x
theorem keyIs_shape:∀{k:Key} {v:Value},keyIs k v=true→(∃i t,k=Sum.inl i∧v=Value.int i t)∨(∃x t,k=Sum.inr x∧v=Value.str x t)
 | .inl i, v, h => by
   obtain⟨t,e⟩:=Value.isInt_shape (k:=i) (v:=v) h
   exact .inl ⟨i,t,rfl,e⟩
 | .inr x, v, h => by
   obtain⟨t,e⟩:=Value.isStrOf_shape (x:=x) (v:=v) h
   exact .inr ⟨x,t,rfl,e⟩
theorem keyIs_str(x:Str)(t:Tok):keyIs (.inr x) (.str x t)=true:=by simp[keyIs,Value.isStrOf]
theorem key_ll(a b:Int):decide ((Sum.inl a:Key)=Sum.inl b)=(a == b):=by
 by_cases e:a=b
 ·subst e;simp
 ·have h:¬(Sum.inl a:Key)=Sum.inl b:=fun q=>e (Sum.inl.inj q)
  rw[decide_eq_false h];exact(beq_eq_false_iff_ne.mpr e).symm
theorem key_rr(a b:Str):decide ((Sum.inr a:Key)=Sum.inr b)=decide (a=b):=by
 by_cases e:a=b
 ·subst e;simp
 ·have h:¬(Sum.inr a:Key)=Sum.inr b:=fun q=>e (Sum.inr.inj q)
  rw[decide_eq_false h,decide_eq_false e]
theorem key_lr(a:Int)(b:Str):decide ((Sum.inl a:Key)=Sum.inr b)=false:=decide_eq_false (fun q=>nomatch q)
theorem key_rl(a:Str)(b:Int):decide ((Sum.inr a:Key)=Sum.inl b)=false:=decide_eq_false (fun q=>nomatch q)
def qbH(prog:Program)(w:World):PySem.KeyKind prog w Key where
 is:=keyIs
 hash:=keyH w
 inj:=fun v a b ha hb=>by
  rcases keyIs_shape ha with⟨i,t,rfl,rfl⟩ | ⟨x,t,rfl,rfl⟩
  ·rcases keyIs_shape hb with⟨j,u,rfl,e⟩ | ⟨y,u,rfl,e⟩
   ·injection e with e1 _;rw[e1]
   ·exact nomatch e
  ·rcases keyIs_shape hb with⟨j,u,rfl,e⟩ | ⟨y,u,rfl,e⟩
   ·exact nomatch e
   ·injection e with e1 _;rw[e1]
 byValue:=fun k v h=>by
  rcases keyIs_shape h with⟨i,t,rfl,rfl⟩ | ⟨x,t,rfl,rfl⟩<;>rfl
 pyHash:=fun hv h=>by
  rcases keyIs_shape hv with⟨i,t,rfl,rfl⟩ | ⟨x,t,rfl,rfl⟩
  ·exact wpAny_pyHash_int h
  ·exact wpAny_pyHash_str h
 eqBool:=fun hu hv h=>by
  rcases keyIs_shape hu with⟨i,t,rfl,rfl⟩ | ⟨x,t,rfl,rfl⟩
  ·rcases keyIs_shape hv with⟨j,u,rfl,rfl⟩ | ⟨y,u,rfl,rfl⟩
   ·rw[key_ll]at h;exact wpAny_eqBool_int h
   ·rw[key_lr]at h;exact SeqAt.EqAt.int_str i t y u _ _ _ _ h
  ·rcases keyIs_shape hv with⟨j,u,rfl,rfl⟩ | ⟨y,u,rfl,rfl⟩
   ·rw[key_rl]at h;exact SeqAt.EqAt.str_int x t j u _ _ _ _ h
   ·rw[key_rr]at h;exact wpAny_eqBool_str h
 «strs»:=fun k x t v h=>by
  rcases keyIs_shape h with⟨i,u,rfl,e⟩ | ⟨y,u,rfl,e⟩
  ·exact nomatch e
  ·injection e with e1 _
   subst e1;cases v<;>rfl
theorem qaO(prog:Program)(w:World)(x:Str)(t:Tok):(qbH prog w).is (.inr x) (.str x t)=true:=keyIs_str x t
end L2
namespace L2
open PySem PySem.Spec PyProof.Rows
inductive V where
 | non | bl (b:Bool) | int (i:Int) | str (x:Str) | byt (b:Array UInt8) | flt (b:UInt64) | ref (a:Addr) | ty (n:String)
 deriving DecidableEq
def RelV:V→Value→Prop
 | .non,u=>u=Value.none
 | .bl b,u=>u=Value.bool b
 | .int i,u=>∃t,u=Value.int i t
 | .str x,u=>∃t,u=Value.str x t
 | .byt b,u=>∃t,u=Value.bytes b t
 | .flt b,u=>∃t,u=Value.float b t
 | .ref a,u=>u=Value.ref a
 | .ty n,u=>u=Value.type n
abbrev Vals:List V→List Value→Prop:=Paired RelV
theorem Vals.length{xs:List V}{us:List Value}(r:Vals xs us):xs.length=us.length:=Paired.length r
theorem Vals.get:∀{xs:List V} {us:List Value} {i:Nat} {x:V},Vals xs us→xs[i]?=some x→∃u,us[i]?=some u∧RelV x u
 | _,_,_,_,.nil,e=>by simp at e
 | _,_,0,_,.cons r _,e=>by simp at e;subst e;exact⟨_,rfl,r⟩
 | _, _, i + 1, x, .cons _ t, e => by
   obtain⟨u,h1,h2⟩:=Vals.get (i:=i) (x:=x) t (by simpa using e)
   exact⟨u,by simpa using h1,h2⟩
theorem Vals.set{x:V}{u:Value}(r:RelV x u):∀{xs:List V} {us:List Value} (i:Nat),Vals xs us→Vals (xs.set i x) (us.set i u)
 | _,_,_,.nil=>.nil
 | _,_,0,.cons _ t=>.cons r t
 | _,_,i+1,.cons q t=>.cons q (Vals.set r i t)
theorem Vals.append:∀{xs ys:List V} {us ws:List Value},Vals xs us→Vals ys ws→Vals (xs++ys) (us++ws)
 | _,_,_,_,.nil,s=>s
 | _,_,_,_,.cons r t,s=>.cons r (Vals.append t s)
theorem Vals.take:∀{xs:List V} {us:List Value} (n:Nat),Vals xs us→Vals (xs.take n) (us.take n)
 | _,_,0,_=>.nil
 | _,_,_+1,.nil=>.nil
 | _,_,n+1,.cons r t=>.cons r (Vals.take n t)
theorem Vals.drop:∀{xs:List V} {us:List Value} (n:Nat),Vals xs us→Vals (xs.drop n) (us.drop n)
 | _,_,0,r=>r
 | _,_,_+1,.nil=>.nil
 | _,_,n+1,.cons _ t=>Vals.drop n t
def RelO:Option V→Option Value→Prop
 | some v,some u=>RelV v u
 | none,none=>True
 | _,_=>False
def KV{κ:Type}:List (κ×V)→List (κ×Value)→Prop:=Paired fun(p:κ×V) (q:κ×Value)=>p.1=q.1∧RelV p.2 q.2
def kV:Key→V
 | .inl i=>.int i
 | .inr x=>.str x
inductive HO where
 | lst (xs:List V)
 | tup (xs:List V)
 | dK (kvs:List (Key×V)) | dT (kvs:List (List Key×V))
 | set (S:Int→Bool) (n:Nat)
 | ins (C dx:Addr) (fs:List (Str×V))
 | own (x:Addr)
 | xd (fs:List (Str×V))
 | met (f x:Addr)
 | rng (lo hi:Int)
 | frz (o:Obj) (u:HO)
 | tbl (ps:Array Value)
 | ext (φ:Heap→Prop)
abbrev Hp:=Addr→Option HO
def upd(H:Hp)(a:Addr)(o:HO):Hp:=fun b=>if b=a then some o else H b
theorem qad{H:Hp}{a:Addr}{o:HO}:upd H a o a=some o:=by unfold upd;rw[if_pos rfl]
theorem qax{H:Hp}{a b:Addr}{o:HO}(h:b≠a):upd H a o b=H b:=by unfold upd;rw[if_neg h]
theorem ne_of{H:Hp}{a b:Addr}{o u:HO}(h:H a=some o)(h':H b=some u)(d:o≠u):a≠b:=by
 intro e;subst e;rw[h]at h';exact d (Option.some.inj h')
theorem qar{H:Hp}{a b:Addr}{o:HO}(h:H a=some o)(h':H b=none):a≠b:=by
 intro e;subst e;rw[h]at h';cases h'
section
variable(P:Program)(w:World)
def ObjOk(H:Hp)(h:Heap)(a:Addr):HO→Prop
 | .lst xs=>xs.length≤sizeLine∧∃(its:List Value) (n:Nat),Vals xs its∧h.get? a=some {cls:=.type "list",data:=.seq its.toArray n}
 | .tup xs=>xs.length≤sizeLine∧∃its:List Value,Vals xs its∧IsTup h a its.toArray
 | .dK kvs=>kvs.length≤sizeLine∧(a == sysModules)=false∧∃vs,KV kvs vs∧h.DictOf (qbH P w) a vs
 | .dT kvs=>kvs.length≤sizeLine∧(a == sysModules)=false∧∃xs:List (List Key×Addr×Value),
   Paired (fun(p:List Key×V) (q:List Key×Addr×Value)=>p.1=q.1∧H q.2.1=some (.tup (p.1.map kV))∧RelV p.2 q.2.2) kvs xs ∧
   ∃o es ep,h.get? a=some o∧o.ExactDict∧o.data=.dict es ep∧es.toList=xs.map (entryOfKey (tupleKind (qbH P w)))∧(xs.map (·.1)).Nodup
 | .set S n=>h.SetOf (intKind P w) a S n
 | .ins C dx fs=>H dx=some (.own a)∧fs.length≤1000∧dx≠a∧h.get? a=some (PySem.W.instObj C dx) ∧
   ∃mA,h.Ns1 dx mA∧(∀f,RelO (fs.lookup f) (mA f))∧PySem.Within mA (fs.map (·.1))
 | .own _=>∃o,h.get? a=some o
 | .xd fs=>∃mA,h.Ns1 a mA∧∀f,RelO (fs.lookup f) (mA f)
 | .rng lo hi=>∃t u v,h.get? a=some {cls:=.type "range",data:=.fields #[.int lo t,.int hi u,.int 1 v]}
 | .frz o u=>h.get? a=some o∧ObjOk H h a u
 | .tbl ps=>h.get? a=some {cls:=.none,data:=.fields ps}
 | .met f x=>h.get? a=some (PySem.W.methodObj (.ref f) (.ref x))
 | .ext φ=>φ h∧(∃o,h.get? a=some o)∧∀h1 h2:Heap,φ h1→(∀o,h1.get? a=some o→h2.get? a=some o)→φ h2
def HOk(H:Hp)(h:Heap):Prop:=∀a o,H a=some o→ObjOk P w H h a o
end
section
variable{P:Program}{w:World}{H H':Hp}{h h':Heap}{a:Addr}{o:HO}
theorem ObjOk.lt(x:ObjOk P w H h a o):a<h.objs.size:=by
 cases o with
 | lst xs=>obtain⟨_,_,_,_,e⟩:=x;exact Heap.lt_size e
 | tup xs=>obtain⟨_,_,_,p⟩:=x;exact p.lt
 | dK kvs=>obtain⟨_,_,_,_,o,_,_,e,_⟩:=x;exact Heap.lt_size e
 | dT kvs=>obtain⟨_,_,_,_,o,_,_,e,_⟩:=x;exact Heap.lt_size e
 | set S n=>obtain⟨o,_,_,_,e,_⟩:=x;exact Heap.lt_size e
 | ins C dx fs=>obtain⟨_,_,_,e,_⟩:=x;exact Heap.lt_size e
 | own y=>obtain⟨_,e⟩:=x;exact Heap.lt_size e
 | xd fs=>obtain⟨_,⟨_,_,_,e,_⟩,_⟩:=x;exact Heap.lt_size e
 | rng lo hi=>obtain⟨_,_,_,e⟩:=x;exact Heap.lt_size e
 | frz ob u=>obtain⟨e,_⟩:=x;exact Heap.lt_size e
 | tbl ps=>exact Heap.lt_size (show h.get? a=some _ from x)
 | met f y=>exact Heap.lt_size (show h.get? a=some _ from x)
 | ext φ=>obtain⟨_,⟨_,e⟩,_⟩:=x;exact Heap.lt_size e
theorem Paired.mapP{α β:Type}{F G:α→β→Prop}:∀{l₁:List α} {l₂:List β},Paired F l₁ l₂→(∀a b,F a b→G a b)→Paired G l₁ l₂
 | _,_,.nil,_=>.nil
 | _,_,.cons r t,f=>.cons (f _ _ r) (Paired.mapP t f)
theorem ObjOk.stay(x:ObjOk P w H h a o)(k:∀b u,(b=a∨H b=some (.own a))→h.get? b=some u→h'.get? b=some u)(ho:∀b,H b=some (.own a)→H' b=some (.own a))(ht:∀b xs,H b=some (.tup xs)→H' b=some (.tup xs)):ObjOk P w H' h' a o:=by
 induction o with
 | lst xs=>obtain⟨z,its,n,r,e⟩:=x;exact⟨z,its,n,r,k _ _ (.inl rfl) e⟩
 | tup xs=>obtain⟨z,its,r,ob,e,c⟩:=x;exact⟨z,its,r,ob,k _ _ (.inl rfl) e,c⟩
 | dK kvs=>obtain⟨z,y,vs,r,ob,es,ep,e,c⟩:=x;exact⟨z,y,vs,r,ob,es,ep,k _ _ (.inl rfl) e,c⟩
 | dT kvs =>
   obtain⟨z,y,xs,r,ob,es,ep,e,c⟩:=x
   exact⟨z,y,xs,Paired.mapP r fun p q z=>⟨z.1,ht _ _ z.2.1,z.2.2⟩,ob,es,ep,k _ _ (.inl rfl) e,c⟩
 | set S n=>obtain⟨ob,es,ep,t,e,c⟩:=x;exact⟨ob,es,ep,t,k _ _ (.inl rfl) e,c⟩
 | ins C dx fs =>
   obtain⟨d,z,ne,e,mA,⟨od,es,ep,e2,c⟩,r⟩:=x
   exact⟨ho _ d,z,ne,k _ _ (.inl rfl) e,mA,⟨od,es,ep,k _ _ (.inr d) e2,c⟩,r⟩
 | own y=>obtain⟨ob,e⟩:=x;exact⟨ob,k _ _ (.inl rfl) e⟩
 | xd fs=>obtain⟨mA,⟨od,es,ep,e,c⟩,r⟩:=x;exact⟨mA,⟨od,es,ep,k _ _ (.inl rfl) e,c⟩,r⟩
 | rng lo hi=>obtain⟨t,u,v,e⟩:=x;exact⟨t,u,v,k _ _ (.inl rfl) e⟩
 | frz ob u ih=>obtain⟨e,q⟩:=x;exact⟨k _ _ (.inl rfl) e,ih q⟩
 | tbl ps =>
   have e:h.get? a=some {cls:=.none,data:=.fields ps}:=x
   show h'.get? a=some {cls:=.none,data:=.fields ps}
   exact k a _ (.inl rfl) e
 | met f y =>
   have e:h.get? a=some (PySem.W.methodObj (.ref f) (.ref y)):=x
   show h'.get? a=some (PySem.W.methodObj (.ref f) (.ref y))
   exact k a _ (.inl rfl) e
 | ext φ=>obtain⟨p,⟨o,e⟩,st⟩:=x;exact⟨st _ _ p fun o q=>k _ _ (.inl rfl) q,⟨o,k _ _ (.inl rfl) e⟩,st⟩
theorem HOk.lt(x:HOk P w H h)(e:H a=some o):a<h.objs.size:=(x a o e).lt
theorem HOk.fresh(x:HOk P w H h)(e:h.objs.size≤a):H a=none:=by
 cases q:H a with
 | none=>rfl
 | some u=>exact absurd (Nat.lt_of_lt_of_le (x.lt q) e) (Nat.lt_irrefl _)
theorem HOk.kept(x:HOk P w H h)(k:∀b u,h.get? b=some u→h'.get? b=some u):HOk P w H h':=fun a o e =>
 (x a o e).stay (fun b u _ q=>k b u q) (fun _ q=>q) fun _ _ q=>q
theorem HOk.laid(x:HOk P w H h)(k:∀b u,h.get? b=some u→h'.get? b=some u)(hp:h.objs.size≤a)(new:ObjOk P w (upd H a o) h' a o):HOk P w (upd H a o) h':=fun b u e=>by
 have hn:=x.fresh hp
 by_cases hb:b=a
 ·subst hb;rw[qad]at e;cases e;exact new
 ·rw[qax hb]at e;exact(x b u e).stay (fun c v _ q=>k c v q) (fun c q=>by rw[qax (qar q hn)];exact q) fun c xs q=>by rw[qax (qar q hn)];exact q
end
def Rd(H:Hp)(a:Addr)(u:HO):Prop:=H a=some u∨∃o,H a=some (.frz o u)
theorem Rd.of{H:Hp}{a:Addr}{u:HO}(h:H a=some u):Rd H a u:=.inl h
theorem Rd.ok{P:Program}{w:World}{H:Hp}{h:Heap}{a:Addr}{u:HO}(r:Rd H a u)(x:HOk P w H h):ObjOk P w H h a u:=by
 rcases r with r | ⟨o,r⟩
 ·exact x a u r
 ·obtain⟨_,q⟩:=x a _ r;exact q
def Mut:Option HO→Prop
 | some (.lst _)=>True
 | some (.dK _)=>True
 | some (.dT _)=>True
 | some (.set _ _)=>True
 | some (.ins _ _ _)=>True
 | some (.ext _)=>True
 | _=>False
section
variable{P:Program}{w:World}{H:Hp}{h h':Heap}{x e:Addr}{o':HO}
theorem HOk.write(ok:HOk P w H h)(mu:Mut (H x))(he:e=x∨H e=some (.own x))(k:∀b u,b≠e→h.get? b=some u→h'.get? b=some u)(heo:∃u,h'.get? e=some u)(new:ObjOk P w (upd H x o') h' x o'):HOk P w (upd H x o') h':=fun b u q=>by
 have nown:∀c y,H c=some (.own y)→c≠x:=fun c y r z=>by subst z;rw[r]at mu;exact mu
 have ntup:∀c xs,H c=some (.tup xs)→c≠x:=fun c xs r z=>by subst z;rw[r]at mu;exact mu
 by_cases hb:b=x
 ·subst hb;rw[qad]at q;cases q;exact new
 ·rw[qax hb]at q
  by_cases hbe:b=e
  ·have q':H b=some (.own x):=by
    rcases he with z | z
    ·exact absurd (hbe.trans z) hb
    ·rw[hbe];exact z
   rw[q]at q';cases q';obtain⟨v,hv⟩:=heo;exact⟨v,by rw[hbe];exact hv⟩
  ·refine(ok b u q).stay (fun c v hc r=>k c v ?_ r) (fun c r=>by rw[qax (nown c b r)];exact r) fun c xs r=>by rw[qax (ntup c xs r)];exact r
   rcases hc with rfl | hc
   ·exact hbe
   ·rintro rfl;rcases he with z | z
    ·exact nown c b hc z
    ·rw[hc]at z;cases z;exact hb rfl
end
structure Un(fs ex:List Addr)(H H':Hp)(h h':Heap):Prop where
 keep:∀b o,h.get? b=some o→H b=none→b∉fs→b∉ex→h'.get? b=some o
 slot:∀b o,h.get? b=some o→H b=none→b∈fs→b∉ex→∃sl,h'.get? b=some {o with slots:=sl}
 free:∀b o,h.get? b=some o→H b=none→b∉ex→H' b=none
 there:∀b o,h.get? b=some o→b∉ex→∃o',h'.get? b=some o'
 tups:∀b xs,H b=some (.tup xs)→H' b=some (.tup xs)
 frzs:∀b o u,H b=some (.frz o u)→H' b=some (.frz o u)
 tbls:∀b ps,H b=some (.tbl ps)→∃more,H' b=some (.tbl (ps++more))
section
variable{fs fs' ex ex':List Addr}{H H1 H2:Hp}{h h1 h2 h':Heap}{a x e:Addr}{o:HO}
theorem Un.any(u:Un fs ex H H1 h h1){b:Addr}{ob:Obj}(q:h.get? b=some ob)(n:H b=none)(hx:b∉ex):∃sl,h1.get? b=some {ob with slots:=sl}:=by
 by_cases hb:b∈fs
 ·exact u.slot b ob q n hb hx
 ·exact⟨ob.slots,u.keep b ob q n hb hx⟩
theorem Un.trans(a:Un fs ex H H1 h h1)(b:Un fs ex H1 H2 h1 h2):Un fs ex H H2 h h2 where
 keep:=fun c ob q n hc hx=>b.keep c ob (a.keep c ob q n hc hx) (a.free c ob q n hx) hc hx
 slot:=fun c ob q n hc hx=>by
  obtain⟨sl,e1⟩:=a.slot c ob q n hc hx;obtain⟨sl',e2⟩:=b.slot c _ e1 (a.free c ob q n hx) hc hx;exact⟨sl',e2⟩
 free:=fun c ob q n hx=>by
  obtain⟨o',e1⟩:=a.there c ob q hx;exact b.free c o' e1 (a.free c ob q n hx) hx
 there:=fun c ob q hx=>by
  obtain⟨o',e1⟩:=a.there c ob q hx;exact b.there c o' e1 hx
 tups:=fun c xs q=>b.tups c xs (a.tups c xs q)
 frzs:=fun c ob xs q=>b.frzs c ob xs (a.frzs c ob xs q)
 tbls:=fun c ps q=>by
  obtain⟨m1,e1⟩:=a.tbls c ps q;obtain⟨m2,e2⟩:=b.tbls c _ e1;exact⟨m1++m2,by rw[e2,Array.append_assoc]⟩
theorem Un.kept(k:∀b u,h.get? b=some u→h'.get? b=some u):Un fs ex H H h h' :=
 ⟨fun b ob q _ _ _=>k b ob q,fun b ob q _ _ _=>⟨ob.slots,k b ob q⟩,fun _ _ _ n _=>n,fun b ob q _=>⟨ob,k b ob q⟩,fun _ _ q=>q,fun _ _ _ q=>q,fun _ ps q=>⟨#[],by rw[q];simp⟩⟩
theorem Un.refl:Un fs ex H H h h:=Un.kept fun _ _ q=>q
theorem Un.laid(k:∀b u,h.get? b=some u→h'.get? b=some u)(hp:h.objs.size≤a)(hn:H a=none):Un fs ex H (upd H a o) h h' where
 keep:=fun b u q _ _ _=>k b u q
 slot:=fun b u q _ _ _=>⟨u.slots,k b u q⟩
 free:=fun b u q n _=>by rw[qax (Nat.ne_of_lt (Nat.lt_of_lt_of_le (Heap.lt_size q) hp))];exact n
 there:=fun b u q _=>⟨u,k b u q⟩
 tups:=fun b xs q=>by rw[qax (qar q hn)];exact q
 frzs:=fun b u xs q=>by rw[qax (qar q hn)];exact q
 tbls:=fun b ps q=>⟨#[],by rw[qax (qar q hn),q];simp⟩
theorem Un.write(mu:Mut (H x))(he:e=x∨H e=some (.own x))(k:∀b u,b≠e→h.get? b=some u→h'.get? b=some u)(heo:∃u,h'.get? e=some u):Un fs ex H (upd H x o) h h':=by
 have hx:∀b,H b=none→b≠x:=fun b n z=>by subst z;rw[n]at mu;exact mu
 have hb:∀b,H b=none→b≠e:=fun b n z=>by
  subst z;rcases he with r | r
  ·exact hx b n r
  ·rw[n]at r;cases r
 have hm:∀b u,H b=some u→¬Mut (some u)→b≠x:=fun b u q nm z=>by subst z;rw[q]at mu;exact nm mu
 refine⟨fun b u q n _ _=>k b u (hb b n) q,fun b u q n _ _=>⟨u.slots,k b u (hb b n) q⟩,fun b u q n _=>by rw[qax (hx b n)];exact n,fun b u q _=>?_,
  fun b xs q=>by rw[qax (hm b _ q fun z=>z)];exact q,fun b u xs q=>by rw[qax (hm b _ q fun z=>z)];exact q,fun b ps q=>⟨#[],by rw[qax (hm b _ q fun z=>z),q];simp⟩⟩
 by_cases hbe:b=e
 ·subst hbe;exact heo
 ·exact⟨u,k b u hbe q⟩
theorem Un.mono(u:Un fs ex H H1 h h1)(hs:∀b∈fs,b∈fs')(hx:∀b∈ex,b∈ex'):Un fs' ex' H H1 h h1 :=
 ⟨fun b ob q n hb he=>u.keep b ob q n (fun z=>hb (hs b z)) fun z=>he (hx b z),fun _ _ q n _ he=>u.any q n fun z=>he (hx _ z),fun b ob q n he=>u.free b ob q n fun z=>he (hx b z),fun b ob q he=>u.there b ob q fun z=>he (hx b z),u.tups,u.frzs,u.tbls⟩
end
def trk(h:Heap)(H:Hp):List Addr:=(List.range h.objs.size).filter fun a=>(H a).isSome
def hidT(h:Heap)(H:Hp):Heap:=PySem.W.hideAll h (trk h H)
theorem hidT_size(h:Heap)(H:Hp):(hidT h H).objs.size=h.objs.size:=PySem.W.hideAll_size _ _
theorem hidT_get{h:Heap}{H:Hp}{b:Addr}{o:Obj}(e:h.get? b=some o)(n:H b=none):(hidT h H).get? b=some o :=
 PySem.W.hideAll_get _ e fun hm=>by
  have q:(H b).isSome=true:=(List.mem_filter.mp hm).2;rw[n]at q;simp at q
theorem of_hidT{h:Heap}{H:Hp}{b:Addr}{o:Obj}(e:(hidT h H).get? b=some o):h.get? b=some o∧H b=none:=by
 have e':h.get? b=some o:=PySem.W.of_hideAll (trk h H) e;refine⟨e',?_⟩;cases q:H b with
 | none=>rfl
 | some x =>
   have hm:b∈trk h H:=List.mem_filter.mpr ⟨List.mem_range.mpr (Heap.lt_size e'),by simp[q]⟩
   have z:(hidT h H).get? b=none:=PySem.W.hideAll_none (trk h H) hm
   rw[z]at e;cases e
def allNews(g h:Heap)(L:Addr):List (Addr×Obj):=(List.range h.objs.size).filterMap fun a=>if a=L∨(g.get? a).isSome=true then none else(h.get? a).map fun o=>(a,o)
def rest(g h:Heap)(L d:Addr):List (Addr×Obj):=(allNews g h L).filter fun p=>decide (p.1≠d)
end L2
namespace L2
open PySem PySem.Spec PyProof.Rows
structure Mod(K:PySem.W.Frag)(mg:Str→Option Value)(base:Heap):Prop where
 kin:K.In base
 glob:base.Ns mainGlobals mg
 blt:∃mb,base.Ns builtinsNs mb∧∀x:Str,x ≠ "__name__" → mb x=bootBuiltins x
 nolimit:base.NoLimit
structure Cx where
 prog:Program
 w:World
 K:PySem.W.Frag
 mg:Str→Option Value
 base:Heap
 A:Around
 N:List Str
 s₀:Shared
 H₀:Hp
 env:Env
 outer:List Env
 stack:List Env
 ex:List Addr
 fn:Str→Bool
 calm:Bool
 pn:List (Addr×Obj)
 xe:Value→Shared→Prop
def frs(l:List Env):List Addr:=l.filterMap (·.frame)
abbrev Cx.fs(X:Cx):List Addr:=frs X.outer
def Vis(sc:Scope)(x:Str):Prop:=sc.names.lookup x=some .local∨sc.names.lookup x=some .cell∨sc.names.lookup x=some .free
def Loc(sc:Scope)(x:Str):Prop:=sc.names.lookup x=some .local∨sc.names.lookup x=some .cell
def Look(env:Env)(h:Heap)(m:Str→Option Value)(x:Str)(u:Value):Prop :=
 (env.kindOf x=some .local∧m x=some u)∨((env.kindOf x=some .cell∨env.kindOf x=some .free)∧∃c,env.cells.lookup x=some c∧h.IsCell c (some u))
structure Cx.Ok(X:Cx):Prop where
 mod:Mod X.K X.mg X.base
 kind:X.env.scope.kind=.function
 glob:X.env.globals=mainGlobals
 blt:X.env.builtins=builtinsNs
 above:X.s₀.heap.objs.size≤X.env.locals
 inj:∀x y c,X.env.cells.lookup x=some c→X.env.cells.lookup y=some c→x=y
 has:∀x,(X.env.kindOf x=some .cell∨X.env.kindOf x=some .free)→∃c,X.env.cells.lookup x=some c
 cab:∀x c,X.fn x=true→X.env.cells.lookup x=some c→X.s₀.heap.objs.size≤c
 hd:X.calm=true→X.A.handled=none
 frames:X.A.frames=some X.stack
 stk:X.stack=X.outer∨(X.stack=X.env::X.outer∧X.env.frame=some X.env.locals)
 exf:∀b∈X.ex,b≠X.env.locals∧∀x c,X.env.cells.lookup x=some c→c≠b
 bs:∀b o,X.base.get? b=some o→X.s₀.heap.get? b=some o∧X.H₀ b=none
 bsz:X.base.objs.size≤X.s₀.heap.objs.size
 noex:∀b o,X.base.get? b=some o→b∉X.ex
 exfs:∀b∈X.ex,b∉X.fs
 funs:X.s₀.heap.FunFrames X.base X.outer
 frf:∀b∈X.fs,X.H₀ b=none
structure Inv(X:Cx)(pins:List (Addr×Obj))(σ:List (Option V))(H:Hp)(s:Shared):Prop where
 ok:X.Ok
 os:s.os=X.s₀.os
 bare:AllBare s.gens
 base:Un X.fs X.ex X.H₀ H X.s₀.heap s.heap
 loc:∃m,s.heap.Ns X.env.locals m∧∀(i:Nat) (x:Str) (v:V),X.N[i]?=some x→σ[i]?=some (some v)→Vis X.env.scope x→∃u,RelV v u∧Look X.env s.heap m x u
 cell:∀x c,X.env.cells.lookup x=some c→∃v,s.heap.IsCell c v
 free:H X.env.locals=none
 freeC:∀x c,X.env.cells.lookup x=some c→H c=none
 pin:∀p∈X.pn++pins,s.heap.get? p.1=some p.2∧H p.1=none∧p.1≠X.env.locals∧p.1∉X.fs∧∀v,p.2.data≠.cell v
 hok:HOk X.prog X.w H s.heap
 len:σ.length=X.N.length
section
variable{X:Cx}{pins:List (Addr×Obj)}{σ:List (Option V)}{H H':Hp}{s:Shared}{h':Heap}
theorem Cx.Ok.nofr(ok:X.Ok){b:Addr}{o:Obj}(e:X.base.get? b=some o):b∉X.fs:=fun hb=>by
 have:=(ok.funs.mem hb).1;rw[e]at this;cases this
theorem Inv.bs(I:Inv X pins σ H s):∀b o,X.base.get? b=some o→s.heap.get? b=some o∧H b=none:=fun b o e =>
 ⟨I.base.keep b o (I.ok.bs b o e).1 (I.ok.bs b o e).2 (I.ok.nofr e) (I.ok.noex b o e),I.base.free b o (I.ok.bs b o e).1 (I.ok.bs b o e).2 (I.ok.noex b o e)⟩
theorem Inv.bk(I:Inv X pins σ H s):∀b o,X.base.get? b=some o→s.heap.get? b=some o:=fun b o e=>(I.bs b o e).1
theorem Inv.mod(I:Inv X pins σ H s):Mod X.K X.mg X.base:=I.ok.mod
theorem Inv.kIn(I:Inv X pins σ H s):X.K.In s.heap:=I.ok.mod.kin.keeps I.bk
theorem Inv.nolimit(I:Inv X pins σ H s):s.heap.NoLimit:=I.ok.mod.nolimit.keeps I.bk
theorem Inv.fr(I:Inv X pins σ H s):∃m,Fr X.base X.env.locals s.heap m :=
 let⟨m,hn,_⟩:=I.loc
 ⟨m,hn,I.bk,Nat.le_trans I.ok.bsz I.ok.above⟩
theorem Inv.lt(I:Inv X pins σ H s):X.env.locals<s.heap.objs.size:=let⟨_,hn,_⟩:=I.loc;hn.lt
theorem Inv.sz(I:Inv X pins σ H s):X.s₀.heap.objs.size≤s.heap.objs.size:=Nat.le_trans I.ok.above (Nat.le_of_lt I.lt)
theorem Inv.nofs(I:Inv X pins σ H s){a:Addr}(h:s.heap.objs.size≤a):a∉X.fs:=fun hb=>by
 obtain⟨_,o,ho,_⟩:=I.ok.funs.mem hb;exact absurd (Nat.lt_of_lt_of_le (Heap.lt_size ho) (Nat.le_trans I.sz h)) (Nat.lt_irrefl _)
theorem Inv.cne(I:Inv X pins σ H s):∀x c,X.env.cells.lookup x=some c→c≠X.env.locals:=fun x c e z=>by
 obtain⟨v,o,ho,hd⟩:=I.cell x c e;obtain⟨m,⟨o',es,ep,ho',hd',_⟩,_⟩:=I.loc;rw[z,ho']at ho;cases ho;rw[hd']at hd;cases hd
theorem Inv.funs(I:Inv X pins σ H s):s.heap.FunFrames X.base X.outer:=by
 have all:∀(l:List Env),(∀b∈frs l,b∈X.fs)→X.s₀.heap.FunFrames X.base l→s.heap.FunFrames X.base l:=by
  intro l
  induction l with
  | nil=>intro _ _;trivial
  | cons env r ih =>
    intro hs hl
    obtain⟨hk,⟨L,o,hf,hn,ho,hd⟩,hr⟩:=hl
    have hL:L∈X.fs:=hs L (by unfold frs;rw[List.filterMap_cons,hf];exact List.mem_cons_self)
    obtain⟨sl,e⟩:=I.base.slot L o ho (I.ok.frf L hL) hL fun z=>I.ok.exfs L z hL
    exact⟨hk,⟨L,_,hf,hn,e,hd⟩,ih (fun b hb=>hs b (by unfold frs;rw[List.filterMap_cons,hf];exact List.mem_cons_of_mem _ hb)) hr⟩
 exact all X.outer (fun _ hb=>hb) I.ok.funs
theorem Inv.stack(I:Inv X pins σ H s):s.heap.FunFrames X.base X.stack:=by
 rcases I.ok.stk with e | ⟨e,hf⟩
 ·rw[e];exact I.funs
 ·rw[e];obtain⟨m,hn,_⟩:=I.loc;refine .cons (by rw[I.ok.kind];decide) hf hn ?_ I.funs;exact Heap.get?_none_of_le (Nat.le_trans I.ok.bsz I.ok.above)
theorem Inv.stkSub(I:Inv X pins σ H s):∀b∈frs X.stack,b∈X.env.locals::X.fs:=fun b hb=>by
 rcases I.ok.stk with e | ⟨e,hf⟩
 ·rw[e]at hb;exact List.mem_cons_of_mem _ hb
 ·rw[e]at hb;unfold frs at hb;rw[List.filterMap_cons,hf]at hb;exact hb
theorem Inv.stkFree(I:Inv X pins σ H s):∀b∈frs X.stack,H b=none:=fun b hb=>by
 rcases List.mem_cons.mp (I.stkSub b hb)with e | hb
 ·rw[e];exact I.free
 ·obtain⟨_,o,ho,_⟩:=I.ok.funs.mem hb;exact I.base.free b o ho (I.ok.frf b hb) fun z=>I.ok.exfs b z hb
theorem Inv.step{g':Array GenState}{t':Nat}{d':Drawn}{ch:List Addr}(I:Inv X pins σ H s)(hch:∀b∈ch,(b∈X.ex∨X.s₀.heap.objs.size≤b)∧b≠X.env.locals∧(∀x c,X.env.cells.lookup x=some c→c≠b)∧∀p∈X.pn++pins,p.1≠b)(keep:∀b o,b≠X.env.locals→b∉X.fs→b∉ch→s.heap.get? b=some o→H b=none→h'.get? b=some o)(slot:∀b o,b≠X.env.locals→b∈X.fs→b∉ch→s.heap.get? b=some o→H b=none→∃sl,h'.get? b=some {o with slots:=sl})(free:∀b o,b∉ch→s.heap.get? b=some o→H b=none→H' b=none)(there:∀b o,b∉ch→s.heap.get? b=some o→∃o',h'.get? b=some o')(tups:∀b xs,H b=some (.tup xs)→H' b=some (.tup xs))(frzs:∀b o u,H b=some (.frz o u)→H' b=some (.frz o u))(tbls:∀b ps,H b=some (.tbl ps)→∃more,H' b=some (.tbl (ps++more)))(ns:∀m,s.heap.Ns X.env.locals m→h'.Ns X.env.locals m)(hok:HOk X.prog X.w H' h')(hg:AllBare g') :
  Inv X pins σ H' {s with heap:=h',gens:=g',drawn:=d',toks:=t'}:=by
 have neL:∀b o,X.s₀.heap.get? b=some o→b≠X.env.locals:=fun b o e=>Nat.ne_of_lt (Nat.lt_of_lt_of_le (Heap.lt_size e) I.ok.above)
 have neC:∀b o,X.s₀.heap.get? b=some o→b∉X.ex→b∉ch:=fun b o e hx hb=>by
  rcases(hch b hb).1 with z | z
  ·exact hx z
  ·exact absurd (Nat.lt_of_lt_of_le (Heap.lt_size e) z) (Nat.lt_irrefl _)
 have cellK:∀x c,X.env.cells.lookup x=some c→∀v,s.heap.IsCell c v→h'.IsCell c v:=fun x c e v ⟨o,ho,hd⟩=>by
  have nch:c∉ch:=fun z=>(hch c z).2.2.1 x c e rfl
  by_cases hc:c∈X.fs
  ·obtain⟨sl,q⟩:=slot c o (I.cne x c e) hc nch ho (I.freeC x c e);exact⟨_,q,hd⟩
  ·exact⟨o,keep c o (I.cne x c e) hc nch ho (I.freeC x c e),hd⟩
 refine⟨I.ok,I.os,hg,⟨fun b o e n hb hx=>?_,fun b o e n hb hx=>?_,fun b o e n hx=>?_,fun b o e hx=>?_,fun b xs e=>tups b xs (I.base.tups b xs e),fun b o xs e=>frzs b o xs (I.base.frzs b o xs e),fun b ps e=>?_⟩,?_,fun x c e=>?_,?_,fun x c e=>?_,fun p hp=>?_,hok,I.len⟩
 ·exact keep b o (neL b o e) hb (neC b o e hx) (I.base.keep b o e n hb hx) (I.base.free b o e n hx)
 ·obtain⟨sl,e1⟩:=I.base.slot b o e n hb hx;obtain⟨sl',e2⟩:=slot b _ (neL b o e) hb (neC b o e hx) e1 (I.base.free b o e n hx);exact⟨sl',e2⟩
 ·obtain⟨o',e1⟩:=I.base.there b o e hx;exact free b o' (neC b o e hx) e1 (I.base.free b o e n hx)
 ·obtain⟨o',e1⟩:=I.base.there b o e hx;exact there b o' (neC b o e hx) e1
 ·obtain⟨m1,e1⟩:=I.base.tbls b ps e;obtain⟨m2,e2⟩:=tbls b _ e1;exact⟨m1++m2,by rw[e2,Array.append_assoc]⟩
 ·obtain⟨m,hn,hl⟩:=I.loc;refine⟨m,ns m hn,fun i x v e1 e2 e3=>?_⟩;obtain⟨u,r,l⟩:=hl i x v e1 e2 e3;refine⟨u,r,?_⟩;rcases l with l | ⟨k,c,e,z⟩
  ·exact .inl l
  ·exact .inr ⟨k,c,e,cellK x c e _ z⟩
 ·obtain⟨v,z⟩:=I.cell x c e;exact⟨v,cellK x c e v z⟩
 ·obtain⟨m,⟨o,_,_,ho,_⟩,_⟩:=I.loc;exact free _ o (fun z=>(hch _ z).2.1 rfl) ho I.free
 ·obtain⟨v,o,ho,hd⟩:=I.cell x c e;exact free c o (fun z=>(hch c z).2.2.1 x c e rfl) ho (I.freeC x c e)
 ·obtain⟨e,n,ne,nf,d⟩:=I.pin p hp;have nch:p.1∉ch:=fun z=>(hch p.1 z).2.2.2 p hp rfl
  exact⟨keep p.1 p.2 ne nf nch e n,free p.1 p.2 nch e n,ne,nf,d⟩
theorem Inv.un{t':Nat}(I:Inv X pins σ H s)(u:Un X.fs [] H H' s.heap h')(hok:HOk X.prog X.w H' h'):Inv X pins σ H' {s with heap:=h',toks:=t'}:=by
 obtain⟨m,⟨o,es,ep,ho,r⟩,_⟩:=id I.loc;obtain⟨sl,hL⟩:=u.any ho I.free (by simp);exact I.step (g':=s.gens) (d':=s.drawn) (ch:=[]) (fun _ z=>nomatch z) (fun b o _ hb _ e n=>u.keep b o e n hb (by simp)) (fun b o _ hb _ e n=>u.slot b o e n hb (by simp)) (fun b o _ e n=>u.free b o e n (by simp)) (fun b o _ e=>u.there b o e (by simp)) u.tups u.frzs u.tbls (fun m' hm=>by
  obtain⟨o',es',ep',ho',r'⟩:=hm;rw[ho]at ho';cases ho';exact⟨_,es',ep',hL,r'⟩) hok I.bare
theorem Inv.call{g':Array GenState}{t':Nat}{d':Drawn}{ch:List Addr}(I:Inv X pins σ H s)(u:Un (frs X.stack) ch H H' s.heap h')(hok:HOk X.prog X.w H' h')(hg:AllBare g')(hch:∀b∈ch,(b∈X.ex∨X.s₀.heap.objs.size≤b)∧b≠X.env.locals∧(∀x c,X.env.cells.lookup x=some c→c≠b)∧∀p∈X.pn++pins,p.1≠b) :
  Inv X pins σ H' {s with heap:=h',gens:=g',drawn:=d',toks:=t'}:=by
 obtain⟨m,⟨o,es,ep,ho,r⟩,_⟩:=id I.loc;obtain⟨sl,hL⟩:=u.any ho I.free fun z=>(hch _ z).2.1 rfl
 exact I.step (ch:=ch) hch (fun b o hL hb hc e n=>u.keep b o e n (fun z=>(List.mem_cons.mp (I.stkSub b z)).elim hL hb) hc) (fun b o _ _ hc e n=>u.any e n hc) (fun b o hc e n=>u.free b o e n hc) (fun b o hc e=>u.there b o e hc) u.tups u.frzs u.tbls (fun m' hm=>by
  obtain⟨o',es',ep',ho',r'⟩:=hm;rw[ho]at ho';cases ho';exact⟨_,es',ep',hL,r'⟩) hok hg
theorem Inv.turned{t':Nat}{it:Addr}(I:Inv X pins σ H s)(k:∀b o,b≠it→s.heap.get? b=some o→h'.get? b=some o)(hn:H it=none)(hL:it≠X.env.locals)(h1:it∈X.ex∨X.s₀.heap.objs.size≤it)(h2:∀x c,X.env.cells.lookup x=some c→c≠it)(h3:∀p∈X.pn++pins,p.1≠it):Inv X pins σ H {s with heap:=h',toks:=t'}:=by
 have nit:∀b u,H b=some u→b≠it:=fun b u e z=>by rw[z,hn]at e;cases e
 refine I.step (g':=s.gens) (d':=s.drawn) (ch:=[it]) (fun b hb=>?_) (fun b o _ _ hc e _=>k b o (fun z=>hc (by simp[z])) e) (fun b o _ _ hc e _=>⟨o.slots,k b o (fun z=>hc (by simp[z])) e⟩) (fun _ _ _ _ n=>n)
  (fun b o hc e=>⟨o,k b o (fun z=>hc (by simp[z])) e⟩) (fun _ _ e=>e) (fun _ _ _ e=>e) (fun b ps e=>⟨#[],by rw[e];simp⟩) (fun m hm=>?_) (fun b u e=>?_) I.bare
 ·have e:b=it:=by simpa using hb
  subst e;exact⟨h1,hL,h2,h3⟩
 ·obtain⟨o,es,ep,ho,r⟩:=hm;exact⟨o,es,ep,k _ o (Ne.symm hL) ho,r⟩
 ·refine(I.hok b u e).stay (fun c v hc q=>k c v ?_ q) (fun _ q=>q) fun _ _ q=>q
  rcases hc with z | z
  ·rw[z];exact nit b u e
  ·exact nit c _ z
theorem Inv.tok(I:Inv X pins σ H s)(t:Nat):Inv X pins σ H {s with toks:=t}:=I.un (h':=s.heap) (t':=t) Un.refl I.hok
theorem Inv.kept{t':Nat}(I:Inv X pins σ H s)(k:∀b u,s.heap.get? b=some u→h'.get? b=some u):Inv X pins σ H {s with heap:=h',toks:=t'}:=I.un (Un.kept k) (I.hok.kept k)
theorem Inv.laid{a:Addr}{o:HO}{t':Nat}(I:Inv X pins σ H s)(k:∀b u,s.heap.get? b=some u→h'.get? b=some u)(hp:s.heap.objs.size≤a)(new:ObjOk X.prog X.w (upd H a o) h' a o) :
  Inv X pins σ (upd H a o) {s with heap:=h',toks:=t'}:=I.un (Un.laid k hp (I.hok.fresh hp)) (I.hok.laid k hp new)
theorem Inv.write{x e:Addr}{o:HO}{t':Nat}(I:Inv X pins σ H s)(mu:Mut (H x))(he:e=x∨H e=some (.own x))(k:∀b u,b≠e→s.heap.get? b=some u→h'.get? b=some u)(heo:∃u,h'.get? e=some u)(new:ObjOk X.prog X.w (upd H x o) h' x o):Inv X pins σ (upd H x o) {s with heap:=h',toks:=t'}:=I.un (Un.write mu he k heo) (I.hok.write mu he k heo new)
theorem Inv.weak{σ':List (Option V)}(I:Inv X pins σ H s)(hl:σ'.length=σ.length)(w:∀(i:Nat) v,σ'[i]?=some (some v)→σ[i]?=some (some v)):Inv X pins σ' H s :=
 ⟨I.ok,I.os,I.bare,I.base,let⟨m,hn,hl'⟩:=I.loc;⟨m,hn,fun i x v e1 e2 e3=>hl' i x v e1 (w i v e2) e3⟩,I.cell,I.free,I.freeC,I.pin,I.hok,hl.trans I.len⟩
theorem Inv.pins_of{pins':List (Addr×Obj)}(I:Inv X pins σ H s)(h:∀p∈pins',s.heap.get? p.1=some p.2∧H p.1=none∧p.1≠X.env.locals∧p.1∉X.fs∧∀v,p.2.data≠.cell v):Inv X pins' σ H s :=
 ⟨I.ok,I.os,I.bare,I.base,I.loc,I.cell,I.free,I.freeC,fun p hp=>(List.mem_append.mp hp).elim (fun z=>I.pin p (List.mem_append_left _ z)) (h p),I.hok,I.len⟩
theorem qeo{N:List Str}(hN:N.Nodup){i j:Nat}{x:Str}(a:N[i]?=some x)(b:N[j]?=some x):i=j:=by
 obtain⟨h1,e1⟩:=List.getElem?_eq_some_iff.mp a;obtain⟨h2,e2⟩:=List.getElem?_eq_some_iff.mp b;exact(List.getElem_inj hN).mp (e1.trans e2.symm)
theorem qdF{M:Model}{A:Around}{E:Value→Shared→Prop}{i:Nat}{x:Str}{v:V}{u:Value}{Q:Unit→Shared→Prop}(I:Inv X pins σ H s)(hN:X.N.Nodup)(hi:X.N[i]?=some x)(hx:Loc X.env.scope x)(r:RelV v u)(h:∀s',Inv X pins (σ.set i (some v)) H s'→(∃a,Heap.SameBut a s.heap s'.heap∧(a=X.env.locals∨X.env.cells.lookup x=some a))→Q () s')(hf:X.fn x=true∨X.env.scope.names.lookup x=some .local:=by first | exact .inl rfl | exact .inr rfl | assumption):wpAny M A (storeName X.env x u) Q E s:=by
 obtain⟨m,hn,hl⟩:=id I.loc;have hcls:(X.env.scope.kind == .class || (X.env.scope.kind == .module && X.env.locals != X.env.globals))=false:=by rw[I.ok.kind];rfl
 have hiσ:i<σ.length:=by rw[I.len];exact(List.getElem?_eq_some_iff.mp hi).1
 have cne:=I.cne;have tracked:∀{a:Addr} {h':Heap},(∃o,s.heap.get? a=some o∧H a=none)→Heap.SameBut a s.heap h'→HOk X.prog X.w H h':=fun {a h'} ha hs b ob e=>by
  obtain⟨_,_,hfree⟩:=ha;refine(I.hok b ob e).stay (fun c w' hc q=>(hs.2 c ?_).trans q) (fun _ q=>q) fun _ _ q=>q
  rintro rfl;rcases hc with rfl | hc
  ·rw[hfree]at e;cases e
  ·rw[hfree]at hc;cases hc
 rcases hx with hk | hk
 ·refine wpAny_storeName_local hk hn (fun h' hn' hs=>?_) hcls;obtain⟨oL,_,_,hoL,_⟩:=id hn;refine h _ ⟨I.ok,I.os,I.bare,⟨fun b o e n hb hx=>?_,fun b o e n hb hx=>?_,I.base.free,fun b o e hx=>?_,I.base.tups,I.base.frzs,I.base.tbls⟩,⟨_,hn',fun j y v' e1 e2 e3=>?_⟩,fun y c e=>?_,I.free,I.freeC,fun p hp=>?_,tracked ⟨oL,hoL,I.free⟩ hs,by simpa using I.len⟩ ⟨_,hs,.inl rfl⟩
  ·exact(hs.2 b (Nat.ne_of_lt (Nat.lt_of_lt_of_le (Heap.lt_size e) I.ok.above))).trans (I.base.keep b o e n hb hx)
  ·obtain⟨sl,e1⟩:=I.base.slot b o e n hb hx;exact⟨sl,(hs.2 b (Nat.ne_of_lt (Nat.lt_of_lt_of_le (Heap.lt_size e) I.ok.above))).trans e1⟩
  ·obtain⟨o',e1⟩:=I.base.there b o e hx;exact⟨o',(hs.2 b (Nat.ne_of_lt (Nat.lt_of_lt_of_le (Heap.lt_size e) I.ok.above))).trans e1⟩
  ·by_cases hj:j=i
   ·subst hj;rw[hi]at e1;cases e1;rw[List.getElem?_set_self hiσ]at e2;cases e2;exact⟨u,r,.inl ⟨hk,by simp⟩⟩
   ·rw[List.getElem?_set_ne (Ne.symm hj)]at e2;obtain⟨u',r',q⟩:=hl j y v' e1 e2 e3;refine⟨u',r',?_⟩;rcases q with⟨k,e⟩ | ⟨k,c,e,z⟩
    ·refine .inl ⟨k,?_⟩;have:y≠x:=fun e=>hj (qeo hN e1 (e ▸ hi))
     simp[this,e]
    ·exact .inr ⟨k,c,e,z.sameBut hs (cne y c e)⟩
  ·obtain⟨w',z⟩:=I.cell y c e;exact⟨w',z.sameBut hs (cne y c e)⟩
  ·obtain⟨e,n,ne,nf,d⟩:=I.pin p hp;exact⟨(hs.2 p.1 ne).trans e,n,ne,nf,d⟩
 ·have hfn:X.fn x=true:=by
   rcases hf with z | z
   ·exact z
   ·rw[z]at hk;cases hk
  obtain⟨c,hc⟩:=I.ok.has x (.inl hk);obtain⟨w',z⟩:=I.cell x c hc;refine wpAny_storeName_cell I.ok.kind hk hc z (fun h' hc' hs=>?_);obtain⟨oc,hoc,hocd⟩:=id z;refine h {s with heap:=h'} ⟨I.ok,I.os,I.bare,⟨fun b o e n hb hx=>?_,fun b o e n hb hx=>?_,I.base.free,fun b o e hx=>?_,I.base.tups,I.base.frzs,I.base.tbls⟩,⟨m,hn.sameBut hs (Ne.symm (cne x c hc)),fun j y v' e1 e2 e3=>?_⟩,fun y c' e=>?_,I.free,I.freeC,fun p hp=>?_,tracked ⟨oc,hoc,I.freeC x c hc⟩ hs,by simpa using I.len⟩ ⟨c,hs,.inr hc⟩
  ·exact(hs.2 b (Nat.ne_of_lt (Nat.lt_of_lt_of_le (Heap.lt_size e) (I.ok.cab x c hfn hc)))).trans (I.base.keep b o e n hb hx)
  ·obtain⟨sl,e1⟩:=I.base.slot b o e n hb hx;exact⟨sl,(hs.2 b (Nat.ne_of_lt (Nat.lt_of_lt_of_le (Heap.lt_size e) (I.ok.cab x c hfn hc)))).trans e1⟩
  ·obtain⟨o',e1⟩:=I.base.there b o e hx;exact⟨o',(hs.2 b (Nat.ne_of_lt (Nat.lt_of_lt_of_le (Heap.lt_size e) (I.ok.cab x c hfn hc)))).trans e1⟩
  ·by_cases hj:j=i
   ·subst hj;rw[hi]at e1;cases e1;rw[List.getElem?_set_self hiσ]at e2;cases e2;exact⟨u,r,.inr ⟨.inl hk,c,hc,hc'⟩⟩
   ·rw[List.getElem?_set_ne (Ne.symm hj)]at e2;obtain⟨u',r',q⟩:=hl j y v' e1 e2 e3;refine⟨u',r',?_⟩;rcases q with q | ⟨k,c',e,z'⟩
    ·exact .inl q
    ·refine .inr ⟨k,c',e,z'.sameBut hs ?_⟩;rintro rfl;exact hj (qeo hN e1 (I.ok.inj _ _ _ e hc ▸ hi))
  ·by_cases hcc:c'=c
   ·subst hcc;exact⟨_,hc'⟩
   ·obtain⟨w2,z2⟩:=I.cell y c' e;exact⟨w2,z2.sameBut hs hcc⟩
  ·obtain⟨e,n,ne,nf,d⟩:=I.pin p hp;refine⟨(hs.2 p.1 ?_).trans e,n,ne,nf,d⟩;intro q;rw[q,hoc]at e;have q':oc=p.2:=Option.some.inj e;exact d w' (by rw[←q'];exact hocd)
theorem qdl{M:Model}{A:Around}{E:Value→Shared→Prop}{i:Nat}{x:Str}{v:V}{u:Value}{Q:Unit→Shared→Prop}(I:Inv X pins σ H s)(hN:X.N.Nodup)(hi:X.N[i]?=some x)(hx:Loc X.env.scope x)(r:RelV v u)(h:∀s',Inv X pins (σ.set i (some v)) H s'→Q () s')(hf:X.fn x=true∨X.env.scope.names.lookup x=some .local:=by first | exact .inl rfl | exact .inr rfl | assumption):wpAny M A (storeName X.env x u) Q E s :=
 qdF I hN hi hx r (fun s' I' _=>h s' I') hf
theorem Inv.call'{s':Shared}{ch:List Addr}(I:Inv X pins σ H s)(ho:s'.os=s.os)(u:Un (frs X.stack) ch H H' s.heap s'.heap)(hok:HOk X.prog X.w H' s'.heap)(hg:AllBare s'.gens)(hch:∀b∈ch,(b∈X.ex∨X.s₀.heap.objs.size≤b)∧b≠X.env.locals∧(∀x c,X.env.cells.lookup x=some c→c≠b)∧∀p∈X.pn++pins,p.1≠b):Inv X pins σ H' s':=by
 obtain⟨h',g',d',t',o'⟩:=s';have e:o'=s.os:=ho;subst e;exact I.call (g':=g') (t':=t') (d':=d') u hok hg hch
end
abbrev XK:=Value→Option Addr→Hp→Prop
abbrev St:=List (Option V)
abbrev VK:=V→Hp→Prop
abbrev TE:=St→Hp→VK→Prop
abbrev TT:=St→Hp→(Bool→Hp→Prop)→Prop
abbrev TA:=St→Hp→(List V→Hp→Prop)→Prop
structure Ends where
 nx:St→Hp→Prop
 rt:VK
 bk:St→Hp→Prop:=fun _ _=>False
 ct:St→Hp→Prop:=fun _ _=>False
abbrev TS:=Ends→St→Hp→Prop
def EP(X:Cx)(pins:List (Addr×Obj))(σ:St)(Q:VK)(u:Value)(s':Shared):Prop:=∃v H',Inv X pins σ H' s'∧RelV v u∧Q v H'
def TP(X:Cx)(pins:List (Addr×Obj))(σ:St)(Q:Bool→Hp→Prop)(b:Bool)(s':Shared):Prop:=∃H',Inv X pins σ H' s'∧Q b H'
def AP(X:Cx)(pins:List (Addr×Obj))(σ:St)(Q:List V→Hp→Prop)(us:List Value)(s':Shared):Prop:=∃vs H',Inv X pins σ H' s'∧Vals vs us∧Q vs H'
def SP(X:Cx)(pins:List (Addr×Obj))(D:Ends)(f:Flow)(s':Shared):Prop :=
 match f with
 | .next=>∃σ' H',Inv X pins σ' H' s'∧D.nx σ' H'
 | .brk=>∃σ' H',Inv X pins σ' H' s'∧D.bk σ' H'
 | .cont=>∃σ' H',Inv X pins σ' H' s'∧D.ct σ' H'
 | .ret u=>∃v σ' H',Inv X pins σ' H' s'∧RelV v u∧D.rt v H'
def PE(X:Cx)(e:Expr)(t:TE):Prop :=
 ∀(pins:List (Addr×Obj)) (s:Shared) (σ:St) (H:Hp) (Q:VK),Inv X pins σ H s→t σ H Q→wpAny (model X.prog X.w) X.A (eval e X.env) (EP X pins σ Q) X.xe s
def PT(X:Cx)(e:Expr)(t:TT):Prop :=
 ∀(pins:List (Addr×Obj)) (s:Shared) (σ:St) (H:Hp) (Q:Bool→Hp→Prop),Inv X pins σ H s→t σ H Q→wpAny (model X.prog X.w) X.A (isTrue e X.env (eval e X.env)) (TP X pins σ Q) X.xe s
def PW(X:Cx)(e:Expr)(t:TT):Prop :=
 ∀(whole:Sem Value) (pins:List (Addr×Obj)) (s:Shared) (σ:St) (H:Hp) (Q:Bool→Hp→Prop),Inv X pins σ H s→t σ H Q→wpAny (model X.prog X.w) X.A (isTrue e X.env whole) (TP X pins σ Q) X.xe s
theorem PW.pt{X:Cx}{e:Expr}{t:TT}(h:PW X e t):PT X e t:=h _
def PA(X:Cx)(es:List Expr)(t:TA):Prop :=
 ∀(pos:Pos) (pins:List (Addr×Obj)) (s:Shared) (σ:St) (H:Hp) (Q:List V→Hp→Prop),Inv X pins σ H s→t σ H Q→wpAny (model X.prog X.w) X.A (spliced (backTo pos (starEach es X.env))) (AP X pins σ Q) X.xe s
def PS(X:Cx)(st:Stmt)(t:TS):Prop :=
 ∀(pins:List (Addr×Obj)) (s:Shared) (σ:St) (H:Hp) (D:Ends),Inv X pins σ H s→t D σ H→wpAny (model X.prog X.w) X.A (exec st X.env) (SP X pins D) X.xe s
def PSs(X:Cx)(st:List Stmt)(t:TS):Prop :=
 ∀(pins:List (Addr×Obj)) (s:Shared) (σ:St) (H:Hp) (D:Ends),Inv X pins σ H s→t D σ H→wpAny (model X.prog X.w) X.A (execs st X.env) (SP X pins D) X.xe s
theorem thn{α:Type}{t:Sem α}{Q Q':α→Shared→Prop}{M:Model}{A:Around}{E:Value→Shared→Prop}{s:Shared}(h:wpAny M A t Q E s)(hQ:∀a s,Q a s→Q' a s):wpAny M A t Q' E s:=wpAny_mono h hQ fun _ _ x=>x
end L2
namespace L2
open PySem PySem.Spec PyProof.Rows
section
variable{X:Cx}
def tVar(i:Nat):TE:=fun σ H Q=>∃v,σ[i]?=some (some v)∧Q v H
def tC(v:V):TE:=fun _ H Q=>Q v H
theorem pe_var{i:Nat}{x:Str}{pos:Pos}(hN:X.N[i]?=some x)(hv:Vis X.env.scope x)(hd:(x == ("__debug__" : Str))=false:=by decide)(hcd:(x == ("__classdict__" : Str))=false:=by decide):PE X (.Name x pos) (tVar i):=by
 intro pins s σ H Q I h;obtain⟨v,e,h⟩:=h;obtain⟨m,hn,hl⟩:=I.loc;obtain⟨u,r,l⟩:=hl i x v hN e hv;have fin:EP X pins σ Q u s:=⟨v,H,I,r,h⟩;rcases l with⟨hk,hm⟩ | ⟨hk,c,hc,hcell⟩
 ·exact wpAny_Name (wpAny_loadName_local I.ok.kind hk hn hm fin) hd
 ·rcases hk with hk | hk
  ·exact wpAny_Name (wpAny_loadName_cell I.ok.kind hk hc hcell fin) hd
  ·exact wpAny_Name (wpAny_loadName_free I.ok.kind hk hc hcell fin hcd) hd
theorem qak{i j pos}:PE X (.Constant (.int i) j pos) (tC (.int i)):=fun _ _ _ H _ I h=>wpAny_Constant_int ⟨.int i,H,I.tok _,⟨_,rfl⟩,h⟩
theorem qcJ{b j pos}:PE X (.Constant (.bool b) j pos) (tC (.bl b)):=fun _ _ _ H _ I h=>Constant_bool ⟨.bl b,H,I,rfl,h⟩
theorem qao{x j pos}:PE X (.Constant (.str x) j pos) (tC (.str x)):=fun _ _ _ H _ I h=>Calls.Constant_str ⟨.str x,H,I.tok _,⟨_,rfl⟩,h⟩
def Gl(X:Cx)(x:Str):Prop:=X.env.kindOf x=some .globalImplicit
theorem qco{E:Value→Shared→Prop}{pins:List (Addr×Obj)}{s:Shared}{σ:St}{H:Hp}{x:Str}{u:Value}{pos:Pos}{Q:Value→Shared→Prop}(I:Inv X pins σ H s)(hg:Gl X x)(hm:X.mg x=some u)(h:Q u s)(hd:(x == ("__debug__" : Str))=false:=by decide):wpAny (model X.prog X.w) X.A (eval (.Name x pos) X.env) Q E s :=
 Calls.Name_function_global I.ok.kind hg (Calls.loadGlobal_global (by rw[I.ok.glob];exact I.mod.glob.keeps I.bk) hm h) hd
theorem qc8{E:Value→Shared→Prop}{pins:List (Addr×Obj)}{s:Shared}{σ:St}{H:Hp}{x:Str}{u:Value}{pos:Pos}{Q:Value→Shared→Prop}(I:Inv X pins σ H s)(hg:Gl X x)(hm:X.mg x=none)(hv:bootBuiltins x=some u)(h:Q u s)(hn:x ≠ "__name__":=by decide)(hd:(x == ("__debug__" : Str))=false:=by decide):wpAny (model X.prog X.w) X.A (eval (.Name x pos) X.env) Q E s:=by
 obtain⟨mb,h1,h2⟩:=I.mod.blt;exact Calls.Name_function_global I.ok.kind hg (Calls.loadGlobal_builtin (by rw[I.ok.glob];exact I.mod.glob.keeps I.bk) hm (by rw[I.ok.blt];exact h1.keeps I.bk) ((h2 x hn).trans hv) h) hd
theorem qap{x:Str}{v:V}{u:Value}{pos:Pos}(hg:Gl X x)(hm:X.mg x=some u)(r:RelV v u)(hd:(x == ("__debug__" : Str))=false:=by decide):PE X (.Name x pos) (tC v) :=
 fun _ _ _ H _ I h=>qco I hg hm ⟨v,H,I,r,h⟩ hd
theorem qe5{x:Str}{v:V}{u:Value}{pos:Pos}(hg:Gl X x)(hm:X.mg x=none)(hv:bootBuiltins x=some u)(r:RelV v u)(hn:x ≠ "__name__":=by decide)(hd:(x == ("__debug__" : Str))=false:=by decide):PE X (.Name x pos) (tC v) :=
 fun _ _ _ H _ I h=>qc8 I hg hm hv ⟨v,H,I,r,h⟩ hn hd
variable{a b:Expr}{ta tb:TE}{pos:Pos}
def tB(t:TE):TT:=fun σ H Q=>t σ H fun x H1=>∃c,x=.bl c∧Q c H1
theorem qbj{e:Expr}{t:TE}(h:PE X e t)(he:∀ whole,isTrue e X.env whole=(do let v ← whole; standAt e.pos; holding [v] (truthy v)):=by intro _; rfl):PT X e (tB t):=by
 intro pins s σ H Q I hw
 refine isTrue_plain (thn (h pins s σ H _ I hw) fun v s1 ⟨x,H1,I1,r1,q1⟩=>?_) (he _)
 obtain ⟨d,rfl,q⟩:=q1
 cases r1
 exact wpAny_truthy_bool ⟨H1,I1,q⟩
variable{tA tB':TT}{rest:List Expr}
def tAnd(t u:TT):TT:=fun σ H Q=>t σ H fun c H1=>if c=true then u σ H1 Q else Q false H1
def tOr(t u:TT):TT:=fun σ H Q=>t σ H fun c H1=>if c=true then Q true H1 else u σ H1 Q
def tNot(t:TT):TT:=fun σ H Q=>t σ H fun c H1=>Q (!c) H1
theorem qby(ha:PT X a tA):PW X (.BoolOp .And [a] pos) tA:=by
 intro wh pins s σ H Q I h;refine isTrue_and (thn (ha pins s σ H Q I h) fun c s1 e=>?_);cases c with
 | true=>exact isTrue_and_nil e
 | false=>exact e
theorem qbQ(ha:PT X a tA):PW X (.BoolOp .Or [a] pos) tA:=by
 intro wh pins s σ H Q I h;refine isTrue_or (thn (ha pins s σ H Q I h) fun c s1 e=>?_);cases c with
 | false=>exact isTrue_or_nil e
 | true=>exact e
theorem qbP(ha:PT X a tA)(hb:PW X (.BoolOp .And (b::rest) pos) tB'):PW X (.BoolOp .And (a::b::rest) pos) (tAnd tA tB'):=by
 intro wh pins s σ H Q I h;refine isTrue_and (thn (ha pins s σ H _ I h) fun c s1 ⟨H1,I1,q1⟩=>?_);cases c with
 | true=>exact hb wh pins s1 σ H1 Q I1 q1
 | false=>exact⟨H1,I1,q1⟩
theorem qcx(ha:PT X a tA)(hb:PW X (.BoolOp .Or (b::rest) pos) tB'):PW X (.BoolOp .Or (a::b::rest) pos) (tOr tA tB'):=by
 intro wh pins s σ H Q I h;refine isTrue_or (thn (ha pins s σ H _ I h) fun c s1 ⟨H1,I1,q1⟩=>?_);cases c with
 | true=>exact⟨H1,I1,q1⟩
 | false=>exact hb wh pins s1 σ H1 Q I1 q1
theorem qa6(ha:PT X a tA):PT X (.UnaryOp .Not a pos) (tNot tA):=by
 intro pins s σ H Q I h;exact isTrue_not (ha pins s σ H (fun c H1=>Q (!c) H1) I h)
def tAndV(ta tb:TE):TE:=fun σ H Q=>ta σ H fun x H1=>∃c,x=.bl c∧if c=true then tb σ H1 Q else Q (.bl false) H1
def tOrV(ta tb:TE):TE:=fun σ H Q=>ta σ H fun x H1=>∃c,x=.bl c∧if c=true then Q (.bl true) H1 else tb σ H1 Q
def tNotV(ta:TE):TE:=fun σ H Q=>ta σ H fun x H1=>∃c,x=.bl c∧Q (.bl (!c)) H1
theorem qbL{op}{t:TE}(h:PE X a t):PE X (.BoolOp op [a] pos) t:=fun pins s σ H Q I hw=>BoolOp_one (h pins s σ H Q I hw)
theorem qb4(ha:PE X a ta)(hb:PE X (.BoolOp .And (b::rest) pos) tb):PE X (.BoolOp .And (a::b::rest) pos) (tAndV ta tb):=by
 intro pins s σ H Q I h;refine BoolOp_and (thn (ha pins s σ H _ I h) fun v s1 ⟨x,H1,I1,r1,q1⟩=>?_);obtain⟨c,rfl,q1⟩:=q1;cases r1;refine wpAny_truthy_bool ?_;cases c with
 | true=>exact hb pins s1 σ H1 Q I1 q1
 | false=>exact⟨.bl false,H1,I1,rfl,q1⟩
theorem qeL(ha:PE X a ta)(hb:PE X (.BoolOp .Or (b::rest) pos) tb):PE X (.BoolOp .Or (a::b::rest) pos) (tOrV ta tb):=by
 intro pins s σ H Q I h;refine BoolOp_or (thn (ha pins s σ H _ I h) fun v s1 ⟨x,H1,I1,r1,q1⟩=>?_);obtain⟨c,rfl,q1⟩:=q1;cases r1;refine wpAny_truthy_bool ?_;cases c with
 | false=>exact hb pins s1 σ H1 Q I1 q1
 | true=>exact⟨.bl true,H1,I1,rfl,q1⟩
theorem qfh(ha:PE X a ta):PE X (.UnaryOp .Not a pos) (tNotV ta):=by
 intro pins s σ H Q I h;refine UnaryOp_ (thn (ha pins s σ H _ I h) fun v s1 ⟨x,H1,I1,r1,q1⟩=>?_);obtain⟨c,rfl,q1⟩:=q1;cases r1;exact not_of (wpAny_truthy_bool ⟨.bl (!c),H1,I1,rfl,q1⟩)
end
end L2
namespace L2
open PySem PySem.Spec PyProof.Rows
def SqL(K:PySem.W.Frag)(H:Hp)(a:Addr)(xs:List V):Prop :=
 Rd H a (.lst xs) ∨
  ∃(o:Obj) (its:Array Value) (n:Nat),K.lookup a=some o∧o.cls=.type "list" ∧ o.dict=none∧o.data=.seq its n∧its.size≤sizeLine∧Vals xs its.toList
def SqT(K:PySem.W.Frag)(H:Hp)(a:Addr)(xs:List V):Prop :=
 Rd H a (.tup xs) ∨
  ∃(o:Obj) (its:Array Value) (n:Nat),K.lookup a=some o∧o.cls=.type "tuple" ∧ o.data=.seq its n∧its.size≤sizeLine∧Vals xs its.toList
def absV:Value→Option V
 | .none=>some .non
 | .bool b=>some (.bl b)
 | .int i _=>some (.int i)
 | .str x _=>some (.str x)
 | .bytes b _=>some (.byt b)
 | .float b _=>some (.flt b)
 | .ref a=>some (.ref a)
 | .type n=>some (.ty n)
 | _=>none
theorem RelV.abs{x:V}{u:Value}(r:RelV x u):absV u=some x:=by
 cases x with
 | non=>cases r;rfl
 | bl _=>cases r;rfl
 | int _=>obtain⟨t,rfl⟩:=r;rfl
 | str _=>obtain⟨t,rfl⟩:=r;rfl
 | byt _=>obtain⟨t,rfl⟩:=r;rfl
 | flt _=>obtain⟨t,rfl⟩:=r;rfl
 | ref _=>cases r;rfl
 | ty _=>cases r;rfl
theorem RelV.inj{x y:V}{u:Value}(r:RelV x u)(q:RelV y u):x=y:=Option.some.inj (r.abs.symm.trans q.abs)
theorem Vals.inj:∀{xs ys:List V} {us:List Value},Vals xs us→Vals ys us→xs=ys
 | _,_,_,.nil,.nil=>rfl
 | _,_,_,.cons r t,.cons r' t'=>by rw[r.inj r',Vals.inj t t']
section
variable{X:Cx}{pins:List (Addr×Obj)}{σ:St}{H:Hp}{s:Shared}{a:Addr}{xs ys:List V}
theorem SqL.of{K:PySem.W.Frag}(h:H a=some (.lst xs)):SqL K H a xs:=.inl (.inl h)
theorem SqT.of{K:PySem.W.Frag}(h:H a=some (.tup xs)):SqT K H a xs:=.inl (.inl h)
theorem Inv.list(I:Inv X pins σ H s)(h:SqL X.K H a xs):∃its:List Value,Vals xs its∧PlainL s.heap a its.toArray∧xs.length≤sizeLine:=by
 rcases h with h | ⟨o,its,n,hk,hc,hd,hs,hz,r⟩
 ·obtain⟨z,its,n,r,e⟩:=h.ok I.hok;exact⟨its,r,⟨_,n,e,rfl,rfl,rfl⟩,z⟩
 ·refine⟨its.toList,r,⟨o,n,I.kIn a o hk,hc,hd,by simpa using hs⟩,?_⟩;have e:=r.length;simp only[Array.length_toList]at e;omega
theorem Inv.tuple(I:Inv X pins σ H s)(h:SqT X.K H a xs):∃its:List Value,Vals xs its∧IsTup s.heap a its.toArray∧xs.length≤sizeLine:=by
 rcases h with h | ⟨o,its,n,hk,hc,hs,hz,r⟩
 ·obtain⟨z,its,r,p⟩:=h.ok I.hok;exact⟨its,r,p,z⟩
 ·refine⟨its.toList,r,⟨o,I.kIn a o hk,hc,n,by simpa using hs⟩,?_⟩;have e:=r.length;simp only[Array.length_toList]at e;omega
theorem Inv.list_inj(I:Inv X pins σ H s)(h:SqL X.K H a xs)(h':SqL X.K H a ys):xs=ys:=by
 obtain⟨its,r,⟨o,n,e,_,_,d⟩,_⟩:=I.list h;obtain⟨its',r',⟨o',n',e',_,_,d'⟩,_⟩:=I.list h';rw[e]at e';cases e';rw[d]at d';injection d' with d1 _
 have:its=its':=by simpa using congrArg Array.toList d1
 subst this;exact r.inj r'
end
abbrev Cx.wish(X:Cx)(E:Value→Shared→Prop):Cx:={X with xe:=E}
abbrev Cx.nox(X:Cx):Cx:=X.wish fun _ _=>False
theorem Cx.Ok.wish{X:Cx}(ok:X.Ok)(E:Value→Shared→Prop):(X.wish E).Ok :=
 ⟨ok.mod,ok.kind,ok.glob,ok.blt,ok.above,ok.inj,ok.has,ok.cab,ok.hd,ok.frames,ok.stk,ok.exf,ok.bs,ok.bsz,ok.noex,ok.exfs,ok.funs,ok.frf⟩
theorem Cx.Ok.unwish{X:Cx}{E:Value→Shared→Prop}(ok:(X.wish E).Ok):X.Ok :=
 ⟨ok.mod,ok.kind,ok.glob,ok.blt,ok.above,ok.inj,ok.has,ok.cab,ok.hd,ok.frames,ok.stk,ok.exf,ok.bs,ok.bsz,ok.noex,ok.exfs,ok.funs,ok.frf⟩
section
variable{X:Cx}{pins:List (Addr×Obj)}{σ:St}{H:Hp}{s:Shared}{E:Value→Shared→Prop}
theorem Inv.wish(I:Inv X pins σ H s)(E:Value→Shared→Prop):Inv (X.wish E) pins σ H s:=⟨I.ok.wish E,I.os,I.bare,I.base,I.loc,I.cell,I.free,I.freeC,I.pin,I.hok,I.len⟩
theorem Inv.unwish(I:Inv (X.wish E) pins σ H s):Inv X pins σ H s:=⟨I.ok.unwish,I.os,I.bare,I.base,I.loc,I.cell,I.free,I.freeC,I.pin,I.hok,I.len⟩
theorem SP.unwish{D:Ends}{f:Flow}{s':Shared}(h:SP (X.wish E) pins D f s'):SP X pins D f s':=by
 cases f with
 | next=>obtain⟨σ',H',I,q⟩:=h;exact⟨σ',H',I.unwish,q⟩
 | brk=>obtain⟨σ',H',I,q⟩:=h;exact⟨σ',H',I.unwish,q⟩
 | cont=>obtain⟨σ',H',I,q⟩:=h;exact⟨σ',H',I.unwish,q⟩
 | ret u=>obtain⟨v,σ',H',I,r,q⟩:=h;exact⟨v,σ',H',I.unwish,r,q⟩
theorem PE.nox{e:Expr}{t:TE}(h:PE X.nox e t):PE X e t:=fun pins s σ H Q I hw =>
 wpAny_mono (h pins s σ H Q (I.wish _) hw) (fun _ _ ⟨v,H',I',r,q⟩=>⟨v,H',I'.unwish,r,q⟩) fun _ _ z=>False.elim z
theorem PT.nox{e:Expr}{t:TT}(h:PT X.nox e t):PT X e t:=fun pins s σ H Q I hw =>
 wpAny_mono (h pins s σ H Q (I.wish _) hw) (fun _ _ ⟨H',I',q⟩=>⟨H',I'.unwish,q⟩) fun _ _ z=>False.elim z
theorem PSs.nox{st:List Stmt}{t:TS}(h:PSs X.nox st t):PSs X st t:=fun pins s σ H D I hw =>
 wpAny_mono (h pins s σ H D (I.wish _) hw) (fun _ _ q=>q.unwish) fun _ _ z=>False.elim z
end
section
variable{X:Cx}{st:Stmt}{rest:List Stmt}{t u:TS}{e:Expr}{te:TE}{pos:Pos}
def tNext:TS:=fun D σ H=>D.nx σ H
def tSeq(t u:TS):TS:=fun D σ H=>t {D with nx:=u D} σ H
theorem pss_nil:PSs X [] tNext:=fun _ _ σ H _ I h=>wpAny_execs_nil ⟨σ,H,I,h⟩
theorem qae(h1:PS X st t)(h2:PSs X rest u):PSs X (st::rest) (tSeq t u):=by
 intro pins s σ H D I h;refine wpAny_execs_cons (thn (h1 pins s σ H {D with nx:=u D} I h) fun f s1 q=>?_);cases f with
 | next =>
   obtain⟨σ',H',I',q⟩:=q
   exact h2 pins s1 σ' H' D I' q
 | ret v=>exact q
 | brk=>exact q
 | cont=>exact q
theorem qai(h1:PS X st t):PSs X [st] t:=by
 intro pins s σ H D I h;refine wpAny_execs_cons (thn (h1 pins s σ H D I h) fun f s1 q=>?_);cases f with
 | next=>exact wpAny_execs_nil q
 | ret v=>exact q
 | brk=>exact q
 | cont=>exact q
theorem Inv.quiet{pins:List (Addr×Obj)}{σ:St}{H:Hp}{s:Shared}(I:Inv X pins σ H s):interactive X.env=false:=by simp[interactive,I.ok.kind]
def tDrop(te:TE):TS:=fun D σ H=>te σ H fun _ H1=>D.nx σ H1
theorem qa8(he:PE X e te)(hs:swapsWith e none pos.line X.env=pure false:=by rfl):PS X (.Expr e pos) (tDrop te):=by
 intro pins s σ H D I h;exact wpAny_Expr_any (thn (he pins s σ H _ I h) fun v s1 ⟨x,H1,I1,r1,q1⟩=>⟨σ,H1,I1,q1⟩) I.quiet hs
def tRet(te:TE):TS:=fun D σ H=>te σ H D.rt
theorem qat(he:PE X e te):PS X (.Return (some e) pos) (tRet te):=by
 intro pins s σ H D I h;exact wpAny_Return_some (thn (he pins s σ H _ I h) fun v s1 ⟨x,H1,I1,r1,q1⟩=>⟨x,σ,H1,I1,r1,q1⟩)
def tIfS(c:TT)(t u:TS):TS:=fun D σ H=>c σ H fun b H1=>if b=true then t D σ H1 else u D σ H1
theorem qaR{c:Expr}{a b:List Stmt}{tc:TT}(hc:PT X c tc)(ha:PSs X a t)(hb:PSs X b u):PS X (.If c a b pos) (tIfS tc t u):=by
 intro pins s σ H D I h;refine wpAny_If (thn (hc pins s σ H _ I h) fun d s1 ⟨H1,I1,q1⟩=>?_);cases d with
 | true=>exact ha pins s1 σ H1 D I1 q1
 | false=>exact hb pins s1 σ H1 D I1 q1
end
abbrev TG:=V→St→Hp→(St→Hp→Prop)→Prop
abbrev TGs:=List V→St→Hp→(St→Hp→Prop)→Prop
def PG(X:Cx)(target:Expr)(t:TG):Prop :=
 ∀(pins:List (Addr×Obj)) (s:Shared) (σ:St) (H:Hp) (v:V) (u:Value) (Q:St→Hp→Prop),Inv X pins σ H s→RelV v u→t v σ H Q →
  wpAny (model X.prog X.w) X.A (assign target X.env u) (fun _ s'=>∃σ' H',Inv X pins σ' H' s'∧Q σ' H') X.xe s
def PGs(X:Cx)(ts:List Expr)(t:TGs):Prop :=
 ∀(pins:List (Addr×Obj)) (s:Shared) (σ:St) (H:Hp) (vs:List V) (us:List Value) (Q:St→Hp→Prop),Inv X pins σ H s→Vals vs us→t vs σ H Q →
  wpAny (model X.prog X.w) X.A (assignInOrder ((assignEach ts X.env).map (·.2)) us) (fun _ s'=>∃σ' H',Inv X pins σ' H' s'∧Q σ' H') X.xe s
abbrev TSet:=V→V→V→Hp→(Hp→Prop)→Prop
def PSet(X:Cx)(t:TSet):Prop :=
 ∀(pins:List (Addr×Obj)) (s:Shared) (σ:St) (H:Hp) (o i v:V) (ov iv u:Value) (Q:Hp→Prop),Inv X pins σ H s→RelV o ov→RelV i iv→RelV v u→t o i v H Q →
  wpAny (model X.prog X.w) X.A (setItem ov iv u) (fun _ s'=>∃H',Inv X pins σ H' s'∧Q H') X.xe s
section
variable{X:Cx}{pos:Pos}
def qeI(i:Nat):TG:=fun v σ H Q=>Q (σ.set i (some v)) H
theorem qaH{i:Nat}{x:Str}(hN:X.N.Nodup)(hi:X.N[i]?=some x)(hx:Loc X.env.scope x)(hf:X.fn x=true∨X.env.scope.names.lookup x=some .local:=by first | exact .inl rfl | exact .inr rfl | assumption):PG X (.Name x pos) (qeI i):=by
 intro pins s σ H v u Q I r h;exact wpAny_assign_Name (qdl I hN hi hx r (fun s' I'=>⟨_,H,I',h⟩) hf)
def gNil:TGs:=fun vs σ H Q=>vs=[]∧Q σ H
def gCons(t:TG)(u:TGs):TGs:=fun vs σ H Q=>∃v r,vs=v::r∧t v σ H fun σ' H'=>u r σ' H' Q
theorem pgs_nil:PGs X [] gNil:=by
 intro pins s σ H vs us Q I r h;obtain⟨e,h⟩:=h;subst e;cases r;exact assignInOrder_nil ⟨σ,H,I,h⟩
theorem qbf{e:Expr}{es:List Expr}{t:TG}{u:TGs}(h1:PG X e t)(h2:PGs X es u)(hs:(assignEach (e::es) X.env).map (·.2)=assign e X.env::(assignEach es X.env).map (·.2):=by rfl):PGs X (e::es) (gCons t u):=by
 intro pins s σ H vs us Q I r h;obtain⟨v,vr,e1,h⟩:=h;subst e1;cases r with
 | cons r rr =>
   rw[hs]
   refine assignInOrder_cons (thn (h1 pins s σ H _ _ _ I r h) fun _ s1 ⟨σ1,H1,I1,q1⟩=>?_)
   exact h2 pins s1 σ1 H1 _ _ Q I1 rr q1
def gTup(K:PySem.W.Frag)(n:Nat)(t:TGs):TG:=fun v σ H Q=>∃a xs,v=.ref a∧SqT K H a xs∧xs.length=n∧t xs σ H Q
theorem qfg{es:List Expr}{k:Nat}{t:TGs}{n:Nat}(hc:X.calm=true)(h:PGs X es t)(hn:(assignEach es X.env).length=n:=by rfl)(hst:(assignEach es X.env).findIdx? (·.1)=none:=by rfl):PG X (.Tuple es k pos) (gTup X.K n t):=by
 intro pins s σ H v u Q I r hw;obtain⟨a,xs,e1,hq,hl,hw⟩:=hw;subst e1;cases r;obtain⟨its,rv,ht,hz⟩:=I.tuple hq;refine assign_Tuple_tuple (I.ok.hd hc) ht (by simp[hn,←hl,rv.length]) hst fun h' hx=>?_
 have I1:Inv X pins σ H {s with heap:=h'}:=I.kept (t':=s.toks) fun b o e=>hx b o (Nat.ne_of_lt (Heap.lt_size e)) e
 exact h pins _ σ H xs _ Q I1 (by simpa using rv) hw
def gSub(to ti:TE)(t:TSet):TG:=fun v σ H Q=>to σ H fun o H1=>ti σ H1 fun i H2=>t o i v H2 fun H3=>Q σ H3
theorem qfB{o i:Expr}{to ti:TE}{t:TSet}(ho:PE X o to)(hi:PE X i ti)(hs:PSet X t)(ha:∀ v,assign (.Subscript o i pos) X.env v=(do
   let ov ← holding [v] (eval o X.env)
   let iv ← holding [v,ov] (eval i X.env)
   standAt pos
   holding [v,ov,iv] (setItem ov iv v)
   release [v,ov,iv] []):=by intro _; rfl):PG X (.Subscript o i pos) (gSub to ti t):=by
 intro pins s σ H v u Q I r h
 rw [ha]
 refine wpAny_bind (wpAny_holding (thn (ho pins s σ H _ I h) fun ov s1 ⟨x,H1,I1,r1,q1⟩=>?_))
 refine wpAny_bind (wpAny_holding (thn (hi pins s1 σ H1 _ I1 q1) fun iv s2 ⟨y,H2,I2,r2,q2⟩=>?_))
 refine wpAny_bind (wpAny_standAt (wpAny_bind (wpAny_holding (thn (hs pins s2 σ H2 x y v ov iv u _ I2 r1 r2 r q2) fun _ s3 ⟨H3,I3,q3⟩=>?_))))
 exact wpAny_release ⟨σ,H3,I3,q3⟩
def tAsg(te:TE)(g:TG):TS:=fun D σ H=>te σ H fun x H1=>g x σ H1 D.nx
theorem qfH{tg e:Expr}{te:TE}{g:TG}(he:PE X e te)(hg:PG X tg g)(hs:swapsWithSole [tg] e pos.line X.env=pure false:=by rfl)(hw:swappedStores [tg] e X.env=pure none:=by rfl)(h1:(assignEach [tg] X.env).map (·.2)=[assign tg X.env]:=by rfl):PS X (.Assign [tg] e pos) (tAsg te g):=by
 intro pins s σ H D I h;refine wpAny_Assign_stores (thn (he pins s σ H _ I h) fun v s1 ⟨x,H1,I1,r1,q1⟩=>?_) hs hw;rw[h1];exact thn (hg pins s1 σ H1 x v _ I1 r1 q1) fun _ s2 q=>q
theorem qaD{i:Nat}{x:Str}{e:Expr}{te:TE}{pos':Pos}(hN:X.N.Nodup)(hi:X.N[i]?=some x)(hx:Loc X.env.scope x)(he:PE X e te)(hs:swapsWith e (some (.Name x pos')) pos.line X.env=pure false:=by rfl)(hf:X.fn x=true∨X.env.scope.names.lookup x=some .local:=by first | exact .inl rfl | exact .inr rfl | assumption) :
  PS X (.Assign [.Name x pos'] e pos) (tAsg te (qeI i)):=by
 intro pins s σ H D I h;refine wpAny_Assign_Name (thn (he pins s σ H _ I h) fun v s1 ⟨y,H1,I1,r1,q1⟩=>?_) hs;exact qdl I1 hN hi hx r1 (fun s2 I2=>⟨_,H1,I2,q1⟩) hf
end
section
variable{X:Cx}{pos:Pos}
def tWhile(c:TT)(tb:TS):TS:=fun D σ H=>∃W:Nat→St→Hp→Prop,(∃m,W m σ H)∧∀m σ H,W m σ H →
 c σ H fun b H1=>if b=true then∃N:St→Hp→Prop,(∀σ' H',N σ' H'→∃m',m'<m∧W m' σ' H')∧tb {D with nx:=N,ct:=N,bk:=D.nx} σ H1 else D.nx σ H1
theorem ps_while{c:Expr}{body:List Stmt}{tc:TT}{tb:TS}(hp:PassesOwn (model X.prog X.w) X.A X.env X.xe)(hc:PT X c tc)(hb:PSs X body tb):PS X (.While c body [] pos) (tWhile tc tb):=by
 intro pins s σ H D I h;obtain⟨W,⟨m0,w0⟩,turn⟩:=h;refine wpAny_While (codeAny_whileLoop (fun n s'=>∃σ' H',Inv X pins σ' H' s'∧W n σ' H') ?_ m0 ⟨σ,H,I,w0⟩);rintro n s1 ⟨σ1,H1,I1,w1⟩;refine wpAny_passesOwn hp (thn (hc pins s1 σ1 H1 _ I1 (turn n σ1 H1 w1)) fun b s2 ⟨H2,I2,q2⟩=>?_);cases b with
 | true =>
   obtain⟨N,hN,q2⟩:=q2
   rw[if_pos rfl]
   refine wpAny_passesOwn hp (thn (hb pins s2 σ1 H2 _ I2 q2) fun f s3 q3=>?_)
   cases f with
   | next =>
     obtain⟨σ3,H3,I3,n3⟩:=q3
     obtain⟨m',hm,w3⟩:=hN σ3 H3 n3
     exact⟨m',hm,σ3,H3,I3,w3⟩
   | cont =>
     obtain⟨σ3,H3,I3,n3⟩:=q3
     obtain⟨m',hm,w3⟩:=hN σ3 H3 n3
     exact⟨m',hm,σ3,H3,I3,w3⟩
   | brk=>exact q3
   | ret v=>exact q3
 | false =>
   rw[if_neg Bool.false_ne_true]
   exact wpAny_execs_nil ⟨σ1,H2,I2,q2⟩
end
structure It where
 go:Nat→Hp→Prop
 yld:Nat→Hp→V→Hp→Prop
 stop:Nat→Hp→Prop
def FpOk(X:Cx)(pins:List (Addr×Obj))(H:Hp)(b:Addr):Prop :=
 H b=none∧b≠X.env.locals∧b∉X.fs∧(b∈X.ex∨X.s₀.heap.objs.size≤b)∧(∀x c,X.env.cells.lookup x=some c→c≠b)∧∀p∈X.pn++pins,p.1≠b
theorem Inv.fpOk{X:Cx}{pins:List (Addr×Obj)}{σ:St}{H H':Hp}{s:Shared}{b:Addr}(I:Inv X pins σ H s)(hb:s.heap.objs.size≤b)(hn:H' b=none):FpOk X pins H' b:=by
 refine⟨hn,Nat.ne_of_gt (Nat.lt_of_lt_of_le I.lt hb),I.nofs hb,.inr (Nat.le_trans I.sz hb),fun x c e z=>?_,fun p hp z=>?_⟩
 ·obtain⟨v,q⟩:=I.cell x c e;exact absurd (Nat.lt_of_lt_of_le q.lt (by rw[z];exact hb)) (Nat.lt_irrefl _)
 ·exact absurd (Nat.lt_of_lt_of_le (Heap.lt_size (I.pin p hp).1) (by rw[z];exact hb)) (Nat.lt_irrefl _)
structure Turn(P:Program)(w:World)(K:PySem.W.Frag)(tg:Expr)(J:It)(fp:List Addr)(it:Addr)(tn:Nat→Heap→Prop):Prop where
 mem:it∈fp
 obj:∀i h,tn i h→∀b∈fp,∃o,h.get? b=some o∧∀v,o.data≠.cell v
 keep:∀i h h',tn i h→(∀b∈fp,∀o,h.get? b=some o→h'.get? b=some o)→tn i h'
 item:∀(X:Cx),X.prog=P→X.w=w→X.K=K→X.calm=true→∀(i:Nat) (pins:List (Addr×Obj)) (s:Shared) (σ:St) (H:Hp) (E:Value→Shared→Prop),Inv X pins σ H s→(∀b∈fp,FpOk X pins H b)→tn i s.heap→J.go i H →
  wpAny (model P w) X.A (pyNext (.ref it)) (fun r s1=>∃u,r=some u ∧
   wpAny (model P w) X.A (letOwnedTupleGo tg (.ref it) u) (fun _ s2=>∃x H',Inv X pins σ H' s2∧RelV x u∧J.yld i H x H'∧tn (i+1) s2.heap∧∀b∈fp,H' b=none) E s1) E s
 done:∀(X:Cx),X.prog=P→X.w=w→X.K=K→X.calm=true→∀(i:Nat) (pins:List (Addr×Obj)) (s:Shared) (σ:St) (H:Hp) (E:Value→Shared→Prop),Inv X pins σ H s→(∀b∈fp,FpOk X pins H b)→tn i s.heap→J.stop i H →
  wpAny (model P w) X.A (pyNext (.ref it)) (fun r s1=>r=none∧Inv X pins σ H s1) E s
 self:∀(A:Around) (i:Nat) (s:Shared) (Q:Value→Shared→Prop) (E:Value→Shared→Prop),tn i s.heap→Q (.ref it) s→wpAny (model P w) A (pyIter (.ref it)) Q E s
abbrev TI:=St→Hp→(It→Hp→Prop)→Prop
def PIE(X:Cx)(pins:List (Addr×Obj))(σ:St)(tg:Expr)(R:It→Hp→Prop)(itv:Value)(s2:Shared):Prop :=
 ∃(it:Addr) (fp:List Addr) (tn:Nat→Heap→Prop) (J:It) (H':Hp),itv=.ref it∧Inv X pins σ H' s2∧Turn X.prog X.w X.K tg J fp it tn∧tn 0 s2.heap∧(∀b∈fp,FpOk X pins H' b)∧R J H'
def PI(X:Cx)(tg iter:Expr)(wi:TI):Prop :=
 ∀(pins:List (Addr×Obj)) (s:Shared) (σ:St) (H:Hp) (R:It→Hp→Prop),Inv X pins σ H s→wi σ H R →
  wpAny (model X.prog X.w) X.A (eval iter X.env) (fun v s1=>wpAny (model X.prog X.w) X.A (pyIter v) (PIE X pins σ tg R) X.xe s1) X.xe s
theorem qfR{M:Model}{A:Around}{E:Value→Shared→Prop}{s:Shared}{tg:Expr}{it:Addr}{u:Value}{o:Obj}{n:String}{vs:Array Value}{Q:Unit→Shared→Prop}(ho:s.heap.get? it=some o)(hc:o.cls=.type n)(hd:o.data=.fields vs)(hn:["enumerate", "zip", "dict_itemiterator", "dict_reverseitemiterator", "odict_iterator", "itertools.zip_longest", "itertools.pairwise"].contains n=false)(hQ:Q () s):wpAny M A (letOwnedTupleGo tg (.ref it) u) Q E s:=by
 unfold letOwnedTupleGo;cases tg<;>first
  | exact wpAny_pure hQ
  | (cases u<;>first
    | exact wpAny_pure hQ
    | (refine wpAny_bind (wpAny_load ho ?_)
       rw[hc,hd]
       show wpAny M A (if(["enumerate", "zip", "dict_itemiterator", "dict_reverseitemiterator", "odict_iterator", "itertools.zip_longest", "itertools.pairwise"].contains n && vs[0]? == some (rawInt _))=true then _ else _) Q E s
       rw[if_neg (by intro h;rw[hn,Bool.false_and]at h;cases h)]
       exact wpAny_pure hQ))
def Itl(K:PySem.W.Frag)(a:Addr):It :=
 ⟨fun i H=>∃xs x,SqL K H a xs∧xs[i]?=some x,fun i H x H'=>H'=H∧∀xs,SqL K H a xs→xs[i]?=some x,fun i H=>∃xs,SqL K H a xs∧xs.length≤i⟩
def Itr(lo:Int)(n:Nat):It:=⟨fun i _=>i<n,fun i H x H'=>H'=H∧x=.int (lo+i),fun i _=>n≤i⟩
theorem turn_list{P:Program}{w:World}{K:PySem.W.Frag}{tg:Expr}(a it:Addr):Turn P w K tg (Itl K a) [it] it (fun i h=>h.IsListIter it a i) where
 mem:=by simp
 obj:=fun i h st b hb=>by
  have e:b=it:=by simpa using hb
  subst e;obtain⟨o,e,c,d⟩:=st;exact⟨o,e,fun v z=>by rw[d]at z;cases z⟩
 keep:=fun i h h' st k=>st.at fun o e=>k it (by simp) o e
 item:=by
  intro X hP hw hK hc i pins s σ H E I hf st hg;subst hP hw hK;obtain⟨xs,x,hq,hx⟩:=hg;obtain⟨its,rv,p,hz⟩:=I.list hq;obtain⟨u,hu,ru⟩:=rv.get hx;obtain⟨f0,f1,f2,f3,f4,f5⟩:=hf it (by simp);refine wpAny_pyNext_list_item st p.isList (x:=u) (by simpa using hu) fun h' st' sb=>?_
  have I1:Inv X pins σ H {s with heap:=h'}:=I.turned (t':=s.toks) (fun b o hb e=>(sb.2 b hb).trans e) f0 f1 f3 f4 f5;obtain⟨o,e,c,d⟩:=id st';exact⟨u,rfl,qfR (s:={s with heap:=h'}) e c d (by decide) ⟨x,H,I1,ru,⟨rfl,fun ys hy=>by rw[I.list_inj hy hq];exact hx⟩,st',fun b hb=>(hf b hb).1⟩⟩
 done:=by
  intro X hP hw hK hc i pins s σ H E I hf st hg;subst hP hw hK;obtain⟨xs,hq,hx⟩:=hg;obtain⟨its,rv,p,hz⟩:=I.list hq;obtain⟨f0,f1,f2,f3,f4,f5⟩:=hf it (by simp);have hl:=rv.length;exact wpAny_pyNext_list_end (I.ok.hd hc) st p.isList (by simp;omega) fun h' eb=>⟨rfl,I.turned (t':=s.toks) (fun b o hb e=>eb b o hb e) f0 f1 f3 f4 f5⟩
 self:=fun _ _ _ _ _ st h=>wpAny_pyIter_listiter st h
theorem turn_range{P:Program}{w:World}{K:PySem.W.Frag}{tg:Expr}(it:Addr)(lo:Int)(n:Nat):Turn P w K tg (Itr lo n) [it] it (fun i h=>IsRangeIter h it (lo+(i:Nat)*1) ((n:Int)-(i:Nat)) 1) where
 mem:=by simp
 obj:=fun i h st b hb=>by
  have e:b=it:=by simpa using hb
  subst e;exact⟨_,st,fun v z=>by
   have z':Data.fields _=Data.cell v:=z;cases z'⟩
 keep:=fun i h h' st k=>k it (by simp) _ st
 item:=by
  intro X hP hw hK hc i pins s σ H E I hf st hg;subst hP hw hK;obtain⟨f0,f1,f2,f3,f4,f5⟩:=hf it (by simp);have W:=Walks.range (prog:=X.prog) (w:=X.w) (I.ok.hd hc) it lo 1 n;refine W.item i s _ _ hg st fun v h' tk hv st' kk=>?_
  obtain⟨t,rfl⟩:=hv;have I1:Inv X pins σ H {s with heap:=h',toks:=tk}:=I.turned (fun b o hb e=>kk b o (by simpa using hb) e) f0 f1 f3 f4 f5;refine⟨_,rfl,qfR (s:={s with heap:=h',toks:=tk}) (n := "range_iterator") st' rfl rfl (by decide) ⟨.int (lo+i),H,I1,⟨t,?_⟩,⟨rfl,rfl⟩,st',fun b hb=>(hf b hb).1⟩⟩;rw[Int.mul_one]
 done:=by
  intro X hP hw hK hc i pins s σ H E I hf st hg;subst hP hw hK;obtain⟨f0,f1,f2,f3,f4,f5⟩:=hf it (by simp);exact wpAny_pyNext_range_end (I.ok.hd hc) st (by have:n≤i:=hg;omega) fun h' eb=>⟨rfl,I.turned (t':=s.toks) (fun b o hb e=>eb b o hb e) f0 f1 f3 f4 f5⟩
 self:=fun _ _ _ _ _ st h=>wpAny_pyIter_rangeiter st h
end L2
namespace L2
open PySem PySem.Spec PyProof.Rows
section
variable{X:Cx}{tg:Expr}
def iList(K:PySem.W.Frag)(tl:TE):TI:=fun σ H R=>tl σ H fun x H1=>∃a,x=.ref a∧(∃xs,SqL K H1 a xs)∧R (Itl K a) H1
theorem qbl{l:Expr}{tl:TE}(hl:PE X l tl):PI X tg l (iList X.K tl):=by
 intro pins s σ H R I h;refine thn (hl pins s σ H _ I h) fun v s1 ⟨x,H1,I1,r1,q1⟩=>?_
 obtain⟨a,e,⟨xs,hq⟩,q⟩:=q1;subst e;cases r1;obtain⟨its,rv,p,hz⟩:=I1.list hq;refine wpAny_pyIter_list p.isList ?_;refine⟨s1.heap.objs.size,[s1.heap.objs.size],_,_,H1,rfl,I1.kept (t':=s1.toks) fun b o e=>Heap.get?_push_of_some _ e,turn_list a _,⟨_,Heap.get?_push_size _ rfl,rfl,rfl⟩,fun b hb=>?_,q⟩;have e:b=s1.heap.objs.size:=by simpa using hb
 subst e;exact I1.fpOk (Nat.le_refl _) (I1.hok.fresh (Nat.le_refl _))
theorem qeC{pins:List (Addr×Obj)}{σ:St}{H:Hp}{s:Shared}{R:It→Hp→Prop}{E:Value→Shared→Prop}{lo hi:Int}{t u v:Tok}{tk:Nat}(I:Inv X pins σ H s)(h1:-(2 ^ 62)≤lo)(h2:lo<2 ^ 62)(h3:-(2 ^ 62)≤hi)(h4:hi<2 ^ 62)(q:R (Itr lo (hi-lo).toNat) H):wpAny (model X.prog X.w) X.A (pyIter (.ref s.heap.objs.size)) (PIE X pins σ tg R) E {s with heap:=s.heap.push {cls:=.type "range",data:=.fields #[.int lo t,.int hi u,.int 1 v]},toks:=tk}:=by
 refine wpAny_pyIter_range (IsRange.new ..) (small_one h1 h2 h3 h4) ?_;have I1:Inv X pins σ H {s with heap:=s.heap.push {cls:=.type "range",data:=.fields #[.int lo t,.int hi u,.int 1 v]},toks:=tk}:=I.kept fun b o e=>Heap.get?_push_of_some _ e
 refine⟨(s.heap.push {cls:=.type "range",data:=.fields #[.int lo t,.int hi u,.int 1 v]}).objs.size,[(s.heap.push {cls:=.type "range",data:=.fields #[.int lo t,.int hi u,.int 1 v]}).objs.size],_,_,H,rfl,
  I1.kept (t':=tk) fun b o e=>Heap.get?_push_of_some _ e,turn_range _ lo (hi-lo).toNat,?_,fun b hb=>?_,q⟩
 ·have e1:lo+((0:Nat):Int)*1=lo:=by simp
  have e2:(((hi-lo).toNat:Nat):Int)-((0:Nat):Int)=Builtin.Range.rangeSize lo hi 1:=by rw[rangeSize_one];split<;>omega
  show IsRangeIter _ _ (lo+((0:Nat):Int)*1) ((((hi-lo).toNat:Nat):Int)-((0:Nat):Int)) 1;rw[e1,e2];exact Heap.get?_push_size _ rfl
 ·have e:b=(s.heap.push {cls:=.type "range",data:=.fields #[.int lo t,.int hi u,.int 1 v]}).objs.size:=by simpa using hb
  subst e;exact I1.fpOk (Nat.le_refl _) (I1.hok.fresh (Nat.le_refl _))
def iRng1(ta:TA):TI:=fun σ H R=>ta σ H fun vs H1=>∃j:Int,vs=[.int j]∧-(2 ^ 62)≤j∧j<2 ^ 62∧R (Itr 0 j.toNat) H1
def iRng2(ta:TA):TI:=fun σ H R=>ta σ H fun vs H1=>∃i j:Int,vs=[.int i,.int j]∧(-(2 ^ 62)≤i∧i<2 ^ 62∧-(2 ^ 62)≤j∧j<2 ^ 62)∧R (Itr i (j-i).toNat) H1
theorem qbg{a:Expr}{ta:TA}{p pos:Pos}(hg:Gl X "range")(hm:X.mg "range" = none)(ha:PA X [a] ta)(hs:starEach [a] X.env=[(false,eval a X.env)]:=by rfl):PI X tg (.Call (.Name "range" p) [a] [] pos) (iRng1 ta):=by
 intro pins s σ H R I h;refine Call_ (qc8 I hg hm boot_range (PyProof.Rows.callWith_type1 (thn (ha pos pins s σ H _ I h) fun us s1 ⟨vs,H1,I1,r1,q1⟩=>?_) hs rfl));obtain⟨j,e,q1,q2,q⟩:=q1;subst e;cases r1 with
 | cons r rr =>
   cases rr
   obtain⟨t,rfl⟩:=r
   exact call_range_1 (qeC I1 (by omega) (by omega) q1 q2 (by simpa using q))
theorem pi_range2{a b:Expr}{ta:TA}{p pos:Pos}(hg:Gl X "range")(hm:X.mg "range" = none)(ha:PA X [a,b] ta)(hs:starEach [a,b] X.env=[(false,eval a X.env),(false,eval b X.env)]:=by rfl)(hs2:starEach [b] X.env=[(false,eval b X.env)]:=by rfl) :
  PI X tg (.Call (.Name "range" p) [a,b] [] pos) (iRng2 ta):=by
 intro pins s σ H R I h;refine Call_ (qc8 I hg hm boot_range (PyProof.Rows.callWith_type1 (thn (ha pos pins s σ H _ I h) fun us s1 ⟨vs,H1,I1,r1,q1⟩=>?_) (by rw[hs,hs2]) (by rw[hs2];rfl)));obtain⟨i,j,e,⟨q1,q2,q3,q4⟩,q⟩:=q1;subst e;cases r1 with
 | cons r rr =>
   cases rr with
   | cons r' rr =>
     cases rr
     obtain⟨t,rfl⟩:=r
     obtain⟨t',rfl⟩:=r'
     exact call_range_2 (qeC I1 q1 q2 q3 q4 q)
def tFor(wi:TI)(g:TG)(tb:TS):TS:=fun D σ H=>wi σ H fun J H1=>∃W:Nat→Nat→St→Hp→Prop,(∃m,W 0 m σ H1)∧∀i m σ H,W i m σ H →
 (J.stop i H∧D.nx σ H)∨(J.go i H∧∃N:St→Hp→Prop,(∀σ' H',N σ' H'→∃m',m'<m∧W (i+1) m' σ' H')∧∀x H',J.yld i H x H'→g x σ H' fun σ2 H2=>tb {D with nx:=N,ct:=N,bk:=D.nx} σ2 H2)
def qcD(fp:List Addr)(h:Heap):List (Addr×Obj):=fp.filterMap fun b=>(h.get? b).map fun o=>(b,o)
theorem qbw{fp:List Addr}{h:Heap}{b:Addr}{o:Obj}(hb:b∈fp)(e:h.get? b=some o):(b,o)∈qcD fp h:=List.mem_filterMap.mpr ⟨b,hb,by rw[e];rfl⟩
theorem qdS{fp:List Addr}{h:Heap}{p:Addr×Obj}(hp:p∈qcD fp h):p.1∈fp∧h.get? p.1=some p.2:=by
 obtain⟨b,hb,e⟩:=List.mem_filterMap.mp hp;cases q:h.get? b with
 | none=>rw[q]at e;cases e
 | some o =>
   rw[q]at e
   have e':(b,o)=p:=Option.some.inj e
   subst e'
   exact⟨hb,q⟩
theorem Inv.pinned{pins:List (Addr×Obj)}{σ:St}{H:Hp}{s:Shared}{fp:List Addr}(I:Inv X pins σ H s)(hf:∀b∈fp,FpOk X pins H b)(ho:∀b∈fp,∃o,s.heap.get? b=some o∧∀v,o.data≠.cell v):Inv X (pins++qcD fp s.heap) σ H s :=
 I.pins_of fun p hp=>(List.mem_append.mp hp).elim (fun z=>I.pin p (List.mem_append_right _ z)) fun z=>by
  obtain⟨hb,e⟩:=qdS z;obtain⟨f0,f1,f2,_⟩:=hf p.1 hb;obtain⟨o,e',d⟩:=ho p.1 hb;rw[e]at e';cases e';exact⟨e,f0,f1,f2,d⟩
theorem Inv.unpinned{pins pl:List (Addr×Obj)}{σ:St}{H:Hp}{s:Shared}(I:Inv X (pins++pl) σ H s):Inv X pins σ H s:=I.pins_of fun p hp=>I.pin p (List.mem_append_right _ (List.mem_append_left _ hp))
theorem qbN{iter:Expr}{body:List Stmt}{wi:TI}{g:TG}{tb:TS}{pos:Pos}(hp:PassesOwn (model X.prog X.w) X.A X.env X.xe)(hc:X.calm=true)(hi:PI X tg iter wi)(hg:PG X tg g)(hb:PSs X body tb)(hs:∀x,foldedSetIterable iter X.env x=pure x:=by intro _;rfl):PS X (.For tg iter body [] pos) (tFor wi g tb):=by
 intro pins s σ H D I h;refine wpAny_For (thn (hi pins s σ H _ I h) fun v s1 h1=>thn h1 fun itv s2 h2=>?_) hs;obtain⟨it,fp,tn,J,H2,e,I2,T,st2,f2,W,⟨m0,w0⟩,turn⟩:=h2;subst e;have stat:∀{H':Hp},(∀b∈fp,H' b=none)→∀b∈fp,FpOk X pins H' b:=fun hn b hb=>⟨hn b hb,(f2 b hb).2⟩
 refine codeAny_forLoop_any (fun n s'=>∃i σ' H',Inv X pins σ' H' s'∧tn i s'.heap∧(∀b∈fp,H' b=none)∧W i n σ' H') ?_ m0 ⟨0,σ,H2,I2,st2,fun b hb=>(f2 b hb).1,w0⟩;rintro n s3 ⟨i,σ3,H3,I3,st3,fr3,w3⟩;rcases turn i n σ3 H3 w3 with⟨stop,qn⟩ | ⟨go,N,hN,step⟩
 ·refine wpAny_passesOwn hp (thn (T.done X rfl rfl rfl hc i pins s3 σ3 H3 X.xe I3 (stat fr3) st3 stop) fun r s4 ⟨hr,I4⟩=>?_);subst hr;exact wpAny_execs_nil ⟨σ3,H3,I4,qn⟩
 ·refine wpAny_passesOwn hp (thn (T.item X rfl rfl rfl hc i pins s3 σ3 H3 X.xe I3 (stat fr3) st3 go) fun r s4 ⟨u,hr,h4⟩=>?_);subst hr;refine wpAny_passesOwn hp (thn h4 fun _ s5 ⟨x,H5,I5,r5,y5,st5,fr5⟩=>?_);have I5':=I5.pinned (stat fr5) (T.obj _ _ st5);refine wpAny_passesOwn hp (thn (hg _ s5 σ3 H5 x u _ I5' r5 (step x H5 y5)) fun _ s6 ⟨σ6,H6,I6,q6⟩=>?_);refine wpAny_passesOwn hp (thn (hb _ s6 σ6 H6 _ I6 q6) fun f s7 q7=>?_);have again:∀{σ7:St} {H7:Hp},Inv X (pins++qcD fp s5.heap) σ7 H7 s7→N σ7 H7→∃m,m<n∧∃i σ' H',Inv X pins σ' H' s7∧tn i s7.heap∧(∀b∈fp,H' b=none)∧W i m σ' H':=fun {σ7 H7} I7 n7=>by
   obtain⟨m',hm,w7⟩:=hN σ7 H7 n7;refine⟨m',hm,i+1,σ7,H7,I7.unpinned,T.keep _ _ _ st5 fun b hb o e=>(I7.pin (b,o) (List.mem_append_right _ (List.mem_append_right _ (qbw hb e)))).1,fun b hb=>?_,w7⟩;obtain⟨o,e,d⟩:=T.obj _ _ st5 b hb;exact(I7.pin (b,o) (List.mem_append_right _ (List.mem_append_right _ (qbw hb e)))).2.1
  cases f with
  | next=>obtain⟨σ7,H7,I7,n7⟩:=q7;exact again I7 n7
  | cont=>obtain⟨σ7,H7,I7,n7⟩:=q7;exact again I7 n7
  | brk=>obtain⟨σ7,H7,I7,q7⟩:=q7;exact⟨σ7,H7,I7.unpinned,q7⟩
  | ret v=>obtain⟨x7,σ7,H7,I7,r7,q7⟩:=q7;exact⟨x7,σ7,H7,I7.unpinned,r7,q7⟩
end
theorem for_list{K:PySem.W.Frag}{a:Addr}{xs:List V}{g:TG}{tb:TS}{D:Ends}{σ:St}{H:Hp}(Pv:Nat→St→Hp→Prop)(h0:Pv 0 σ H)(hl:∀i σ H,i≤xs.length→Pv i σ H→SqL K H a xs)(hs:∀i x σ H,xs[i]?=some x→Pv i σ H→g x σ H fun σ2 H2=>tb {D with nx:=Pv (i+1),ct:=Pv (i+1),bk:=D.nx} σ2 H2)(hd:∀σ H,Pv xs.length σ H→D.nx σ H) :
  ∃W:Nat→Nat→St→Hp→Prop,(∃m,W 0 m σ H)∧∀i m σ H,W i m σ H →
   ((Itl K a).stop i H∧D.nx σ H)∨((Itl K a).go i H∧∃N:St→Hp→Prop,(∀σ' H',N σ' H'→∃m',m'<m∧W (i+1) m' σ' H')∧∀x H',(Itl K a).yld i H x H'→g x σ H' fun σ2 H2=>tb {D with nx:=N,ct:=N,bk:=D.nx} σ2 H2):=by
 refine⟨fun i m σ H=>m=xs.length-i∧i≤xs.length∧Pv i σ H,⟨xs.length,by simp,Nat.zero_le _,h0⟩,?_⟩;rintro i m σ H ⟨rfl,hi,p⟩;have q:=hl i σ H hi p
 by_cases hlt:i<xs.length
 ·refine .inr ⟨⟨xs,xs[i],q,by simp[hlt]⟩,Pv (i+1),fun σ' H' p'=>⟨xs.length-(i+1),by omega,rfl,hlt,p'⟩,fun x H' y=>?_⟩;obtain⟨e,y⟩:=y;subst e;exact hs i x σ _ (y xs q) p
 ·have e:i=xs.length:=by omega
  subst e;exact .inl ⟨⟨xs,q,Nat.le_refl _⟩,hd σ H p⟩
theorem qbn{lo:Int}{n:Nat}{g:TG}{tb:TS}{D:Ends}{σ:St}{H:Hp}(Pv:Nat→St→Hp→Prop)(h0:Pv 0 σ H)(hs:∀i σ H,i<n→Pv i σ H→g (.int (lo+i)) σ H fun σ2 H2=>tb {D with nx:=Pv (i+1),ct:=Pv (i+1),bk:=D.nx} σ2 H2)(hd:∀σ H,Pv n σ H→D.nx σ H) :
  ∃W:Nat→Nat→St→Hp→Prop,(∃m,W 0 m σ H)∧∀i m σ H,W i m σ H →
   ((Itr lo n).stop i H∧D.nx σ H)∨((Itr lo n).go i H∧∃N:St→Hp→Prop,(∀σ' H',N σ' H'→∃m',m'<m∧W (i+1) m' σ' H')∧∀x H',(Itr lo n).yld i H x H'→g x σ H' fun σ2 H2=>tb {D with nx:=N,ct:=N,bk:=D.nx} σ2 H2):=by
 refine⟨fun i m σ H=>m=n-i∧i≤n∧Pv i σ H,⟨n,by simp,Nat.zero_le _,h0⟩,?_⟩;rintro i m σ H ⟨rfl,hi,p⟩
 by_cases hlt:i<n
 ·refine .inr ⟨hlt,Pv (i+1),fun σ' H' p'=>⟨n-(i+1),by omega,rfl,hlt,p'⟩,fun x H' y=>?_⟩;obtain⟨e,y⟩:=y;subst e y;exact hs i σ _ hlt p
 ·have e:i=n:=by omega
  subst e;exact .inl ⟨Nat.le_refl _,hd σ H p⟩
end L2
namespace L2
open PySem PySem.Spec PyProof.Rows
abbrev R2:=V→V→Hp→VK→Prop
def OpR(X:Cx)(f:Value→Value→Sem Value)(r:R2):Prop :=
 ∀(pins:List (Addr×Obj)) (s:Shared) (σ:St) (H:Hp) (x y:V) (v u:Value) (Q:VK),Inv X pins σ H s→RelV x v→RelV y u→r x y H Q →
  wpAny (model X.prog X.w) X.A (f v u) (EP X pins σ Q) X.xe s
def UnR(X:Cx)(f:Value→Sem Value)(r:V→Hp→VK→Prop):Prop :=
 ∀(pins:List (Addr×Obj)) (s:Shared) (σ:St) (H:Hp) (x:V) (v:Value) (Q:VK),Inv X pins σ H s→RelV x v→r x H Q →
  wpAny (model X.prog X.w) X.A (f v) (EP X pins σ Q) X.xe s
def CallR(X:Cx)(f:Value)(r:List V→Hp→VK→Prop):Prop :=
 ∀(pins:List (Addr×Obj)) (s:Shared) (σ:St) (H:Hp) (xs:List V) (us:List Value) (Q:VK),Inv X pins σ H s→Vals xs us→r xs H Q →
  wpAny (model X.prog X.w) X.A (call f us) (EP X pins σ Q) X.xe s
def tOp(r:R2)(ta tb:TE):TE:=fun σ H Q=>ta σ H fun x H1=>tb σ H1 fun y H2=>r x y H2 Q
def tUn(r:V→Hp→VK→Prop)(ta:TE):TE:=fun σ H Q=>ta σ H fun x H1=>r x H1 Q
def rI(C:Int→Int→Prop)(g:Int→Int→V):R2:=fun x y H Q=>∃i j,x=.int i∧y=.int j∧C i j∧Q (g i j) H
def rI0(g:Int→Int→V):R2:=fun x y H Q=>∃i j,x=.int i∧y=.int j∧Q (g i j) H
def rU(g:Int→V):V→Hp→VK→Prop:=fun x H Q=>∃i,x=.int i∧Q (g i) H
section
variable{X:Cx}{a b c:Expr}{ta tb tc:TE}{pos:Pos}
theorem binT(ha:PE X a ta)(hb:PE X b tb){pins:List (Addr×Obj)}{s:Shared}{σ:St}{H:Hp}{R:V→V→Hp→Prop}(I:Inv X pins σ H s)(h:ta σ H fun x H1=>tb σ H1 fun y H2=>R x y H2){Q:Value→Shared→Prop}{f:Value→Value→Sem Value}(hf:∀v u s2 x y H2,Inv X pins σ H2 s2→RelV x v→RelV y u→R x y H2→wpAny (model X.prog X.w) X.A (f v u) Q X.xe s2) :
  wpAny (model X.prog X.w) X.A (eval a X.env) (fun v s₁=>wpAny (model X.prog X.w) X.A (eval b X.env) (fun u s₂=>wpAny (model X.prog X.w) X.A (f v u) Q X.xe s₂) X.xe s₁) X.xe s:=by
 refine thn (ha pins s σ H _ I h) fun v s1 ⟨x,H1,I1,r1,q1⟩=>?_
 refine thn (hb pins s1 σ H1 _ I1 q1) fun u s2 ⟨y,H2,I2,r2,q2⟩=>?_
 exact hf v u s2 x y H2 I2 r1 r2 q2
theorem qaN{op:Operator}{r:R2}(ho:OpR X (binaryOp op) r)(ha:PE X a ta)(hb:PE X b tb):PE X (.BinOp a op b pos) (tOp r ta tb):=by
 intro pins s σ H Q I h;exact wpAny_BinOp (binT ha hb I h fun v u s2 x y H2 I2 rx ry q=>ho pins s2 σ H2 x y v u Q I2 rx ry q)
theorem qeJ{op:UnaryOp}{r:V→Hp→VK→Prop}(ho:UnR X (unaryOp op) r)(ha:PE X a ta):PE X (.UnaryOp op a pos) (tUn r ta):=by
 intro pins s σ H Q I h;exact UnaryOp_ (thn (ha pins s σ H _ I h) fun v s1 ⟨x,H1,I1,r1,q1⟩=>ho pins s1 σ H1 x v Q I1 r1 q1)
theorem opI{f:Value→Value→Sem Value}{C:Int→Int→Prop}{g:Int→Int→Int}(rule:∀(i j:Int) (t u:Tok) (s:Shared) (Q:Value→Shared→Prop) (E:Value→Shared→Prop),C i j→Q (.int (g i j) s.toks) {s with toks:=s.toks+1}→wpAny (model X.prog X.w) X.A (f (.int i t) (.int j u)) Q E s) :
  OpR X f (rI C fun i j=>.int (g i j)):=by
 intro pins s σ H x y v u Q I rx ry h;obtain⟨i,j,rfl,rfl,hc,q⟩:=h;obtain⟨t,rfl⟩:=rx;obtain⟨t',rfl⟩:=ry;exact rule i j t t' s _ _ hc ⟨.int (g i j),H,I.tok _,⟨_,rfl⟩,q⟩
theorem opI0{f:Value→Value→Sem Value}{g:Int→Int→Int}(rule:∀(i j:Int) (t u:Tok) (s:Shared) (Q:Value→Shared→Prop) (E:Value→Shared→Prop),Q (.int (g i j) s.toks) {s with toks:=s.toks+1}→wpAny (model X.prog X.w) X.A (f (.int i t) (.int j u)) Q E s) :
  OpR X f (rI0 fun i j=>.int (g i j)):=by
 intro pins s σ H x y v u Q I rx ry h;obtain⟨i,j,rfl,rfl,q⟩:=h;obtain⟨t,rfl⟩:=rx;obtain⟨t',rfl⟩:=ry;exact rule i j t t' s _ _ ⟨.int (g i j),H,I.tok _,⟨_,rfl⟩,q⟩
theorem opB0{f:Value→Value→Sem Value}{g:Int→Int→Bool}(rule:∀(i j:Int) (t u:Tok) (s:Shared) (Q:Value→Shared→Prop) (E:Value→Shared→Prop),Q (.bool (g i j)) s→wpAny (model X.prog X.w) X.A (f (.int i t) (.int j u)) Q E s) :
  OpR X f (rI0 fun i j=>.bl (g i j)):=by
 intro pins s σ H x y v u Q I rx ry h;obtain⟨i,j,rfl,rfl,q⟩:=h;obtain⟨t,rfl⟩:=rx;obtain⟨t',rfl⟩:=ry;exact rule i j t t' s _ _ ⟨.bl (g i j),H,I,rfl,q⟩
def CDiv(i j:Int):Prop:=0<j∧j<1073741824
def CMul(i j:Int):Prop:=(-(2 ^ 64)<i∧i<2 ^ 64)∨(-(2 ^ 64)<j∧j<2 ^ 64)
theorem CMul.ok{i j:Int}(h:CMul i j):IntMulOk i j:=by
 rcases h with⟨h1,h2⟩ | ⟨h1,h2⟩
 ·exact .of_left (intBits_le_64 h1 h2)
 ·exact .of_right (intBits_le_64 h1 h2)
theorem op_add:OpR X (binaryOp .Add) (rI0 fun i j=>.int (i+j)):=opI0 fun _ _ _ _ _ _ _ q=>add_int q
theorem op_sub:OpR X (binaryOp .Sub) (rI0 fun i j=>.int (i-j)):=opI0 fun _ _ _ _ _ _ _ q=>sub_int q
theorem op_mul:OpR X (binaryOp .Mult) (rI CMul fun i j=>.int (i*j)):=opI fun _ _ _ _ _ _ _ hc q=>mul_int q hc.ok
theorem op_fdiv:OpR X (binaryOp .FloorDiv) (rI CDiv fun i j=>.int (i / j)):=opI fun i j _ _ _ _ _ hc q=>by
 have h1:(0:Int)<j:=hc.1;have h2:j<1073741824:=hc.2;exact floordiv_int (by omega) (by rw[Int.fdiv_eq_ediv_of_nonneg i (by omega)];exact q) (.inl (PyProof.noPylong_small (by omega)))
theorem op_mod:OpR X (binaryOp .Mod) (rI (fun _ j=>0<j) fun i j=>.int (i % j)):=opI fun i j _ _ _ _ _ hc q=>by
 have h1:(0:Int)<j:=hc;exact mod_int' (by omega) (by rw[Int.fmod_eq_emod_of_nonneg i (by omega)];exact q)
theorem unI{f:Value→Sem Value}{g:Int→Int}(rule:∀(i:Int) (t:Tok) (s:Shared) (Q:Value→Shared→Prop) (E:Value→Shared→Prop),Q (.int (g i) s.toks) {s with toks:=s.toks+1}→wpAny (model X.prog X.w) X.A (f (.int i t)) Q E s) :
  UnR X f (rU fun i=>.int (g i)):=by
 intro pins s σ H x v Q I rx h;obtain⟨i,rfl,q⟩:=h;obtain⟨t,rfl⟩:=rx;exact rule i t s _ _ ⟨.int (g i),H,I.tok _,⟨_,rfl⟩,q⟩
theorem un_neg:UnR X (unaryOp .USub) (rU fun i=>.int (-i)):=unI fun _ _ _ _ _ q=>neg_int q
end
def scal:V→V→Bool
 | .non,.non=>true | .non,.int _=>true | .int _,.non=>true | .non,.bl _=>true | .bl _,.non=>true | .non,.str _=>true | .str _,.non=>true
 | .int _,.int _=>true | .bl _,.bl _=>true | .str _,.str _=>true | .byt _,.byt _=>true
 | .int _,.str _=>true | .str _,.int _=>true | .bl _,.str _=>true | .str _,.bl _=>true
 | _,_=>false
def rEq:R2:=fun x y H Q=>scal x y=true∧Q (.bl (decide (x=y))) H
def rNe:R2:=fun x y H Q=>scal x y=true∧Q (.bl (!decide (x=y))) H
theorem qe9{i j:Int}:decide (V.int i=V.int j)=(i == j):=by
 rw[Bool.eq_iff_iff];simp
theorem qfx{i j:Bool}:decide (V.bl i=V.bl j)=(i == j):=by
 rw[Bool.eq_iff_iff];simp
theorem qeZ{i j:Str}:decide (V.str i=V.str j)=(i == j):=by
 rw[Bool.eq_iff_iff];simp
theorem qfd{i j:Array UInt8}:decide (V.byt i=V.byt j)=(i.toList == j.toList):=by
 rw[Bool.eq_iff_iff];cases i;cases j;simp
section
variable{X:Cx}{a b c:Expr}{ta tb tc:TE}{pos:Pos}
theorem qaP{pins:List (Addr×Obj)}{σ:St}{H:Hp}{s:Shared}{Q:VK}{k k':Bool}(I:Inv X pins σ H s)(q:Q (.bl k) H)(e:k=k'):EP X pins σ Q (.bool k') s:=by
 subst e;exact⟨.bl k,H,I,rfl,q⟩
theorem op_eq:OpR X (compareOp .Eq) rEq:=by
 intro pins s σ H x y v u Q I rx ry h;obtain⟨hs,q⟩:=h;cases x with
 | non =>
   cases rx
   cases y with
   | non=>cases ry;exact PySem.EqNone.eq_none_none (qaP I q (by simp))
   | bl j=>cases ry;exact PySem.EqNone.eq_none_bool (qaP I q (by simp))
   | int j=>obtain⟨t',rfl⟩:=ry;exact PySem.EqNone.eq_none_int (qaP I q (by simp))
   | str j=>obtain⟨t',rfl⟩:=ry;exact PySem.EqNone.eq_none_str (qaP I q (by simp))
   | _=>exact absurd (show false=true from hs) Bool.false_ne_true
 | bl i =>
   cases rx
   cases y with
   | non=>cases ry;exact PySem.EqNone.eq_bool_none (qaP I q (by simp))
   | bl j=>cases ry;exact eq_bool (qaP I q qfx)
   | str j=>obtain⟨t',rfl⟩:=ry;exact PySem.EqMixed.eq_bool_str (qaP I q (by simp))
   | _=>exact absurd (show false=true from hs) Bool.false_ne_true
 | int i =>
   obtain⟨t,rfl⟩:=rx
   cases y with
   | non=>cases ry;exact PySem.EqNone.eq_int_none (qaP I q (by simp))
   | int j=>obtain⟨t',rfl⟩:=ry;exact eq_int (qaP I q qe9)
   | str j=>obtain⟨t',rfl⟩:=ry;exact PySem.EqMixed.eq_int_str (qaP I q (by simp))
   | _=>exact absurd (show false=true from hs) Bool.false_ne_true
 | str i =>
   obtain⟨t,rfl⟩:=rx
   cases y with
   | non=>cases ry;exact PySem.EqNone.eq_str_none (qaP I q (by simp))
   | bl j=>cases ry;exact PySem.EqMixed.eq_str_bool (qaP I q (by simp))
   | int j=>obtain⟨t',rfl⟩:=ry;exact PySem.EqMixed.eq_str_int (qaP I q (by simp))
   | str j=>obtain⟨t',rfl⟩:=ry;exact eq_str (qaP I q qeZ)
   | _=>exact absurd (show false=true from hs) Bool.false_ne_true
 | byt i =>
   obtain⟨t,rfl⟩:=rx
   cases y with
   | byt j=>obtain⟨t',rfl⟩:=ry;exact PySem.W.eq_bytes (qaP I q qfd)
   | _=>exact absurd (show false=true from hs) Bool.false_ne_true
 | _=>cases y<;>exact absurd (show false=true from hs) Bool.false_ne_true
theorem op_ne:OpR X (compareOp .NotEq) rNe:=by
 intro pins s σ H x y v u Q I rx ry h;obtain⟨hs,q⟩:=h;cases x with
 | non =>
   cases rx
   cases y with
   | non=>cases ry;exact PySem.EqNone.ne_none_none (qaP I q (by simp))
   | bl j=>cases ry;exact PySem.EqNone.ne_none_bool (qaP I q (by simp))
   | int j=>obtain⟨t',rfl⟩:=ry;exact PySem.EqNone.ne_none_int (qaP I q (by simp))
   | str j=>obtain⟨t',rfl⟩:=ry;exact PySem.EqNone.ne_none_str (qaP I q (by simp))
   | _=>exact absurd (show false=true from hs) Bool.false_ne_true
 | bl i =>
   cases rx
   cases y with
   | non=>cases ry;exact PySem.EqNone.ne_bool_none (qaP I q (by simp))
   | bl j=>cases ry;exact ne_bool (qaP I q (congrArg not qfx))
   | str j=>obtain⟨t',rfl⟩:=ry;exact PySem.EqMixed.ne_bool_str (qaP I q (by simp))
   | _=>exact absurd (show false=true from hs) Bool.false_ne_true
 | int i =>
   obtain⟨t,rfl⟩:=rx
   cases y with
   | non=>cases ry;exact PySem.EqNone.ne_int_none (qaP I q (by simp))
   | int j=>obtain⟨t',rfl⟩:=ry;exact ne_int (qaP I q (congrArg not qe9))
   | str j=>obtain⟨t',rfl⟩:=ry;exact PySem.EqMixed.ne_int_str (qaP I q (by simp))
   | _=>exact absurd (show false=true from hs) Bool.false_ne_true
 | str i =>
   obtain⟨t,rfl⟩:=rx
   cases y with
   | non=>cases ry;exact PySem.EqNone.ne_str_none (qaP I q (by simp))
   | bl j=>cases ry;exact PySem.EqMixed.ne_str_bool (qaP I q (by simp))
   | int j=>obtain⟨t',rfl⟩:=ry;exact PySem.EqMixed.ne_str_int (qaP I q (by simp))
   | str j=>obtain⟨t',rfl⟩:=ry;exact ne_str (qaP I q (congrArg not qeZ))
   | _=>exact absurd (show false=true from hs) Bool.false_ne_true
 | byt i =>
   obtain⟨t,rfl⟩:=rx
   cases y with
   | byt j=>obtain⟨t',rfl⟩:=ry;exact PySem.W.ne_bytes (qaP I q (congrArg not qfd))
   | _=>exact absurd (show false=true from hs) Bool.false_ne_true
 | _=>cases y<;>exact absurd (show false=true from hs) Bool.false_ne_true
theorem op_lt:OpR X (compareOp .Lt) (rI0 fun i j=>.bl (decide (i<j))):=opB0 fun _ _ _ _ _ _ _ q=>lt_int q
theorem op_le:OpR X (compareOp .LtE) (rI0 fun i j=>.bl (decide (i≤j))):=opB0 fun _ _ _ _ _ _ _ q=>le_int q
theorem op_gt:OpR X (compareOp .Gt) (rI0 fun i j=>.bl (decide (j<i))):=opB0 fun _ _ _ _ _ _ _ q=>gt_int q
theorem op_ge:OpR X (compareOp .GtE) (rI0 fun i j=>.bl (decide (j≤i))):=opB0 fun _ _ _ _ _ _ _ q=>ge_int q
theorem op_in_str:OpR X (compareOp .In) (fun x y H Q=>∃i j,x=.str i∧y=.str j∧Q (.bl (!(Builtin.Str.occurrences j i 0 j.length 1).isEmpty)) H):=by
 intro pins s σ H x y v u Q I rx ry h;obtain⟨i,j,rfl,rfl,q⟩:=h;obtain⟨t,rfl⟩:=rx;obtain⟨t',rfl⟩:=ry;exact in_str (qaP I q rfl)
theorem OpR.or{f:Value→Value→Sem Value}{r r':R2}(h:OpR X f r)(h':OpR X f r'):OpR X f (fun x y H Q=>r x y H Q∨r' x y H Q):=by
 intro pins s σ H x y v u Q I rx ry q;rcases q with q | q
 ·exact h pins s σ H x y v u Q I rx ry q
 ·exact h' pins s σ H x y v u Q I rx ry q
theorem qaz(b:Expr){op:CmpOp}(h:op≠.In:=by decide)(h2:op≠.NotIn:=by decide):behindInMarks op b=false:=by
 have e1:(op == CmpOp.In)=false:=by cases op<;>first | rfl | exact absurd rfl h
 have e2:(op == CmpOp.NotIn)=false:=by cases op<;>first | rfl | exact absurd rfl h2
 cases b<;>simp[behindInMarks,e1,e2]
theorem qaW{op:CmpOp}{r:R2}(ho:OpR X (compareOp op) r)(ha:PE X a ta)(hb:PE X b tb)(hm:behindInMarks op b=false):PE X (.Compare a [op] [b] pos) (tOp r ta tb):=by
 intro pins s σ H Q I h;exact wpAny_Compare1 (binT ha hb I h fun v u s2 x y H2 I2 rx ry q=>ho pins s2 σ H2 x y v u Q I2 rx ry q) hm
def qfp(t:TE):TT:=fun σ H Q=>t σ H fun x H'=>∃k,x=.bl k∧Q k H'
theorem qas{op:CmpOp}{r:R2}(ho:OpR X (compareOp op) r)(ha:PE X a ta)(hb:PE X b tb)(hm:behindInMarks op b=false):PT X (.Compare a [op] [b] pos) (qfp (tOp r ta tb)):=by
 intro pins s σ H Q I h;refine wpAny_isTrue_Compare1 (thn (ha pins s σ H _ I h) fun v s1 ⟨x,H1,I1,r1,q1⟩=>thn (hb pins s1 σ H1 _ I1 q1) fun u s2 ⟨y,H2,I2,r2,q2⟩ =>
  thn (ho pins s2 σ H2 x y v u _ I2 r1 r2 q2) fun c s3 ⟨z,H3,I3,r3,k,e,q3⟩=>?_) hm
 subst e;cases r3;exact wpAny_truthy_bool ⟨H3,I3,q3⟩
def qfy(r r':R2)(ta tb tc:TE):TE:=fun σ H Q=>ta σ H fun x H1=>tb σ H1 fun y H2=>r x y H2 fun z H3=>∃k,z=.bl k ∧
 (if k=true then tc σ H3 fun w' H4=>r' y w' H4 Q else Q (.bl false) H3)
theorem pe_chain{op op':CmpOp}{r r':R2}(ho:OpR X (compareOp op) r)(ho':OpR X (compareOp op') r')(ha:PE X a ta)(hb:PE X b tb)(hc:PE X c tc)(hm:lastMarks [op,op'] [b,c]=false:=by with_unfolding_all rfl):PE X (.Compare a [op,op'] [b,c] pos) (qfy r r' ta tb tc):=by
 intro pins s σ H Q I h;refine Compare_chain (thn (ha pins s σ H _ I h) fun v s1 ⟨x,H1,I1,r1,q1⟩=>chain_link (thn (hb pins s1 σ H1 _ I1 q1) fun u s2 ⟨y,H2,I2,r2,q2⟩ =>
  thn (ho pins s2 σ H2 x y v u _ I2 r1 r2 q2) fun d s3 ⟨z,H3,I3,r3,k,e,q3⟩=>?_)) hm
 subst e;cases r3;refine wpAny_truthy_bool ?_;cases k with
 | false=>exact ite_ff ⟨.bl false,H3,I3,rfl,q3⟩
 | true=>exact ite_tt (chain_last (thn (hc pins s3 σ H3 _ I3 q3) fun w' s4 ⟨z',H4,I4,r4,q4⟩=>ho' pins s4 σ H4 y z' u w' Q I4 r2 r4 q4))
theorem qce{op op':CmpOp}{r r':R2}(ho:OpR X (compareOp op) r)(ho':OpR X (compareOp op') r')(ha:PE X a ta)(hb:PE X b tb)(hc:PE X c tc)(hm:lastMarks [op,op'] [b,c]=false:=by with_unfolding_all rfl):PT X (.Compare a [op,op'] [b,c] pos) (qfp (qfy r r' ta tb tc)):=by
 intro pins s σ H Q I h;refine isTrue_chain (thn (ha pins s σ H _ I h) fun v s1 ⟨x,H1,I1,r1,q1⟩=>test_link (thn (hb pins s1 σ H1 _ I1 q1) fun u s2 ⟨y,H2,I2,r2,q2⟩ =>
  thn (ho pins s2 σ H2 x y v u _ I2 r1 r2 q2) fun d s3 ⟨z,H3,I3,r3,k,e,q3⟩=>?_)) hm
 subst e;cases r3;refine wpAny_truthy_bool ?_;cases k with
 | false =>
   obtain⟨k',e',q'⟩:=q3
   cases e'
   exact ite_ff ⟨H3,I3,q'⟩
 | true =>
   refine ite_tt (test_last (thn (hc pins s3 σ H3 _ I3 q3) fun w' s4 ⟨z',H4,I4,r4,q4⟩=>thn (ho' pins s4 σ H4 y z' u w' _ I4 r2 r4 q4) fun d' s5 ⟨z2,H5,I5,r5,k2,e2,q5⟩=>?_))
   subst e2
   cases r5
   exact wpAny_truthy_bool ⟨H5,I5,q5⟩
theorem line63:(sizeLine:Nat)<2 ^ 63:=by rw[sizeLine_eq];decide
theorem op_add_str:OpR X (binaryOp .Add) (fun x y H Q=>∃i j,x=.str i∧y=.str j∧i.length+j.length≤sizeLine∧Q (.str (i++j)) H):=by
 intro pins s σ H x y v u Q I rx ry h;obtain⟨i,j,rfl,rfl,hz,q⟩:=h;obtain⟨t,rfl⟩:=rx;obtain⟨t',rfl⟩:=ry;exact add_str (fun t' tk=>⟨.str (i++j),H,I.tok _,⟨_,rfl⟩,q⟩) hz
theorem qcW{x:V}{us:List Value}(r:Vals [x] us):∃u,us=[u]∧RelV x u:=by
 cases r with
 | cons r1 r2=>cases r2;exact⟨_,rfl,r1⟩
theorem qfP{x y:V}{us:List Value}(r:Vals [x,y] us):∃u w',us=[u,w']∧RelV x u∧RelV y w':=by
 cases r with
 | cons r1 r2 =>
   cases r2 with
   | cons r3 r4=>cases r4;exact⟨_,_,rfl,r1,r3⟩
theorem call_int1:CallR X (.type "int") (fun xs H Q=>(∃i,xs=[.int i]∧Q (.int i) H)∨∃k,xs=[.bl k]∧Q (.int (if k then 1 else 0)) H):=by
 intro pins s σ H xs us Q I r h;rcases h with⟨i,rfl,q⟩ | ⟨k,rfl,q⟩
 ·obtain⟨u,rfl,t,rfl⟩:=qcW r;exact call_int_int ⟨.int i,H,I,⟨_,rfl⟩,q⟩
 ·obtain⟨u,rfl,r1⟩:=qcW r;cases r1;exact call_int_bool ⟨.int (if k then 1 else 0),H,I.tok _,⟨_,rfl⟩,q⟩
end
end L2
namespace L2
open PySem PySem.Spec PyProof.Rows
structure ObjM(h:Heap)(x dx C:Addr)(mA:Str→Option Value):Prop where
 obj:h.get? x=some (PySem.W.instObj C dx)
 ns:h.Ns1 dx mA
 ne:dx≠x
theorem lookIn_ns{h:Heap}{dx:Addr}{mA:Str→Option Value}(n:h.Ns1 dx mA):∃od,h.get? dx=some od∧∀name,PySem.W.lookIn name od=some (mA name):=by
 obtain⟨o,es,ep,ho,hd,hk,_,hm⟩:=n;refine⟨o,ho,fun name=>?_⟩;have e:=hm name;unfold nsFind findBy at e;rw[←Array.find?_toList]at e;unfold PySem.W.lookIn;rw[hd];dsimp only
 split
 ·rename_i y q;rw[q]at e;exact congrArg some e
 ·rename_i q;rw[q]at e;have a:es.toList.any (·.refKey)=false:=by
   rw[List.any_eq_false];intro y hy;obtain⟨z,t,hkey⟩:=hk y (Array.mem_toList_iff.mp hy);simp[DictEntry.refKey,hkey]
  have a':¬es.toList.any (·.refKey)=true:=by rw[a];exact Bool.false_ne_true
  rw[if_neg a'];exact congrArg some e
theorem ObjM.look{h:Heap}{x dx C:Addr}{mA:Str→Option Value}(I:ObjM h x dx C mA):∃od,PySem.W.InstAt h x (PySem.W.instObj C dx) C (some od)∧∀name,PySem.W.lookIn name od=some (mA name) :=
 let⟨od,ho,hl⟩:=lookIn_ns I.ns
 ⟨od,⟨I.obj,rfl,rfl,ho⟩,hl⟩
section
variable{P:Program}{w:World}{H H':Hp}{h h':Heap}{a C dx:Addr}{fs fs':List (Str×V)}
theorem ins_get(hok:HOk P w H h)(e:H a=some (.ins C dx fs)):∃mA,ObjM h a dx C mA∧(∀f,RelO (fs.lookup f) (mA f))∧PySem.Within mA (fs.map (·.1))∧fs.length≤1000∧H dx=some (.own a):=by
 obtain⟨d,z,ne,ob,mA,n,r,q⟩:=(show ObjOk P w H h a (.ins C dx fs)from hok a _ e);exact⟨mA,⟨ob,n,ne⟩,r,q,z,d⟩
end
structure Cls(K:PySem.W.Frag)(C:Addr):Prop where
 pg:PySem.W.plainGet K C Str.empty=true
 hd:PySem.W.hasDictIn K C=true
 po:PySem.W.plainOver K C=true
 sa:PySem.W.findIn K (.ref C) "__setattr__" = some (some (.builtin "object.__setattr__"))
theorem Cls.get{K:PySem.W.Frag}{C:Addr}(c:Cls K C)(f:Str):PySem.W.plainGet K C f=true:=c.pg
structure Con(K:PySem.W.Frag)(C:Addr)(f:Str)(v:V)(u:Value):Prop where
 at_:PySem.W.findIn K (.ref C) f=some (some u)
 rel:RelV v u
 get:PySem.W.specialIn K u "__get__" = some none
 cp:PySem.W.copiedNames.contains f=false
structure Meth(K:PySem.W.Frag)(C:Addr)(m:Str)(f:Addr):Prop where
 at_:PySem.W.findIn K (.ref C) m=some (some (.ref f))
 fn:PySem.W.isFn K (.ref f)=true
 kp:PySem.W.keepIn K (.ref f)=true
section
variable{X:Cx}{pins:List (Addr×Obj)}{σ:St}{H:Hp}{s:Shared}{a C dx:Addr}{fs:List (Str×V)}{f:Str}{v:V}{A:Around}{E:Value→Shared→Prop}
theorem Inv.made(I:Inv X pins σ H s):Inv X pins σ (upd (upd H s.heap.objs.size (.own (s.heap.objs.size+1))) (s.heap.objs.size+1) (.ins C s.heap.objs.size []))
  {s with heap:=(s.heap.push PySem.W.emptyDict).push (PySem.W.instObj C s.heap.objs.size)}:=by
 have e1:(s.heap.push PySem.W.emptyDict).get? s.heap.objs.size=some PySem.W.emptyDict:=Heap.get?_push_size s.heap rfl;have e2:((s.heap.push PySem.W.emptyDict).push (PySem.W.instObj C s.heap.objs.size)).get? (s.heap.objs.size+1)=some (PySem.W.instObj C s.heap.objs.size):=by
  have:=Heap.get?_push_size (s.heap.push PySem.W.emptyDict) (o:=PySem.W.instObj C s.heap.objs.size) rfl
  rwa [Heap.size_push]at this
 have e3:(s.heap.push PySem.W.emptyDict).Ns s.heap.objs.size (fun _=>none):=⟨PySem.W.emptyDict,#[],_,e1,rfl,(fun e he=>absurd he (by simp)),fun _=>rfl⟩;have I1:=I.laid (a:=s.heap.objs.size) (o:=.own (s.heap.objs.size+1)) (h':=s.heap.push PySem.W.emptyDict) (t':=s.toks) (fun b u q=>Heap.get?_push_of_some _ q) (Nat.le_refl _) ⟨_,e1⟩;refine I1.laid (a:=s.heap.objs.size+1) (o:=.ins C s.heap.objs.size []) (t':=s.toks) (fun b u q=>Heap.get?_push_of_some _ q) (Nat.le_of_eq (Heap.size_push _ _)) ?_;have ne:s.heap.objs.size≠s.heap.objs.size+1:=Nat.ne_of_lt (Nat.lt_succ_self _);refine⟨by rw[qax ne,qad],Nat.zero_le _,ne,e2,fun _=>none,(Heap.Ns1.of_empty e3).at fun o q=>Heap.get?_push_of_some _ q,fun _=>True.intro,fun y hy=>absurd rfl hy⟩
end
section
variable{X:Cx}{pins:List (Addr×Obj)}{σ:St}{H:Hp}{s:Shared}{A:Around}{E:Value→Shared→Prop}{Q:Value→Shared→Prop}{c:Value}{b:Bool}
inductive TyOf(K:PySem.W.Frag)(H:Hp):V→Value→Prop where
 | non:TyOf K H .non (.type "NoneType")
 | bl (x:Bool):TyOf K H (.bl x) (.type "bool")
 | int (i:Int):TyOf K H (.int i) (.type "int")
 | str (x:Str):TyOf K H (.str x) (.type "str")
 | flt (x:UInt64):TyOf K H (.flt x) (.type "float")
 | lst {a:Addr} {xs:List V} (e:H a=some (.lst xs)):TyOf K H (.ref a) (.type "list")
 | frz {a:Addr} {o:Obj} {xs:List V} (e:H a=some (.frz o (.lst xs))):TyOf K H (.ref a) (.type "list")
 | tup {a:Addr} {xs:List V} (e:H a=some (.tup xs)):TyOf K H (.ref a) (.type "tuple")
 | dK {a:Addr} {kvs:List (Key×V)} (e:H a=some (.dK kvs)):TyOf K H (.ref a) (.type "dict")
 | dT {a:Addr} {kvs:List (List Key×V)} (e:H a=some (.dT kvs)):TyOf K H (.ref a) (.type "dict")
 | ins {a C dx:Addr} {fs:List (Str×V)} (e:H a=some (.ins C dx fs)) (cl:Cls K C) (ha:PySem.W.findIn K (.ref C) "__class__" = some (some (.builtin "object.__class__")))
   (hn:PySem.W.specialIn K (.builtin "object.__class__") "__get__" = some (some (.builtin "getset_descriptor.__get__"))) (htk:PySem.W.takesIn K (.builtin "object.__class__")=some true)
   (hm:PySem.W.mroIn K C (.type "object")=some true):TyOf K H (.ref a) (.ref C)
theorem isinst_ok{x:V}{u t:Value}(I:Inv X pins σ H s)(rx:RelV x u)(ty:TyOf X.K H x t)(e:PySem.W.kitOne X.K t c=some b)(h:∀tk,Q (.bool b) {s with toks:=tk}) :
  wpAny (model X.prog X.w) A (call (.builtin "isinstance") [u,c]) Q E s:=by
 cases ty with
 | non=>cases(show u=Value.none from rx);exact PySem.W.kia_one PySem.W.kitx_none I.kIn True.intro e (fun z=>nomatch z) h
 | bl y=>cases(show u=Value.bool y from rx);exact PySem.W.kia_one PySem.W.kitx_bool I.kIn True.intro e (fun z=>nomatch z) h
 | int i=>obtain⟨t,q⟩:=(show∃t,u=Value.int i t from rx);cases q;exact PySem.W.kia_one PySem.W.kitx_int I.kIn True.intro e (fun z=>nomatch z) h
 | str y=>obtain⟨t,q⟩:=(show∃t,u=Value.str y t from rx);cases q;exact PySem.W.kia_one PySem.W.kitx_str I.kIn True.intro e (fun z=>nomatch z) h
 | flt y=>obtain⟨t,q⟩:=(show∃t,u=Value.float y t from rx);cases q;exact PySem.W.kia_one PySem.W.kitx_float I.kIn True.intro e (fun z=>nomatch z) h
 | @lst a xs ea =>
   cases(show u=Value.ref a from rx)
   obtain⟨_,_,n,_,h1⟩:=(show ObjOk X.prog X.w H s.heap a (.lst xs)from I.hok a _ ea)
   exact PySem.W.kia_one PySem.W.kitx_list I.kIn ⟨_,h1,rfl⟩ e (fun z=>nomatch z) h
 | @frz a ob xs ea =>
   cases(show u=Value.ref a from rx)
   obtain⟨_,_,_,n,_,h1⟩:=(show ObjOk X.prog X.w H s.heap a (.frz ob (.lst xs))from I.hok a _ ea)
   exact PySem.W.kia_one PySem.W.kitx_list I.kIn ⟨_,h1,rfl⟩ e (fun z=>nomatch z) h
 | @tup a xs ea =>
   cases(show u=Value.ref a from rx)
   obtain⟨_,_,_,p⟩:=(show ObjOk X.prog X.w H s.heap a (.tup xs)from I.hok a _ ea)
   obtain⟨o,h1,h2,_⟩:=p
   exact PySem.W.kia_one PySem.W.kitx_tuple I.kIn ⟨o,h1,h2⟩ e (fun z=>nomatch z) h
 | @dK a kvs ea =>
   cases(show u=Value.ref a from rx)
   obtain⟨_,_,vs,_,p⟩:=(show ObjOk X.prog X.w H s.heap a (.dK kvs)from I.hok a _ ea)
   obtain⟨o,es,ep,h1,h2,_⟩:=p
   exact PySem.W.kia_one PySem.W.kitx_dict I.kIn ⟨o,h1,h2.1⟩ e (fun z=>nomatch z) h
 | @dT a kvs ea =>
   cases(show u=Value.ref a from rx)
   obtain⟨_,_,xs,_,o,es,ep,h1,h2,_⟩:=(show ObjOk X.prog X.w H s.heap a (.dT kvs)from I.hok a _ ea)
   exact PySem.W.kia_one PySem.W.kitx_dict I.kIn ⟨o,h1,h2.1⟩ e (fun z=>nomatch z) h
 | @ins a C dx fs ea cl ha hn htk hm =>
   cases(show u=Value.ref a from rx)
   obtain⟨mA,O,_⟩:=ins_get I.hok ea
   obtain⟨od,J,_⟩:=O.look
   exact PySem.W.kia_one (PySem.W.kitx_own (cl.get _) cl.hd ha hn htk hm) I.kIn J e (fun z=>nomatch z) h
end
end L2
namespace L2
open PySem PySem.Spec PyProof.Rows
structure Room(k:Nat)(A:Around):Prop where
 hd:A.handled=none
 dp:A.depth+3*k+5<recursionLimit
 un:A.units+16*k+200<cLine
theorem Room.mono{j k:Nat}{A:Around}(r:Room k A)(h:j≤k):Room j A:=⟨r.hd,by have:=r.dp;omega,by have:=r.un;omega⟩
theorem Room.deeper{k:Nat}{A:Around}(r:Room (k+1) A)(env:Env):Room k (A.deeper env) :=
 ⟨r.hd,by have:=r.dp;show A.depth+1+3*k+5<_;omega,by have:=r.un;show A.units+3+16*k+200<_;omega⟩
theorem Room.in1{k:Nat}{A:Around}(r:Room (k+1) A):Room k A.in1 :=
 ⟨r.hd,by have:=r.dp;show A.depth+3*k+5<_;omega,by have:=r.un;show A.units+1+16*k+200<_;omega⟩
theorem Room.depth{k:Nat}{A:Around}(r:Room k A):A.depth<recursionLimit:=by have:=r.dp;omega
theorem Room.units{k:Nat}{A:Around}(r:Room k A):A.units+64<cLine:=by have:=r.un;omega
def tNil:TA:=fun _ H Q=>Q [] H
def qed(ta:TE)(tr:TA):TA:=fun σ H Q=>ta σ H fun x H1=>tr σ H1 fun xs H2=>Q (x::xs) H2
section
variable{X:Cx}{e:Expr}{es:List Expr}{te:TE}{t:TA}{pos:Pos}
theorem pa_nil:PA X [] tNil:=fun _ _ _ _ H Q I h=>Calls.spliced_nil ⟨[],H,I,.nil,h⟩
theorem qab(ha:PE X e te)(hr:PA X es t)(hs:starEach (e::es) X.env=(false,eval e X.env)::starEach es X.env:=by rfl):PA X (e::es) (qed te t):=by
 intro pos pins s σ H Q I h;rw[hs];show wpAny _ _ (spliced ((false,eval e X.env)::backTo pos (starEach es X.env))) _ _ s;refine Calls.spliced_cons (thn (ha pins s σ H _ I h) fun u s1 ⟨x,H1,I1,r1,q1⟩=>?_);exact thn (hr pos pins s1 σ H1 _ I1 q1) fun us s2 ⟨xs,H2,I2,r2,q2⟩=>⟨x::xs,H2,I2,.cons r1 r2,q2⟩
def tTup(t:TA):TE:=fun σ H Q=>t σ H fun xs H1=>xs.length≤sizeLine∧∀p,H1 p=none→Q (.ref p) (upd H1 p (.tup xs))
def tLst(t:TA):TE:=fun σ H Q=>t σ H fun xs H1=>xs.length≤sizeLine∧∀p,H1 p=none→Q (.ref p) (upd H1 p (.lst xs))
theorem qbB{x1}(h:PA X es t):PE X (.Tuple es x1 pos) (tTup t):=by
 intro pins s σ H Q I hq;refine wpAny_Tuple_spliced (thn (h pos pins s σ H _ I hq) fun us s1 ⟨xs,H1,I1,r,z,q⟩=>⟨by rw[←r.length];exact z,?_⟩);have hf:H1 s1.heap.objs.size=none:=I1.hok.fresh (Nat.le_refl _);refine⟨.ref s1.heap.objs.size,upd H1 s1.heap.objs.size (.tup xs),I1.laid (t':=s1.toks) (fun b u e=>Heap.get?_push_of_some _ e) (Nat.le_refl _) ?_,rfl,q _ hf⟩;exact⟨z,us,r,⟨_,Heap.get?_push_size _ rfl,rfl,_,rfl⟩⟩
theorem qaY(h:PA X es t):PE X (.List es pos) (tLst t):=by
 intro pins s σ H Q I hq;refine wpAny_List_spliced (thn (h pos pins s σ H _ I hq) fun us s1 ⟨xs,H1,I1,r,z,q⟩=>⟨by rw[←r.length];exact z,?_⟩);have hf:H1 s1.heap.objs.size=none:=I1.hok.fresh (Nat.le_refl _);refine⟨.ref s1.heap.objs.size,upd H1 s1.heap.objs.size (.lst xs),I1.laid (t':=s1.toks) (fun b u e=>Heap.get?_push_of_some _ e) (Nat.le_refl _) ?_,rfl,q _ hf⟩;exact⟨z,us,0,r,Heap.get?_push_size _ rfl⟩
end
abbrev Sp:=List V→Hp→VK→XK→Prop
abbrev CXT:=List Env→Hp→Shared→XK→Value→Shared→Prop
structure Env0(P:Program)(w:World)(K:PySem.W.Frag)(mg:Str→Option Value)(base:Heap)(A:Around)(outer:List Env)(s:Shared)(H:Hp):Prop where
 frames:A.frames=some outer
 mod:Mod K mg base
 bs:∀b o,base.get? b=some o→s.heap.get? b=some o∧H b=none
 bsz:base.objs.size≤s.heap.objs.size
 funs:s.heap.FunFrames base outer
 frf:∀b∈frs outer,H b=none
 hok:HOk P w H s.heap
 bare:AllBare s.gens
def CE(outer:List Env)(P:Program)(w:World)(H:Hp)(s:Shared)(Q:VK)(u:Value)(s':Shared):Prop :=
 ∃v H',s'.os=s.os∧AllBare s'.gens∧Un (frs outer) [] H H' s.heap s'.heap∧HOk P w H' s'.heap∧RelV v u∧Q v H'
def CR(CX:CXT)(outer:List Env)(P:Program)(w:World)(H:Hp)(s:Shared)(Q:VK)(E:XK)(r:Result)(s':Shared):Prop :=
 match r with
 | .ok (.ret u)=>CE outer P w H s Q u s'
 | .ok _=>False
 | .error e=>CX outer H s E e s'
structure FnOk(P:Program)(w:World)(K:PySem.W.Frag)(mg:Str→Option Value)(base:Heap)(CX:CXT)(k:Nat)(f:Addr)(fd:FuncData)(ps:List Str)(sp:Sp):Prop where
 len:∀vs H Q E,sp vs H Q E→vs.length=ps.length
 run:∀(A:Around) (outer:List Env) (s:Shared) (H:Hp) (args:Args) (us:List Value) (vs:List V) (Q:VK) (E:XK),Room k A→Env0 P w K mg base A outer s H→BindsTo s fd args (ps.zip us)→Vals vs us→sp vs H Q E →
  codeAny (model P w) A (.call (.ref f) args) (CR CX outer P w H s Q E) s
theorem FnOk.mono{P:Program}{w:World}{K:PySem.W.Frag}{mg:Str→Option Value}{base:Heap}{CX:CXT}{j k:Nat}{f:Addr}{fd:FuncData}{ps:List Str}{sp:Sp}(F:FnOk P w K mg base CX j f fd ps sp)(h:j≤k) :
  FnOk P w K mg base CX k f fd ps sp:=⟨F.len,fun A outer s H args us vs Q E hr=>F.run A outer s H args us vs Q E (hr.mono h)⟩
theorem FnOk.imp{P:Program}{w:World}{K:PySem.W.Frag}{mg:Str→Option Value}{base:Heap}{CX:CXT}{k:Nat}{f:Addr}{fd:FuncData}{ps:List Str}{sp sp':Sp}(F:FnOk P w K mg base CX k f fd ps sp)(h:∀vs H Q E,sp' vs H Q E→sp vs H Q E):FnOk P w K mg base CX k f fd ps sp' :=
 ⟨fun vs H Q E q=>F.len vs H Q E (h _ _ _ _ q),fun A outer s H args us vs Q E hr he hb hv hs=>F.run A outer s H args us vs Q E hr he hb hv (h _ _ _ _ hs)⟩
theorem Env0.in1{P:Program}{w:World}{K:PySem.W.Frag}{mg:Str→Option Value}{base:Heap}{A:Around}{outer:List Env}{s:Shared}{H:Hp}(e:Env0 P w K mg base A outer s H) :
  Env0 P w K mg base A.in1 outer s H:=⟨e.frames,e.mod,e.bs,e.bsz,e.funs,e.frf,e.hok,e.bare⟩
section
variable{X:Cx}{pins:List (Addr×Obj)}{σ:St}{H:Hp}{s s':Shared}
theorem Inv.env0(I:Inv X pins σ H s):Env0 X.prog X.w X.K X.mg X.base X.A X.stack s H :=
 ⟨I.ok.frames,I.ok.mod,I.bs,Nat.le_trans I.ok.bsz I.sz,I.stack,I.stkFree,I.hok,I.bare⟩
theorem Inv.after{Q:VK}{u:Value}(I:Inv X pins σ H s)(h:CE X.stack X.prog X.w H s Q u s'):EP X pins σ Q u s':=by
 obtain⟨v,H',os,bare,un,hok,r,q⟩:=h;obtain⟨hh,g,d,t,os'⟩:=s';obtain rfl:os'=s.os:=os;exact⟨v,H',I.call (h':=hh) (g':=g) (d':=d) (t':=t) (ch:=[]) un hok bare (fun b z=>absurd z (by simp)),r,q⟩
end
def qfZ(sp:Sp)(dvs:List V)(E:XK)(t:TA):TE:=fun σ H Q=>t σ H fun vs H1=>sp (vs++dvs) H1 Q E
def Binds(K:PySem.W.Frag)(fd:FuncData)(ps:List Str)(ds:List Value):Prop :=
 ∀(s:Shared) (us:List Value),K.In s.heap→(us++ds).length=ps.length→BindsTo s fd ⟨us,[]⟩ (ps.zip (us++ds))
theorem Binds.all{K:PySem.W.Frag}{fd:FuncData}{ps:List Str}(h:∀us:List Value,us.length=ps.length→bindArgs fd ⟨us,[]⟩=pure (ps.zip us)):Binds K fd ps []:=fun s us _ hl=>by
 rw[List.append_nil]at hl⊢;exact .of_eq (h us hl)
def qdf(CX:CXT)(X:Cx)(E:XK):Prop:=∀(pins:List (Addr×Obj)) (σ:St) (H:Hp) (s:Shared) (e:Value) (s':Shared),Inv X pins σ H s→CX X.stack H s E e s'→X.xe e s'
section
variable{X:Cx}{CX:CXT}{k:Nat}{f C:Addr}{fd:FuncData}{ps:List Str}{sp:Sp}{dvs:List V}{ds:List Value}{E:XK}{x m:Str}{p pos apos:Pos}{e o:Expr}{es:List Expr}{ta:TE}{t:TA}
theorem run_fn{pins:List (Addr×Obj)}{σ:St}{H:Hp}{s:Shared}{Q:VK}{us:List Value}{vs:List V}(F:FnOk X.prog X.w X.K X.mg X.base CX k f fd ps sp)(hr:Room k X.A)(hb:Binds X.K fd ps ds)(hd:Vals dvs ds)(hx:qdf CX X E)(I:Inv X pins σ H s)(r:Vals vs us)(h:sp (vs++dvs) H Q E):wpAny (model X.prog X.w) X.A (call (.ref f) us) (EP X pins σ Q) X.xe s:=by
 have r2:Vals (vs++dvs) (us++ds):=r.append hd;have hl:(us++ds).length=ps.length:=by rw[←r2.length];exact F.len _ _ _ _ h
 refine wpAny_call (codeAny_mono (F.run X.A X.stack s H ⟨us,[]⟩ (us++ds) (vs++dvs) Q E hr I.env0 (hb s us I.kIn hl) r2 h) fun r s' hq=>?_);cases r with
 | error e=>exact hx pins σ H s e s' I hq
 | ok fl =>
   cases fl with
   | ret u=>exact I.after hq
   | next=>exact False.elim hq
   | brk=>exact False.elim hq
   | cont=>exact False.elim hq
theorem pe_call(F:FnOk X.prog X.w X.K X.mg X.base CX k f fd ps sp)(hr:Room k X.A)(hg:Gl X x)(hm:X.mg x=some (.ref f))(hk:PySem.W.keepIn X.K (.ref f)=true)(hb:Binds X.K fd ps ds)(hd:Vals dvs ds)(hx:qdf CX X E)(ha:PA X (e::es) t)(hdb:(x == ("__debug__" : Str))=false:=by decide)(he:starEach (e::es) X.env=(false,eval e X.env)::starEach es X.env:=by rfl)(hpl:(backTo pos (starEach es X.env)).any (·.1)=false:=by rfl) :
  PE X (.Call (.Name x p) (e::es) [] pos) (qfZ sp dvs E t):=by
 intro pins s σ H Q I h;refine wpAny_Call_Name_kw (qco I hg hm ?_ hdb);refine PySem.W.callWith_K (h₀:=X.base) I.ok.mod.kin hk (thn (ha pos pins s σ H _ I h) fun us s1 ⟨vs,H1,I1,r,q⟩=>⟨I1.kIn,?_⟩) he hpl;exact run_fn F hr hb hd hx I1 r q
structure Mk(K:PySem.W.Frag)(C f:Addr):Prop where
 makes:PySem.W.makesIn K C=true
 init:PySem.W.findIn K (.ref C) "__init__" = some (some (.ref f))
 fn:PySem.W.isFn K (.ref f)=true
 kp:PySem.W.keepIn K (.ref C)=true
end
section
variable{X:Cx}{CX:CXT}{k:Nat}{f C:Addr}{fd:FuncData}{ps ks:List Str}{sp:Sp}{E:XK}{x m:Str}{p pos apos kpos:Pos}{e o:Expr}{es:List Expr}{kws:List Keyword}{te ta:TE}{t tk:TA}{nm:Option Str}
structure KBinds(K:PySem.W.Frag)(fd:FuncData)(ps ks:List Str)(g:List Value→List Value→List Value)(gV:List V→List V→List V):Prop where
 to:∀(s:Shared) (us ws:List Value),K.In s.heap→(g us ws).length=ps.length→BindsTo s fd ⟨us,ks.zip ws⟩ (ps.zip (g us ws))
 rel:∀{vs:List V} {us:List Value} {zs:List V} {ws:List Value},Vals vs us→Vals zs ws→Vals (gV vs zs) (g us ws)
variable{g:List Value→List Value→List Value}{gV:List V→List V→List V}
end
structure FnScope(N P:List Str)(sc:Scope):Prop where
 kind:sc.kind=.function
 co:sc.isCoroutine=false
 gen:sc.isGenerator=false
 nd:N.Nodup
 pre:N.take P.length=P
 par:∀x∈P,sc.names.lookup x=some .local∨sc.names.lookup x=some .cell
 nofree:∀y∈sc.names,y.2≠.free
theorem qdA{kindOf:Str→Option NameKind}{x:Str}:∀{binds:List (Str×Value)} {m:Str→Option Value},(∀v,(x,v)∉binds)→bindL kindOf binds m x=m x
 | [],_,_=>rfl
 | (n, v) :: r, m, h => by
   unfold bindL
   rw[qdA fun w hw=>h w (List.mem_cons_of_mem _ hw)]
   split
   · have:x≠n:=by rintro rfl;exact h v List.mem_cons_self
     simp[this]
   · rfl
theorem qdO{kindOf:Str→Option NameKind}{x:Str}:∀{binds:List (Str×Value)} {m:Str→Option Value},(∀v,(x,v)∉binds)→bindC kindOf binds m x=m x
 | [],_,_=>rfl
 | (n, v) :: r, m, h => by
   unfold bindC
   rw[qdO fun w hw=>h w (List.mem_cons_of_mem _ hw)]
   split
   · rfl
   · have:x≠n:=by rintro rfl;exact h v List.mem_cons_self
     simp[this]
theorem qdW{kindOf:Str→Option NameKind}{x:Str}{v:Value}:∀{P:List Str} {vs:List Value} {i:Nat} {m:Str→Option Value},P.Nodup→P[i]?=some x→vs[i]?=some v→kindOf x=some .local →
  bindL kindOf (P.zip vs) m x=some v
 | [],_,_,_,_,h,_,_=>by simp at h
 | _::_,[],_,_,_,_,h,_=>by simp at h
 | p :: P, w :: vs, 0, m, nd, h1, h2, hk => by
   simp at h1 h2;subst h1;subst h2
   show bindL kindOf ((p,w)::P.zip vs) m p=_
   unfold bindL
   rw[qdA fun v hv=>(List.nodup_cons.mp nd).1 (List.of_mem_zip hv).1,if_pos hk]
   simp
 | p :: P, w :: vs, i + 1, m, nd, h1, h2, hk => by
   show bindL kindOf ((p,w)::P.zip vs) m x=_
   unfold bindL
   exact qdW (i:=i) (List.nodup_cons.mp nd).2 (by simpa using h1) (by simpa using h2) hk
theorem qdQ{kindOf:Str→Option NameKind}{x:Str}{v:Value}:∀{P:List Str} {vs:List Value} {i:Nat} {m:Str→Option Value},P.Nodup→P[i]?=some x→vs[i]?=some v→kindOf x≠some .local →
  bindC kindOf (P.zip vs) m x=some v
 | [],_,_,_,_,h,_,_=>by simp at h
 | _::_,[],_,_,_,_,h,_=>by simp at h
 | p :: P, w :: vs, 0, m, nd, h1, h2, hk => by
   simp at h1 h2;subst h1;subst h2
   show bindC kindOf ((p,w)::P.zip vs) m p=_
   unfold bindC
   rw[qdO fun v hv=>(List.nodup_cons.mp nd).1 (List.of_mem_zip hv).1,if_neg hk]
   simp
 | p :: P, w :: vs, i + 1, m, nd, h1, h2, hk => by
   show bindC kindOf ((p,w)::P.zip vs) m x=_
   unfold bindC
   exact qdQ (i:=i) (List.nodup_cons.mp nd).2 (by simpa using h1) (by simpa using h2) hk
def qc2(N:List Str)(vs:List V):St:=vs.map some++List.replicate (N.length-vs.length) none
def cxOf(CX:CXT)(P:Program)(w:World)(K:PySem.W.Frag)(mg:Str→Option Value)(base:Heap)(N:List Str)(qual:Str)(scope:Scope)(f:Addr)(cd:Value)(A:Around)(outer:List Env)(s:Shared)(H:Hp)(E:XK):Cx where
 prog:=P
 w:=w
 K:=K
 mg:=mg
 base:=base
 A:=A.deeper (envOfC qual scope s.heap.objs.size f cd)
 N:=N
 s₀:=s
 H₀:=H
 env:=envOfC qual scope s.heap.objs.size f cd
 outer:=outer
 stack:=envOfC qual scope s.heap.objs.size f cd::outer
 ex:=[]
 calm:=true
 fn:=fun _=>true
 pn:=[]
 xe:=fun e s'=>wpAny (model P w) (A.deeper (envOfC qual scope s.heap.objs.size f cd)) (leaving (envOfC qual scope s.heap.objs.size f cd) e) (fun _ s''=>CX outer H s E e s'') (fun e' s''=>CX outer H s E e' s'') s'
theorem qeq{sc:Scope}{n:Nat}{x:Str}(h:sc.names.lookup x=some .cell):∃c,(cellsFrom n sc.names []).lookup x=some c:=by
 have q:=PySem.W.cellsFrom_some sc.names n [] (.inl h);exact Option.isSome_iff_exists.mp q
theorem inv_start{CX:CXT}{P:Program}{w:World}{K:PySem.W.Frag}{mg:Str→Option Value}{base:Heap}{N ps:List Str}{qual:Str}{scope:Scope}{f:Addr}{cd:Value}{A:Around}{outer:List Env}{s s1:Shared}{H:Hp}{E:XK}{us:List Value}{vs:List V}(S:FnScope N ps scope)(hd:A.handled=none)(e0:Env0 P w K mg base A outer s H)(hl:vs.length=ps.length)(r:Vals vs us)(x:InCallC s s.heap.objs.size (bindL (envOfC qual scope s.heap.objs.size f cd).kindOf (ps.zip us) fun _=>none) (cellsFrom (s.heap.objs.size+1) scope.names []) (bindC (envOfC qual scope s.heap.objs.size f cd).kindOf (ps.zip us) fun _=>none) s1) :
  Inv (cxOf CX P w K mg base N qual scope f cd A outer s H E) [] (qc2 N vs) H s1:=by
 have hpl:ps.length≤N.length:=by have:=congrArg List.length S.pre;rw[List.length_take]at this;omega
 obtain⟨h1,tk,rfl,hk⟩:=x.done;have noA:∀b:Addr,b∉(cxOf CX P w K mg base N qual scope f cd A outer s H E).ex:=fun b z=>absurd (show b∈([]:List Addr)from z) (by simp)
 refine⟨⟨e0.mod,S.kind,rfl,rfl,Nat.le_refl _,fun y z c h1 h2=>?_,fun y hy=>?_,fun y c _ h=>?_,fun _=>hd,Around.frames_deeper e0.frames,.inr ⟨rfl,rfl⟩,fun b z=>absurd z (noA b),e0.bs,e0.bsz,fun b _ _=>noA b,fun b z=>absurd z (noA b),e0.funs,e0.frf⟩,
  rfl,e0.bare,Un.kept hk,⟨_,x.toInCall.ns,fun i y v h1 h2 h3=>?_⟩,fun y c h=>⟨_,x.cell y c h⟩,e0.hok.fresh (Nat.le_refl _),fun y c h=>?_,fun p hp=>absurd (show p∈([]:List (Addr×Obj))from hp) (by simp),e0.hok.kept hk,?_⟩
 ·exact name_of_addr x.apart (PySem.mem_of_lookup h1) (PySem.mem_of_lookup h2)
 ·have hy:scope.names.lookup y=some .cell∨scope.names.lookup y=some .free:=hy;rcases hy with hy | hy
  ·exact qeq hy
  ·exact absurd rfl (S.nofree _ (PySem.mem_of_lookup hy))
 ·exact Nat.le_of_lt (x.above y c (PySem.mem_of_lookup h))
 ·have hi:i<vs.length:=by
   unfold qc2 at h2
   by_cases hi:i<vs.length
   ·exact hi
   ·rw[List.getElem?_append_right (by simpa using hi)]at h2;rw[List.getElem?_replicate]at h2
    split at h2<;>cases h2
  have ha:vs[i]?=some v:=by
   unfold qc2 at h2;rw[List.getElem?_append_left (by simpa using hi),List.getElem?_map]at h2;cases e:vs[i]? with
   | none=>rw[e]at h2;cases h2
   | some a=>rw[e]at h2;cases h2;rfl
  obtain⟨u,hu,rv⟩:=r.get ha;have hp:ps[i]?=some y:=by
   rw[←S.pre,List.getElem?_take_of_lt (by omega)];exact h1
  have ndP:ps.Nodup:=by rw[←S.pre];exact S.nd.sublist (List.take_sublist _ _)
  refine⟨u,rv,?_⟩;rcases S.par y (List.mem_of_getElem? hp)with k | k
  ·exact .inl ⟨k,qdW ndP hp hu k⟩
  ·obtain⟨c,e⟩:=qeq (n:=s.heap.objs.size+1) k;refine .inr ⟨.inl k,c,e,?_⟩;have q:=x.cell y c e;rw[qdQ ndP hp hu (by show scope.names.lookup y≠_;rw[k];decide)]at q;exact q
 ·exact e0.hok.fresh (Nat.le_of_lt (x.above y c (PySem.mem_of_lookup h)))
 ·unfold qc2;show _=N.length;rw[List.length_append,List.length_map,List.length_replicate];omega
theorem qf3{CX:CXT}{P:Program}{w:World}{K:PySem.W.Frag}{mg:Str→Option Value}{base:Heap}{k:Nat}{f:Addr}{name qual:Str}{params:Arguments}{body:List Stmt}{scope:Scope}{dV kV doc pm cdv ct oc:Value}{an od:Option Addr}{osl:Array (Option Value)}{N ps:List Str}{sp:Sp}(lk:K.lookup f=some ⟨oc,od,.func (PySem.W.fnOf name qual params body scope dV kV doc pm an cdv ct),osl⟩)(hcd:PySem.W.codeIn K cdv qual=true)(S:FnScope N ps scope)(len:∀vs H Q E,sp vs H Q E→vs.length=ps.length)(hbody:∀(A:Around) (outer:List Env) (s:Shared) (H:Hp) (vs:List V) (Q:VK) (E:XK),Room k (A.deeper (envOfC qual scope s.heap.objs.size f cdv))→sp vs H Q E →
   ∃t,PSs (cxOf CX P w K mg base N qual scope f cdv A outer s H E) body t∧t {nx:=fun _ H'=>Q .non H',rt:=Q} (qc2 N vs) H) :
  FnOk P w K mg base CX (k+1) f (PySem.W.fnOf name qual params body scope dV kV doc pm an cdv ct) ps sp:=by
 refine⟨len,fun A outer s H args us vs Q E hr e0 hb r hsp=>?_⟩;have hl:=len _ _ _ _ hsp;have KX:K.In s.heap:=e0.mod.kin.keeps fun b o e=>(e0.bs b o e).1
 have lim:s.heap.NoLimit:=e0.mod.nolimit.keeps fun b o e=>(e0.bs b o e).1
 have hkind:∀y∈ps.zip us,scope.names.lookup y.1=some .local∨(scope.names.lookup y.1=some .cell∧((cellsFrom (s.heap.objs.size+1) scope.names []).lookup y.1).isSome=true):=fun⟨n,v⟩ hy=>by
  rcases S.par n (List.of_mem_zip hy).1 with q | q
  ·exact .inl q
  ·exact .inr ⟨q,PySem.W.cellsFrom_some _ _ _ (.inl q)⟩
 refine codeAny_call_function hr.depth (KX _ _ lk) rfl S.co S.gen rfl (PySem.W.codeRec_of KX hcd) (hb _ _ _ _ ?_);refine wpAny_newFunctionEnv_cells S.kind hkind fun env he s1 x=>?_
 subst he;refine⟨lim.keeps x.toInCall.keep,codeAny_func ?_⟩;obtain⟨t,ht,hq⟩:=hbody A outer s H vs Q E (hr.deeper _) hsp;have I:Inv (cxOf CX P w K mg base N qual scope f cdv A outer s H E) [] (qc2 N vs) H s1:=inv_start S hr.hd e0 hl r x;refine wpAny_mono (ht [] s1 (qc2 N vs) H _ I hq) (fun fl s' hs=>?_) fun e s' hs=>hs
 have fin:∀{σ':St} {H':Hp} {v:V} {u:Value},Inv (cxOf CX P w K mg base N qual scope f cdv A outer s H E) [] σ' H' s'→RelV v u→Q v H'→CE outer P w H s Q u s' :=
  fun {σ' H' v u} J rv q=>⟨v,H',J.os,J.bare,J.base,J.hok,rv,q⟩
 cases fl with
 | ret u =>
   obtain⟨v,σ',H',J,rv,q⟩:=hs
   exact fin J rv q
 | next =>
   obtain⟨σ',H',J,q⟩:=hs
   exact fin (v:=V.non) (u:=Value.none) J rfl q
 | brk =>
   obtain⟨_,_,_,q⟩:=hs
   exact False.elim q
 | cont =>
   obtain⟨_,_,_,q⟩:=hs
   exact False.elim q
end L2
namespace L2
open PySem PySem.Spec PyProof.Rows
section
variable{X:Cx}{x:Str}{p pos:Pos}{e:Expr}{es:List Expr}{t:TA}{id T:String}{r:List V→Hp→VK→Prop}
def tCB(r:List V→Hp→VK→Prop)(t:TA):TE:=fun σ H Q=>t σ H fun vs H1=>r vs H1 Q
theorem qaw(hc:CallR X (.builtin id) r)(hg:Gl X x)(hm:X.mg x=none)(hv:bootBuiltins x=some (.builtin id))(ha:PA X (e::es) t)(hn:x ≠ "__name__":=by decide)(hdb:(x == ("__debug__" : Str))=false:=by decide)(he:starEach (e::es) X.env=(false,eval e X.env)::starEach es X.env:=by rfl)(hpl:(backTo pos (starEach es X.env)).any (·.1)=false:=by rfl):PE X (.Call (.Name x p) (e::es) [] pos) (tCB r t):=by
 intro pins s σ H Q I h;refine wpAny_Call_Name_kw (qc8 I hg hm hv ?_ hn hdb);exact PyProof.Rows.callWith_builtin1 (thn (ha pos pins s σ H _ I h) fun us s1 ⟨vs,H1,I1,r1,q1⟩=>hc pins s1 σ H1 vs us Q I1 r1 q1) he hpl
theorem qa5(hc:CallR X (.type T) r)(hg:Gl X x)(hm:X.mg x=none)(hv:bootBuiltins x=some (.type T))(ha:PA X (e::es) t)(hn:x ≠ "__name__":=by decide)(hdb:(x == ("__debug__" : Str))=false:=by decide)(he:starEach (e::es) X.env=(false,eval e X.env)::starEach es X.env:=by rfl)(hpl:(backTo pos (starEach es X.env)).any (·.1)=false:=by rfl):PE X (.Call (.Name x p) (e::es) [] pos) (tCB r t):=by
 intro pins s σ H Q I h;refine wpAny_Call_Name_kw (qc8 I hg hm hv ?_ hn hdb);exact PyProof.Rows.callWith_type1 (thn (ha pos pins s σ H _ I h) fun us s1 ⟨vs,H1,I1,r1,q1⟩=>hc pins s1 σ H1 vs us Q I1 r1 q1) he hpl
end
end L2
namespace HT
open PySem PyProof.Rows
section
variable{prog:Program}{w:World}{A:Around}{E:Value→Shared→Prop}{s:Shared}
def sIx(n d:Nat):Option Int→Nat
 | none=>d
 | some v=>if v<0 then(v+(n:Int)).toNat else min v.toNat n
theorem sIx_none(n d:Nat):sIx n d none=d:=rfl
theorem sIx_nat(n d k:Nat):sIx n d (some (k:Int))=min k n:=by
 show(if(k:Int)<0 then((k:Int)+(n:Int)).toNat else min (k:Int).toNat n)=min k n;rw[if_neg (by omega),Int.toNat_natCast]
end
end HT
namespace L2
open PySem PySem.Spec PyProof.Rows
abbrev TO:=St→Hp→(Option Int→Hp→Prop)→Prop
def PO(X:Cx)(e:Option Expr)(t:TO):Prop :=
 ∀(pins:List (Addr×Obj)) (s:Shared) (σ:St) (H:Hp) (Q:Option Int→Hp→Prop),Inv X pins σ H s→t σ H Q →
  wpAny (model X.prog X.w) X.A (evalPart e X.env) (fun u s'=>∃o H',Inv X pins σ H' s'∧IsPart u o∧Q o H') X.xe s
def tNoPart:TO:=fun _ H Q=>Q none H
def tPart(t:TE):TO:=fun σ H Q=>t σ H fun x H1=>∃i,x=.int i∧Q (some i) H1
section
variable{X:Cx}{e:Expr}{te:TE}{lo hi:Option Expr}{tl th:TO}{pos p2:Pos}
theorem po_none:PO X none tNoPart:=by
 intro pins s σ H Q I h;rw[evalPart_none];exact wpAny_pure ⟨none,H,I,.none,h⟩
theorem qbM(h:PE X e te):PO X (some e) (tPart te):=by
 intro pins s σ H Q I hw;rw[evalPart_some];refine thn (h pins s σ H _ I hw) fun u s1 ⟨x,H1,I1,r1,q1⟩=>?_
 obtain⟨i,rfl,q⟩:=q1;obtain⟨t,rfl⟩:=r1;exact⟨some i,H1,I1,.int i t,q⟩
def SlR(X:Cx)(r:V→Option Int→Option Int→Hp→VK→Prop):Prop :=
 ∀(pins:List (Addr×Obj)) (s:Shared) (σ:St) (H:Hp) (x:V) (v vl vu:Value) (lo hi:Option Int) (sl:Addr) (Q:VK),Inv X pins σ H s→RelV x v→s.heap.IsSliceOf sl vl vu .none→IsPart vl lo→IsPart vu hi→r x lo hi H Q →
  ∃T id,typeLookup (.type T) "__getitem__" = pure (some (.builtin id))∧s.TypeIs v T∧wpAny (model X.prog X.w) X.A (getItem v (.ref sl)) (EP X pins σ Q) X.xe s
theorem SlR.or{r r':V→Option Int→Option Int→Hp→VK→Prop}(h:SlR X r)(h':SlR X r'):SlR X (fun x lo hi H Q=>r x lo hi H Q∨r' x lo hi H Q):=by
 intro pins s σ H x v vl vu lo hi sl Q I rx hs pl pu q;rcases q with q | q
 ·exact h pins s σ H x v vl vu lo hi sl Q I rx hs pl pu q
 ·exact h' pins s σ H x v vl vu lo hi sl Q I rx hs pl pu q
def tSl(r:V→Option Int→Option Int→Hp→VK→Prop)(te:TE)(tl th:TO):TE:=fun σ H Q=>te σ H fun x H1=>tl σ H1 fun l H2=>th σ H2 fun u H3=>r x l u H3 Q
theorem qbG{r:V→Option Int→Option Int→Hp→VK→Prop}(hr:SlR X r)(he:PE X e te)(hl:PO X lo tl)(hu:PO X hi th):PE X (.Subscript e (.Slice lo hi none p2) pos) (tSl r te tl th):=by
 intro pins s σ H Q I h;refine Subscript_ (thn (he pins s σ H _ I h) fun v s1 ⟨x,H1,I1,r1,q1⟩=>?_);refine wpAny_Slice (thn (hl pins s1 σ H1 _ I1 q1) fun vl s2 ⟨l,H2,I2,pl,q2⟩=>thn (hu pins s2 σ H2 _ I2 q2) fun vu s3 ⟨u,H3,I3,pu,q3⟩=>?_);rw[evalPart_none];refine wpAny_pure ?_;have I4:Inv X pins σ H3 {s3 with heap:=s3.heap.push {cls:=.type "slice",data:=.fields #[vl,vu,.none]}}:=I3.kept (t':=s3.toks) fun b ob q=>Heap.get?_push_of_some _ q
 obtain⟨T,id,hT,ht,hg⟩:=hr pins {s3 with heap:=s3.heap.push {cls:=.type "slice",data:=.fields #[vl,vu,.none]}} σ H3 x v vl vu l u s3.heap.objs.size Q I4 r1 (Heap.IsSliceOf.new ..) pl pu q3;show wpAny (model X.prog X.w) X.A (subscriptTail e (.Slice lo hi none p2) v (.ref s3.heap.objs.size)) (EP X pins σ Q) X.xe {s3 with heap:=s3.heap.push {cls:=.type "slice",data:=.fields #[vl,vu,.none]}};exact tail_any (ops:=[.ref s3.heap.objs.size,v]) ht hT hg (by with_unfolding_all rfl)
def cutV(xs:List V)(lo hi:Option Int):List V:=(xs.drop (HT.sIx xs.length 0 lo)).take (HT.sIx xs.length xs.length hi-HT.sIx xs.length 0 lo)
theorem cutV_length(xs:List V)(lo hi:Option Int):(cutV xs lo hi).length≤xs.length:=by
 unfold cutV;rw[List.length_take,List.length_drop];omega
end
end L2
namespace L2
open PySem PySem.Spec PyProof.Rows
def ixN(n:Nat)(i:Int):Option Nat:=if 0≤i then(if i<n then some i.toNat else none)else if -(n:Int)≤i then some (i+n).toNat else none
def atI{α:Type}(xs:List α)(i:Int):Option α:=(ixN xs.length i).bind fun j=>xs[j]?
theorem qeM{n:Nat}{i:Int}{j:Nat}(h:ixN n i=some j):seqIndex? i n=some j∧j<n∧-(n:Int)≤i∧i<n:=by
 unfold ixN at h
 by_cases h0:0≤i
 ·rw[if_pos h0]at h
  by_cases h1:i<n
  ·rw[if_pos h1]at h;have e:i.toNat=j:=Option.some.inj h;exact⟨by rw[seqIndex_of h0 h1,e],by omega,by omega,h1⟩
  ·rw[if_neg h1]at h;cases h
 ·rw[if_neg h0]at h
  by_cases h1:-(n:Int)≤i
  ·rw[if_pos h1]at h;have e:(i+n).toNat=j:=Option.some.inj h;exact⟨by rw[seqIndex_neg (by omega) h1,e],by omega,h1,by omega⟩
  ·rw[if_neg h1]at h;cases h
theorem qec{α:Type}{xs:List α}{i:Int}{v:α}(h:atI xs i=some v):∃j,seqIndex? i xs.length=some j∧xs[j]?=some v∧j<xs.length∧-(xs.length:Int)≤i∧i<xs.length:=by
 unfold atI at h;cases e:ixN xs.length i with
 | none=>rw[e]at h;cases h
 | some j =>
   rw[e]at h
   obtain⟨h1,h2,h3,h4⟩:=qeM e
   exact⟨j,h1,h,h2,h3,h4⟩
theorem qcj{α:Type}{xs:List α}{j:Nat}{v:α}(h:xs[j]?=some v):atI xs (j:Int)=some v:=by
 have hj:j<xs.length:=(List.getElem?_eq_some_iff.mp h).1;have e:ixN xs.length (j:Int)=some j:=by
  unfold ixN;rw[if_pos (by omega),if_pos (by omega)];simp
 unfold atI;rw[e];exact h
def qd5(b:Expr):Prop:=∀o i,subscripted b false o i=operate [o,i] (getItem o i)
def IxR(X:Cx)(r:R2):Prop :=
 ∀(value slice:Expr) (pins:List (Addr×Obj)) (s:Shared) (σ:St) (H:Hp) (x y:V) (v u:Value) (Q:VK),Inv X pins σ H s→RelV x v→RelV y u→r x y H Q →
  subscripted slice false v u=operate [v,u] (getItem v u)→wpAny (model X.prog X.w) X.A (subscriptTail value slice v u) (EP X pins σ Q) X.xe s
def MtR(X:Cx)(id:String)(r:V→List V→Hp→VK→Prop):Prop :=
 ∀(pins:List (Addr×Obj)) (s:Shared) (σ:St) (H:Hp) (x:V) (xs:List V) (v:Value) (us:List Value) (Q:VK),Inv X pins σ H s→RelV x v→Vals xs us→r x xs H Q →
  wpAny (model X.prog X.w) X.A (call (.builtin id) (v::us)) (EP X pins σ Q) X.xe s
section
variable{X:Cx}{a b:Expr}{ta tb:TE}{pos:Pos}
theorem IxR.or{r r':R2}(h:IxR X r)(h':IxR X r'):IxR X (fun x y H Q=>r x y H Q∨r' x y H Q):=by
 intro value slice pins s σ H x y v u Q I rx ry q hs;rcases q with q | q
 ·exact h value slice pins s σ H x y v u Q I rx ry q hs
 ·exact h' value slice pins s σ H x y v u Q I rx ry q hs
theorem MtR.or{id:String}{r r':V→List V→Hp→VK→Prop}(h:MtR X id r)(h':MtR X id r'):MtR X id (fun x xs H Q=>r x xs H Q∨r' x xs H Q):=by
 intro pins s σ H x xs v us Q I rx rs q;rcases q with q | q
 ·exact h pins s σ H x xs v us Q I rx rs q
 ·exact h' pins s σ H x xs v us Q I rx rs q
theorem qaF{r:R2}(hr:IxR X r)(ha:PE X a ta)(hb:PE X b tb)(hs:qd5 b):PE X (.Subscript a b pos) (tOp r ta tb):=by
 intro pins s σ H Q I h;exact Subscript_ (binT ha hb I h fun v u s2 x y H2 I2 rx ry q=>hr a b pins s2 σ H2 x y v u Q I2 rx ry q (hs _ _))
def rIxL(K:PySem.W.Frag):R2:=fun x y H Q=>∃p xs i v,x=.ref p∧y=.int i∧SqL K H p xs∧atI xs i=some v∧Q v H
def rIxT(K:PySem.W.Frag):R2:=fun x y H Q=>∃p xs i v,x=.ref p∧y=.int i∧SqT K H p xs∧atI xs i=some v∧Q v H
def rIxS:R2:=fun x y H Q=>∃z i c,x=.str z∧y=.int i∧z.length≤sizeLine∧atI z.cps.toList i=some c∧Q (.str ⟨#[c]⟩) H
theorem ix_list:IxR X (rIxL X.K):=by
 intro value slice pins s σ H x y v u Q I rx ry h hs;obtain⟨p,xs,i,z,rfl,rfl,hq,he,q⟩:=h;cases rx;obtain⟨t,rfl⟩:=ry;obtain⟨its,r,pl,hz⟩:=I.list hq;obtain⟨j,h1,h2,h3,h4,h5⟩:=qec he;obtain⟨w,ew,rw'⟩:=r.get h2;have hl:=r.length;have hn:=line63;have fin:EP X pins σ Q w s:=⟨z,H,I,rw',q⟩
 by_cases h0:0≤i
 ·have hj:i.toNat=j:=by
   rw[seqIndex_of h0 h5]at h1;exact Option.some.inj h1
  exact item_listR pl.isList h0 (by omega) (by rw[hj];simpa using ew) fin hs
 ·have hj:(i+(its.toArray.size:Int)).toNat=j:=by
   rw[seqIndex_neg (by omega) h4]at h1;rw[List.size_toArray,←hl];exact Option.some.inj h1
  exact subscriptTail_builtinR (x:=w) pl.isList.typeIs slot_list_getitem.lookup
   (wpAny_getItem_list_neg (Q:=fun r s'=>r=w∧EP X pins σ Q r s') pl.isList (by omega) (by rw[List.size_toArray]<;>omega) (by omega) (by rw[hj];simpa using ew) ⟨rfl,fin⟩) hs
theorem ix_tup:IxR X (rIxT X.K):=by
 intro value slice pins s σ H x y v u Q I rx ry h hs;obtain⟨p,xs,i,z,rfl,rfl,hq,he,q⟩:=h;cases rx;obtain⟨t,rfl⟩:=ry;obtain⟨its,r,pl,hz⟩:=I.tuple hq;obtain⟨j,h1,h2,h3,h4,h5⟩:=qec he;obtain⟨w,ew,rw'⟩:=r.get h2;have hl:=r.length;have hn:=line63;have fin:EP X pins σ Q w s:=⟨z,H,I,rw',q⟩;exact subscriptTail_builtinR (x:=w) pl.typeIs slot_tuple_getitem.lookup
  (getItem_tuple (j:=j) (Q:=fun r s'=>r=w∧EP X pins σ Q r s') pl (by omega) (by omega) (by rw[List.size_toArray,←hl];exact h1) (by simpa using ew) ⟨rfl,fin⟩) hs
theorem ix_str:IxR X rIxS:=by
 intro value slice pins s σ H x y v u Q I rx ry h hs;obtain⟨z,i,c,rfl,rfl,hz,he,q⟩:=h;obtain⟨t,rfl⟩:=rx;obtain⟨t',rfl⟩:=ry;obtain⟨j,h1,h2,h3,h4,h5⟩:=qec he;have hl:z.cps.toList.length=z.length:=by simp[Str.length]
 rw[hl]at h1 h4 h5;have hn:=line63;exact tail_any (typeIs_str s z t) slot_str_getitem.lookup (getItem_str (c:=c) (by
  have e1:decide (i < -(2 ^ 63:Int))=false:=decide_eq_false (by omega);have e2:decide (i≥2 ^ 63)=false:=decide_eq_false (by omega);rw[e1,e2,Bool.or_false]) (by rw[h1];simpa using h2) ⟨.str ⟨#[c]⟩,H,I.tok _,⟨_,rfl⟩,q⟩) hs
theorem mapSeq_set(its:List Value)(n j:Nat)(u:Value):Obj.mapSeq (·.setIfInBounds j u) {cls:=.type "list",data:=.seq its.toArray n}={cls:=.type "list",data:=.seq (its.set j u).toArray n}:=by
 simp[Obj.mapSeq]
theorem Inv.lst{pins:List (Addr×Obj)}{σ:St}{H:Hp}{s:Shared}{p:Addr}{xs:List V}(I:Inv X pins σ H s)(h:H p=some (.lst xs)) :
  ∃(its:List Value) (n:Nat),Vals xs its∧s.heap.get? p=some {cls:=.type "list",data:=.seq its.toArray n}∧xs.length≤sizeLine:=by
 obtain⟨z,its,n,r,e⟩:=I.hok p _ h;exact⟨its,n,r,e,z⟩
theorem Inv.lstUpd{pins:List (Addr×Obj)}{σ:St}{H:Hp}{s:Shared}{p:Addr}{xs ys:List V}{its its':List Value}{n n':Nat}{f:Obj→Obj}(I:Inv X pins σ H s)(h:H p=some (.lst xs))(ho:s.heap.get? p=some {cls:=.type "list",data:=.seq its.toArray n})(hf:f {cls:=.type "list",data:=.seq its.toArray n}={cls:=.type "list",data:=.seq its'.toArray n'})(r:Vals ys its')(hz:ys.length≤sizeLine)(t:Nat) :
  Inv X pins σ (upd H p (.lst ys)) {s with heap:=s.heap.update p f,toks:=t}:=by
 have e:(s.heap.update p f).get? p=some {cls:=.type "list",data:=.seq its'.toArray n'}:=by
  rw[Heap.get?_update_self f ho (by rw[hf]<;>rfl),hf]
 refine I.write (x:=p) (e:=p) (by rw[h];trivial) (.inl rfl) (fun b u hb q=>(Heap.get?_update_other _ _ (Ne.symm hb)).trans q) ⟨_,e⟩ ?_;exact⟨hz,its',n',r,e⟩
def rSetL:V→V→V→Hp→(Hp→Prop)→Prop:=fun o i v H Q=>∃p xs k j,o=.ref p∧i=.int k∧H p=some (.lst xs)∧ixN xs.length k=some j∧Q (upd H p (.lst (xs.set j v)))
theorem set_list:PSet X rSetL:=by
 intro pins s σ H o i v ov iv u Q I ro ri rv h;obtain⟨p,xs,k,j,rfl,rfl,hp,hj,q⟩:=h;cases ro;obtain⟨t,rfl⟩:=ri;obtain⟨its,n,r,ho,hz⟩:=I.lst hp;obtain⟨h1,h2,h3,h4⟩:=qeM hj;have hl:=r.length;have hn:=line63;have I':Inv X pins σ (upd H p (.lst (xs.set j v))) {s with heap:=s.heap.update p (Obj.mapSeq (·.setIfInBounds j u))} :=
  I.lstUpd hp ho (mapSeq_set its n j u) (r.set rv j) (by rw[List.length_set];exact hz) s.toks
 by_cases h0:0≤k
 ·have hk:k.toNat=j:=by
   rw[seqIndex_of h0 h4]at h1;exact Option.some.inj h1
  exact PySem.W.ki_setAt ho h0 (by omega) (by rw[List.size_toArray,←hl];exact h4) (by rw[hk];exact⟨_,I',q⟩)
 ·have hk:(k+(its.toArray.size:Int)).toNat=j:=by
   rw[seqIndex_neg (by omega) h3]at h1;rw[List.size_toArray,←hl];exact Option.some.inj h1
  exact PySem.W.ki_setBack ho (by omega) (by rw[List.size_toArray,←hl];exact h3) (by omega) (by rw[hk];exact⟨_,I',q⟩)
theorem slice_bounds(lo hi:Option Int)(n:Nat):(sliceBounds lo hi none n).1=((HT.sIx n 0 lo:Nat):Int)∧(sliceBounds lo hi none n).2.1=((HT.sIx n n hi:Nat):Int)∧(sliceBounds lo hi none n).2.2=1:=by
 refine⟨?_,?_,rfl⟩
 ·cases lo with
  | none=>simp[sliceBounds,HT.sIx]
  | some i =>
    simp only[sliceBounds,HT.sIx,Option.getD_none,show(1:Int)>0 by decide,if_true]
    by_cases h:i<0
    · simp only[h,if_true]<;>omega
    · simp only[h,if_false]<;>omega
 ·cases hi with
  | none=>simp[sliceBounds,HT.sIx]
  | some i =>
    simp only[sliceBounds,HT.sIx,Option.getD_none,show(1:Int)>0 by decide,if_true]
    by_cases h:i<0
    · simp only[h,if_true]<;>omega
    · simp only[h,if_false]<;>omega
theorem slicePick_cut(its:List Value)(lo hi:Option Int):slicePick its.toArray lo hi none=((its.drop (HT.sIx its.length 0 lo)).take (HT.sIx its.length its.length hi-HT.sIx its.length 0 lo)).toArray:=by
 obtain⟨h1,h2,h3⟩:=slice_bounds lo hi its.toArray.size;unfold slicePick;rw[h1,h2,h3];simp only[sliceRange_one,pick_run,List.size_toArray]<;>rfl
def rSlL(K:PySem.W.Frag):V→Option Int→Option Int→Hp→VK→Prop:=fun x lo hi H Q=>∃a xs,x=.ref a∧SqL K H a xs∧∀p,H p=none→Q (.ref p) (upd H p (.lst (cutV xs lo hi)))
theorem sl_list:SlR X (rSlL X.K):=by
 intro pins s σ H x v vl vu lo hi sl Q I rx hs pl pu h;obtain⟨a,xs,rfl,hx,q⟩:=h;cases rx;obtain⟨its,r,ht,hz⟩:=I.list hx;have hlen:=r.length;refine⟨"list",_,slot_list_getitem.lookup,ht.isList.typeIs,?_⟩;refine wpAny_getItem_list_slice ht.isList hs pl pu .none (by simp) ?_ (by rw[List.size_toArray]<;>omega);rw[slicePick_cut,←hlen];refine⟨.ref s.heap.objs.size,_,I.laid (t':=s.toks) (o:=.lst (cutV xs lo hi)) (fun b ob q=>Heap.get?_push_of_some _ q) (Nat.le_refl _) ?_,rfl,q _ (I.hok.fresh (Nat.le_refl _))⟩;exact⟨Nat.le_trans (cutV_length xs lo hi) hz,_,0,(r.drop (HT.sIx xs.length 0 lo)).take (HT.sIx xs.length xs.length hi-HT.sIx xs.length 0 lo),Heap.get?_push_size _ rfl⟩
def flatV:V→Bool
 | .non=>true
 | .bl _=>true
 | .int _=>true
 | .str _=>true
 | _=>false
def eqV:V→V→Bool
 | .non,.non=>true
 | .bl a,.bl b=>a == b
 | .bl a,.int b=>(if a then 1 else 0) == b
 | .int a,.bl b=>a == (if b then 1 else 0)
 | .int a,.int b=>a == b
 | .str a,.str b=>a == b
 | _,_=>false
theorem eqAt_V{A:Around}{s:Shared}{y x:V}{u v:Value}(ry:RelV y u)(rx:RelV x v)(fy:flatV y=true)(fx:flatV x=true):SeqAt.EqAt A s u v (eqV y x):=by
 cases y with
 | non =>
   cases ry
   cases x with
   | non=>cases rx;exact SeqAt.EqAt.same _
   | bl b=>cases rx;exact SeqAt.EqAt.none_bool b
   | int b=>obtain⟨t,rfl⟩:=rx;exact SeqAt.EqAt.none_int b t
   | str b=>obtain⟨t,rfl⟩:=rx;exact SeqAt.EqAt.none_str b t
   | _=>exact absurd (show false=true from fx) Bool.false_ne_true
 | bl a =>
   cases ry
   cases x with
   | non=>cases rx;exact SeqAt.EqAt.bool_none a
   | bl b=>cases rx;exact SeqAt.EqAt.bool_bool a b
   | int b=>obtain⟨t,rfl⟩:=rx;exact SeqAt.EqAt.bool_int a b t
   | str b=>obtain⟨t,rfl⟩:=rx;exact SeqAt.EqAt.bool_str a b t
   | _=>exact absurd (show false=true from fx) Bool.false_ne_true
 | int a =>
   obtain⟨t',rfl⟩:=ry
   cases x with
   | non=>cases rx;exact SeqAt.EqAt.int_none a t'
   | bl b=>cases rx;exact SeqAt.EqAt.int_bool a t' b
   | int b=>obtain⟨t,rfl⟩:=rx;exact SeqAt.EqAt.int_int a t' b t
   | str b=>obtain⟨t,rfl⟩:=rx;exact SeqAt.EqAt.int_str a t' b t
   | _=>exact absurd (show false=true from fx) Bool.false_ne_true
 | str a =>
   obtain⟨t',rfl⟩:=ry
   cases x with
   | non=>cases rx;exact SeqAt.EqAt.str_none a t'
   | bl b=>cases rx;exact SeqAt.EqAt.str_bool a t' b
   | int b=>obtain⟨t,rfl⟩:=rx;exact SeqAt.EqAt.str_int a t' b t
   | str b=>obtain⟨t,rfl⟩:=rx;exact SeqAt.EqAt.str_str a t' b t
   | _=>exact absurd (show false=true from fx) Bool.false_ne_true
 | _=>exact absurd (show false=true from fy) Bool.false_ne_true
def eqU(x:V)(u:Value):Bool:=match u with
 | .none=>eqV .non x
 | .bool b=>eqV (.bl b) x
 | .int i _=>eqV (.int i) x
 | .str z _=>eqV (.str z) x
 | _=>false
theorem qfK{x y:V}{u:Value}(r:RelV y u)(f:flatV y=true):eqU x u=eqV y x:=by
 cases y with
 | non=>cases r;rfl
 | bl b=>cases r;rfl
 | int i=>obtain⟨t,rfl⟩:=r;rfl
 | str z=>obtain⟨t,rfl⟩:=r;rfl
 | _=>exact absurd (show false=true from f) Bool.false_ne_true
theorem qcP{x:V}:∀{xs:List V} {us:List Value},Vals xs us→xs.all flatV=true→us.any (eqU x)=xs.any fun y=>eqV y x
 | _,_,.nil,_=>rfl
 | y :: xs, u :: us, .cons r t, f => by
   rw[List.all_cons,Bool.and_eq_true]at f
   rw[List.any_cons,List.any_cons,qfK r f.1,qcP t f.2]
theorem qcf{A:Around}{s:Shared}{x:V}{v:Value}(rx:RelV x v)(fx:flatV x=true):∀{xs:List V} {us:List Value},Vals xs us→xs.all flatV=true→∀u∈us,SeqAt.EqAt A s u v (eqU x u)
 | _,_,.nil,_=>fun u hu=>by cases hu
 | y :: xs, u :: us, .cons r t, f => fun u' hu => by
   rw[List.all_cons,Bool.and_eq_true]at f
   rcases List.mem_cons.mp hu with rfl | hu
   · rw[qfK r f.1];exact eqAt_V r rx f.1 fx
   · exact qcf rx fx t f.2 u' hu
def inV(x:V)(xs:List V):Bool:=xs.any fun y=>eqV y x
def rIn(K:PySem.W.Frag)(neg:Bool):R2:=fun x y H Q=>∃p xs,y=.ref p∧(SqL K H p xs∨SqT K H p xs)∧flatV x=true∧xs.all flatV=true∧Q (.bl (if neg then !inV x xs else inV x xs)) H
theorem op_in_seq:OpR X (compareOp .In) (rIn X.K false):=by
 intro pins s σ H x y v u Q I rx ry h;obtain⟨p,xs,rfl,hq,fx,fs,q⟩:=h;cases ry;rcases hq with hq | hq
 ·obtain⟨its,r,pl,hz⟩:=I.list hq;refine SeqAt.in_listAt (eqU x) pl.isList (fun w hw=>qcf rx fx r fs w (by simpa using hw)) ⟨.bl _,H,I,rfl,?_⟩;rw[show its.toArray.any (eqU x)=its.any (eqU x) by simp,qcP r fs];exact q
 ·obtain⟨its,r,pl,hz⟩:=I.tuple hq;refine SeqAt.in_tupleAt (eqU x) pl (fun w hw=>qcf rx fx r fs w (by simpa using hw)) ⟨.bl _,H,I,rfl,?_⟩;rw[show its.toArray.any (eqU x)=its.any (eqU x) by simp,qcP r fs];exact q
theorem op_notIn_seq:OpR X (compareOp .NotIn) (rIn X.K true):=by
 intro pins s σ H x y v u Q I rx ry h;obtain⟨p,xs,rfl,hq,fx,fs,q⟩:=h;cases ry;rcases hq with hq | hq
 ·obtain⟨its,r,pl,hz⟩:=I.list hq;refine SeqAt.notIn_listAt (eqU x) pl.isList (fun w hw=>qcf rx fx r fs w (by simpa using hw)) ⟨.bl _,H,I,rfl,?_⟩;rw[show its.toArray.any (eqU x)=its.any (eqU x) by simp,qcP r fs];exact q
 ·obtain⟨its,r,pl,hz⟩:=I.tuple hq;refine SeqAt.notIn_tupleAt (eqU x) pl (fun w hw=>qcf rx fx r fs w (by simpa using hw)) ⟨.bl _,H,I,rfl,?_⟩;rw[show its.toArray.any (eqU x)=its.any (eqU x) by simp,qcP r fs];exact q
theorem call_len_seq:CallR X (.builtin "len") (fun xs H Q=>∃p ys,xs=[.ref p]∧(SqL X.K H p ys∨SqT X.K H p ys)∧Q (.int ys.length) H):=by
 intro pins s σ H xs us Q I r h;obtain⟨p,ys,rfl,hq,q⟩:=h;obtain⟨u,rfl,rx⟩:=qcW r;cases rx;have hn:=line63;rcases hq with hq | hq
 ·obtain⟨its,r',pl,hz⟩:=I.list hq;have hlen:=r'.length;exact Calls.call_len_list pl.isList (by simp only[List.size_toArray]<;>omega) ⟨.int ys.length,H,I.tok _,⟨s.toks+1,by rw[List.size_toArray,hlen]⟩,q⟩
 ·obtain⟨its,r',pl,hz⟩:=I.tuple hq;have hlen:=r'.length;exact len_tuple pl (by simp only[List.size_toArray]<;>omega) ⟨.int ys.length,H,I.tok _,⟨s.toks+1,by rw[List.size_toArray,hlen]⟩,q⟩
theorem call_len_str:CallR X (.builtin "len") (fun xs H Q=>∃z,xs=[.str z]∧z.length≤sizeLine∧Q (.int z.length) H):=by
 intro pins s σ H xs us Q I r h;obtain⟨z,rfl,hz,q⟩:=h;obtain⟨u,rfl,t,rfl⟩:=qcW r;have hn:=line63;exact len_str (by omega) ⟨.int z.length,H,I.tok _,⟨_,rfl⟩,q⟩
theorem CallR.or{f:Value}{r r':List V→Hp→VK→Prop}(h:CallR X f r)(h':CallR X f r'):CallR X f (fun xs H Q=>r xs H Q∨r' xs H Q):=by
 intro pins s σ H xs us Q I rs q;rcases q with q | q
 ·exact h pins s σ H xs us Q I rs q
 ·exact h' pins s σ H xs us Q I rs q
theorem call_list_of:CallR X (.type "list") (fun xs H Q=>∃p ys,xs=[.ref p]∧(SqL X.K H p ys∨SqT X.K H p ys)∧∀l,H l=none→Q (.ref l) (upd H l (.lst ys))):=by
 intro pins s σ H xs us Q I r h;obtain⟨p,ys,rfl,hq,q⟩:=h;obtain⟨u,rfl,rx⟩:=qcW r;cases rx;have fin:∀(its:List Value),Vals ys its→ys.length≤sizeLine→∀(h':Heap) (c':Nat),(∀b o',s.heap.get? b=some o'→h'.get? b=some o') →
   h'.get? s.heap.objs.size=some {cls:=.type "list",dict:=none,data:=.seq its.toArray c',slots:=#[]}→EP X pins σ Q (.ref s.heap.objs.size) {s with heap:=h'}:=fun its r' hz h' c' kp e =>
  ⟨.ref s.heap.objs.size,_,I.laid (t':=s.toks) kp (Nat.le_refl _) (show ObjOk X.prog X.w _ h' _ (.lst ys)from⟨hz,its,c',r',e⟩),rfl,q _ (I.hok.fresh (Nat.le_refl _))⟩
 rcases hq with hq | hq
 ·obtain⟨its,r',pl,hz⟩:=I.list hq;have hlen:=r'.length;obtain⟨o,ho,hc,n,hd⟩:=pl.isList;exact call_list_seq p (.inl rfl) ho hc hd (fun h' c' kp e=>fin its r' hz h' c' kp e) (by simp only[List.size_toArray]<;>omega)
 ·obtain⟨its,r',pl,hz⟩:=I.tuple hq;have hlen:=r'.length;obtain⟨o,ho,hc,n,hd⟩:=pl;exact call_list_seq p (.inr rfl) ho hc hd (fun h' c' kp e=>fin its r' hz h' c' kp e) (by simp only[List.size_toArray]<;>omega)
def tyV(K:PySem.W.Frag)(T:String)(x:V)(H:Hp):Prop:=match x with
 | .str _=>T = "str"
 | .int _=>T = "int"
 | .ref p=>(T = "list" ∧ ∃xs,SqL K H p xs)∨(T = "tuple" ∧ ∃o,K.lookup p=some o∧o.cls=.type "tuple" ∧ o.dict=none) ∨
   (T = "dict" ∧ ((∃kvs,H p=some (.dK kvs))∨∃kvs,H p=some (.dT kvs)))∨(T = "set" ∧ ∃S n,H p=some (.set S n))
 | _=>False
theorem tyV_is{pins:List (Addr×Obj)}{σ:St}{H:Hp}{s:Shared}{T:String}{x:V}{v:Value}(I:Inv X pins σ H s)(r:RelV x v)(ty:tyV X.K T x H) :
  s.TypeIs v T∧∀a,v=.ref a→∃ob,s.heap.get? a=some ob∧ob.dict=none:=by
 cases x with
 | str z =>
   obtain⟨t,rfl⟩:=r
   cases(show T = "str" from ty)
   exact⟨typeIs_str s z t,fun _ e=>nomatch e⟩
 | int i =>
   obtain⟨t,rfl⟩:=r
   cases(show T = "int" from ty)
   exact⟨typeIs_int s i t,fun _ e=>nomatch e⟩
 | ref p =>
   cases r
   rcases ty with⟨rfl,xs,hq⟩ | ⟨rfl,o,hk,hc,hd⟩ | ⟨rfl,hk⟩ | ⟨rfl,S,n,hk⟩
   · obtain⟨its,_,pl,_⟩:=I.list hq
     refine⟨pl.isList.typeIs,fun a e=>?_⟩
     cases e
     obtain⟨o,n,e,c,hd,_⟩:=pl
     exact⟨o,e,hd⟩
   · refine⟨⟨o,I.kIn p o hk,hc⟩,fun a e=>?_⟩
     cases e
     exact⟨o,I.kIn _ o hk,hd⟩
   · have z:∃o,s.heap.get? p=some o∧o.ExactDict:=by
       rcases hk with⟨kvs,hk⟩ | ⟨kvs,hk⟩
       · obtain⟨_,_,_,_,o,_,_,e,ex,_⟩:=I.hok p _ hk
         exact⟨o,e,ex⟩
       · obtain⟨_,_,_,_,o,_,_,e,ex,_⟩:=I.hok p _ hk
         exact⟨o,e,ex⟩
     obtain⟨o,e,ex⟩:=z
     refine⟨⟨o,e,ex.1⟩,fun a e2=>?_⟩
     cases e2
     exact⟨o,e,ex.2.1⟩
   · obtain⟨o,_,_,_,e,ex,_⟩:=I.hok p _ hk
     refine⟨⟨o,e,ex.1⟩,fun a e2=>?_⟩
     cases e2
     exact⟨o,e,ex.2.1⟩
 | _=>exact False.elim ty
def tBM(K:PySem.W.Frag)(T:String)(r:V→List V→Hp→VK→Prop)(to:TE)(t:TA):TE:=fun σ H Q=>to σ H fun x H1=>tyV K T x H1∧t σ H1 fun xs H2=>r x xs H2 Q
variable{o e:Expr}{es:List Expr}{to:TE}{t:TA}{name:Str}{apos cpos:Pos}{T id:String}{r:V→List V→Hp→VK→Prop}
theorem qeK(pa:PlainAttrs T)(slot:Slot T name id)(hty:typeOf (.builtin id)=pure (.type "method_descriptor"))(hm:MtR X id r)(ho:PE X o to)(ha:PA X (e::es) t)(hbase:attributeBase o name X.env (eval o X.env)=eval o X.env:=by rfl)(hfew:((backTo cpos (starEach (e::es) X.env)).all (fun x=>!x.1) && (backToKw cpos (keywordEach [] X.env)).all (fun x=>x.1.isSome)
   && decide ((e::es).length+([]:List Keyword).length+(if([]:List Keyword).isEmpty then 0 else 1)<30))=true:=by rfl)(hline:(apos.endLine == cpos.line)=true:=by rfl)(hs:starEach (e::es) X.env=(false,eval e X.env)::starEach es X.env:=by rfl)(hplain:(backTo cpos (starEach es X.env)).any (·.1)=false:=by rfl) :
  PE X (.Call (.Attribute o name apos) (e::es) [] cpos) (tBM X.K T r to t):=by
 intro pins s σ H Q I h;refine wpAny_Call_method_late hbase hfew hline rfl (thn (ho pins s σ H _ I h) fun v s1 ⟨x,H1,I1,r1,ty,q1⟩=>?_);obtain⟨h1,h2⟩:=tyV_is I1 r1 ty;refine⟨T,id,pa,slot,hty,h1,h2,?_⟩;have hA:=ha cpos pins s1 σ H1 _ I1 q1;rw[hs]at hA⊢;refine Calls.callWith_builtin (by show(false || (backTo cpos (starEach es X.env)).any (·.1))=false;rw[hplain]<;>rfl) (Calls.evalArgs_plain ?_);exact thn hA fun us s2 ⟨vs,H2,I2,r2,q2⟩=>hm pins s2 σ H2 x vs v us Q I2 r1 r2 q2
end
end L2
namespace L2
open PySem PySem.Spec PyProof.Rows
def MtM(X:Cx)(id:String)(r:V→List V→Hp→VK→Prop):Prop :=
 ∀(pins:List (Addr×Obj)) (s:Shared) (σ:St) (H:Hp) (x:V) (xs:List V) (v:Value) (us:List Value) (Q:VK),Inv X pins σ H s→RelV x v→Vals xs us→r x xs H Q →
  wpAny (model X.prog X.w) X.A (call (.builtin id) (v::us)) (EP X pins σ Q) X.xe s
theorem Vals.one:∀{x:V} {us:List Value},Vals [x] us→∃u,us=[u]∧RelV x u
 | _,_,.cons r .nil=>⟨_,rfl,r⟩
theorem Vals.two:∀{x y:V} {us:List Value},Vals [x,y] us→∃u v,us=[u,v]∧RelV x u∧RelV y v
 | _,_,_,.cons r (.cons q .nil)=>⟨_,_,rfl,r,q⟩
theorem Vals.zero:∀{us:List Value},Vals [] us→us=[]
 | _,.nil=>rfl
theorem Vals.dropLast{xs:List V}{us:List Value}(h:Vals xs us):Vals xs.dropLast us.dropLast:=by
 induction h with
 | nil=>exact .nil
 | cons r t ih =>
   cases t with
   | nil=>exact .nil
   | cons q t'=>exact .cons r ih
theorem Vals.eraseIdx:∀{xs:List V} {us:List Value} (i:Nat),Vals xs us→Vals (xs.eraseIdx i) (us.eraseIdx i)
 | _,_,_,.nil=>.nil
 | _,_,0,.cons _ t=>t
 | _,_,i+1,.cons r t=>.cons r (Vals.eraseIdx i t)
theorem Vals.rep{xs:List V}{us:List Value}(h:Vals xs us):∀k:Nat,Vals (List.replicate k xs).flatten (List.replicate k us).flatten
 | 0=>.nil
 | k + 1 => by
   rw[List.replicate_succ,List.replicate_succ,List.flatten_cons,List.flatten_cons]
   exact Vals.append h (Vals.rep h k)
theorem qdB(its:List Value):∀(k:Nat) (acc:List Value),
  List.foldl (fun x1 x2=>x1++x2) acc.toArray (List.replicate k its.toArray)=(acc++(List.replicate k its).flatten).toArray
 | 0,acc=>by simp
 | k + 1, acc => by
   have e:acc.toArray++its.toArray=(acc++its).toArray:=by simp
   have e2:(acc++its)++(List.replicate k its).flatten=acc++(List.replicate (k+1) its).flatten:=by
     rw[List.replicate_succ,List.flatten_cons,List.append_assoc]
   rw[←e2,←qdB its k (acc++its),←e,List.replicate_succ,List.foldl_cons]
section
variable{X:Cx}{pins:List (Addr×Obj)}{σ:St}{H:Hp}{s:Shared}{l b:Addr}{xs ys zs:List V}
theorem Inv.lset{its its':List Value}{n:Nat}{f:Array Value→Array Value}{t':Nat}(I:Inv X pins σ H s)(hH:H l=some (.lst xs))(e:s.heap.get? l=some {cls:=.type "list",data:=.seq its.toArray n})(hf:f its.toArray=its'.toArray)(hv:Vals ys its')(hz:ys.length≤sizeLine) :
  Inv X pins σ (upd H l (.lst ys)) {s with heap:=s.heap.update l (Obj.mapSeq f),toks:=t'}:=by
 have q:=PySem.IsL.update e f;rw[hf]at q;refine I.write (x:=l) (e:=l) (by rw[hH];exact trivial) (.inl rfl) (fun b' u hb hu=>(Heap.get?_update_other s.heap (Obj.mapSeq f) (Ne.symm hb)).trans hu) ⟨_,q⟩ ?_;exact⟨hz,its',_,hv,q⟩
theorem Inv.lnew{its:List Value}{t':Nat}(I:Inv X pins σ H s)(hv:Vals ys its)(hz:ys.length≤sizeLine) :
  Inv X pins σ (upd H s.heap.objs.size (.lst ys)) {s with heap:=s.heap.push {cls:=.type "list",data:=.seq its.toArray},toks:=t'} :=
 I.laid (fun _ _ q=>Heap.get?_push_of_some _ q) (Nat.le_refl _) ⟨hz,its,0,hv,Heap.get?_push_size _ rfl⟩
theorem Inv.fresh(I:Inv X pins σ H s):H s.heap.objs.size=none:=I.hok.fresh (Nat.le_refl _)
theorem Inv.lstM(I:Inv X pins σ H s)(hH:H l=some (.lst xs)):xs.length≤sizeLine∧∃(its:List Value) (n:Nat),Vals xs its∧xs.length=its.length∧s.heap.get? l=some {cls:=.type "list",data:=.seq its.toArray n}:=by
 obtain⟨z,its,n,r,e⟩:=I.hok l _ hH;exact⟨z,its,n,r,r.length,e⟩
theorem notLongL{n:Nat}(h:n≤sizeLine):Builtin.List.listTooLong n=false:=by
 unfold Builtin.List.listTooLong;exact decide_eq_false (by omega)
end
section
variable{X:Cx}
def rAppend:V→List V→Hp→VK→Prop:=fun x vs H Q=>∃l xs y,x=.ref l∧vs=[y]∧H l=some (.lst xs)∧xs.length<sizeLine∧Q .non (upd H l (.lst (xs++[y])))
theorem mt_append:MtM X "list.append" rAppend:=by
 intro pins s σ H x vs v us Q I rx rv h;obtain⟨l,xs,y,rfl,rfl,hH,hz,q⟩:=h;cases rx;obtain⟨u,rfl,ru⟩:=rv.one;obtain⟨z,its,n,r,hl,e⟩:=I.lstM hH;refine call_meets F.slot_list_append ⟨_,e,rfl⟩ F.entry_list_append (F.args_list_append_2 _ _) (PySem.list_append l its.toArray n u (by rw[List.size_toArray];omega)) ⟨e,?_⟩;refine⟨.non,_,I.lset (its':=its++[u]) hH e (by simp) (r.append (.cons ru .nil)) ?_,rfl,q⟩;rw[List.length_append,List.length_singleton];omega
def rCat:R2:=fun x y H Q=>∃l b xs zs,x=.ref l∧y=.ref b∧H l=some (.lst xs)∧H b=some (.lst zs)∧xs.length+zs.length≤sizeLine∧∀p,H p=none→Q (.ref p) (upd H p (.lst (xs++zs)))
theorem op_cat:OpR X (binaryOp .Add) rCat:=by
 intro pins s σ H x y v u Q I rx ry h;obtain⟨l,b,xs,zs,rfl,rfl,hH,hB,hz,q⟩:=h;cases rx;cases ry;obtain⟨z,its,n,r,hl,e⟩:=I.lstM hH;obtain⟨z2,its2,n2,r2,hl2,e2⟩:=I.lstM hB;refine PySem.P.add_list e e2 ?_ (by rw[List.size_toArray,List.size_toArray];omega);have ea:its.toArray++its2.toArray=(its++its2).toArray:=by simp
 rw[ea];exact⟨.ref _,_,I.lnew (t':=s.toks) (r.append r2) (by rw[List.length_append];omega),rfl,q _ I.fresh⟩
def rRep:R2:=fun x y H Q=>∃l k xs,x=.ref l∧y=.int k∧H l=some (.lst xs)∧-(2 ^ 63)≤k∧k<2 ^ 63∧xs.length*k.toNat≤sizeLine ∧
 ∀p,H p=none→Q (.ref p) (upd H p (.lst (List.replicate k.toNat xs).flatten))
theorem qeS{α:Type}(xs:List α)(k:Nat):(List.replicate k xs).flatten.length=k*xs.length:=by
 induction k with
 | zero=>simp
 | succ k ih=>rw[List.replicate_succ,List.flatten_cons,List.length_append,ih,Nat.succ_mul,Nat.add_comm]
theorem op_rep:OpR X (binaryOp .Mult) rRep:=by
 intro pins s σ H x y v u Q I rx ry h;obtain⟨l,k,xs,rfl,rfl,hH,h1,h2,hz,q⟩:=h;cases rx;obtain⟨t,rfl⟩:=ry;obtain⟨z,its,n,r,hl,e⟩:=I.lstM hH;have hlen:its.toArray.size*k.toNat≤sizeLine:=by rw[List.size_toArray,←hl];exact hz
 have hcap:¬its.toArray.size*k.toNat>(2 ^ 63-1) / 8:=by
  have:(sizeLine:Nat)≤(2 ^ 63-1) / 8:=by decide
  omega
 have hfit:¬(!Builtin.List.listFitsIndex k)=true:=by
  rw[fitsIndex_both h1 h2];exact Bool.false_ne_true
 have hlong:¬Builtin.List.listTooLong (its.toArray.size*k.toNat)=true:=by
  rw[notLongL hlen];exact Bool.false_ne_true
 have hnew:List.foldl (fun x1 x2=>x1++x2) #[] (List.replicate (if its.toArray.isEmpty=true then 0 else k.toNat) its.toArray)=(List.replicate k.toNat its).flatten.toArray:=by
  have f0:∀m:Nat,List.foldl (fun x1 x2=>x1++x2) #[] (List.replicate m its.toArray)=(List.replicate m its).flatten.toArray:=fun m=>by
   have:=qdB its m [];rw[List.nil_append]at this;exact this
  rw[f0];cases its with
  | nil=>simp
  | cons a r'=>rw[if_neg (by simp)]
 refine wpAny_binaryOp_repeat_ref (T := "list") (U := "int") (by decide) ⟨_,e,rfl⟩ (fun s'=>typeIs_int s' k t) noFill_list_mul F.fills_int_mul F.slot_int_rmul repeat_list F.slot_int_index.lookup
  (call_meets F.slot_int_rmul (typeIs_int s k t) F.entry_int_rmul (F.args_int_rmul_2 _ _) (int___rmul___int_list k t l its.toArray n)
   ⟨e,rfl,⟨_,e,rfl⟩,call_meets F.slot_list_mul ⟨_,e,rfl⟩ F.entry_list_mul (F.args_list_mul_2 _ _) (AutoListH.list___mul___list_int_3 l its.toArray n k t hfit hcap hlong) ⟨e,?_⟩⟩)
 rw[hnew];exact⟨.ref _,_,I.lnew (t':=s.toks) (r.rep k.toNat) (by rw[qeS,Nat.mul_comm];exact hz),rfl,q _ I.fresh⟩
end
end L2
namespace Att
open PySem PySem.W PySem.Calls PyProof.Rows
theorem ints_of_wellAll{P:Params}{h:Heap}:∀(ns:List Int) (vs:List Value),WellAll P h vs (ns.map WData.int)→IntsAre vs ns:=by
 intro ns
 induction ns with
 | nil =>
   intro vs w
   rw[List.map_nil]at w
   cases w
   exact .nil
 | cons n ns ih =>
   intro vs w
   rw[List.map_cons]at w
   cases w with
   | cons a b =>
     cases a
     exact .cons _ _ (ih _ b)
theorem script_of{l:OpenLaw}{n:Nat}(hn:l.most=some n){P:Params}{h:Heap}{args:List WData}{vals:List Value}(hpre:l.row.toRowW.claim.pre args=true)(hwl:WellAll P h vals args) :
  ∃a vs ns,vals=[Value.ref a]∧args=[WData.list (ns.map WData.int)]∧h.get? a=some {cls:=.type "list",data:=.seq vs.toArray}∧IntsAre vs ns∧ns.length≤n:=by
 have hsh:WShape.hasAll [] args [.list .int]=true:=(pre_splitW hpre).1;have hc:l.pre.holds [] {args:=args}=true:=(pre_splitW hpre).2;obtain⟨d,r,rfl,h1,h2⟩:=hasAllW_cons hsh;obtain rfl:=hasAllW_nil h2;obtain⟨xs,rfl,h3⟩:=hasW_list h1;obtain⟨ns,rfl⟩:=items_int h3;have hlen:ns.length≤n:=by
  unfold OpenLaw.pre at hc;have h4:(WTm.not (.lt (.lit (.int (n:Int))) (.len (.arg 0)))).holds [] {args:=[.list (ns.map .int)]}=true:=by
   have h4:=(holds_andW hc).1;rw[hn]at h4;exact h4
  have h5:=condW_of h4 (w_not (w_lt w_lit (w_len_list (w_arg rfl))));rw[List.length_map]at h5;refine Nat.le_of_not_lt fun q=>?_
  have q':(n:Int)<((ns.length:Nat):Int):=by omega
  first
   | (rw[decide_eq_true q']at h5;exact absurd h5 (by decide))
   | (simp at h5;omega)
 cases hwl with
 | cons w1 w2 =>
   cases w2
   cases w1 with
   | list ho hall=>exact⟨_,_,ns,rfl,rfl,ho,ints_of_wellAll ns _ hall,hlen⟩
theorem post_true(l:OpenLaw)(args:List WData):l.row.toRowW.claim.post args (.bool true) args=true :=
 postW_of (r:=l.row.toRowW) (X:=(true == true))
  (show WShape.has [] (.bool true) .bool=true by first | rfl | decide | simp[WShape.has,WShape.arms,WShape.armsAll])
  (show(WTm.eq .res (.lit (.bool true))).value [] {args:=args,res:=some (.bool true),after:=args}=some (.bool (true == true))from w_eq_bool (w_res rfl) w_lit) rfl
theorem attach_call{l:OpenLaw}{n:Nat}{q:Program}{loose:List Str}{XP:(Str→Option Value)→Heap→Prop}{YP:World→Heap→Prop}{d:DefRec}(hn:l.most=some n)(hdf:d.params.defaults=[])(call:∀(w:World) (s₀ s₁:Shared) (mg mb:Str→Option Value) (fa:Addr) (o:Obj) (pm cd doc:Value) (a:Addr) (vs:List Value) (ns:List Int),
   Ground q loose [] XP w s₀ mg mb s₁.heap→YP w s₁.heap →
   s₁.heap.get? fa=some o→o.data=.func (docDef d.name d.params d.body d.scope pm cd doc)→s₁.heap.CodeRec cd d.name→mg d.name=some (.ref fa) →
   s₁.heap.get? a=some {cls:=.type "list",data:=.seq vs.toArray}→IntsAre vs ns→ns.length≤n→s₁.gens=#[] →
   codeAny (model l.prog w) callerA (.call (.ref fa) ⟨[.ref a],[]⟩) (fun r s'=>r=.ok (.ret (.bool true))∧OldK s₁.heap s'.heap∧s'.os=s₁.os∧AllBare s'.gens) s₁) :
  WalkO q loose XP YP l.row.toRowW d [] (fun f vs=>PySem.call f vs):=by
 intro w s₀ s₁ mg mb G Y fa o pm cd doc dV kV ho hd hcd hD hmg hg args vals as hpre hlay hrd hwl hlo;obtain rfl:dV=.none:=Dflts.none hD hdf;obtain rfl:kV=.none:=Dflts.noKw hD;obtain⟨a,vs,ns,rfl,rfl,hobj,hints,hlen⟩:=script_of hn hpre hwl;refine enter_call (codeAny_mono (call w s₀ s₁ mg mb fa o pm cd doc a vs ns G Y ho (fd_plain hd) hcd hmg hobj hints hlen hg) fun r s' hq=>?_);obtain⟨rfl,h2,h3,h4⟩:=hq;exact⟨.inl ⟨.bool true,.bool true,[],rfl,fun _=>rfl,.bool true,post_true l _,fun _=>⟨List.Pairwise.nil,fun _ hm=>(nomatch hm)⟩⟩,h2,h3,h4⟩
end Att
namespace L2
open PySem PySem.Spec PyProof.Rows
theorem vals_ints:∀{vs:List Value} {ns:List Int},IntsAre vs ns→Vals (ns.map V.int) vs
 | _,_,.nil=>.nil
 | _,_,.cons n t h=>.cons ⟨t,rfl⟩ (vals_ints h)
def Only(H:Hp):Prop:=∀b,H b=none∨∃o xs,H b=some (.frz o (.lst xs))
theorem law_call{P:Program}{w:World}{K:PySem.W.Frag}{mg mb:Str→Option Value}{CX:CXT}{k:Nat}{fa a:Addr}{fd:FuncData}{x:Str}{sp:Sp}{s₁:Shared}{vs:List Value}{ns:List Int}(KX:K.In s₁.heap)(hns:s₁.heap.Ns mainGlobals mg)(hb:s₁.heap.Ns builtinsNs mb)(hbb:∀x:Str,x ≠ "__name__" → mb x=bootBuiltins x)(hlim:s₁.heap.NoLimit)(hg:s₁.gens=#[])(ha:s₁.heap.get? a=some {cls:=.type "list",data:=.seq vs.toArray})(hi:IntsAre vs ns)(hl:ns.length≤sizeLine)(hr:Room k callerA)(F:∀base:Heap,K.In base→base.Ns mainGlobals mg→FnOk P w K mg base CX k fa fd [x] sp)(hbind:∀(s:Shared) (u:Value),BindsTo s fd ⟨[u],[]⟩ [(x,u)])(hsp:∀H:Hp,Only H→SqL K H a (ns.map V.int)→sp [.ref a] H (fun v _=>v=.bl true) fun _ _ _=>False)(hCX:∀H e s',CX [] H s₁ (fun _ _ _=>False) e s'→False) :
  codeAny (model P w) callerA (.call (.ref fa) ⟨[.ref a],[]⟩) (fun r s'=>r=.ok (.ret (.bool true))∧OldK s₁.heap s'.heap∧s'.os=s₁.os∧AllBare s'.gens) s₁:=by
 have rv:=vals_ints hi;have lenV:=hi.length;have core:∀H:Hp,Only H→SqL K H a (ns.map V.int)→HOk P w H s₁.heap→(∀b,H b≠none→b=a)→(H a≠none→K.lookup a=none) →
   codeAny (model P w) callerA (.call (.ref fa) ⟨[.ref a],[]⟩) (fun r s'=>r=.ok (.ret (.bool true))∧OldK s₁.heap s'.heap∧s'.os=s₁.os∧AllBare s'.gens) s₁:=by
  intro H hO hS hok hA hK;have base_of:∀{b:Addr} {o:Obj},s₁.heap.get? b=some o→H b=none→(hidT s₁.heap H).get? b=some o:=fun e n=>hidT_get e n
  have noA:∀{b:Addr} {o:Obj} {es:Array DictEntry} {ep:Nat},s₁.heap.get? b=some o→o.data=.dict es ep→H b=none:=fun {b o es ep} e d=>by
   cases q:H b with
   | none=>rfl
   | some u =>
     have e':b=a:=hA b (by rw[q];simp)
     subst e'
     rw[ha]at e;cases e
     have d':Data.seq vs.toArray _=Data.dict es ep:=d
     cases d'
  have nsK:∀{b:Addr} {m:Str→Option Value},s₁.heap.Ns b m→(hidT s₁.heap H).Ns b m:=fun {b m} ⟨o,es,ep,e,d,r⟩=>⟨o,es,ep,base_of e (noA e d),d,r⟩
  have hKb:K.In (hidT s₁.heap H):=fun b o e=>base_of (KX b o e) (by
   cases q:H b with
   | none=>rfl
   | some u =>
     have e':b=a:=hA b (by rw[q];simp)
     subst e'
     rw[hK (by rw[q];simp)]at e;cases e)
  have hM:Mod K mg (hidT s₁.heap H):=⟨hKb,nsK hns,⟨mb,nsK hb,hbb⟩,let⟨mc,h1,h2⟩:=hlim;⟨mc,nsK h1,h2⟩⟩;have e0:Env0 P w K mg (hidT s₁.heap H) callerA [] s₁ H:=⟨rfl,hM,fun b o e=>of_hidT e,Nat.le_of_eq (hidT_size _ _),trivial,fun b hb=>absurd (show b∈([]:List Addr)from hb) (by simp),hok,.of_eq hg⟩;refine codeAny_mono ((F _ hKb (nsK hns)).run callerA [] s₁ H ⟨[.ref a],[]⟩ [.ref a] [.ref a] _ _ hr e0 (hbind s₁ (.ref a)) (.cons rfl .nil) (hsp H hO hS)) fun r s' h=>?_
  cases r with
  | error e=>exact(hCX H e s' h).elim
  | ok fl =>
    cases fl with
    | next=>exact False.elim h
    | brk=>exact False.elim h
    | cont=>exact False.elim h
    | ret u =>
      obtain⟨v,H',os,bare,un,hok',r',q⟩:=h
      have q':v=.bl true:=q
      subst q'
      obtain rfl:u=Value.bool true:=r'
      refine⟨rfl,OldK.of_keep fun b o e=>?_,os,bare⟩
      cases q:H b with
      | none=>exact un.keep b o e q (by intro z;exact absurd (show b∈([]:List Addr)from z) (by simp)) (by simp)
      | some u =>
        rcases hO b with z | ⟨ob,xs,z⟩
        · rw[q]at z;cases z
        · have z2:=un.frzs b ob _ z
          obtain⟨e1,_⟩:=hok b _ z
          obtain⟨e2,_⟩:=hok' b _ z2
          rw[e]at e1;cases e1
          exact e2
 cases hk:K.lookup a with
 | some o =>
   have e:=KX a o hk
   rw[ha]at e
   cases e
   refine core (fun _=>none) (fun _=>.inl rfl) (.inr ⟨_,vs.toArray,_,hk,rfl,rfl,rfl,by rw[List.size_toArray,lenV];exact hl,by simpa using rv⟩) (fun b u z=>by have z':(none:Option HO)=some u:=z;cases z') (fun b z=>absurd rfl z) fun z=>absurd rfl z
 | none =>
   refine core (fun b=>if b=a then some (.frz {cls:=.type "list",data:=.seq vs.toArray} (.lst (ns.map V.int)))else none) (fun b=>?_) (.inl (.inr ⟨{cls:=.type "list",data:=.seq vs.toArray},if_pos rfl⟩)) (fun b u z=>?_) (fun b z=>?_) fun _=>hk
   · by_cases hb:b=a
     · exact .inr ⟨_,_,if_pos hb⟩
     · exact .inl (if_neg hb)
   · by_cases hb:b=a
     · have z':=(if_pos hb).symm.trans z
       cases z'
       subst hb
       exact⟨ha,by rw[List.length_map];exact hl,vs,_,rv,ha⟩
     · have z':=(if_neg hb).symm.trans z
       cases z'
   · by_cases hb:b=a
     · exact hb
     · exact absurd (if_neg hb) z
end L2
namespace L2
open PySem PySem.Spec PyProof.Rows
theorem walk_of{l:PySem.W.OpenLaw}{n k:Nat}{q:Program}{loose:List Str}{XP:(Str→Option Value)→Heap→Prop}{YP:World→Heap→Prop}{d:DefRec}{K:Params→PySem.W.Frag}{CX:World→CXT}{sp:World→Sp}{x:Str}(hn:l.most=some n)(hn2:n≤sizeLine)(hdf:d.params.defaults=[])(hr:Room k callerA)(hY:∀(w:World) (h:Heap),YP w h→(K w.params).In h)(F:∀(w:World) (mg:Str→Option Value) (fa:Addr) (h:Heap),(K w.params).In h→h.Ns mainGlobals mg→mg d.name=some (.ref fa) →
   ∃fd:FuncData,(∀(s:Shared) (u:Value),BindsTo s fd ⟨[u],[]⟩ [(x,u)]) ∧
    ∀base:Heap,(K w.params).In base→base.Ns mainGlobals mg→FnOk l.prog w (K w.params) mg base (CX w) k fa fd [x] (sp w))(hsp:∀(w:World) (H:Hp) (a:Addr) (ns:List Int),ns.length≤n→Only H→SqL (K w.params) H a (ns.map V.int)→sp w [.ref a] H (fun v _=>v=.bl true) fun _ _ _=>False)(hCX:∀(w:World) (H:Hp) (s:Shared) (e:Value) (s':Shared),CX w [] H s (fun _ _ _=>False) e s'→False) :
  PySem.W.WalkO q loose XP YP l.row.toRowW d [] (fun f vs=>PySem.call f vs):=by
 refine Att.attach_call hn hdf fun w s₀ s₁ mg mb fa o pm cd doc a vs ns G Y ho hd hcd hmg hobj hints hlen hg=>?_
 have KX:=hY w _ Y;obtain⟨fd,hb,hF⟩:=F w mg fa _ KX G.T.g hmg;exact law_call KX G.T.g G.T.b G.T.builtins G.T.nolimit hg hobj hints (Nat.le_trans hlen hn2) hr hF hb (fun H hO hS=>hsp w H a ns hlen hO hS) fun H e s'=>hCX w H s₁ e s'
end L2
namespace L2
open PySem PySem.Spec PyProof.Rows
def qa9(s:Stmt):Arguments:=match s with
 | .FunctionDef _ a _ _ _ _ _ _ _ _=>a
 | _=>{posonlyargs:=[],args:=[],vararg:=none,kwonlyargs:=[],kw_defaults:=[],kwarg:=none,defaults:=[]}
def qa0(s:Stmt):List Stmt:=match s with
 | .FunctionDef _ _ b _ _ _ _ _ _ _=>b
 | _=>[]
def qan(s:Stmt):Scope:=match s with
 | .FunctionDef _ _ _ _ _ _ sc _ _ _=>sc
 | _=>{kind:=.function,names:=[],isGenerator:=false,isCoroutine:=false}
abbrev CX0:CXT:=fun _ _ _ _ _ _=>False
abbrev E0:XK:=fun _ _ _=>False
theorem qaG{X:Cx}:qdf CX0 X E0:=fun _ _ _ _ _ _ _ h=>h.elim
structure Fun(K:PySem.W.Frag)(x qual:Str)(st:Stmt)(f:Addr)(fd:FuncData):Prop where
 ex:∃(oc:Value) (od:Option Addr) (kV doc pm:Value) (an:Option Addr) (cdv ct:Value) (osl:Array (Option Value)),
  fd=PySem.W.fnOf x qual (qa9 st) (qa0 st) (qan st) .none kV doc pm an cdv ct∧K.lookup f=some ⟨oc,od,.func fd,osl⟩∧PySem.W.codeIn K cdv qual=true
 kp:PySem.W.keepIn K (.ref f)=true
section
variable{P:Program}{w:World}{K:PySem.W.Frag}{mg:Str→Option Value}{base:Heap}
theorem Fun.ok{x qual:Str}{st:Stmt}{f:Addr}{fd:FuncData}{N ps:List Str}{k:Nat}{sp:Sp}(F:Fun K x qual st f fd)(S:FnScope N ps (qan st))(len:∀vs H Q E,sp vs H Q E→vs.length=ps.length)(hbody:∀(cdv:Value) (A:Around) (outer:List Env) (s:Shared) (H:Hp) (vs:List V) (Q:VK) (E:XK),Room k (A.deeper (envOfC qual (qan st) s.heap.objs.size f cdv))→sp vs H Q E →
   ∃t,PSs (cxOf CX0 P w K mg base N qual (qan st) f cdv A outer s H E).nox (qa0 st) t∧t {nx:=fun _ H'=>Q .non H',rt:=Q} (qc2 N vs) H):FnOk P w K mg base CX0 (k+1) f fd ps sp:=by
 obtain⟨oc,od,kV,doc,pm,an,cdv,ct,osl,rfl,lk,hcd⟩:=F.ex;refine qf3 lk hcd S len fun A outer s H vs Q E hr hsp=>?_
 obtain⟨t,h,q⟩:=hbody cdv A outer s H vs Q E hr hsp;exact⟨t,h.nox,q⟩
theorem Fun.binds{x qual:Str}{st:Stmt}{f:Addr}{fd:FuncData}{ps:List Str}(F:Fun K x qual st f fd)(h:∀(kV doc pm:Value) (an:Option Addr) (cdv ct:Value) (us:List Value),us.length=ps.length→bindArgs (PySem.W.fnOf x qual (qa9 st) (qa0 st) (qan st) .none kV doc pm an cdv ct) ⟨us,[]⟩=pure (ps.zip us)):Binds K fd ps []:=by
 obtain⟨oc,od,kV,doc,pm,an,cdv,ct,osl,rfl,lk,hcd⟩:=F.ex;exact .all (h kV doc pm an cdv ct)
theorem fun_mk{x qual:Str}{st:Stmt}{f:Addr}{oc:Value}{od an:Option Addr}{osl:Array (Option Value)}{kV doc pm cdv ct:Value}(l:K.lookup f=some ⟨oc,od,.func (PySem.W.fnOf x qual (qa9 st) (qa0 st) (qan st) .none kV doc pm an cdv ct),osl⟩)(c:PySem.W.codeIn K cdv qual=true)(k:PySem.W.keepIn K (.ref f)=true):Fun K x qual st f (PySem.W.fnOf x qual (qa9 st) (qa0 st) (qan st) .none kV doc pm an cdv ct):=⟨⟨oc,od,kV,doc,pm,an,cdv,ct,osl,rfl,l,c⟩,k⟩
end
theorem qaA{n:Nat}(h:n≤1000):n<sizeLine:=Nat.lt_of_le_of_lt h (by decide)
section
variable{X:Cx}
theorem pv(i:Nat){x:Str}{pos:Pos}(hN:X.N[i]?=some x:=by rfl)(hv:Vis X.env.scope x:=by first | exact Or.inl rfl | exact Or.inr (Or.inl rfl) | exact Or.inr (Or.inr rfl))(hd:(x == ("__debug__" : Str))=false:=by decide)(hcd:(x == ("__classdict__" : Str))=false:=by decide):PE X (.Name x pos) (tVar i):=pe_var hN hv hd hcd
end
theorem iteF{A B:Prop}(h:B):if false=true then A else B:=by
 rw[if_neg Bool.false_ne_true];exact h
theorem iteT{A B:Prop}(h:A):if true=true then A else B:=by
 rw[if_pos rfl];exact h
theorem ite2{c A B:Prop}[Decidable c](h1:c→A)(h2:¬c→B):if c then A else B:=by
 by_cases h:c
 ·rw[if_pos h];exact h1 h
 ·rw[if_neg h];exact h2 h
def Same(H H':Hp):Prop:=∀b o,H b=some o→H' b=some o
theorem Same.refl(H:Hp):Same H H:=fun _ _ h=>h
theorem Same.trans{H H1 H2:Hp}(a:Same H H1)(b:Same H1 H2):Same H H2:=fun c o h=>b c o (a c o h)
theorem Same.free{H H':Hp}(e:Same H H'){l:Addr}(h:H' l=Option.none):H l=Option.none:=by
 cases q:H l with
 | none=>rfl
 | some o =>
   rw[e l o q]at h
   cases h
theorem Same.seq{K:PySem.W.Frag}{H H':Hp}{a:Addr}{xs:List V}(e:Same H H')(h:SqL K H a xs):SqL K H' a xs:=by
 rcases h with(h | ⟨o,h⟩) | h
 ·exact .inl (.inl (e _ _ h))
 ·exact .inl (.inr ⟨o,e _ _ h⟩)
 ·exact .inr h
end L2
set_option maxHeartbeats 4000000
namespace L2
open PySem PySem.Spec PyProof.Rows
theorem qbX{β:Type}{x:Str}{c:β}:∀{l:List (Str×β)},l.lookup x=some c→(x,c)∈l
 | [],q=>by cases q
 | (k, v) :: r, q => by
   rw[List.lookup_cons]at q
   cases e:x == k with
   | true =>
     rw[e]at q
     have:x=k:=by simpa using e
     cases q
     rw[this]
     exact List.mem_cons_self
   | false =>
     rw[e]at q
     exact List.mem_cons_of_mem _ (qbX q)
theorem qch{β:Type}{x:Str}{c:β}:∀{l:List (Str×β)},(x,c)∈l→∃c',l.lookup x=some c'
 | [],q=>nomatch q
 | (k, v) :: r, q => by
   rw[List.lookup_cons]
   cases e:x == k with
   | true=>exact⟨v,rfl⟩
   | false =>
     rcases List.mem_cons.mp q with z | z
     · have:x=k:=congrArg Prod.fst z
       rw[this]at e
       simp at e
     · exact qch z
theorem qcM{env:Env}{f:Str×NameKind→List (Str×Addr)→Sem (ForInStep (List (Str×Addr)))}:∀(l:List (Str×NameKind)) (acc:List (Str×Addr)),
  (∀x∈l,x.2=.free→∃c,env.cells.lookup x.1=some c∧∀r,f x r=pure (.yield ((x.1,c)::r)))→(∀x∈l,x.2≠.free→∀r,f x r=pure (.yield r)) →
  ∃cl,forIn l acc f=pure cl∧(∀p∈acc,p∈cl)∧(∀p∈cl,p∈acc∨env.cells.lookup p.1=some p.2)∧∀x,(x,NameKind.free)∈l→∃c,(x,c)∈cl
 | [],acc,_,_=>⟨acc,rfl,fun _ q=>q,fun _ q=>.inl q,fun _ q=>nomatch q⟩
 | x :: l, acc, h1, h2 => by
   by_cases hx:x.2=.free
   · obtain⟨c,e,hf⟩:=h1 x List.mem_cons_self hx
     obtain⟨cl,q1,q2,q3,q4⟩:=qcM l ((x.1,c)::acc) (fun y hy=>h1 y (List.mem_cons_of_mem _ hy)) fun y hy=>h2 y (List.mem_cons_of_mem _ hy)
     refine⟨cl,?_,fun p hp=>q2 p (List.mem_cons_of_mem _ hp),fun p hp=>?_,fun y hy=>?_⟩
     · rw[List.forIn_cons,hf,pure_bind]
       exact q1
     · rcases q3 p hp with z | z
       · rcases List.mem_cons.mp z with z | z
         · subst z;exact .inr e
         · exact .inl z
       · exact .inr z
     · rcases List.mem_cons.mp hy with z | z
       · exact⟨c,by have:=q2 _ (List.mem_cons_self (a:=(x.1,c)) (l:=acc));rw[←z]at this;exact this⟩
       · exact q4 y z
   · obtain⟨cl,q1,q2,q3,q4⟩:=qcM l acc (fun y hy=>h1 y (List.mem_cons_of_mem _ hy)) fun y hy=>h2 y (List.mem_cons_of_mem _ hy)
     refine⟨cl,?_,q2,q3,fun y hy=>?_⟩
     · rw[List.forIn_cons,h2 x List.mem_cons_self hx,pure_bind]
       exact q1
     · rcases List.mem_cons.mp hy with z | z
       · exact absurd (by rw[←z]) hx
       · exact q4 y z
theorem qe3{scope:Scope}{env:Env}(h:∀ x∈scope.names,x.2=.free→∃ c,env.cells.lookup x.1=some c) :
  ∃ cl,closureFor scope env=pure cl∧(∀ x c,cl.lookup x=some c→env.cells.lookup x=some c)∧∀ x,(x,NameKind.free)∈scope.names→∃ c,cl.lookup x=some c:=by
 have key:∀ f:Str × NameKind→List (Str × Addr)→Sem (ForInStep (List (Str × Addr))),(∀ x∈scope.names,x.2=.free→∃ c,env.cells.lookup x.1=some c∧∀ r,f x r=pure (.yield ((x.1,c) :: r)))→(∀ x∈scope.names,x.2≠.free→∀ r,f x r=pure (.yield r)) →
   closureFor scope env=forIn scope.names [] f →
   ∃ cl,closureFor scope env=pure cl∧(∀ x c,cl.lookup x=some c→env.cells.lookup x=some c)∧∀ x,(x,NameKind.free)∈scope.names→∃ c,cl.lookup x=some c:=by
  intro f h1 h2 e
  obtain ⟨cl,q1,_,q3,q4⟩:=qcM (env:=env) (f:=f) scope.names [] h1 h2
  refine ⟨cl,e.trans q1,fun x c z=>?_,fun x hx=>?_⟩
  ·rcases q3 (x,c) (qbX z) with k | k
   ·exact nomatch k
   ·exact k
  ·obtain ⟨c,z⟩:=q4 x hx
   exact qch z
 refine key (fun x r=>if x.2 == .free then (do let c ← cellOf env x.1; pure (.yield ((x.1,c) :: r))) else pure (.yield r)) (fun x hx hf=>?_) (fun x hx hf r=>?_) ?_
 ·obtain ⟨c,e⟩:=h x hx hf
  refine ⟨c,e,fun r=>?_⟩
  have hk:(x.2 == NameKind.free)=true:=by rw [hf]; rfl
  simp only [hk,if_true,cellOf,e,pure_bind]
 ·have hk:(x.2 == NameKind.free)=false:=by
   cases q:x.2 == NameKind.free with
   | false=>rfl
   | true=>exact absurd (by simpa using q) hf
  simp only [hk,Bool.false_eq_true,if_false]
 ·simp only [closureFor]
  rw [bind_pure]
def qa7(X:Cx)(N':List Str)(scope:Scope)(cl:List (Str×Addr))(C:Addr)(s₂:Shared)(H₂:Hp)(fp:List Addr):Cx :=
 {X with N:=N',s₀:=s₂,H₀:=H₂,env:=compEnvC scope cl C X.env,outer:=X.stack,ex:=fp,fn:=fun _=>false,pn:=[],xe:=fun _ _=>False}
def qbR(own:Nat)(ix:List Nat)(σ:St):St:=List.replicate own none++ix.map fun j=>(σ[j]?).join
def qb9(own:Nat)(ix:List Nat)(g:TG)(tt:TT)(te:TE)(J:It)(σ:St)(H:Hp)(Q:VK):Prop :=
 ∃W:Nat→Nat→List V→St→Hp→Prop,(∃m,W 0 m [] (qbR own ix σ) H) ∧
  ∀i m ys σ' H',W i m ys σ' H'→ys.length<sizeLine ∧
   ((J.stop i H'∧∀ D,H' D=none→Q (.ref D) (upd H' D (.lst ys))) ∨
    (J.go i H'∧∃N:List V→St→Hp→Prop,(∀zs σ2 H2,N zs σ2 H2→∃m',m'<m∧W (i+1) m' zs σ2 H2)∧∀x H2,J.yld i H' x H2→g x σ' H2 fun σ2 H3=>tt σ2 H3 fun b H4 =>
       if b=true then te σ2 H4 fun v H5=>N (ys++[v]) σ2 H5 else N ys σ2 H4))
def qfX(own:Nat)(ix:List Nat)(wi:TI)(g:TG)(tt:TT)(te:TE):TE:=fun σ H Q=>wi σ H fun J H1=>qb9 own ix g tt te J σ H1 Q
def qf1(ifs:List Expr)(env:Env):Sem Bool :=
 forIn ifs true fun c r=>if r=true then do let ok ← isTrue c env (eval c env); pure (ForInStep.yield ok) else pure (ForInStep.yield r)
def PTs(X:Cx)(ifs:List Expr)(t:TT):Prop :=
 ∀(pins:List (Addr×Obj)) (s:Shared) (σ:St) (H:Hp) (Q:Bool→Hp→Prop),Inv X pins σ H s→t σ H Q→wpAny (model X.prog X.w) X.A (qf1 ifs X.env) (TP X pins σ Q) X.xe s
def tYes:TT:=fun _ H Q=>Q true H
theorem qbr{X:Cx}:PTs X [] tYes:=fun _ _ _ H _ I h=>wpAny_tests_nil ⟨H,I,h⟩
theorem qcS{X:Cx}{c:Expr}{t:TT}(h:PT X c t):PTs X [c] t:=fun pins s σ H Q I q=>wpAny_tests_one (h pins s σ H Q I q)
theorem comp_turns{prog:Program}{w:World}{A:Around}{R:Result→Shared→Prop}{s:Shared}{elt tg iter:Expr}{ifs:List Expr}{scope:Scope}{pos:Pos}{it acc:Value}{env:Env}(J:Nat→Shared→Prop)(turn:∀ n s,J n s→wpAny (model prog w) A (pyNext it) (fun r s1=>match r with
   | none=>R (.ok .next) s1
   | some v=>wpAny (model prog w) A (letOwnedTupleGo tg it v) (fun _ s2=>wpAny (model prog w) A (assign tg env v) (fun _ s3=>wpAny (model prog w) A (qf1 ifs env) (fun ok s4 =>
     if ok=true then wpAny (model prog w) A (eval elt env) (fun x s5=>wpAny (model prog w) A (call (.builtin "list.append") [acc,x]) (fun _ s6=>∃ m,m < n∧J m s6) (fun _ _=>False) s5) (fun _ _=>False) s4
     else ∃ m,m < n∧J m s4) (fun _ _=>False) s3) (fun _ _=>False) s2) (fun _ _=>False) s1) (fun _ _=>False) s)(n:Nat)(h:J n s):codeAny (model prog w) A (.compLoop (.ListComp elt [⟨tg,iter,ifs,0⟩] scope pos) 0 it acc env) R s:=by
 refine codeAny_loop rfl J (fun n s hI=>?_) n h
 show wpAny (model prog w) A ((compTurn (.ListComp elt [⟨tg,iter,ifs,0⟩] scope pos) 0 it acc env).onRaise (fun z=>do noteFrame z env; theTreesLotGoes z)) _ _ s
 refine wpAny_noted ?_
 rw [compTurn_list]
 refine wpAny_bind (wpAny_standAt (wpAny_bind (wpAny_mono (turn n s hI) (fun r s1 q1=>?_) fun _ _ z=>z.elim)))
 cases r with
 | none=>exact wpAny_pure q1
 | some v =>
   refine wpAny_bind (wpAny_mono q1 (fun _ s2 q2=>?_) fun _ _ z=>z.elim)
   refine wpAny_bind (wpAny_mono q2 (fun _ s3 q3=>?_) fun _ _ z=>z.elim)
   refine wpAny_bind (wpAny_mono q3 (fun ok s4 q4=>?_) fun _ _ z=>z.elim)
   cases ok with
   | false=>exact wpAny_pure ⟨rfl,q4⟩
   | true =>
     refine wpAny_bind (wpAny_bind (wpAny_mono q4 (fun x s5 q5=>?_) fun _ _ z=>z.elim))
     exact wpAny_bind (wpAny_mono q5 (fun _ s6 q6=>wpAny_pure (wpAny_pure ⟨rfl,q6⟩)) fun _ _ z=>z.elim)
section
variable{fs ex:List Addr}{H H1:Hp}{h h1:Heap}{D:Addr}{o:HO}
theorem Un.track(u:Un fs ex H H1 h h1)(hD:h.objs.size≤D)(n0:H D=none):Un fs ex H (upd H1 D o) h h1 where
 keep:=u.keep
 slot:=u.slot
 free:=fun b ob q n hx=>by rw[qax (Nat.ne_of_lt (Nat.lt_of_lt_of_le (Heap.lt_size q) hD))];exact u.free b ob q n hx
 there:=u.there
 tups:=fun b xs q=>by rw[qax (qar q n0)];exact u.tups b xs q
 frzs:=fun b ob xs q=>by rw[qax (qar q n0)];exact u.frzs b ob xs q
 tbls:=fun b ps q=>by rw[qax (qar q n0)];exact u.tbls b ps q
theorem HOk.track{P:Program}{w:World}(x:HOk P w H h)(n0:H D=none)(new:ObjOk P w (upd H D o) h D o):HOk P w (upd H D o) h:=fun a u e=>by
 by_cases z:a=D
 ·subst z;rw[qad]at e;cases e;exact new
 ·rw[qax z]at e;exact(x a u e).stay (fun _ _ _ q=>q) (fun b q=>by rw[qax (qar q n0)];exact q) fun b xs q=>by rw[qax (qar q n0)];exact q
end
abbrev lobj(its:List Value)(n:Nat):Obj:={cls:=.type "list",data:=.seq its.toArray n}
theorem Inv.letgo{X:Cx}{pins:List (Addr×Obj)}{σ:St}{H:Hp}{s:Shared}{C:Addr}{h':Heap}(I:Inv X pins σ H s)(f:FpOk X pins H C)(hs:Heap.SameBut C s.heap h'):Inv X pins σ H {s with heap:=h'} :=
 I.turned (t':=s.toks) (it:=C) (fun b o hb e=>(hs.2 b hb).trans e) f.1 f.2.1 f.2.2.2.1 f.2.2.2.2.1 f.2.2.2.2.2
theorem qcQ{scope:Scope}{env:Env}{x:Str}{k:NameKind}(h:(relabel scope env).names.lookup x=some k):∃k0,(x,k0)∈scope.names∧(k0=k∨(k0=.free∧k=.cell)):=by
 have m:=qbX h;obtain⟨⟨n,k0⟩,h1,h2⟩:=List.mem_map.mp (show(x,k)∈scope.names.map _ from m);dsimp only at h2
 by_cases c:(k0 == NameKind.free && env.scope.kind == .function && env.kindOf n == some .cell)=true
 ·rw[if_pos c]at h2;obtain⟨rfl,rfl⟩:=Prod.mk.inj h2;refine⟨k0,h1,.inr ⟨?_,rfl⟩⟩;rw[Bool.and_eq_true,Bool.and_eq_true]at c;simpa using c.1.1
 ·rw[if_neg c]at h2;obtain⟨rfl,rfl⟩:=Prod.mk.inj h2;exact⟨k0,h1,.inl rfl⟩
theorem relabel_free{scope:Scope}{env:Env}{x:Str}(h:scope.names.lookup x=some .free):(relabel scope env).names.lookup x=some .free∨(relabel scope env).names.lookup x=some .cell:=by
 have all:∀(l:List (Str×NameKind)),l.lookup x=some .free →
   (l.map fun(n,k)=>if(k == NameKind.free && env.scope.kind == .function && env.kindOf n == some .cell)then(n,NameKind.cell)else(n,k)).lookup x=some .free ∨
   (l.map fun(n,k)=>if(k == NameKind.free && env.scope.kind == .function && env.kindOf n == some .cell)then(n,NameKind.cell)else(n,k)).lookup x=some .cell:=by
  intro l
  induction l with
  | nil=>intro q;cases q
  | cons y r ih =>
    obtain⟨n,k⟩:=y
    intro q
    rw[List.lookup_cons]at q
    rw[List.map_cons]
    cases hx:x == n with
    | true =>
      rw[hx]at q
      cases q
      dsimp only
      split
      · right;rw[List.lookup_cons,hx]
      · left;rw[List.lookup_cons,hx]
    | false =>
      rw[hx]at q
      dsimp only
      split
      · rw[List.lookup_cons,hx];exact ih q
      · rw[List.lookup_cons,hx];exact ih q
 exact all scope.names h
section
variable{X:Cx}{elt tg iter:Expr}{ifs:List Expr}{scope:Scope}{pos:Pos}{g:TG}{tt:TT}{te:TE}{N' own frees:List Str}{ix:List Nat}{pins:List (Addr×Obj)}{σ:St}{H2:Hp}{s2:Shared}{it:Addr}{fp:List Addr}{tn:Nat→Heap→Prop}{J:It}{cl:List (Str×Addr)}{E:Value→Shared→Prop}
structure CompScope(X:Cx)(scope:Scope)(own frees:List Str)(ix:List Nat):Prop where
 kind:scope.kind=.function
 nocell:∀y∈scope.names,y.2≠.cell
 loc:∀y∈scope.names,y.2=.local→scope.names.lookup y.1=some .local
 fr:∀y∈scope.names,y.2=.free→X.env.scope.names.lookup y.1=some .cell∨X.env.scope.names.lookup y.1=some .free
 ixs:ix.map (fun j=>X.N[j]?)=frees.map some
 isf:∀x∈frees,scope.names.lookup x=some .free
theorem comp_ok(S:CompScope X scope own frees ix)(I:Inv X pins σ H2 s2)(hcl1:∀x c,cl.lookup x=some c→X.env.cells.lookup x=some c)(hcl2:∀x,(x,NameKind.free)∈scope.names→∃c,cl.lookup x=some c)(T:Turn X.prog X.w X.K tg J fp it tn)(st:tn 0 s2.heap)(f2:∀b∈fp,FpOk X pins H2 b){C:Addr}(hC:s2.heap.objs.size≤C):(qa7 X N' scope cl C s2 H2 fp).Ok:=by
 have lt:∀b∈fp,b<s2.heap.objs.size:=fun b hb=>by
  obtain⟨o,e,_⟩:=T.obj 0 _ st b hb;exact Heap.lt_size e
 refine⟨I.ok.mod,S.kind,I.ok.glob,I.ok.blt,hC,fun x y c h1 h2=>I.ok.inj x y c (hcl1 x c h1) (hcl1 y c h2),fun x hx=>?_,(fun x c q=>nomatch q),I.ok.hd,I.ok.frames,.inl rfl,fun b hb=>?_,I.bs,Nat.le_trans I.ok.bsz I.sz,fun b o e hb=>?_,fun b hb z=>?_,I.stack,I.stkFree⟩
 ·have hx':(relabel scope X.env).names.lookup x=some .cell∨(relabel scope X.env).names.lookup x=some .free:=hx;have fin:(x,NameKind.free)∈scope.names:=by
   rcases hx' with q | q
   ·obtain⟨k0,m,z | ⟨z,_⟩⟩:=qcQ q
    ·exact absurd z (S.nocell _ m)
    ·rw[←z];exact m
   ·obtain⟨k0,m,z | ⟨_,z⟩⟩:=qcQ q
    ·rw[←z];exact m
    ·cases z
  exact hcl2 x fin
 ·refine⟨Nat.ne_of_lt (Nat.lt_of_lt_of_le (lt b hb) hC),fun x c e=>(f2 b hb).2.2.2.2.1 x c (hcl1 x c e)⟩
 ·have q:=(f2 b hb).2.2.2.1;rcases q with q | q
  ·exact I.ok.noex b o e q
  ·exact absurd (Nat.lt_of_lt_of_le (Nat.lt_of_lt_of_le (Heap.lt_size e) I.ok.bsz) q) (Nat.lt_irrefl _)
 ·rcases List.mem_cons.mp (I.stkSub b z)with q | q
  ·exact(f2 b hb).2.1 q
  ·exact(f2 b hb).2.2.1 q
theorem qdg(hc:X.calm=true)(S:CompScope X scope own frees ix)(I:Inv X pins σ H2 s2)(hcl1:∀x c,cl.lookup x=some c→X.env.cells.lookup x=some c)(hcl2:∀x,(x,NameKind.free)∈scope.names→∃c,cl.lookup x=some c)(T:Turn X.prog X.w X.K tg J fp it tn)(st:tn 0 s2.heap)(f2:∀b∈fp,FpOk X pins H2 b)(hg:∀C,PG (qa7 X (own++frees) scope cl C s2 H2 fp) tg g)(ht:∀C,PTs (qa7 X (own++frees) scope cl C s2 H2 fp) ifs tt)(he:∀C,PE (qa7 X (own++frees) scope cl C s2 H2 fp) elt te){Q:VK}{W:Nat→Nat→List V→St→Hp→Prop}(w0:∃m,W 0 m [] (qbR own.length ix σ) H2)(turn:∀i m ys σ' H',W i m ys σ' H'→ys.length<sizeLine ∧
   ((J.stop i H'∧∀ D,H' D=none→Q (.ref D) (upd H' D (.lst ys))) ∨
    (J.go i H'∧∃N:List V→St→Hp→Prop,(∀zs σ2 H2,N zs σ2 H2→∃m',m'<m∧W (i+1) m' zs σ2 H2)∧∀x H2,J.yld i H' x H2→g x σ' H2 fun σ2 H3=>tt σ2 H3 fun b H4 =>
       if b=true then te σ2 H4 fun v H5=>N (ys++[v]) σ2 H5 else N ys σ2 H4))){RR:Value→Addr→Result→Shared→Prop}(hRR:∀D C H' s' m,Inv X pins σ H' s'→FpOk X pins H' C→s'.heap.Ns C m→Q (.ref D) H'→RR (.ref D) C (.ok .next) s') :
  wpAny (model X.prog X.w) X.A (newList []) (fun acc s3=>wpAny (model X.prog X.w) X.A (newFunctionEnv scope X.env.globals cl [] X.env.qual none .none (some X.env)) (fun cenv s4 =>
   codeAny (model X.prog X.w) X.A (.compStart (.ListComp elt [⟨tg,iter,ifs,0⟩] scope pos) 0 (.ref it) acc {cenv with scope:=relabel scope X.env}) (RR acc cenv.locals) s4) E s3) E s2:=by
 obtain⟨m0,w0⟩:=w0;refine wpAny_newObj_type (wpAny_newFunctionEnv S.nocell (by intro y hy;simp at hy) (fun h1 ns1 sb1=>?_) S.kind);dsimp only at ns1 sb1⊢;generalize eH:s2.heap.push {cls:=.type "list",dict:=none,data:=.seq ([]:List Value).toArray}=G at ns1 sb1⊢;have szG:G.objs.size=s2.heap.objs.size+1:=by rw[←eH,Heap.size_push]
 have hC:s2.heap.objs.size≤G.objs.size:=by rw[szG];exact Nat.le_succ _
 have hDC:s2.heap.objs.size≠G.objs.size:=by rw[szG];exact Nat.ne_of_lt (Nat.lt_succ_self _)
 have below:∀b,b<s2.heap.objs.size→b≠G.objs.size∧b≠s2.heap.objs.size:=fun b hb=>⟨Nat.ne_of_lt (Nat.lt_of_lt_of_le hb hC),Nat.ne_of_lt hb⟩
 have old:∀b o,s2.heap.get? b=some o→h1.get? b=some o:=fun b o e=>sb1.extBut b o (below b (Heap.lt_size e)).1 (Heap.get?_push_of_some _ (eH ▸ Heap.get?_push_of_some _ e))
 have accD:h1.get? s2.heap.objs.size=some (lobj [] 0):=sb1.extBut _ _ hDC (Heap.get?_push_of_some _ (eH ▸ Heap.get?_push_size _ rfl));have ltf:∀b∈fp,b<s2.heap.objs.size:=fun b hb=>by
  obtain⟨o,e,_⟩:=T.obj 0 _ st b hb;exact Heap.lt_size e
 have okX:(qa7 X (own++frees) scope cl G.objs.size s2 H2 fp).Ok:=comp_ok S I hcl1 hcl2 T st f2 hC;have ltc:∀x c,cl.lookup x=some c→c<s2.heap.objs.size:=fun x c e=>by
  obtain⟨v,q⟩:=I.cell x c (hcl1 x c e);exact q.lt
 have notfs:∀b,s2.heap.objs.size≤b→b∉frs X.stack:=fun b hb z=>by
  rcases List.mem_cons.mp (I.stkSub b z)with q | q
  ·exact absurd (Nat.lt_of_lt_of_le I.lt (by rw[←q];exact hb)) (Nat.lt_irrefl _)
  ·exact I.nofs hb q
 have lenix:ix.length=frees.length:=by have:=congrArg List.length S.ixs;simpa using this
 have I0:Inv (qa7 X (own++frees) scope cl G.objs.size s2 H2 fp) [(s2.heap.objs.size,lobj [] 0)] (qbR own.length ix σ) H2 {s2 with heap:=h1,toks:=s2.toks+([]:List (Str×Value)).length}:=by
  obtain⟨m2,n2,l2⟩:=id I.loc;refine⟨okX,rfl,I.bare,Un.kept old,⟨_,ns1,fun i x v e1 e2 e3=>?_⟩,fun x c e=>?_,I.hok.fresh hC,fun x c e=>I.freeC x c (hcl1 x c e),fun p hp=>?_,I.hok.kept old,?_⟩
  ·have e1:(own++frees)[i]?=some x:=e1
   by_cases hi:i<own.length
   ·unfold qbR at e2;rw[List.getElem?_append_left (by simpa using hi),List.getElem?_replicate]at e2
    split at e2<;>cases e2
   ·have hi':own.length≤i:=Nat.le_of_not_lt hi;unfold qbR at e2;rw[List.getElem?_append_right (by simpa using hi'),List.length_replicate,List.getElem?_map]at e2;rw[List.getElem?_append_right hi']at e1;cases ej:ix[i-own.length]? with
    | none=>rw[ej]at e2;cases e2
    | some j =>
      rw[ej]at e2
      have e2':(σ[j]?).join=some v:=Option.some.inj e2
      have ev:σ[j]?=some (some v):=by
        cases q:σ[j]? with
        | none=>rw[q]at e2';cases e2'
        | some y=>rw[q]at e2';exact congrArg some e2'
      have eN:X.N[j]?=some x:=by
        have q:=congrArg (fun l=>l[i-own.length]?) S.ixs
        simp only[List.getElem?_map,ej,e1,Option.map_some]at q
        exact Option.some.inj q
      have xf:x∈frees:=List.mem_of_getElem? e1
      have xm:(x,NameKind.free)∈scope.names:=qbX (S.isf x xf)
      have vis:Vis X.env.scope x:=by
        rcases S.fr _ xm rfl with q | q
        · exact .inr (.inl q)
        · exact .inr (.inr q)
      obtain⟨u,r,lk⟩:=l2 j x v eN ev vis
      refine⟨u,r,?_⟩
      rcases lk with⟨k,_⟩ | ⟨_,c,ec,z⟩
      · have k':X.env.scope.names.lookup x=some .local:=k
        rcases S.fr _ xm rfl with q | q
        · rw[k']at q;cases q
        · rw[k']at q;cases q
      · obtain⟨c',ec'⟩:=hcl2 x xm
        have:c=c':=Option.some.inj (ec.symm.trans (hcl1 x c' ec'))
        subst this
        refine .inr ⟨?_,c,ec',z.keeps old⟩
        rcases relabel_free (env:=X.env) (S.isf x xf)with q | q
        · exact .inr q
        · exact .inl q
  ·obtain⟨v,z⟩:=I.cell x c (hcl1 x c e);exact⟨v,z.keeps old⟩
  ·have hp':p=(s2.heap.objs.size,lobj [] 0):=by simpa[qa7]using hp
   subst hp';exact⟨accD,I.hok.fresh (Nat.le_refl _),hDC,notfs _ (Nat.le_refl _),fun v q=>nomatch q⟩
  ·show(qbR own.length ix σ).length=(own++frees).length;unfold qbR;rw[List.length_append,List.length_replicate,List.length_map,List.length_append,lenix]
 have st1:tn 0 h1:=T.keep 0 _ _ st fun b hb o e=>old b o e
 have stat:∀{H':Hp} {pl:List (Addr×Obj)},(∀b∈fp,H' b=none)→(∀p∈pl,s2.heap.objs.size≤p.1)→∀b∈fp,FpOk (qa7 X (own++frees) scope cl G.objs.size s2 H2 fp) pl H' b:=fun {H' pl} hn hp b hb =>
  ⟨hn b hb,(below b (ltf b hb)).1,fun z=>okX.exfs b hb z,.inl hb,fun x c e=>(f2 b hb).2.2.2.2.1 x c (hcl1 x c e),fun p q z=>by
   have q':p∈pl:=by simpa[qa7]using q
   have:=hp p q';rw[z]at this;exact absurd (Nat.lt_of_lt_of_le (ltf b hb) this) (Nat.lt_irrefl _)⟩
 have loop:∀s3:Shared,s3={s2 with heap:=h1,toks:=s2.toks+([]:List (Str×Value)).length} →
   codeAny (model X.prog X.w) X.A (.compLoop (.ListComp elt [⟨tg,iter,ifs,0⟩] scope pos) 0 (.ref it) (.ref s2.heap.objs.size) (compEnvC scope cl G.objs.size X.env)) (RR (.ref s2.heap.objs.size) G.objs.size) s3:=by
  rintro s3 rfl;refine comp_turns (fun n s'=>∃i ys σ' H' its k,Inv (qa7 X (own++frees) scope cl G.objs.size s2 H2 fp) [(s2.heap.objs.size,lobj its k)] σ' H' s'∧tn i s'.heap∧(∀b∈fp,H' b=none)∧Vals ys its∧W i n ys σ' H') ?_ m0
   ⟨0,[],_,H2,[],0,I0,st1,fun b hb=>(f2 b hb).1,.nil,w0⟩
  rintro n s4 ⟨i,ys,σ4,H4,its,k,I4,st4,fr4,rv,w4⟩;obtain⟨hz,alt⟩:=turn i n ys σ4 H4 w4;have big:∀p∈[(s2.heap.objs.size,lobj its k)],s2.heap.objs.size≤p.1:=fun p hp=>by
   have:p=(s2.heap.objs.size,lobj its k):=by simpa using hp
   rw[this];exact Nat.le_refl _
  rcases alt with⟨stop,fin⟩ | ⟨go,NN,hNN,step⟩
  ·refine wpAny_mono (T.done (qa7 X (own++frees) scope cl G.objs.size s2 H2 fp) rfl rfl rfl hc i _ s4 σ4 H4 (fun _ _=>False) I4 (stat fr4 big) st4 stop) (fun r s5 q5=>?_) fun _ _ z=>z
   obtain⟨hr,I5⟩:=q5;subst hr;have pD:=I5.pin (s2.heap.objs.size,lobj its k) (List.mem_append_right _ List.mem_cons_self);obtain⟨m5,n5,_⟩:=id I5.loc;have okD:HOk X.prog X.w (upd H4 s2.heap.objs.size (.lst ys)) s5.heap:=HOk.track I5.hok pD.2.1 ⟨Nat.le_of_lt hz,its,k,rv,pD.1⟩;have un:Un (frs X.stack) fp H2 (upd H4 s2.heap.objs.size (.lst ys)) s2.heap s5.heap:=Un.track I5.base (Nat.le_refl _) (I.hok.fresh (Nat.le_refl _));have I6:Inv X pins σ (upd H4 s2.heap.objs.size (.lst ys)) s5:=I.call' (ch:=fp) I5.os un okD I5.bare fun b hb=>⟨(f2 b hb).2.2.2.1,(f2 b hb).2.1,(f2 b hb).2.2.2.2.1,(f2 b hb).2.2.2.2.2⟩
   refine hRR _ _ _ _ m5 I6 ?_ n5 (fin _ pD.2.1);refine⟨?_,?_,?_,.inr (Nat.le_trans I.sz hC),fun x c e z=>?_,fun p hp z=>?_⟩
   ·rw[qax (Ne.symm hDC)];exact I5.free
   ·exact Nat.ne_of_gt (Nat.lt_of_lt_of_le I.lt hC)
   ·exact I.nofs hC
   ·obtain⟨v,q⟩:=I.cell x c e;exact absurd (Nat.lt_of_lt_of_le q.lt (by rw[z];exact hC)) (Nat.lt_irrefl _)
   ·exact absurd (Nat.lt_of_lt_of_le (Heap.lt_size (I.pin p hp).1) (by rw[z];exact hC)) (Nat.lt_irrefl _)
  ·refine wpAny_mono (T.item (qa7 X (own++frees) scope cl G.objs.size s2 H2 fp) rfl rfl rfl hc i _ s4 σ4 H4 (fun _ _=>False) I4 (stat fr4 big) st4 go) (fun r s5 q5=>?_) fun _ _ z=>z
   obtain⟨u,hr,q5⟩:=q5;subst hr;refine wpAny_mono q5 (fun _ s6 q6=>?_) fun _ _ z=>z
   obtain⟨x,H6,I6,r6,y6,st6,fr6⟩:=q6;have I6':=I6.pinned (stat fr6 big) (T.obj _ _ st6);refine wpAny_mono (hg _ _ s6 σ4 H6 x u _ I6' r6 (step x H6 y6)) (fun _ s7 q7=>?_) fun _ _ z=>z
   obtain⟨σ7,H7,I7,q7⟩:=q7;refine wpAny_mono (ht _ _ s7 σ7 H7 _ I7 q7) (fun ok s8 q8=>?_) fun _ _ z=>z
   obtain⟨H8,I8,q8⟩:=q8;cases ok with
   | false =>
     rw[if_neg Bool.false_ne_true]at q8⊢
     obtain⟨m',hm,w8⟩:=hNN _ _ _ q8
     refine⟨m',hm,i+1,ys,σ7,H8,its,k,I8.unpinned,T.keep _ _ _ st6 fun b hb o e=>(I8.pin (b,o) (List.mem_append_right _ (List.mem_append_right _ (qbw hb e)))).1,fun b hb=>?_,rv,w8⟩
     obtain⟨o,e,d⟩:=T.obj _ _ st6 b hb
     exact(I8.pin (b,o) (List.mem_append_right _ (List.mem_append_right _ (qbw hb e)))).2.1
   | true =>
     rw[if_pos rfl]at q8⊢
     refine wpAny_mono (he _ _ s8 σ7 H8 _ I8 q8) (fun v s9 q9=>?_) fun _ _ z=>z
     obtain⟨y,H9,I9,ry,q9⟩:=q9
     obtain⟨m',hm,w9⟩:=hNN _ _ _ q9
     have pD:=I9.pin (s2.heap.objs.size,lobj its k) (List.mem_append_right _ (List.mem_append_left _ List.mem_cons_self))
     have lenv:=rv.length
     refine wpAny_list_append_plain (items:=its.toArray) ⟨k,pD.1⟩ (fun h' hp hs=>?_) (by rw[List.size_toArray];omega)
     obtain⟨k',e'⟩:=hp
     have ne:∀b∈fp,b≠s2.heap.objs.size:=fun b hb=>(below b (ltf b hb)).2
     have I10:Inv (qa7 X (own++frees) scope cl G.objs.size s2 H2 fp) (qcD fp s6.heap) σ7 H9 s9:=I9.pins_of fun p hp=>I9.pin p (List.mem_append_right _ (List.mem_append_right _ hp))
     have I11:Inv (qa7 X (own++frees) scope cl G.objs.size s2 H2 fp) (qcD fp s6.heap) σ7 H9 {s9 with heap:=h',toks:=s9.toks} :=
       I10.turned (it:=s2.heap.objs.size) (fun b o hb e=>(hs.2 b hb).trans e) pD.2.1 pD.2.2.1 (.inr (Nat.le_refl _)) (fun x c e z=>absurd (ltc x c e) (by rw[z];exact Nat.lt_irrefl _)) fun p hp z=>by
         have hp':p∈qcD fp s6.heap:=by simpa[qa7]using hp
         exact ne p.1 (qdS hp').1 z
     have e'':h'.get? s2.heap.objs.size=some (lobj (its++[v]) k'):=by rw[e'];simp
     have I12:Inv (qa7 X (own++frees) scope cl G.objs.size s2 H2 fp) [(s2.heap.objs.size,lobj (its++[v]) k')] σ7 H9 {s9 with heap:=h',toks:=s9.toks}:=I11.pins_of fun p hp=>by
       have:p=(s2.heap.objs.size,lobj (its++[v]) k'):=by simpa using hp
       subst this
       exact⟨e'',pD.2.1,pD.2.2.1,pD.2.2.2.1,fun v q=>nomatch q⟩
     refine⟨m',hm,i+1,ys++[y],σ7,H9,its++[v],k',I12,T.keep _ _ _ st6 fun b hb o e=>(hs.2 b (ne b hb)).trans (I9.pin (b,o) (List.mem_append_right _ (List.mem_append_right _ (qbw hb e)))).1,fun b hb=>?_,rv.append (.cons ry .nil),w9⟩
     obtain⟨o,e,d⟩:=T.obj _ _ st6 b hb
     exact(I9.pin (b,o) (List.mem_append_right _ (List.mem_append_right _ (qbw hb e)))).2.1
 exact codeAny_compStart_list (loop _ rfl) (T.self _ 0 _ _ _ st1 (loop _ rfl))
variable{wi:TI}
theorem qbc(hc:X.calm=true)(S:CompScope X scope own frees ix)(hi:PI X tg iter wi)(hg:∀cl C s2 H2 fp,PG (qa7 X (own++frees) scope cl C s2 H2 fp) tg g)(ht:∀cl C s2 H2 fp,PTs (qa7 X (own++frees) scope cl C s2 H2 fp) ifs tt)(he:∀cl C s2 H2 fp,PE (qa7 X (own++frees) scope cl C s2 H2 fp) elt te)(hs:∀x,foldedSetIterable iter X.env x=pure x:=by intro _;rfl) :
  PE X (.ListComp elt [⟨tg,iter,ifs,0⟩] scope pos) (qfX own.length ix wi g tt te):=by
 intro pins s σ H Q I h;obtain⟨cl,hcl,hcl1,hcl2⟩:=qe3 (scope:=scope) (env:=X.env) fun x hx hf=>I.ok.has x.1 (S.fr x hx hf)
 rw[eval_ListComp];refine wpAny_comprehension_free (use:=none) rfl hs hcl S.kind S.loc ?_;refine thn (hi pins s σ H _ I h) fun v s1 h1=>thn h1 fun itv s2 h2=>?_
 obtain⟨it,fp,tn,J,H2,e,I2,T,st2,f2,W,w0,turn⟩:=h2;subst e;refine qdg (Q:=Q) (RR:=fun acc C=>compPost (model X.prog X.w) X.A X.xe none (EP X pins σ Q) acc C) hc S I2 hcl1 hcl2 T st2 f2 (fun C=>hg cl C s2 H2 fp) (fun C=>ht cl C s2 H2 fp) (fun C=>he cl C s2 H2 fp) w0 turn ?_;intro D C H' s' m I' fC nC q;exact⟨m,nC,fun h' hs'=>⟨.ref D,H',I'.letgo fC hs',rfl,q⟩⟩
theorem qd3{i:Nat}{y:Str}{py spos:Pos}(hc:X.calm=true)(hN:X.N.Nodup)(hiN:X.N[i]?=some y)(hy:Loc X.env.scope y)(S:CompScope X scope own frees ix)(hi:PI X tg iter wi)(hg:∀ cl C s2 H2 fp,PG (qa7 X (own++frees) scope cl C s2 H2 fp) tg g)(ht:∀ cl C s2 H2 fp,PTs (qa7 X (own++frees) scope cl C s2 H2 fp) ifs tt)(he:∀ cl C s2 H2 fp,PE (qa7 X (own++frees) scope cl C s2 H2 fp) elt te)(hf:X.fn y=true∨X.env.scope.names.lookup y=some .local:=by first | exact .inl rfl | exact .inr rfl | assumption)(hsw:swapsWith (.ListComp elt [⟨tg,iter,ifs,0⟩] scope pos) (some (.Name y py)) spos.line X.env=pure true:=by with_unfolding_all rfl)(hs:∀ x,foldedSetIterable iter X.env x=pure x:=by intro _; rfl) :
  PS X (.Assign [.Name y py] (.ListComp elt [⟨tg,iter,ifs,0⟩] scope pos) spos) (tAsg (qfX own.length ix wi g tt te) (qeI i)):=by
 intro pins s σ H D I h
 obtain ⟨cl,hcl,hcl1,hcl2⟩:=qe3 (scope:=scope) (env:=X.env) fun x hx hf=>I.ok.has x.1 (S.fr x hx hf)
 rw [exec_Assign_Name_used _ _ _ _ hsw]
 refine wpAny_bind (wpAny_standAt (wpAny_bind ?_))
 show wpAny (model X.prog X.w) X.A (do let _ ← comprehension (.ListComp elt [⟨tg,iter,ifs,0⟩] scope pos) scope X.env _ (newList []) false (eval iter X.env) (some (assign (.Name y py) X.env))) _ _ s
 refine wpAny_bind (wpAny_mono (wpAny_comprehension_free (use:=some (assign (.Name y py) X.env)) (Q:=fun _ s'=>SP X pins D .next s') rfl hs hcl S.kind S.loc ?_) (fun _ s' q=>wpAny_pure (wpAny_pure q)) fun _ _ z=>z)
 refine thn (hi pins s σ H _ I h) fun v s1 h1=>thn h1 fun itv s2 h2=>?_
 obtain ⟨it,fp,tn,J,H2,e,I2,T,st2,f2,W,w0,turn⟩:=h2
 subst e
 refine qdg (Q:=fun v H'=>qeI i v σ H' D.nx) (RR:=fun acc C=>compPost (model X.prog X.w) X.A X.xe (some (assign (.Name y py) X.env)) (fun _ s'=>SP X pins D .next s') acc C) hc S I2 hcl1 hcl2 T st2 f2 (fun C=>hg cl C s2 H2 fp) (fun C=>ht cl C s2 H2 fp) (fun C=>he cl C s2 H2 fp) w0 turn ?_
 intro L C H' s' m I' fC nC q
 show wpAny (model X.prog X.w) X.A (assign (.Name y py) X.env (.ref L)) _ _ _
 refine wpAny_assign_Name (qdF (v:=.ref L) I' hN hiN hy rfl (fun s3 I3 hch=>?_) hf)
 obtain ⟨a,sb,ha⟩:=hch
 have nCa:C≠a:=by
  rcases ha with z | z
  ·rw [z]; exact fC.2.1
  ·exact fun q=>fC.2.2.2.2.1 y a z q.symm
 refine ⟨m,nC.sameBut sb nCa,fun h' hs'=>?_⟩
 exact ⟨_,H',I3.letgo fC hs',q⟩
end
theorem qaZ{K:PySem.W.Frag}{a:Addr}{xs:List V}{own:Nat}{ix:List Nat}{g:TG}{tt:TT}{te:TE}{σ:St}{H:Hp}{Q:VK}(Pv:Nat→List V→St→Hp→Prop)(hz:xs.length<sizeLine)(h0:Pv 0 [] (qbR own ix σ) H)(hl:∀i ys σ' H',i≤xs.length→Pv i ys σ' H'→SqL K H' a xs∧ys.length≤i)(hs:∀i x ys σ' H',xs[i]?=some x→Pv i ys σ' H'→g x σ' H' fun σ2 H3=>tt σ2 H3 fun b H4=>if b=true then te σ2 H4 fun v H5=>Pv (i+1) (ys++[v]) σ2 H5 else Pv (i+1) ys σ2 H4)(hd:∀ys σ' H',Pv xs.length ys σ' H'→∀D,H' D=none→Q (.ref D) (upd H' D (.lst ys))) :
  qb9 own ix g tt te (Itl K a) σ H Q:=by
 refine⟨fun i m ys σ H=>m=xs.length-i∧i≤xs.length∧Pv i ys σ H,⟨xs.length,by simp,Nat.zero_le _,h0⟩,?_⟩;rintro i m ys σ H ⟨rfl,hi,p⟩;obtain⟨q,hy⟩:=hl i ys σ H hi p;refine⟨by omega,?_⟩
 by_cases hlt:i<xs.length
 ·refine .inr ⟨⟨xs,xs[i],q,by simp[hlt]⟩,Pv (i+1),fun zs σ' H' p'=>⟨xs.length-(i+1),by omega,rfl,hlt,p'⟩,fun x H' y=>?_⟩;obtain⟨e,y⟩:=y;subst e;exact hs i x ys σ _ (y xs q) p
 ·have e:i=xs.length:=by omega
  subst e;exact .inl ⟨⟨xs,q,Nat.le_refl _⟩,hd ys σ H p⟩
end L2
namespace L2
open PySem PySem.Spec PyProof.Rows
section
variable{prog:Program}{w:World}{A:Around}{E:Value→Shared→Prop}{h:Heap}{g:Array GenState}{d:Drawn}{t:Nat}{os:OsState}{a C:Addr}{o:Obj}(LG:PySem.W.Looks (model prog w) h (typeLookup (.ref C) "__getattribute__") (some (.builtin "BaseException.__getattribute__")))(LH:PySem.W.Looks (model prog w) h (typeLookup (.ref C) "__getattr__") none)(LC:PySem.W.Looks (model prog w) h (typeLookup (.ref C) "__class__") (some (.builtin "object.__class__")))(LB:PySem.W.Looks (model prog w) h (isSubtype (.ref C) (.type "BaseException")) true)(LO:PySem.W.Looks (model prog w) h (isSubtype (.ref C) (.type "object")) true)(hx:h.get? a=some o)(hc:o.cls=.ref C)
include LO hx hc
theorem xc_get{R:Result→Shared→Prop}(hq:R (.ok (.ret (.ref C))) ⟨h,g,d,t,os⟩) :
  codeAny (model prog w) A (.call (.builtin "getset_descriptor.__get__") ⟨[.builtin "object.__class__",.ref a,.ref C],[]⟩) R ⟨h,g,d,t,os⟩:=by
 have hT5:(⟨h,g,d,t,os⟩:Shared).TypeIs (.builtin "object.__class__") "getset_descriptor":=F.typeOf_object_class;have LO':PySem.W.Looks (model prog w) h (isSubtype (.ref C) (.type (".".intercalate ("object.__class__".cutAt '.').dropLast))) true:=by rw[F.owner_object_class];exact LO
 refine codeAny_call_builtin F.slot_gs_get.plain F.entry_gs_get (F.slot_gs_get.check _ _ _ _ _ _ _ _ hT5 (F.args_gs_get _ _ _) ?_)
 repeat (any_goals (first | assumption | (with_reducible refine wpAny_loadPart_at hx ?_;rw[hc]) | (with_reducible refine LO'.at ?_) | wp_step))
 refine⟨Code.quiet_builtin _ (by decide +kernel),codeAny_builtin F.entry_object_class ?_⟩
 repeat (any_goals (first | assumption | (with_reducible refine wpAny_loadPart_at hx ?_;rw[hc]) | wp_step))
include LC
theorem xc_entry{tk:Tok}{Q:PySem.Fin→Shared→Prop}(hq:Q (.done (.ret (.ref C))) ⟨h,g,d,t,os⟩) :
  wpAny (model prog w) A (Builtin.«object.__getattribute__» ⟨[.ref a,.str "__class__" tk],[]⟩) Q E ⟨h,g,d,t,os⟩:=by
 have hT5:(⟨h,g,d,t,os⟩:Shared).TypeIs (.builtin "object.__class__") "getset_descriptor":=F.typeOf_object_class;have f5:=F.typeOf_object_class;have f6:=F.slot_gs_get.lookup;have f7:=F.slot_gs_set.lookup
 repeat (any_goals (first | assumption | (with_reducible refine wpAny_loadPart_at hx ?_;rw[hc]) | (with_reducible refine LC.at ?_) | wp_step))
 refine xc_get LO hx hc ?_
 repeat (any_goals (first | assumption | wp_step))
omit LC LO in
theorem xc_check(LB:PySem.W.Looks (model prog w) h (isSubtype (.ref C) (.type "BaseException")) true){nv:Value}{Q:Unit→Shared→Prop}(hq:Q () ⟨h,g,d,t,os⟩) :
  wpAny (model prog w) A (checkBuiltinCall "BaseException.__getattribute__" ⟨[.ref a,nv],[]⟩) Q E ⟨h,g,d,t,os⟩:=by
 have hk:builtinKind "BaseException.__getattribute__" = some .slot:=by decide +kernel
 have hsp:splitId "BaseException.__getattribute__" = some ("BaseException", "__getattribute__"):=by decide +kernel
 have ha:=F.args_bexc_ga (.ref a) nv;simp only[checkBuiltinCall,hk,hsp];refine wpAny_bind ?_;unfold isInstance
 repeat (first | (with_reducible refine wpAny_loadPart_at hx ?_;rw[hc]) | (with_reducible refine LB.at ?_) | wp_step)
 exact hq
include LB
theorem xc_call{tk:Tok}{R:Result→Shared→Prop}(hq:R (.ok (.ret (.ref C))) ⟨h,g,d,t,os⟩) :
  codeAny (model prog w) A (.call (.builtin "BaseException.__getattribute__") ⟨[.ref a,.str "__class__" tk],[]⟩) R ⟨h,g,d,t,os⟩ :=
 codeAny_call_builtin F.attr_ValueError.ga.plain F.entry_bexc_ga (xc_check hx hc LB (xc_entry LC LO hx hc hq))
include LG LH
theorem xc_attr{Q:Option Value→Shared→Prop}(hq:Q (some (.ref C)) ⟨h,g,d,t+1,os⟩):wpAny (model prog w) A (getAttr? (.ref a) "__class__") Q E ⟨h,g,d,t,os⟩:=by
 have by1:∀{tk:Tok} {Q:Value→Shared→Prop} {E:Value→Shared→Prop} {t:Nat},Q (.ref C) ⟨h,g,d,t,os⟩→wpAny (model prog w) A (getAttrBy (.ref a) (.str "__class__" tk) false) Q E ⟨h,g,d,t,os⟩:=by
  intro tk Q E t hq;have f3:bindSpecial (.builtin "BaseException.__getattribute__") (.ref a)=pure (.builtin "BaseException.__getattribute__",[.ref a]):=F.attr_ValueError.ga.bind (.ref a);have hx2:(Value.builtin "BaseException.__getattribute__" == Value.builtin "object.__getattribute__")=false:=by decide +kernel
  have hx1:(onTheHeap (Value.ref C) && Value.builtin "BaseException.__getattribute__" == Value.builtin "object.__getattribute__")=false:=by rw[hx2];rfl
  repeat (any_goals (first | assumption | (with_reducible refine wpAny_loadPart_at hx ?_;rw[hc]) | (with_reducible refine LG.at ?_) | (with_reducible refine LH.at ?_) | wp_step))
  refine xc_call LC LB LO hx hc ?_
  repeat (any_goals (first | assumption | wp_step))
 unfold getAttr? getAttrBy?
 repeat (any_goals (first | assumption | with_reducible apply by1 | wp_step))
end
structure XCls(K:PySem.W.Frag)(C:Addr):Prop where
 ga:PySem.W.findIn K (.ref C) "__getattribute__" = some (some (.builtin "BaseException.__getattribute__"))
 gh:PySem.W.findIn K (.ref C) "__getattr__" = some none
 cl:PySem.W.findIn K (.ref C) "__class__" = some (some (.builtin "object.__class__"))
 sb:PySem.W.subIn K (.ref C) (.type "BaseException")=some true
 so:PySem.W.subIn K (.ref C) (.type "object")=some true
 ty:(PySem.W.clsIn K C).isSome=true
theorem qey{K:PySem.W.Frag}{e C:Addr}(Z:XCls K C):PySem.W.KitX K (.ref e) (.ref C) (fun h=>∃o,h.get? e=some o∧o.cls=.ref C) where
 ty:=fun M h _ p=>by
  obtain⟨o,h1,h2⟩:=p;exact h2 ▸ (PySem.W.Looks.ld h1).andThen .now
 it:=fun M h X _=>by
  have q:=Z.ty;cases e:PySem.W.clsIn K C with
  | none=>rw[e]at q;cases q
  | some cd =>
    unfold PySem.W.clsIn at e
    split at e
    · rename_i c' d' cd' sl' ho
      intro A' Q' E' s' k z
      unfold isType loadHead
      exact wpAny_bind (wpAny_loadPart (k _ _ (X _ _ ho)) (wpAny_pure z))
    · cases e
 ne:=fun h tp dd its n sl X htp=>by
  refine Bool.eq_false_iff.mpr fun q=>?_
  have e:C=tp:=Value.ref.inj (beq_iff_eq.mp q);subst e;have q:=Z.ty;cases e:PySem.W.clsIn K C with
  | none=>rw[e]at q;cases q
  | some cd =>
    unfold PySem.W.clsIn at e
    split at e
    · rename_i c' d' cd' sl' ho
      have z:=(X _ _ ho).symm.trans htp
      cases z
    · cases e
 ca:=fun {prog w A E Q s} X p k=>by
  obtain⟨h,g,d,t,os⟩:=s;obtain⟨o,h1,h2⟩:=p;exact xc_attr (PySem.W.looks_findIn X Z.ga) (PySem.W.looks_findIn X Z.gh) (PySem.W.looks_findIn X Z.cl) (PySem.W.looks_subIn X Z.sb) (PySem.W.looks_subIn X Z.so) h1 h2 k
theorem ObjOk.at{P:Program}{w:World}{H:Hp}{h:Heap}{a:Addr}{o:HO}(x:ObjOk P w H h a o):∃u,h.get? a=some u:=by
 cases o with
 | lst xs=>obtain⟨_,_,_,_,e⟩:=x;exact⟨_,e⟩
 | tup xs=>obtain⟨_,_,_,o,e,_⟩:=x;exact⟨_,e⟩
 | dK kvs=>obtain⟨_,_,_,_,o,_,_,e,_⟩:=x;exact⟨_,e⟩
 | dT kvs=>obtain⟨_,_,_,_,o,_,_,e,_⟩:=x;exact⟨_,e⟩
 | set S n=>obtain⟨o,_,_,_,e,_⟩:=x;exact⟨_,e⟩
 | ins C dx fs=>obtain⟨_,_,_,e,_⟩:=x;exact⟨_,e⟩
 | own y=>exact x
 | xd fs=>obtain⟨_,⟨_,_,_,e,_⟩,_⟩:=x;exact⟨_,e⟩
 | rng lo hi=>obtain⟨_,_,_,e⟩:=x;exact⟨_,e⟩
 | frz ob u=>obtain⟨e,_⟩:=x;exact⟨_,e⟩
 | tbl ps=>exact⟨_,x⟩
 | met f y=>exact⟨_,x⟩
 | ext φ=>exact x.2.1
def excO(a C:Addr):HO:=.ext fun h=>∃o,h.get? a=some o∧o.cls=.ref C
def CX1(P:Program)(w:World):CXT:=fun outer H s E e s'=>∃(ea C:Addr) (a0:Value) (H':Hp) (B:Heap),e=.ref ea∧s'.os=s.os∧AllBare s'.gens∧Un (frs outer) [] H H' s.heap s'.heap∧HOk P w H' s'.heap ∧
 Heap.FlyingW B outer ea (.ref C) a0 s'.heap∧(∀b o,s'.heap.get? b=some o→(H' b≠none∨∃o0,s.heap.get? b=some o0)→b∉frs outer→B.get? b=some o)∧H' ea=none∧s.heap.get? ea=none∧E (.ref C) none H'
theorem qf2{X:Cx}:qdf (CX1 X.prog X.w) X E0:=fun _ _ _ _ _ _ _ h=>by
 obtain⟨_,_,_,_,_,_,_,_,_,_,_,_,_,_,q⟩:=h;exact q.elim
section
variable{P:Program}{w:World}{K:PySem.W.Frag}{mg:Str→Option Value}{base:Heap}{N:List Str}{qual:Str}{scope:Scope}{f:Addr}{cd:Value}{A:Around}{outer:List Env}{s0:Shared}{H0:Hp}{E:XK}{pins:List (Addr×Obj)}{σ:St}{H:Hp}{s:Shared}
theorem xe_raise{h':Heap}{e C:Addr}{args:List Value}(I:Inv (cxOf (CX1 P w) P w K mg base N qual scope f cd A outer s0 H0 E) pins σ H s)(hx:Heap.MadeExcOf s.heap h' e (.ref C) args)(hE:E (.ref C) none H) :
  (cxOf (CX1 P w) P w K mg base N qual scope f cd A outer s0 H0 E).xe (.ref e) {s with heap:=h'}:=by
 show wpAny (model P w) (A.deeper (envOfC qual scope s0.heap.objs.size f cd)) (leaving (envOfC qual scope s0.heap.objs.size f cd) (.ref e)) (fun _ s''=>CX1 P w outer H0 s0 E (.ref e) s'') (fun e' s''=>CX1 P w outer H0 s0 E e' s'') {s with heap:=h'};have fr:=I.stack;have hin:∀env∈(envOfC qual scope s0.heap.objs.size f cd::outer),∀b,env.frame=some b→b∈frs (envOfC qual scope s0.heap.objs.size f cd::outer):=fun env he b hb=>List.mem_filterMap.mpr ⟨env,he,hb⟩
 refine wpAny_leaves_madeW (base:=PySem.W.hideAll s.heap (frs (envOfC qual scope s0.heap.objs.size f cd::outer))) (h:=s.heap) (outer:=outer) I.ok.frames rfl (fun b o q=>PySem.W.of_hideAll _ q) (PySem.W.funFrames_hide fr hin) hx fun h2 t x1 _ _ x4=>?_
 have kB:∀b o,s.heap.get? b=some o→b∉frs (envOfC qual scope s0.heap.objs.size f cd::outer)→h2.get? b=some o:=fun b o q nb=>x1.1 b o (PySem.W.hideAll_get _ q nb)
 have old:∀b o,s0.heap.get? b=some o→b∉frs outer→b∉frs (envOfC qual scope s0.heap.objs.size f cd::outer):=fun b o q nb z=>by
  rcases List.mem_cons.mp (show b∈s0.heap.objs.size::frs outer from z)with e1 | e1
  ·rw[e1]at q;exact absurd (Heap.lt_size q) (Nat.lt_irrefl _)
  ·exact nb e1
 have trk:∀b,H b≠none→b∉frs (envOfC qual scope s0.heap.objs.size f cd::outer):=fun b q z=>q (I.stkFree b z)
 have slots:∀b o,s.heap.get? b=some o→b∈frs outer→∃sl,h2.get? b=some {o with slots:=sl}:=fun b o q hb=>by
  obtain⟨_,o',ho',hnf⟩:=I.funs.mem hb;rw[q]at ho';cases ho';exact x4 b o (hx.keeps b o q) hnf
 refine⟨e,C,.ref t,H,_,rfl,I.os,I.bare,⟨fun b o q n nb _=>?_,fun b o q n hb _=>?_,fun b o q n _=>I.base.free b o q n (by simp[cxOf]),fun b o q _=>?_,I.base.tups,I.base.frzs,I.base.tbls⟩,fun a o q=>?_,x1,fun b o q hq nb=>?_,?_,?_,hE⟩
 ·exact kB b o (I.base.keep b o q n nb (by simp[cxOf])) (old b o q nb)
 ·obtain⟨sl,e1⟩:=I.base.slot b o q n hb (by simp[cxOf]);obtain⟨sl',e2⟩:=slots b _ e1 hb;exact⟨sl',e2⟩
 ·obtain⟨o',e1⟩:=I.base.there b o q (by simp[cxOf])
  by_cases hb:b∈frs outer
  ·obtain⟨sl,e2⟩:=slots b o' e1 hb;exact⟨_,e2⟩
  ·exact⟨o',kB b o' e1 (old b o q hb)⟩
 ·refine(I.hok a o q).stay (fun b u hb z=>kB b u z (trk b ?_)) (fun _ z=>z) fun _ _ z=>z
  rcases hb with z' | z'
  ·rw[z',q];exact fun z=>by cases z
  ·rw[z'];exact fun z=>by cases z
 ·have fin:∃o',s.heap.get? b=some o'∧b∉frs (envOfC qual scope s0.heap.objs.size f cd::outer):=by
   rcases hq with z | ⟨o0,z⟩
   ·cases e1:H b with
    | none=>exact absurd e1 z
    | some u =>
      obtain⟨o',e2⟩:=(I.hok b u e1).at
      exact⟨o',e2,trk b z⟩
   ·obtain⟨o',e2⟩:=I.base.there b o0 z (by simp[cxOf]);exact⟨o',e2,old b o0 z nb⟩
  obtain⟨o',e1,nb'⟩:=fin;have e2:=kB b o' e1 nb';rw[q]at e2;cases e2;exact PySem.W.hideAll_get _ e1 nb'
 ·cases e1:H e with
  | none=>rfl
  | some u =>
    obtain⟨o',e2⟩:=(I.hok e u e1).at
    rw[hx.new]at e2
    cases e2
 ·cases e1:s0.heap.get? e with
  | none=>rfl
  | some o =>
    obtain⟨o',e2⟩:=I.base.there e o e1 (by simp[cxOf])
    rw[hx.new]at e2
    cases e2
def qfF(t:TA)(C:Addr)(E:XK):TS:=fun _ σ H=>t σ H fun vs H1=>vs.length≤sizeLine∧E (.ref C) none H1
theorem qcz{x:Str}{C:Addr}{bm:List Value}{B newId initId:String}{e0:Expr}{rest:List Expr}{np cpos pos:Pos}{t:TA}(O:OwnCls x C bm newId mg base)(FB:ExcBaseFacts B newId initId bm)(hA:A.handled=none)(hg:Gl (cxOf (CX1 P w) P w K mg base N qual scope f cd A outer s0 H0 E) x)(ha:PA (cxOf (CX1 P w) P w K mg base N qual scope f cd A outer s0 H0 E).nox (e0::rest) t)(he:starEach (e0::rest) (envOfC qual scope s0.heap.objs.size f cd)=(false,eval e0 (envOfC qual scope s0.heap.objs.size f cd))::starEach rest (envOfC qual scope s0.heap.objs.size f cd):=by rfl)(hpl:(backTo cpos (starEach rest (envOfC qual scope s0.heap.objs.size f cd))).any (·.1)=false:=by rfl)(hd:(x == ("__debug__" : Str))=false:=by decide) :
  PS (cxOf (CX1 P w) P w K mg base N qual scope f cd A outer s0 H0 E) (.Raise (some (.Call (.Name x np) (e0::rest) [] cpos)) none pos) (qfF t C E):=by
 intro pins s σ H D I h;obtain⟨tl,N',nm,q,bs,hdct,sn,sub,ab,col,dd,k0,k1,k2,k3,k5,mN,hC,hN,hni,T⟩:=O.obj;refine wpAny_Raise_call_subT (C:=C) (nm:=nm) (q:=q) (N:=N') (bs:=bs) (bm:=tl) (hdct:=hdct) (sn:=sn) (sub:=sub) (ab:=ab) (col:=col) (dd:=dd) (k0:=k0) (k1:=k1) (k2:=k2) (k3:=k3) (k5:=k5)
  FB (mN:=mN) (T.hasType FB.hasBase) hA (by show(backTo cpos (starEach (e0::rest) (envOfC qual scope s0.heap.objs.size f cd))).any (·.1)=false;rw[he];show(false || (backTo cpos (starEach rest (envOfC qual scope s0.heap.objs.size f cd))).any (·.1))=false;rw[hpl];rfl) hni
  (qco I hg O.bound ⟨rfl,?_⟩ hd)
 have run:=ha cpos pins s σ H _ (I.wish fun _ _=>False) h;have he':starEach (e0::rest) (cxOf (CX1 P w) P w K mg base N qual scope f cd A outer s0 H0 E).env=(false,eval e0 (envOfC qual scope s0.heap.objs.size f cd))::starEach rest (envOfC qual scope s0.heap.objs.size f cd):=he;have he'':starEach (e0::rest) (cxOf (CX1 P w) P w K mg base N qual scope f cd A outer s0 H0 E).nox.env=(false,eval e0 (envOfC qual scope s0.heap.objs.size f cd))::starEach rest (envOfC qual scope s0.heap.objs.size f cd):=he;rw[he'']  at run;rw[he'];refine Calls.evalArgs_plain (wpAny_mono run (fun us s1 q1=>?_) fun _ _ z=>z.elim);obtain⟨vs,H1,I1,rv,hz,hE⟩:=q1;have I1:=I1.unwish;have kb:=I1.bk;refine⟨rfl,by rw[←rv.length];exact hz,kb _ _ hC,hN.keeps kb,T.keeps kb,fun h' e hm=>?_⟩;exact xe_raise I1 hm hE
end
section
variable{fs ex:List Addr}{H H1:Hp}{h h1:Heap}{D:Addr}{o:HO}
theorem Un.trackN(u:Un fs ex H H1 h h1)(hD:h.get? D=none)(n0:H D=none):Un fs ex H (upd H1 D o) h h1 where
 keep:=u.keep
 slot:=u.slot
 free:=fun b ob q n hx=>by rw[qax (fun z=>by rw[z,hD]at q;cases q)];exact u.free b ob q n hx
 there:=u.there
 tups:=fun b xs q=>by rw[qax (qar q n0)];exact u.tups b xs q
 frzs:=fun b ob xs q=>by rw[qax (qar q n0)];exact u.frzs b ob xs q
 tbls:=fun b ps q=>by rw[qax (qar q n0)];exact u.tbls b ps q
end
abbrev Cx.caught(X:Cx)(ea:Addr):Cx:={X with A:=X.A.mark (some (.ref ea)),calm:=false,xe:=fun _ _=>False}
theorem Cx.Ok.caught{X:Cx}(ok:X.Ok)(ea:Addr):(X.caught ea).Ok :=
 ⟨ok.mod,ok.kind,ok.glob,ok.blt,ok.above,ok.inj,ok.has,ok.cab,(fun z=>nomatch z),ok.frames,ok.stk,ok.exf,ok.bs,ok.bsz,ok.noex,ok.exfs,ok.funs,ok.frf⟩
theorem Inv.caught{X:Cx}{pins:List (Addr×Obj)}{σ:St}{H:Hp}{s:Shared}(I:Inv X pins σ H s)(ea:Addr):Inv (X.caught ea) pins σ H s:=⟨I.ok.caught ea,I.os,I.bare,I.base,I.loc,I.cell,I.free,I.freeC,I.pin,I.hok,I.len⟩
theorem Inv.uncaught{X:Cx}{ea:Addr}{pins:List (Addr×Obj)}{σ:St}{H:Hp}{s:Shared}(ok:X.Ok)(I:Inv (X.caught ea) pins σ H s):Inv X pins σ H s:=⟨ok,I.os,I.bare,I.base,I.loc,I.cell,I.free,I.freeC,I.pin,I.hok,I.len⟩
theorem Inv.lost{X:Cx}{pins:List (Addr×Obj)}{σ:St}{H:Hp}{s:Shared}{h':Heap}{m':Str→Option Value}{t':Nat}(I:Inv X pins σ H s)(hn:h'.Ns X.env.locals m')(hs:Heap.SameBut X.env.locals s.heap h') :
  Inv X pins (List.replicate X.N.length none) H {s with heap:=h',toks:=t'}:=by
 have lt:∀b o,X.s₀.heap.get? b=some o→b≠X.env.locals:=fun b o e=>Nat.ne_of_lt (Nat.lt_of_lt_of_le (Heap.lt_size e) I.ok.above)
 refine⟨I.ok,I.os,I.bare,⟨fun b o e n hb hx=>(hs.2 b (lt b o e)).trans (I.base.keep b o e n hb hx),fun b o e n hb hx=>?_,I.base.free,fun b o e hx=>?_,I.base.tups,I.base.frzs,I.base.tbls⟩,⟨m',hn,fun i x v _ e2 _=>?_⟩,fun x c e=>?_,I.free,I.freeC,fun p hp=>?_,fun a o e=>?_,by simp⟩
 ·obtain⟨sl,q⟩:=I.base.slot b o e n hb hx;exact⟨sl,(hs.2 b (lt b o e)).trans q⟩
 ·obtain⟨o',q⟩:=I.base.there b o e hx;exact⟨o',(hs.2 b (lt b o e)).trans q⟩
 ·rw[List.getElem?_replicate]at e2
  split at e2<;>cases e2
 ·obtain⟨v,q⟩:=I.cell x c e;exact⟨v,q.sameBut hs (I.cne x c e)⟩
 ·obtain⟨q1,q2,q3,q4,q5⟩:=I.pin p hp;exact⟨(hs.2 p.1 q3).trans q1,q2,q3,q4,q5⟩
 ·refine(I.hok a o e).stay (fun b u hb q=>(hs.2 b ?_).trans q) (fun _ q=>q) fun _ _ q=>q
  intro z;rw[z]at hb;rcases hb with z' | z'
  ·rw[←z',I.free]at e;cases e
  ·rw[I.free]at z';cases z'
section
variable{X:Cx}{pins:List (Addr×Obj)}{σ:St}{H1 H':Hp}{s1 s':Shared}{ea C:Addr}{a0:Value}{B h6:Heap}
theorem flew(I:Inv X pins σ H1 s1)(os:s'.os=s1.os)(bare:AllBare s'.gens)(un:Un (frs X.stack) [] H1 H' s1.heap s'.heap)(hok:HOk X.prog X.w H' s'.heap)(fl:Heap.FlyingW B X.stack ea (.ref C) a0 h6)(sm:s'.heap.UpToSlots h6)(kB:∀b o,s'.heap.get? b=some o→(H' b≠none∨∃o0,s1.heap.get? b=some o0)→b∉frs X.stack→B.get? b=some o)(hHe:H' ea=none)(hse:s1.heap.get? ea=none) :
  Inv X pins σ H' {s' with heap:=h6}∧Inv X pins σ (upd H' ea (excO ea C)) {s' with heap:=h6}:=by
 have un6:Un (frs X.stack) [] H1 H' s1.heap h6:=by
  refine⟨fun b o q n nb _=>?_,fun b o q n hb _=>?_,fun b o q n _=>un.free b o q n (by simp),fun b o q _=>?_,un.tups,un.frzs,un.tbls⟩
  ·exact fl.1 b o (kB b o (un.keep b o q n nb (by simp)) (.inr ⟨o,q⟩) nb)
  ·obtain⟨sl,e1⟩:=un.slot b o q n hb (by simp);obtain⟨_,o',ho',hnf⟩:=I.stack.mem hb;rw[q]at ho';cases ho';obtain⟨sl',e2⟩:=sm b _ e1 hnf;exact⟨sl',e2⟩
  ·obtain⟨o',e1⟩:=un.there b o q (by simp)
   by_cases hb:b∈frs X.stack
   ·obtain⟨sl,e2⟩:=un.slot b o q (I.stkFree b hb) hb (by simp);obtain⟨_,o2,ho',hnf⟩:=I.stack.mem hb;rw[q]at ho';cases ho';obtain⟨sl',e3⟩:=sm b _ e2 hnf;exact⟨_,e3⟩
   ·exact⟨o',fl.1 b o' (kB b o' e1 (.inr ⟨o,q⟩) hb)⟩
 have nfr:∀b,H' b≠none→b∉frs X.stack:=fun b q hb=>by
  obtain⟨_,o',ho',_⟩:=I.stack.mem hb;exact q (un.free b o' ho' (I.stkFree b hb) (by simp))
 have ok6:HOk X.prog X.w H' h6:=fun a o q=>by
  refine(hok a o q).stay (fun b u hb z=>?_) (fun _ z=>z) fun _ _ z=>z
  have nn:H' b≠none:=by
   rcases hb with z' | z'
   ·rw[z',q];exact fun z=>by cases z
   ·rw[z'];exact fun z=>by cases z
  exact fl.1 b u (kB b u z (.inl nn) (nfr b nn))
 have n1:H1 ea=none:=by
  cases e1:H1 ea with
  | none=>rfl
  | some u =>
    obtain⟨o',e2⟩:=(I.hok ea u e1).at
    rw[hse]at e2
    cases e2
 obtain⟨ob,hob,hc⟩:=fl.there;refine⟨I.call' (ch:=[]) os un6 ok6 bare (fun b z=>nomatch z),I.call' (ch:=[]) os (un6.trackN hse n1) (HOk.track ok6 hHe ?_) bare (fun b z=>nomatch z)⟩;exact⟨⟨ob,hob,hc⟩,⟨ob,hob⟩,fun g1 g2 p k=>by
  obtain⟨o',e1,e2⟩:=p;exact⟨o',k o' e1,e2⟩⟩
variable{CX:CXT}{k:Nat}{f Y:Addr}{fd:FuncData}{ps:List Str}{sp:Sp}{dvs:List V}{ds:List Value}{x y n:Str}{p cpos epos np hpos pos:Pos}{e:Expr}{es:List Expr}{t:TA}{ts:TS}{b0:Stmt}{suite:List Stmt}{i:Nat}
def qfO(K:PySem.W.Frag)(Y:Addr)(i:Nat)(sp:Sp)(dvs:List V)(t:TA)(ts:TS):TS:=fun D σ H=>t σ H fun vs H1=>sp (vs++dvs) H1 (fun _ H2=>D.nx σ H2) fun cls _ H2 =>
 ∃C,cls=.ref C∧PySem.W.exmOne K (.ref C) (.ref Y)=some true∧∀ea,H2 ea=none→ts {nx:=fun _ _=>False,rt:=D.rt} (σ.set i (some (.ref ea))) (upd H2 ea (excO ea C))
def qfY(K:PySem.W.Frag)(Y:Addr)(sp:Sp)(dvs:List V)(t:TA)(ts:TS):TS:=fun D σ H=>t σ H fun vs H1=>sp (vs++dvs) H1 (fun _ H2=>D.nx σ H2) fun cls _ H2 =>
 ∃C,cls=.ref C∧PySem.W.exmOne K (.ref C) (.ref Y)=some true∧∀ea,H2 ea=none→ts {nx:=fun _ _=>False,rt:=D.rt} σ (upd H2 ea (excO ea C))
theorem qcX{Q:VK}{XE:XK}{E':Value→Shared→Prop}{H:Hp}{s:Shared}(F:FnOk X.prog X.w X.K X.mg X.base (CX1 X.prog X.w) k f fd ps sp)(hr:Room k X.A)(hg:Gl X x)(hm:X.mg x=some (.ref f))(hk:PySem.W.keepIn X.K (.ref f)=true)(hb:Binds X.K fd ps ds)(hd:Vals dvs ds)(ha:PA X.nox (e::es) t)(I:Inv X pins σ H s)(h:t σ H fun vs H1=>sp (vs++dvs) H1 Q XE)(hE:∀H1 s1 ev s',Inv X pins σ H1 s1→CX1 X.prog X.w X.stack H1 s1 XE ev s'→E' ev s')(hdb:(x == ("__debug__" : Str))=false:=by decide)(he:starEach (e::es) X.env=(false,eval e X.env)::starEach es X.env:=by rfl)(hpl:(backTo cpos (starEach es X.env)).any (·.1)=false:=by rfl) :
  wpAny (model X.prog X.w) X.A (eval (.Call (.Name x p) (e::es) [] cpos) X.env) (EP X pins σ Q) E' s:=by
 refine wpAny_Call_Name_kw (qco I hg hm ?_ hdb);refine PySem.W.callWith_K (h₀:=X.base) I.ok.mod.kin hk (wpAny_mono (ha cpos pins s σ H _ (I.wish _) h) (fun us s1 q1=>?_) fun _ _ z=>z.elim) he hpl;obtain⟨vs,H1,I1,r,q⟩:=q1;have I1:=I1.unwish;refine⟨I1.kIn,?_⟩;have r2:Vals (vs++dvs) (us++ds):=r.append hd;have hl:(us++ds).length=ps.length:=by rw[←r2.length];exact F.len _ _ _ _ q
 refine wpAny_call (codeAny_mono (F.run X.A X.stack s1 H1 ⟨us,[]⟩ (us++ds) (vs++dvs) Q XE hr I1.env0 (hb s1 us I1.kIn hl) r2 q) fun res s' hq=>?_);rcases res with ev | fl
 ·exact hE H1 s1 ev s' I1 hq
 ·rcases fl with _ | _ | _ | u<;>first | exact False.elim hq | exact I1.after hq
theorem ps_tryAs(hst:X.stack=X.env :: X.outer)(hfm:X.env.frame=some X.env.locals)(F:FnOk X.prog X.w X.K X.mg X.base (CX1 X.prog X.w) k f fd ps sp)(hr:Room k X.A)(hg:Gl X x)(hm:X.mg x=some (.ref f))(hk:PySem.W.keepIn X.K (.ref f)=true)(hb:Binds X.K fd ps ds)(hd:Vals dvs ds)(ha:PA X.nox (e :: es) t)(gy:Gl X y)(my:X.mg y=some (.ref Y))(hN:X.N.Nodup)(hi:X.N[i]?=some n)(hx:X.env.scope.names.lookup n=some .local)(hs:∀ ea,PSs (X.caught ea) (b0 :: suite) ts)(hdb:(x == ("__debug__" : Str))=false:=by decide)(hdy:(y == ("__debug__" : Str))=false:=by decide)(he:starEach (e :: es) X.env=(false,eval e X.env) :: starEach es X.env:=by rfl)(hpl:(backTo cpos (starEach es X.env)).any (·.1)=false:=by rfl)(hsw:swapsWith (.Call (.Name x p) (e :: es) [] cpos) none epos.line X.env=pure false:=by rfl) :
  PS X (.Try [.Expr (.Call (.Name x p) (e :: es) [] cpos) epos] [.ExceptHandler (some (.Name y np)) (some n) (b0 :: suite) hpos] [] [] pos) (qfO X.K Y i sp dvs t ts):=by
 intro pins s σ H D I h
 refine wpAny_Try_except ?_
 refine wpAny_execs_cons (wpAny_Expr_any (wpAny_mono (qcX (Q:=fun _ H2=>D.nx σ H2) (E':=fun ev s'=>wpAny (model X.prog X.w) X.A (noteFrame ev X.env) (fun _ s2=>wpAny (model X.prog X.w) X.A (setFlight ev none) (fun _ s3 =>
   wpAny (model X.prog X.w) X.A (handleBy ev X.env [.ExceptHandler (some (.Name y np)) (some n) (b0 :: suite) hpos]) (SP X pins D) X.xe s3) X.xe s2) X.xe s') F hr hg hm hk hb hd ha I h ?_ hdb he hpl) (fun v s1 q1=>?_) fun _ _ z=>z) I.quiet hsw)
 ·intro H1 s1 ev s' I1 q
  obtain ⟨ea,C,a0,H',B,rfl,os,bare,un,hok,fl,kB,hHe,hse,C',eC,hex,hts⟩:=q
  obtain rfl:C=C':=Value.ref.inj eC
  have fl0:Heap.FlyingW B (X.env :: X.outer) ea (.ref C) a0 s'.heap:=by rw [← hst]; exact fl
  refine wpAny_looks_onW (by rw [← hst]; exact I1.ok.frames) hfm fl0 fun h4 held sm4=>?_
  refine wpAny_landsW held fun h5 fl5 sm5=>?_
  have sm5':=sm4.trans sm5
  have fl5':Heap.FlyingW B X.stack ea (.ref C) a0 h5:=by rw [hst]; exact fl5
  obtain ⟨I5,_⟩:=flew I1 os bare un hok fl5' sm5' kB hHe hse
  refine wpAny_handleBy_cons (codeAny_handlers_test (qco (I5.caught ea) gy my ?_ hdy)) (by intro q; cases q)
  have LT:PySem.W.Looks (model X.prog X.w) h5 (typeOf (.ref ea)) (.ref C):=by
   obtain ⟨ob,hob,hc⟩:=fl5.there
   exact hc ▸ (PySem.W.Looks.ld hob).andThen .now
  refine (PySem.W.exm_one (h:=h5) (show X.K.In h5 from I5.kIn) LT hex).here ?_
  show codeAny _ _ _ _ _
  refine codeAny_handlers_suite_as ?_
  refine lands_againW fl5 fun h6 fl6 sm6=>?_
  have fl6':Heap.FlyingW B X.stack ea (.ref C) a0 h6:=by rw [hst]; exact fl6
  obtain ⟨_,I6⟩:=flew I1 os bare un hok fl6' (sm5'.trans sm6) kB hHe hse
  refine qdl (X:=X.caught ea) (I6.caught ea) hN hi (.inl hx) (v:=.ref ea) rfl (fun s7 I7=>?_) (.inr hx)
  refine wpAny_mono (hs ea pins s7 _ _ _ I7 (hts ea hHe)) (fun fl s8 q8=>?_) fun _ _ z=>z.elim
  rcases fl with _ | _ | _ | u
  ·obtain ⟨_,_,_,z⟩:=q8; exact z.elim
  ·obtain ⟨_,_,_,z⟩:=q8; exact z.elim
  ·obtain ⟨_,_,_,z⟩:=q8; exact z.elim
  ·obtain ⟨v,σ8,H8,I8,rv,q8⟩:=q8
   have I8:=I8.uncaught I.ok
   obtain ⟨m8,n8,_⟩:=id I8.loc
   show wpAny _ _ (do bindName X.env n .none; unbindBehindTheSuite X.env n hpos) _ _ _
   refine wpAny_nameGoes hx n8 (by rw [I.ok.kind]; rfl) fun h9 m9 n9 sb9=>?_
   refine ⟨v,List.replicate X.N.length none,H8,?_,rv,q8⟩
   exact I8.lost n9 sb9
 ·obtain ⟨v,H1,I1,_,q⟩:=q1
  exact wpAny_execs_nil (wpAny_execs_nil ⟨σ,H1,I1,q⟩)
theorem ps_try0(hst:X.stack=X.env::X.outer)(hfm:X.env.frame=some X.env.locals)(F:FnOk X.prog X.w X.K X.mg X.base (CX1 X.prog X.w) k f fd ps sp)(hr:Room k X.A)(hg:Gl X x)(hm:X.mg x=some (.ref f))(hk:PySem.W.keepIn X.K (.ref f)=true)(hb:Binds X.K fd ps ds)(hd:Vals dvs ds)(ha:PA X.nox (e::es) t)(gy:Gl X y)(my:X.mg y=some (.ref Y))(hs:∀ea,PSs (X.caught ea) (b0::suite) ts)(hdb:(x == ("__debug__" : Str))=false:=by decide)(hdy:(y == ("__debug__" : Str))=false:=by decide)(he:starEach (e::es) X.env=(false,eval e X.env)::starEach es X.env:=by rfl)(hpl:(backTo cpos (starEach es X.env)).any (·.1)=false:=by rfl)(hsw:swapsWith (.Call (.Name x p) (e::es) [] cpos) none epos.line X.env=pure false:=by rfl) :
  PS X (.Try [.Expr (.Call (.Name x p) (e::es) [] cpos) epos] [.ExceptHandler (some (.Name y np)) none (b0::suite) hpos] [] [] pos) (qfY X.K Y sp dvs t ts):=by
 intro pins s σ H D I h;refine wpAny_Try_except ?_;refine wpAny_execs_cons (wpAny_Expr_any (wpAny_mono (qcX (Q:=fun _ H2=>D.nx σ H2) (E':=fun ev s'=>wpAny (model X.prog X.w) X.A (noteFrame ev X.env) (fun _ s2=>wpAny (model X.prog X.w) X.A (setFlight ev none) (fun _ s3 =>
   wpAny (model X.prog X.w) X.A (handleBy ev X.env [.ExceptHandler (some (.Name y np)) none (b0::suite) hpos]) (SP X pins D) X.xe s3) X.xe s2) X.xe s') F hr hg hm hk hb hd ha I h ?_ hdb he hpl) (fun v s1 q1=>?_) fun _ _ z=>z) I.quiet hsw)
 ·intro H1 s1 ev s' I1 q;obtain⟨ea,C,a0,H',B,rfl,os,bare,un,hok,fl,kB,hHe,hse,C',eC,hex,hts⟩:=q;obtain rfl:C=C':=Value.ref.inj eC;have fl0:Heap.FlyingW B (X.env::X.outer) ea (.ref C) a0 s'.heap:=by rw[←hst];exact fl
  refine wpAny_looks_onW (by rw[←hst];exact I1.ok.frames) hfm fl0 fun h4 held sm4=>?_
  refine wpAny_landsW held fun h5 fl5 sm5=>?_
  have sm5':=sm4.trans sm5;have fl5':Heap.FlyingW B X.stack ea (.ref C) a0 h5:=by rw[hst];exact fl5
  obtain⟨I5,_⟩:=flew I1 os bare un hok fl5' sm5' kB hHe hse;refine wpAny_handleBy_cons (codeAny_handlers_test (qco (I5.caught ea) gy my ?_ hdy)) (by intro q;cases q);have LT:PySem.W.Looks (model X.prog X.w) h5 (typeOf (.ref ea)) (.ref C):=by
   obtain⟨ob,hob,hc⟩:=fl5.there;exact hc ▸ (PySem.W.Looks.ld hob).andThen .now
  refine(PySem.W.exm_one (h:=h5) (show X.K.In h5 from I5.kIn) LT hex).here ?_;show codeAny _ _ _ _ _;refine codeAny_handlers_suite ?_;refine lands_againW fl5 fun h6 fl6 sm6=>?_
  have fl6':Heap.FlyingW B X.stack ea (.ref C) a0 h6:=by rw[hst];exact fl6
  obtain⟨_,I6⟩:=flew I1 os bare un hok fl6' (sm5'.trans sm6) kB hHe hse;refine wpAny_mono (hs ea pins _ _ _ _ (I6.caught ea) (hts ea hHe)) (fun fl s8 q8=>?_) fun _ _ z=>z.elim
  rcases fl with _ | _ | _ | u
  ·obtain⟨_,_,_,z⟩:=q8;exact z.elim
  ·obtain⟨_,_,_,z⟩:=q8;exact z.elim
  ·obtain⟨_,_,_,z⟩:=q8;exact z.elim
  ·obtain⟨v,σ8,H8,I8,rv,q8⟩:=q8;exact⟨v,σ8,H8,I8.uncaught I.ok,rv,q8⟩
 ·obtain⟨v,H1,I1,_,q⟩:=q1;exact wpAny_execs_nil (wpAny_execs_nil ⟨σ,H1,I1,q⟩)
end
end L2
namespace L2
open PySem PySem.Spec PyProof.Rows
section
variable{X:Cx}{pins:List (Addr×Obj)}{σ:St}{H:Hp}{s:Shared}{D:Addr}{o:HO}
theorem Inv.track(I:Inv X pins σ H s)(h0:X.s₀.heap.get? D=none)(hn:H D=none)(hL:D≠X.env.locals)(hc:∀x c,X.env.cells.lookup x=some c→c≠D)(hp:∀p∈X.pn++pins,p.1≠D)(new:ObjOk X.prog X.w (upd H D o) s.heap D o):Inv X pins σ (upd H D o) s:=by
 refine⟨I.ok,I.os,I.bare,⟨I.base.keep,I.base.slot,fun b ob q n hx=>?_,I.base.there,fun b xs q=>?_,fun b ob xs q=>?_,fun b ps q=>?_⟩,I.loc,I.cell,?_,fun x c e=>?_,fun p z=>?_,HOk.track I.hok hn new,I.len⟩
 ·rw[qax (fun z=>by rw[z,h0]at q;cases q)];exact I.base.free b ob q n hx
 ·have r:=I.base.tups b xs q;rw[qax (fun z=>by rw[z,hn]at r;cases r)];exact r
 ·have r:=I.base.frzs b ob xs q;rw[qax (fun z=>by rw[z,hn]at r;cases r)];exact r
 ·obtain⟨more,r⟩:=I.base.tbls b ps q;exact⟨more,by rw[qax (fun z=>by rw[z,hn]at r;cases r)];exact r⟩
 ·rw[qax (Ne.symm hL)];exact I.free
 ·rw[qax (hc x c e)];exact I.freeC x c e
 ·obtain⟨q1,q2,q3,q4,q5⟩:=I.pin p z;exact⟨q1,by rw[qax (hp p z)];exact q2,q3,q4,q5⟩
theorem Inv.frame{h':Heap}{t':Nat}{m:Str→Option Value}(I:Inv X pins σ H s)(m0:s.heap.Ns X.env.locals m)(m1:h'.Ns X.env.locals m)(k:∀b ob,b≠X.env.locals→s.heap.get? b=some ob→h'.get? b=some ob) :
  Inv X pins σ H {s with heap:=h',toks:=t'}:=by
 refine I.step (g':=s.gens) (d':=s.drawn) (ch:=[]) (fun b z=>nomatch z) (fun b ob hL _ _ q _=>k b ob hL q) (fun b ob hL _ _ q _=>⟨ob.slots,k b ob hL q⟩) (fun _ _ _ _ n=>n) (fun b ob _ q=>?_) (fun _ _ q=>q) (fun _ _ _ q=>q) (fun b ps q=>⟨#[],by rw[q];simp⟩) (fun m2 n2=>?_) (fun a u q=>?_) I.bare
 ·by_cases hL:b=X.env.locals
  ·subst hL;obtain⟨o',_,_,e,_⟩:=m1;exact⟨o',e⟩
  ·exact⟨ob,k b ob hL q⟩
 ·have e:m2=m:=by
   funext z;obtain⟨o1,es1,ep1,a1,b1,_,c1⟩:=m0;obtain⟨o2,es2,ep2,a2,b2,_,c2⟩:=n2;rw[a1]at a2;cases a2;rw[b1]at b2;cases b2;rw[←c1,←c2]
  rw[e];exact m1
 ·refine(I.hok a u q).stay (fun b v hb z=>k b v (fun e=>?_) z) (fun _ z=>z) fun _ _ z=>z
  rw[e]at hb;rcases hb with z' | z'
  ·rw[←z',I.free]at q;cases q
  ·rw[I.free]at z';cases z'
end
mutual
inductive DIn(H:Hp):V→PySem.W.Dat→Prop
 | non:DIn H .non .none
 | int (i):DIn H (.int i) (.int i)
 | str (x):DIn H (.str x) (.str x)
 | tup {a xs ds}:H a=some (.tup xs)→DAll H xs ds→DIn H (.ref a) (.tuple ds)
 | lst {a xs ds}:H a=some (.lst xs)→DAll H xs ds→DIn H (.ref a) (.list ds)
inductive DAll(H:Hp):List V→List PySem.W.Dat→Prop
 | nil:DAll H [] []
 | cons {x d xs ds}:DIn H x d→DAll H xs ds→DAll H (x::xs) (d::ds)
end
section
variable{P:Program}{w:World}{H:Hp}{h:Heap}
mutual
theorem qbS(ok:HOk P w H h):∀{v:V} {d:PySem.W.Dat} {u:Value} (n:Nat),DIn H v d→RelV v u→PySem.W.kqdOk n d=true→∃as,Reads h u (PySem.W.kqdP d) as
 | _,_,_,_,.non,r,_=>by cases r;exact⟨_,Reads.none⟩
 | _,_,_,_,.int i,r,_=>by obtain⟨t,rfl⟩:=r;exact⟨_,Reads.int i t⟩
 | _,_,_,_,.str x,r,_=>by obtain⟨t,rfl⟩:=r;exact⟨_,Reads.str x t⟩
 | _,_,_,0,.tup _ _,_,hk=>by simp[PySem.W.kqdOk]at hk
 | _,_,_,0,.lst _ _,_,hk=>by simp[PySem.W.kqdOk]at hk
 | _, _, _, n + 1, .tup (a := a) e q, r, hk => by
   cases r
   obtain⟨_,its,rv,o,e1,e2,k,e3⟩:=ok a _ e
   obtain⟨as,z⟩:=qcn ok n q rv (by simpa[PySem.W.kqdOk]using hk)
   rw[PySem.W.kqdP]
   exact⟨as,reads_tuple_at e1 e2 e3 (by simpa using z)⟩
 | _, _, _, n + 1, .lst (a := a) e q, r, hk => by
   cases r
   obtain⟨_,its,k,rv,e1⟩:=ok a _ e
   obtain⟨as,z⟩:=qcn ok n q rv (by simpa[PySem.W.kqdOk]using hk)
   rw[PySem.W.kqdP]
   exact⟨_,reads_list_at e1 rfl rfl (by simpa using z)⟩
theorem qcn(ok:HOk P w H h):∀{vs:List V} {ds:List PySem.W.Dat} {us:List Value} (n:Nat),DAll H vs ds→Vals vs us→(∀d∈ds,PySem.W.kqdOk n d=true)→∃as,ReadsAll h us (PySem.W.kqdPs ds) as
 | _,_,_,_,.nil,r,_=>by cases r;exact⟨_,ReadsAll.nil⟩
 | _, _, _, n, .cons q qs, r, hk => by
   cases r with
   | cons r1 r2 =>
     obtain⟨as,z⟩:=qbS ok n q r1 (hk _ (.head _))
     obtain⟨bs,y⟩:=qcn ok n qs r2 fun d hd=>hk d (.tail _ hd)
     rw[PySem.W.kqdPs]
     exact⟨_,ReadsAll.cons z y⟩
end
end
theorem qeU{d e:PySem.W.Dat}{n k:Nat}(h1:PySem.W.kqdOk n d=true)(h2:PySem.W.kqdOk k e=true)[Decidable (d=e)]:PyData.eqv (PySem.W.kqdP d) (PySem.W.kqdP e)=decide (d=e):=by
 have q:=PySem.W.kqd_eqv n d e k h1 h2
 by_cases z:d=e
 ·rw[decide_eq_true z];exact q.mpr z
 ·rw[decide_eq_false z];exact Bool.eq_false_iff.mpr fun x=>z (q.mp x)
theorem qbW{d:PySem.W.Dat}(h:PySem.W.kqdOk 9 d=true):SeqAt.shaped (PySem.W.kqdP d)=true:=by
 have q:=PySem.W.kqd_lay 9 d h;unfold SeqAt.shaped;rw[q.1,Bool.true_and];exact decide_eq_true (Nat.le_trans q.2 (by decide))
section
variable{X:Cx}
open Classical in
def rEqD(neg:Bool):R2:=fun x y H Q=>∃d e,DIn H x d∧DIn H y e∧PySem.W.kqdOk 9 d=true∧PySem.W.kqdOk 9 e=true∧Q (.bl (if neg=true then !decide (d=e)else decide (d=e))) H
open Classical in
theorem op_eqD(hu:X.A.units+64<cLine):OpR X (compareOp .Eq) (rEqD false):=by
 intro pins s σ H x y v u Q I rx ry h;obtain⟨d,e,h1,h2,k1,k2,q⟩:=h;obtain⟨as,r1⟩:=qbS I.hok 9 h1 rx k1;obtain⟨bs,r2⟩:=qbS I.hok 9 h2 ry k2;exact eq_dataH r1 r2 (qbW k1) (qbW k2) hu (qaP I q (by rw[qeU k1 k2];simp))
open Classical in
theorem op_neD(hu:X.A.units+64<cLine):OpR X (compareOp .NotEq) (rEqD true):=by
 intro pins s σ H x y v u Q I rx ry h;obtain⟨d,e,h1,h2,k1,k2,q⟩:=h;obtain⟨as,r1⟩:=qbS I.hok 9 h1 rx k1;obtain⟨bs,r2⟩:=qbS I.hok 9 h2 ry k2;exact ne_dataH r1 r2 (qbW k1) (qbW k2) hu (qaP I q (by rw[qeU k1 k2];simp))
def CDivL(i j:Int):Prop:=0<j∧j<18446744073709551616
theorem op_fdivL:OpR X (binaryOp .FloorDiv) (rI CDivL fun i j=>.int (i / j)):=opI fun i j _ _ _ _ _ hc q=>by
 have h1:(0:Int)<j:=hc.1;have h2:j<18446744073709551616:=hc.2;refine floordiv_int (by omega) ?_ (.inl (PyProof.noPylong_of_log2 ?_))
 ·rw[Int.fdiv_eq_ediv_of_nonneg i (by omega)];exact q
 ·have h3:j.natAbs<2 ^ 64:=by omega
  exact Nat.lt_of_lt_of_le ((Nat.log2_lt (by omega)).mpr h3) (by decide)
theorem call_isinst:CallR X (.builtin "isinstance") (fun xs H Q=>∃x c t b,xs=[x,c]∧TyOf X.K H x t∧(∃cv,(∀u,RelV c u→u=cv)∧PySem.W.kitOne X.K t cv=some b)∧Q (.bl b) H):=by
 intro pins s σ H xs us Q I r h;obtain⟨x,c,t,b,rfl,ty,⟨cv,hcv,e⟩,q⟩:=h;obtain⟨u,w',rfl,r1,r2⟩:=qfP r;obtain rfl:=hcv _ r2;exact isinst_ok I r1 ty e fun tk=>⟨.bl b,H,I.tok _,rfl,q⟩
theorem call_isinstX:CallR X (.builtin "isinstance") (fun xs H Q=>∃a C c b,xs=[.ref a,c]∧H a=some (excO a C)∧XCls X.K C∧(∃cv,(∀u,RelV c u→u=cv)∧PySem.W.kitOne X.K (.ref C) cv=some b)∧Q (.bl b) H):=by
 intro pins s σ H xs us Q I r h;obtain⟨a,C,c,b,rfl,hx,Z,⟨cv,hcv,e⟩,q⟩:=h;obtain⟨u,w',rfl,r1,r2⟩:=qfP r;cases r1;obtain rfl:=hcv _ r2;exact PySem.W.kia_one (qey Z) I.kIn (I.hok a _ hx).1 e (fun z=>nomatch z) fun tk=>⟨.bl b,H,I.tok _,rfl,q⟩
theorem call_isinstXT:CallR X (.builtin "isinstance") (fun xs H Q=>∃(a C p:Addr) (cs:List Addr) (b:Bool),xs=[.ref a,.ref p]∧H a=some (excO a C)∧XCls X.K C∧H p=some (.tup (cs.map V.ref))∧PySem.W.kitAny X.K (.ref C) (cs.map Value.ref)=some b∧Q (.bl b) H):=by
 intro pins s σ H xs us Q I r h;obtain⟨a,C,p,cs,b,rfl,hx,Z,hp,e,q⟩:=h;obtain⟨u,w',rfl,r1,r2⟩:=qfP r;cases r1;cases r2;obtain⟨_,its,rv,o,e1,e2,k,e3⟩:=I.hok p _ hp;have ei:its=cs.map Value.ref:=by
  have all:∀(l:List Addr) (us:List Value),Vals (l.map V.ref) us→us=l.map Value.ref:=by
   intro l
   induction l with
   | nil=>intro us r;cases r;rfl
   | cons z l ih =>
     intro us r
     cases r with
     | cons r1 r2=>cases r1;rw[ih _ r2];rfl
  exact all cs its rv
 subst ei;obtain⟨c0,d0,dt0,sl0⟩:=o;simp only at e2 e3;subst e2 e3;exact PySem.W.kia_tup (qey Z) I.kIn (I.hok a _ hx).1 e1 e (fun z=>nomatch z) fun tk=>⟨.bl b,H,I.tok _,rfl,q⟩
theorem qb0(hc:X.calm=true):CallR X (.builtin "all") (fun xs H Q=>∃(p:Addr) (bs:List Bool),xs=[.ref p]∧SqL X.K H p (bs.map V.bl)∧Q (.bl (bs.all id)) H):=by
 intro pins s σ H xs us Q I r h;obtain⟨p,bs,rfl,hp,q⟩:=h;obtain⟨u,rfl,rx⟩:=qcW r;cases rx;obtain⟨its,rv,pl,hz⟩:=I.list hp;have hh:=I.ok.hd hc;refine call_all_walk (wpAny_pyIter_list pl.isList ?_);have lp:p<s.heap.objs.size:=by
  obtain⟨o,e,_⟩:=pl.isList;exact Heap.lt_size e
 have atB:∀(i:Nat) (v:Value),its.toArray[i]?=some v→v=.bool (bs.getD i false):=fun i v e=>by
  have e':its[i]?=some v:=by simpa using e
  cases z:bs[i]? with
  | none =>
    have h1:=rv.length
    rw[List.length_map]at h1
    have h2:=(List.getElem?_eq_some_iff.mp e').1
    have h3:=List.getElem?_eq_none_iff.mp z
    omega
  | some b =>
    obtain⟨u,e2,r2⟩:=rv.get (i:=i) (x:=.bl b) (by rw[List.getElem?_map,z];rfl)
    rw[e']at e2
    cases e2
    cases r2
    rw[List.getD_eq_getElem?_getD,z]
    rfl
 refine⟨s.heap.objs.size,_,_,_,_,_,fun i=>bs.getD i false,rfl,Walks.list (by simpa using hh) s.heap.objs.size p (Nat.ne_of_lt lp) its.toArray,⟨⟨_,Heap.get?_push_size _ rfl,rfl,rfl⟩,pl.isList.push _⟩,fun i v s' Q' E' e hq=>?_,fun h' tk k=>?_⟩
 ·rw[atB i v e];exact wpAny_truthy_bool hq
 ·have ev:(List.range its.toArray.size).all (fun i=>bs.getD i false)=bs.all id:=by
   have hl:its.toArray.size=bs.length:=by rw[List.size_toArray,←rv.length,List.length_map]
   rw[hl];rw[Bool.eq_iff_iff];simp only[List.all_eq_true,List.mem_range,id];constructor
   ·intro z x hx;obtain⟨i,hi,e⟩:=List.mem_iff_getElem.mp hx;have:=z i hi;rw[List.getD_eq_getElem?_getD,List.getElem?_eq_getElem hi,e]at this;exact this
   ·intro z i hi;rw[List.getD_eq_getElem?_getD,List.getElem?_eq_getElem hi];exact z _ (List.getElem_mem hi)
  rw[ev];exact⟨.bl (bs.all id),H,I.kept fun b o e=>k b o (by simpa using Nat.ne_of_lt (Heap.lt_size e)) (Heap.get?_push_of_some _ e),rfl,q⟩
end
end L2
namespace Bk
open PySem
inductive Kd
 | body | case | shelf | grid | text | head | picture | aside | note | leaf | no
 deriving DecidableEq
def Kd.s:Kd→Str
 | .body=>Str.ofString "body"
 | .case=>Str.ofString "case"
 | .shelf=>Str.ofString "shelf"
 | .grid=>Str.ofString "grid"
 | .text=>Str.ofString "text"
 | .head=>Str.ofString "head"
 | .picture=>Str.ofString "picture"
 | .aside=>Str.ofString "aside"
 | .note=>Str.ofString "note"
 | .leaf=>Str.ofString "leaf"
 | .no=>Str.ofString ""
theorem Kd.inj(a b:Kd):(a.s=b.s)=(a=b):=by
 cases a<;>cases b<;>first | exact propext ⟨fun _=>rfl,fun _=>rfl⟩ | exact propext ⟨fun h=>absurd h (by decide +kernel),fun h=>by cases h⟩
inductive So
 | word | page | note | sign
 deriving DecidableEq
def So.s:So→Str
 | .word=>Str.ofString "word"
 | .page=>Str.ofString "page"
 | .note=>Str.ofString "note"
 | .sign=>Str.ofString "sign"
theorem So.inj(a b:So):(a.s=b.s)=(a=b):=by
 cases a<;>cases b<;>first | exact propext ⟨fun _=>rfl,fun _=>rfl⟩ | exact propext ⟨fun h=>absurd h (by decide +kernel),fun h=>by cases h⟩
inductive Th
 | int (n:Int) | tri (s:So) (x:Sum Str Int) (t:Int)
structure Nd where
 e:Int
 k:Kd
 nm:Str
 mks:List Str
 st:List Th
def wordSigns:List Nat:=[97,98,99,100,101,102,103,104,105,106,107,108,109,110,111,112,113,114,115,116,117,118,119,120,121,122,
 65,66,67,68,69,70,71,72,73,74,75,76,77,78,79,80,81,82,83,84,85,86,87,88,89,90,48,49,50,51,52,53,54,55,56,57,46,44,45,59,58,39,40,41,33,63]
def qdJ(c:Nat):Prop:=97≤c∧c≤122
def Word(w:Str):Prop:=1≤w.length∧w.length≤20∧∀c∈w.cps.toList,c∈wordSigns
def Name(n:Str):Prop:=1≤n.length∧n.length≤8∧∀c∈n.cps.toList,qdJ c
def isNote:Th→Bool
 | .tri .note _ _=>true
 | _=>false
def PcOk:Th→Prop
 | .tri .word (.inl w) t=>Word w∧0≤t∧t≤3
 | .tri .page (.inl n) t=>Name n∧0≤t∧t≤3
 | .tri .note (.inr k) t=>0≤k∧k≤60∧t=0
 | _=>False
def noteNum:Th→Option Int
 | .tri .note (.inr k) _=>some k
 | _=>none
def qaC(l:List Th):List Int:=l.filterMap noteNum
def nums(n:Nat):List Int:=(List.range n).map fun(i:Nat)=>(i:Int)
theorem qc1(n:Nat):nums (n+1)=nums n++[(n:Int)]:=by unfold nums;rw[List.range_succ,List.map_append];rfl
structure Pieces(n:Nat)(l:List Th):Prop where
 ok:∀x∈l,PcOk x
 ne:∃x r,l=x::r∧isNote x=false
 nn:qaC l=nums n
 le:l.length≤60
def mayHold:Kd→Kd→Bool
 | .body,.case | .body,.shelf | .body,.grid | .body,.text | .body,.head | .body,.picture | .body,.aside=>true
 | .case,.case | .case,.shelf | .case,.grid | .case,.text | .case,.head | .case,.picture | .case,.aside=>true
 | .shelf,.case | .shelf,.shelf | .shelf,.grid | .shelf,.text | .shelf,.picture=>true
 | .grid,.case | .grid,.shelf | .grid,.grid | .grid,.text | .grid,.picture=>true
 | .text,.note | .head,.note=>true
 | .aside,.case | .aside,.shelf | .aside,.grid | .aside,.text | .aside,.head | .aside,.picture=>true
 | _,_=>false
def neverEmpty:Kd→Bool
 | .body | .shelf | .grid | .aside=>true
 | _=>false
def ofPieces:Kd→Bool
 | .text | .head | .note=>true
 | _=>false
def Nexts:List Kd→Prop
 | []=>True
 | .aside :: .text::r=>Nexts r
 | .aside::_=>False
 | _::r=>Nexts r
def Holds(k:Kd)(ks:List Kd)(st:List Th):Prop:=(∀c∈ks,mayHold k c=true)∧(neverEmpty k=true→ks≠[])∧Nexts ks∧(ofPieces k=true→qaC st=nums ks.length)
def qcm(l:List Str):Prop:=l.length≤4∧(∀m∈l,Name m)∧l.Pairwise fun a b=>a.cps.toList<b.cps.toList
def Stuff:Kd→List Th→Prop
 | .picture,l=>∃a b:Int,l=[.int a,.int b]∧1≤a∧a≤2000∧1≤b∧b≤2000
 | .text,l | .head,l | .note,l=>(∀x∈l,PcOk x)∧(∃x r,l=x::r∧isNote x=false)∧l.length≤60
 | _,l=>l=[]
def noName:Str:=Str.ofString ""
structure Form(d:Nd):Prop where
 nm:d.nm=noName∨Name d.nm
 mks:qcm d.mks
 st:Stuff d.k d.st
inductive Forest:Nat→Nat→Nat→List Nd→List Kd→Prop
 | nil {e i lv:Nat}:Forest e i lv [] []
 | cons {e i lv:Nat} {d:Nd} {sub rest:List Nd} {ks ks':List Kd}:d.e=(e:Int)→lv≤6→d.k≠.body→Forest i (i+1) (lv+1) sub ks→Holds d.k ks d.st→Forest e (i+1+sub.length) lv rest ks'→Forest e i lv (d::(sub++rest)) (d.k::ks')
theorem Forest.append{e lv:Nat}{a b:List Nd}{ks ks':List Kd}{i:Nat}(x:Forest e i lv a ks):Forest e (i+a.length) lv b ks'→Forest e i lv (a++b) (ks++ks'):=by
 induction x with
 | nil=>intro y;exact y
 | @cons e i lv d sub rest ks ks1 h1 h2 h3 f1 h4 f2 ih1 ih2 =>
   intro y
   have y':Forest e (i+1+sub.length+rest.length) lv b ks':=by
     have:i+(d::(sub++rest)).length=i+1+sub.length+rest.length:=by simp;omega
     rw[←this];exact y
   have:=ih2 y'
   rw[List.cons_append,List.append_assoc,List.cons_append]
   exact .cons h1 h2 h3 f1 h4 this
theorem Forest.one{e i lv:Nat}{d:Nd}{sub:List Nd}{ks:List Kd}(h1:d.e=(e:Int))(h2:lv≤6)(h3:d.k≠.body)(f:Forest i (i+1) (lv+1) sub ks)(h4:Holds d.k ks d.st):Forest e i lv (d::sub) [d.k]:=by
 have:=Forest.cons (rest:=[]) h1 h2 h3 f h4 .nil
 rwa [List.append_nil]at this
theorem Forest.has{e i lv:Nat}{l:List Nd}{ks:List Kd}(x:Forest e i lv l ks):∀k∈ks,∃d∈l,d.e=(e:Int)∧d.k=k:=by
 induction x with
 | nil=>intro k hk;cases hk
 | @cons e i lv d sub rest ks ks1 h1 h2 h3 f1 h4 f2 ih1 ih2 =>
   intro k hk
   rcases List.mem_cons.mp hk with rfl | hk
   · exact⟨d,List.mem_cons_self,h1,rfl⟩
   · obtain⟨d',m,r⟩:=ih2 k hk
     exact⟨d',List.mem_cons_of_mem _ (List.mem_append_right _ m),r⟩
def ItemKs(ke:Kd)(ks:List Kd):Prop:=(∃k,ks=[k]∧k≠.aside∧mayHold ke k=true)∨(ks=[.aside,.text]∧mayHold ke .aside=true∧mayHold ke .text=true)
theorem Nexts.append:∀{a b:List Kd},Nexts a→Nexts b→Nexts (a++b)
 | [],b,_,h=>h
 | [.aside],b,h,_=>by cases h
 | .aside :: k :: r, b, h, h' => by
   cases k<;>first | (exact Nexts.append (a:=r) h h') | cases h
 | .body::r,b,h,h'=>Nexts.append (a:=r) h h'
 | .case::r,b,h,h'=>Nexts.append (a:=r) h h'
 | .shelf::r,b,h,h'=>Nexts.append (a:=r) h h'
 | .grid::r,b,h,h'=>Nexts.append (a:=r) h h'
 | .text::r,b,h,h'=>Nexts.append (a:=r) h h'
 | .head::r,b,h,h'=>Nexts.append (a:=r) h h'
 | .picture::r,b,h,h'=>Nexts.append (a:=r) h h'
 | .note::r,b,h,h'=>Nexts.append (a:=r) h h'
 | .leaf::r,b,h,h'=>Nexts.append (a:=r) h h'
 | .no::r,b,h,h'=>Nexts.append (a:=r) h h'
theorem ItemKs.nexts{ke:Kd}{ks:List Kd}(h:ItemKs ke ks):Nexts ks:=by
 rcases h with⟨k,rfl,n,_⟩ | ⟨rfl,_⟩
 ·cases k<;>first | trivial | exact absurd rfl n
 ·trivial
theorem ItemKs.may{ke:Kd}{ks:List Kd}(h:ItemKs ke ks):∀k∈ks,mayHold ke k=true:=by
 rcases h with⟨k,rfl,_,m⟩ | ⟨rfl,m1,m2⟩
 ·intro k' hk;have:k'=k:=by simpa using hk
  rw[this];exact m
 ·intro k' hk;rcases List.mem_cons.mp hk with rfl | hk
  ·exact m1
  ·have:k'=.text:=by simpa using hk
   rw[this];exact m2
theorem ItemKs.ne{ke:Kd}{ks:List Kd}(h:ItemKs ke ks):ks≠[]:=by
 rcases h with⟨k,rfl,_⟩ | ⟨rfl,_⟩<;>simp
theorem ItemKs.block{ke:Kd}{ks:List Kd}(h:ItemKs ke ks):∃k∈ks,k≠.aside:=by
 rcases h with⟨k,rfl,n,_⟩ | ⟨rfl,_⟩
 ·exact⟨k,by simp,n⟩
 ·exact⟨.text,by simp,by decide⟩
def Names(l:List Nd):Prop:=(l.filter fun d=>d.nm≠noName).map (·.nm) |>.Nodup
structure Book(l:List Nd):Prop where
 tree:∃d sub ks,l=d::sub∧d.e=-1∧d.k=.body∧Forest 0 1 1 sub ks∧Holds .body ks d.st
 form:∀d∈l,Form d
 names:Names l
def cap(R lv:Nat):Nat:=R+(if 4≤lv then 2 else if lv=3 then 12 else if lv=2 then 21 else 30)
end Bk
namespace L2
open PySem
theorem qaf{H:Hp}{p:Addr}(h:H p=none)(o:HO):Same H (upd H p o):=fun b u q=>by rw[qax (qar q h)];exact q
def KeepN(N:Addr→Prop)(H H':Hp):Prop:=∀b o,N b→H b=some o→H' b=some o
theorem KeepN.trans{N:Addr→Prop}{H H1 H2:Hp}(a:KeepN N H H1)(b:KeepN N H1 H2):KeepN N H H2:=fun c o n h=>b c o n (a c o n h)
theorem KeepN.mono{N N':Addr→Prop}{H H1:Hp}(a:KeepN N H H1)(h:∀b,N' b→N b):KeepN N' H H1:=fun c o n e=>a c o (h c n) e
theorem Same.keep{N:Addr→Prop}{H H':Hp}(s:Same H H'):KeepN N H H':=fun b o _ e=>s b o e
theorem KeepN.refl{N:Addr→Prop}{H:Hp}:KeepN N H H:=fun _ _ _ e=>e
end L2
namespace Bk
open PySem L2
def thV:Sum Str Int→V
 | .inl x=>.str x
 | .inr k=>.int k
def ItAt(N:Addr→Prop)(H:Hp)(v:V):Th→Prop
 | .int n=>v=.int n
 | .tri s x t=>∃a,v=.ref a∧N a∧H a=some (.tup [.str s.s,thV x,.int t])
theorem ItAt.keep{N N':Addr→Prop}{H H':Hp}{v:V}{x:Th}(h:ItAt N H v x)(k:KeepN N H H')(sub:∀b,N b→(H b).isSome=true→N' b):ItAt N' H' v x:=by
 cases x with
 | int n=>exact h
 | tri s x t =>
   obtain⟨a,e,n,g⟩:=h
   exact⟨a,e,sub a n (by rw[g];rfl),k _ _ n g⟩
def StAt(N:Addr→Prop)(H:Hp)(s:Addr)(l:List Th):Prop:=N s∧∃vs,H s=some (.lst vs)∧Paired (ItAt N H) vs l
structure NdAt(N:Addr→Prop)(H:Hp)(a:Addr)(d:Nd):Prop where
 na:N a
 ex:∃m s,H a=some (.tup [.int d.e,.str d.k.s,.str d.nm,.ref m,.ref s])∧N m∧H m=some (.lst (d.mks.map V.str))∧StAt N H s d.st
theorem StAt.keep{N N':Addr→Prop}{H H':Hp}{s:Addr}{l:List Th}(h:StAt N H s l)(k:KeepN N H H')(sub:∀b,N b→(H b).isSome=true→N' b):StAt N' H' s l:=by
 obtain⟨n,vs,g,p⟩:=h;exact⟨sub s n (by rw[g];rfl),vs,k _ _ n g,p.mono fun v x q=>q.keep k sub⟩
theorem NdAt.keep{N N':Addr→Prop}{H H':Hp}{a:Addr}{d:Nd}(h:NdAt N H a d)(k:KeepN N H H')(sub:∀b,N b→(H b).isSome=true→N' b):NdAt N' H' a d:=by
 obtain⟨na,m,s,g,nm,gm,st⟩:=h;exact⟨sub a na (by rw[g];rfl),m,s,k _ _ na g,sub m nm (by rw[gm];rfl),k _ _ nm gm,st.keep k sub⟩
abbrev NdsAt(N:Addr→Prop)(H:Hp)(as:List Addr)(ds:List Nd):Prop:=Paired (NdAt N H) as ds
theorem NdsAt.keep{N N':Addr→Prop}{H H':Hp}{as:List Addr}{ds:List Nd}(h:NdsAt N H as ds)(k:KeepN N H H')(sub:∀b,N b→(H b).isSome=true→N' b):NdsAt N' H' as ds:=h.mono fun a d q=>q.keep k sub
theorem NdsAt.get{N:Addr→Prop}{H:Hp}{as:List Addr}{ds:List Nd}(h:NdsAt N H as ds){i:Nat}{d:Nd}(e:ds[i]?=some d):∃a,as[i]?=some a∧NdAt N H a d:=by
 induction h generalizing i with
 | nil=>cases e
 | @cons a b l1 l2 q t ih =>
   cases i with
   | zero=>cases e;exact⟨a,rfl,q⟩
   | succ i=>exact ih (by simpa using e)
theorem NdsAt.at{N:Addr→Prop}{H:Hp}{as:List Addr}{ds:List Nd}(h:NdsAt N H as ds){i:Nat}{a:Addr}(e:as[i]?=some a):∃d,ds[i]?=some d∧NdAt N H a d:=by
 induction h generalizing i with
 | nil=>cases e
 | @cons a b l1 l2 q t ih =>
   cases i with
   | zero=>cases e;exact⟨b,rfl,q⟩
   | succ i=>exact ih (by simpa using e)
theorem NdsAt.append{N:Addr→Prop}{H:Hp}{as bs:List Addr}{ds es:List Nd}(p:NdsAt N H as ds)(h:NdsAt N H bs es):NdsAt N H (as++bs) (ds++es):=by
 induction p with
 | nil=>exact h
 | cons q t ih=>exact .cons q ih
def qbh(N:Addr→Prop)(H:Hp)(p:Addr)(ds:List Nd):Prop:=∃as,H p=some (.lst (as.map V.ref))∧NdsAt N H as ds
theorem qbA{as:List Addr}{i:Nat}{a:Addr}(e:as[i]?=some a):atI (as.map V.ref) ((i:Nat):Int)=some (.ref a):=qcj (by rw[List.getElem?_map,e];rfl)
end Bk
namespace L2
open PySem PySem.Spec PyProof.Rows
theorem b_enumerate:bootBuiltins "enumerate" = some (.type "enumerate"):=by decide +kernel
section
variable{X:Cx}{pins:List (Addr×Obj)}{σ:St}{H:Hp}{s:Shared}{h':Heap}{fp:List Addr}
theorem Inv.moved{t':Nat}(I:Inv X pins σ H s)(hf:∀b∈fp,FpOk X pins H b)(k:∀b o,b∉fp→s.heap.get? b=some o→h'.get? b=some o):Inv X pins σ H {s with heap:=h',toks:=t'}:=by
 refine I.step (g':=s.gens) (d':=s.drawn) (ch:=fp) (fun b hb=>?_) (fun b o _ _ hc e _=>k b o hc e) (fun b o _ _ hc e _=>⟨o.slots,k b o hc e⟩) (fun _ _ _ _ n=>n) (fun b o hc e=>⟨o,k b o hc e⟩) (fun _ _ q=>q) (fun _ _ _ q=>q) (fun b ps q=>⟨#[],by rw[q];simp⟩) (fun m hn=>?_) (fun a u q=>?_) I.bare
 ·obtain⟨_,f1,_,f3,f4,f5⟩:=hf b hb;exact⟨f3,f1,f4,f5⟩
 ·obtain⟨o,es,ep,e,r⟩:=hn;exact⟨o,es,ep,k _ _ (fun z=>(hf _ z).2.1 rfl) e,r⟩
 ·refine(I.hok a u q).stay (fun b v hb e=>k b v (fun z=>?_) e) (fun _ z=>z) fun _ _ z=>z
  have:=(hf b z).1;rcases hb with rfl | hb
  ·rw[q]at this;cases this
  ·rw[hb]at this;cases this
theorem Inv.trackN{D:Addr}{o:HO}(I:Inv X pins σ H s)(hs:∃s1 H1,Inv X pins σ H1 s1∧s1.heap.objs.size≤D)(hn:H D=none)(hex:∀b∈X.ex,b<D)(new:ObjOk X.prog X.w (upd H D o) s.heap D o):Inv X pins σ (upd H D o) s:=by
 obtain⟨s1,H1,I1,le⟩:=hs;refine I.track ?_ hn (Nat.ne_of_gt (Nat.lt_of_lt_of_le I1.lt le)) (fun x c e z=>?_) (fun p hp z=>?_) new
 ·cases e:X.s₀.heap.get? D with
  | none=>rfl
  | some u=>exact absurd (Nat.lt_of_lt_of_le (Heap.lt_size e) (Nat.le_trans I1.sz le)) (Nat.lt_irrefl _)
 ·obtain⟨v,q⟩:=I1.cell x c e;exact absurd (Nat.lt_of_lt_of_le q.lt (by rw[z];exact le)) (Nat.lt_irrefl _)
 ·exact absurd (Nat.lt_of_lt_of_le (Heap.lt_size (I1.pin p hp).1) (by rw[z];exact le)) (Nat.lt_irrefl _)
end
def Ite(K:PySem.W.Frag)(a:Addr):It :=
 ⟨fun i H=>∃xs x,SqL K H a xs∧xs[i]?=some x,fun i H x H'=>∃T y,H T=none∧x=.ref T∧H'=upd H T (.tup [.int (i:Nat),y])∧∀xs,SqL K H a xs→xs[i]?=some y,fun i H=>∃xs,SqL K H a xs∧xs.length≤i⟩
theorem turn_enum{P:Program}{w:World}{K:PySem.W.Frag}{elts:List Expr}{k1:Nat}{tp:Pos}(a e it:Addr)(hei:e≠it):Turn P w K (.Tuple elts k1 tp) (Ite K a) [e,it] e (fun i h=>(∃old,IsEnum h e it ((i:Nat):Int) old)∧h.IsListIter it a i) where
 mem:=by simp
 obj:=fun i h st b hb=>by
  obtain⟨⟨old,x⟩,o,e1,c,d⟩:=st;rcases List.mem_cons.mp hb with rfl | hb
  ·exact⟨_,x,fun v z=>by cases z⟩
  ·have:b=it:=by simpa using hb
   subst this;exact⟨o,e1,fun v z=>by rw[d]at z;cases z⟩
 keep:=fun i h h' st k=>by
  obtain⟨⟨old,x⟩,y⟩:=st;exact⟨⟨old,k e (by simp) _ x⟩,y.at fun o z=>k it (by simp) o z⟩
 item:=by
  intro X hP hw hK hc i pins s σ H E I hf st hg;subst hP hw hK;obtain⟨xs,x,hq,hx⟩:=hg;obtain⟨⟨old,st1⟩,st2⟩:=st;obtain⟨its,rv,p,hz⟩:=I.list hq;obtain⟨u,hu,ru⟩:=rv.get hx;refine wpAny_pyNext_enum_item st1 st2 p.isList (x:=u) (by simpa using hu) hei fun h' ho hit' hT hsz hk=>?_
  refine⟨_,rfl,wpAny_letOwnedTupleGo_enum ho fun h2 he2 sb=>?_⟩;have k2:∀b o,b∉[e,it]→s.heap.get? b=some o→h2.get? b=some o:=fun b o hb z=>(sb.2 b (fun q=>hb (by simp[q]))).trans (hk b o (fun q=>hb (by simp[q])) (fun q=>hb (by simp[q])) z)
  have elt:e<s.heap.objs.size:=Heap.lt_size st1;have ilt:it<s.heap.objs.size:=by obtain⟨o,z,_⟩:=st2;exact Heap.lt_size z
  have gT:h2.get? s.heap.objs.size=some {cls:=.type "tuple",data:=.seq #[.int i s.toks,u]}:=(sb.2 _ (Nat.ne_of_gt elt)).trans hT;have I1:Inv X pins σ H {s with heap:=h2,toks:=s.toks+1}:=I.moved hf k2;have hn:H s.heap.objs.size=none:=I.hok.fresh (Nat.le_refl _);refine⟨.ref s.heap.objs.size,upd H s.heap.objs.size (.tup [.int (i:Nat),x]),I1.track ?_ hn (Nat.ne_of_gt I.lt) (fun y c ec z=>?_) (fun q hq z=>?_) ?_,rfl,⟨s.heap.objs.size,x,hn,rfl,rfl,fun ys hy=>by rw[I.list_inj hy hq];exact hx⟩,⟨⟨u,?_⟩,hit'.at fun o z=>(sb.2 it (Ne.symm hei)).trans z⟩,fun b hb=>?_⟩
  ·cases z:X.s₀.heap.get? s.heap.objs.size with
   | none=>rfl
   | some u=>exact absurd (Nat.lt_of_lt_of_le (Heap.lt_size z) I.sz) (Nat.lt_irrefl _)
  ·obtain⟨v,q⟩:=I.cell y c ec;exact absurd q.lt (by rw[z];exact Nat.lt_irrefl _)
  ·exact absurd (Heap.lt_size (I.pin q hq).1) (by rw[z];exact Nat.lt_irrefl _)
  ·exact⟨by show 2≤sizeLine;decide,[.int i s.toks,u],.cons ⟨_,rfl⟩ (.cons ru .nil),_,gT,rfl,_,rfl⟩
  ·simpa using he2
  ·rw[qax (fun z=>by
    have:=hb;rw[z]at this;rcases List.mem_cons.mp this with q | q
    ·exact absurd elt (by rw[←q];exact Nat.lt_irrefl _)
    ·have q':s.heap.objs.size=it:=by simpa using q
     exact absurd ilt (by rw[←q'];exact Nat.lt_irrefl _))]
   exact(hf b hb).1
 done:=by
  intro X hP hw hK hc i pins s σ H E I hf st hg;subst hP hw hK;obtain⟨xs,hq,hx⟩:=hg;obtain⟨⟨old,st1⟩,st2⟩:=st;obtain⟨its,rv,p,hz⟩:=I.list hq;have hl:=rv.length;exact wpAny_pyNext_enum_end (I.ok.hd hc) st1 st2 p.isList (by simp;omega) fun h' eb=>⟨rfl,I.moved (t':=s.toks) hf fun b o hb z=>eb b o (fun q=>hb (by simp[q])) z⟩
 self:=fun _ _ _ _ _ st h=>by
  obtain⟨⟨old,x⟩,_⟩:=st;exact wpAny_pyIter_enum x h
def Its(x:Str):It:=⟨fun i _=>i<x.cps.size,fun i H v H'=>H'=H∧∃c,x.cps[i]?=some c∧v=.str ⟨#[c]⟩,fun i _=>x.cps.size≤i⟩
section
variable{X:Cx}{tg:Expr}
def iEnum(K:PySem.W.Frag)(ta:TA):TI:=fun σ H R=>ta σ H fun vs H1=>∃a,vs=[.ref a]∧(∃xs,SqL K H1 a xs)∧R (Ite K a) H1
theorem qeb{a:Expr}{ta:TA}{p pos tp:Pos}{elts:List Expr}{k1:Nat}(hg:Gl X "enumerate")(hm:X.mg "enumerate" = none)(ha:PA X [a] ta)(hs:starEach [a] X.env=[(false,eval a X.env)]:=by rfl):PI X (.Tuple elts k1 tp) (.Call (.Name "enumerate" p) [a] [] pos) (iEnum X.K ta):=by
 intro pins s σ H R I h;refine Call_ (qc8 I hg hm b_enumerate (PyProof.Rows.callWith_type1 (thn (ha pos pins s σ H _ I h) fun us s1 ⟨vs,H1,I1,r1,q1⟩=>?_) hs rfl));obtain⟨l,e,⟨xs,hq⟩,q⟩:=q1;subst e;cases r1 with
 | cons r rr =>
   cases rr
   cases r
   obtain⟨its,rv,pl,hz⟩:=I1.list hq
   refine call_enumerate_list pl.isList fun h' he hit hsz kp=>?_
   refine wpAny_pyIter_enum he ?_
   have I2:Inv X pins σ H1 {s1 with heap:=h'}:=I1.kept (t':=s1.toks) kp
   refine⟨s1.heap.objs.size+1,[s1.heap.objs.size+1,s1.heap.objs.size],_,_,H1,rfl,I2,turn_enum l _ _ (Nat.ne_of_gt (Nat.lt_succ_self _)),⟨⟨_,by simpa using he⟩,hit⟩,fun b hb=>?_,q⟩
   rcases List.mem_cons.mp hb with rfl | hb
   · exact I1.fpOk (Nat.le_succ _) (I1.hok.fresh (Nat.le_succ _))
   · have:b=s1.heap.objs.size:=by simpa using hb
     subst this
     exact I1.fpOk (Nat.le_refl _) (I1.hok.fresh (Nat.le_refl _))
end
end L2
namespace L2
open PySem PySem.Spec
section
variable{κ:Type}[DecidableEq κ]
def one1(l:List κ)(v:κ):List κ:=if v∈l then l else l++[v]
def met(val:Nat→κ)(i:Nat):List κ:=((List.range i).map val).foldl one1 []
theorem qdt(val:Nat→κ)(i:Nat):met val (i+1)=one1 (met val i) (val i):=by
 unfold met;rw[List.range_succ,List.map_append,List.foldl_append];rfl
theorem qfN(val:Nat→κ):∀i,(met val i).length≤i
 | 0=>Nat.le_refl _
 | i + 1 => by
   rw[qdt]
   unfold one1
   have:=qfN val i
   split
   · omega
   · rw[List.length_append,List.length_singleton];omega
theorem qeN(l:List κ)(v k:κ):decide (k∈one1 l v)=(decide (k∈l) || decide (k=v)):=by
 unfold one1
 by_cases z:v∈l
 ·rw[if_pos z]
  by_cases e:k=v
  ·subst e;simp[z]
  ·simp[e]
 ·rw[if_neg z];simp
theorem qdr(l:List κ)(v:κ):(one1 l v).length=if decide (v∈l)=true then l.length else l.length+1:=by
 unfold one1
 by_cases z:v∈l
 ·simp[z]
 ·simp[z]
theorem qel{prog:Program}{w:World}{knd:KeyKind prog w κ}{h:Heap}{a:Addr}{S S':κ→Bool}{n n':Nat}(x:h.SetOf knd a S n)(e:∀k,S k=S' k)(en:n=n'):h.SetOf knd a S' n':=by
 obtain rfl:S=S':=funext e;exact en ▸ x
end
section
variable{prog:Program}{w:World}{A:Around}{E:Value→Shared→Prop}{s:Shared}{κ:Type}[DecidableEq κ]{knd:KeyKind prog w κ}
abbrev qbm(led:Bool):Obj:={cls:=.type "set",dict:=none,data:=.set #[] 0 (.fresh 0 0 led)}
end
end L2
namespace L2
open PySem
def NotPlain(w:World)(h:Heap)(a:Addr):Prop:=∃o es ep t,h.get? a=some o∧o.data=.set es ep t∧(t.plain=false∨es.size=0)∧t.led=!(w.params.followText "set-order")
theorem stand_led(t:SetTable)(n:Nat):(t.orStandIn n).led=t.led:=by
 unfold SetTable.orStandIn
 split<;>rfl
theorem lay_led(t:SetTable)(es:Array (Int×Value))(h:Int)(x:Value):(layNew t es h x).2.1.led=t.led:=by
 unfold layNew
 split
 ·exact stand_led _ _
 ·rfl
theorem relay_led(t:SetTable)(es:Array (Int×Value))(n:Nat):(relayAll t es n).2.1.led=t.led:=by
 unfold relayAll;cases e:t.relaid (es.map (·.1)) n with
 | none=>rfl
 | some r =>
   obtain⟨t',order⟩:=r
   dsimp only
   split
   · unfold SetTable.relaid SetTable.laid at e
     cases e1:SetTable.layClean (SetTable.sizeAbove n-1) (es.map (·.1))with
     | none=>rw[e1]at e;cases e
     | some ow =>
       rw[e1]at e
       cases e
       rfl
   · rfl
theorem relay_plain(t:SetTable)(es:Array (Int×Value))(n:Nat)(h:t.plain=false):(relayAll t es n).2.1.plain=false:=by
 unfold relayAll;cases e:t.relaid (es.map (·.1)) n with
 | none=>rfl
 | some r =>
   obtain⟨t',order⟩:=r
   dsimp only
   split
   · unfold SetTable.relaid SetTable.laid at e
     cases e1:SetTable.layClean (SetTable.sizeAbove n-1) (es.map (·.1))with
     | none=>rw[e1]at e;cases e
     | some ow =>
       rw[e1]at e
       cases e
       exact h
   · rfl
section
variable{prog:Program}{w:World}{A:Around}{E:Value→Shared→Prop}{s:Shared}{κ:Type}[DecidableEq κ]{knd:KeyKind prog w κ}
theorem qeG{g:Bool→Sem Unit}(hg:∀ (b:Bool) (s1:Shared) (Q1:Unit→Shared→Prop),Q1 () s1→wpAny (model prog w) A (g b) Q1 E s1){a:Addr}{o:Obj}{es:Array (Int × Value)}{ep:Nat}{t:SetTable}(ho:s.heap.get? a=some o)(hex:o.ExactSet)(hd:o.data=.set es ep t){es1:Array (Int × Value)}{t2:SetTable}{S':κ→Bool}(hel:ElemsOf knd es1.toList)(hme:∀ k',S' k'=true↔∃ e∈es1.toList,knd.is k' e.2=true)(hb:es1.size < scanBound)(hf:t2.fits es1.size=true)(hp2:t2.plain=false)(hl2:t2.led=!(w.params.followText "set-order")){dm:Bool}{R:Option Bool→Shared→Prop}(fin:∀ h',Heap.SameBut a s.heap h'→h'.SetOf knd a S' es1.size→NotPlain w h' a→R (some true) { s with heap:=h' }) :
  wpAny (model prog w) A (do
   storeSet a es1 t2
   if (!dm && t2.tooFull)=true then do
       g (relayAll t2 es1 (SetTable.grown es1.size)).2.2
       storeSet a (relayAll t2 es1 (SetTable.grown es1.size)).1 (relayAll t2 es1 (SetTable.grown es1.size)).2.1
       pure (some true)
    else pure (some true)) R E s:=by
 obtain ⟨g1,x1⟩:=SetOf_store (knd:=knd) ho hex hd hel hme hb hf
 have b1:=Heap.SameBut.update s.heap a (Obj.putSet es1 t2)
 refine wpAny_bind (wpAny_storeSet_of ho hd ?_ (fits_of_scanBound hb))
 by_cases full:(!dm && t2.tooFull)=true
 ·rw [if_pos full]
  have pm:=relayAll_perm t2 es1 (SetTable.grown es1.size)
  have ft:=relayAll_fits t2 es1 (SetTable.grown es1.size)
  have pl:=relay_plain t2 es1 (SetTable.grown es1.size) hp2
  have ld:=relay_led t2 es1 (SetTable.grown es1.size)
  generalize relayAll t2 es1 (SetTable.grown es1.size)=Z at pm ft pl ld ⊢
  obtain ⟨es2,t3,gv⟩:=Z
  dsimp only at pm ft pl ld ⊢
  have sz:es2.size=es1.size:=by simpa using pm.length_eq
  have hb2:es2.size < scanBound:=by omega
  refine wpAny_bind (hg gv _ _ ?_)
  refine wpAny_bind (wpAny_storeSet_of g1 rfl ?_ (fits_of_scanBound hb2))
  obtain ⟨g2,x2⟩:=SetOf_store (knd:=knd) (S':=S') g1 hex rfl (hel.perm pm) (fun k'=>(hme k').trans ⟨fun z=>⟨z.choose,pm.mem_iff.mpr z.choose_spec.1,z.choose_spec.2⟩,fun z=>⟨z.choose,pm.mem_iff.mp z.choose_spec.1,z.choose_spec.2⟩⟩) hb2 ft
  rw [sz] at x2
  exact wpAny_pure (fin _ (b1.trans (Heap.SameBut.update _ a _)) x2 ⟨_,_,_,_,g2,rfl,.inl pl,ld.trans hl2⟩)
 ·rw [if_neg full]
  exact wpAny_pure (fin _ b1 x1 ⟨_,_,_,_,g1,rfl,.inl hp2,hl2⟩)
theorem set_add{a:Addr}{S:κ→Bool}{n:Nat}{k:κ}{x:Str}{tk:Tok}{Q:Bool→Shared→Prop}(hkey:knd.is k (.str x tk)=true)(hS:s.heap.SetOf knd a S n)(hP:NotPlain w s.heap a)(room:n+1<scanBound)(fin:∀h',Heap.SameBut a s.heap h'→h'.SetOf knd a (fun k'=>S k' || decide (k'=k)) (if S k then n else n+1)→NotPlain w h' a→Q (!S k) {s with heap:=h'}) :
  wpAny (model prog w) A (setAddHashed a (.str x tk) (knd.hash k)) Q E s:=by
 obtain⟨o,es,ep,t,ho,hex,hd,hel,hme,hb,hf,hn⟩:=hS;unfold setAddHashed setAddHashedIn;refine wpAny_holding (wpAny_bind (wpAny_setState_of ho hd hf ?_));dsimp only;rw[byScan_of (x:=.str x tk) rfl hb hel,if_pos rfl];unfold setAddByScan;refine wpAny_bind (wpAny_bind (wpAny_rule (wpAny_bind (wpAny_setScan_of hkey ho hd hf hel ?_))));cases there:List.findIdx? (fun e=>knd.is k e.2) es.toList with
 | some j =>
   dsimp only
   obtain⟨hj,hpj,_⟩:=List.findIdx?_eq_some_iff_getElem.mp there
   have yes:S k=true:=(hme k).mpr ⟨_,List.getElem_mem hj,hpj⟩
   refine wpAny_pure (wpAny_pure ?_)
   have q:=fin s.heap (Heap.SameBut.refl a s.heap) ⟨o,es,ep,t,ho,hex,hd,hel,fun k'=>?_,hb,hf,by rw[if_pos yes];exact hn⟩ hP
   · rw[yes]at q
     exact q
   · rw[←hme k',Bool.or_eq_true,decide_eq_true_eq]
     constructor
     · rintro(z | rfl)
       · exact z
       · exact yes
     · exact .inl
 | none =>
   dsimp only
   have no:S k=false:=Bool.eq_false_iff.mpr fun z=>by
     obtain⟨e,he,hp⟩:=(hme k).mp z
     exact absurd hp (by rw[List.findIdx?_eq_none_iff.mp there e he];exact Bool.false_ne_true)
   have pm:=layNew_perm t es (knd.hash k) (.str x tk)
   have ft:=layNew_fits t es (knd.hash k) (.str x tk)
   have ld:=lay_led t es (knd.hash k) (.str x tk)
   have ld0:t.led=!(w.params.followText "set-order"):=by
     obtain⟨o',es',ep',t',e1,e2,_,e3⟩:=hP
     rw[ho]at e1
     cases e1
     rw[hd]at e2
     cases e2
     exact e3
   rw[ld0]at ld
   generalize layNew t es (knd.hash k) (.str x tk)=Z at pm ft ld⊢
   obtain⟨es1,t1,dm,gv⟩:=Z
   dsimp only at pm ft ld⊢
   rw[Array.toList_push]at pm
   have sz:es1.size=n+1:=by
     have:=pm.length_eq
     rw[List.length_append,Array.length_toList,Array.length_toList,hn]at this
     exact this
   have quiet:∀(b:Bool) (s1:Shared) (Q1:Unit→Shared→Prop),Q1 () s1→wpAny (model prog w) A (match b with | true=>rule "set.scan.the-table-gave-way" | false=>pure ()) Q1 E s1:=fun b s1 Q1 q=>by
     cases b with
     | true=>exact wpAny_rule q
     | false=>exact wpAny_pure q
   have last:∀h',Heap.SameBut a s.heap h'→h'.SetOf knd a (fun k'=>S k' || decide (k'=k)) es1.size→NotPlain w h' a→Q true {s with heap:=h'}:=fun h' sb x' np=>by
     have q:=fin h' sb
     rw[no,if_neg Bool.false_ne_true,←sz]at q
     exact q x' np
   refine wpAny_bind (quiet _ _ _ ?_)
   have el1:ElemsOf knd es1.toList:=(hel.push hkey rfl).perm pm
   have me1:=fun k'=>mem_push_iff hkey hme pm k'
   have hb1:es1.size<scanBound:=by omega
   cases pl:t1.plain with
   | true =>
     rw[if_pos rfl,hashByValue_scannable 8 (x:=.str x tk) rfl]
     refine wpAny_bind (wpAny_pure ?_)
     refine qeG quiet ho hex hd el1 me1 hb1 (t2:={t1 with plain:=false}) (SetTable.fits_plain_off ft) rfl ld fun h' sb x' np=>?_
     exact wpAny_pure (last h' sb x' np)
   | false =>
     rw[if_neg Bool.false_ne_true]
     refine wpAny_bind (wpAny_pure ?_)
     refine qeG quiet ho hex hd el1 me1 hb1 (t2:=t1) ft pl ld fun h' sb x' np=>?_
     exact wpAny_pure (last h' sb x' np)
end
end L2
namespace L2
open PySem PySem.Spec
theorem NotPlain.at{w:World}{h h':Heap}{a:Addr}(x:NotPlain w h a)(k:∀o,h.get? a=some o→h'.get? a=some o):NotPlain w h' a:=by
 obtain⟨o,es,ep,t,e,r⟩:=x;exact⟨o,es,ep,t,k _ e,r⟩
section
variable{prog:Program}{w:World}{A:Around}{E:Value→Shared→Prop}{s:Shared}
theorem set_new(a:Value){Q1:Value→Shared→Prop}(q:Q1 (.ref s.heap.objs.size) {s with heap:=s.heap.push (qbm (!(w.params.followText "set-order")))}) :
  codeAny (model prog w) A (.call (.builtin "set.__new__") ⟨[.type "set",a],[]⟩) (wants Q1 E) s:=by
 refine codeAny_of_tree ?_;show wpAny _ A.in1 (checkBuiltinCall "set.__new__" ⟨[.type "set",a],[]⟩>>=fun _=>again (.builtin "set.__new__" ⟨[.type "set",a],[]⟩)) _ _ s;refine wpAny_bind (wpAny_of_eq (F.newCall_set_1 a) (wpAny_pure ⟨plainId_quiet F.plain_set_new _,codeAny_builtin F.entry_set_new ?_⟩));rw[Around.under_plainId F.plain_set_new _];unfold Builtin.«set.__new__» Builtin.Frozenset.newClass;have e1:=sub_set_self;obtain⟨h0,g0,d0,t0,o0⟩:=s;dsimp only
 wp_walk
 refine wpAny_askSetting (wpAny_pure ?_);dsimp only;simp only[newObj];exact wpAny_bind (wpAny_alloc (wpAny_pure (wpAny_pure q)))
end
section
variable{prog:Program}{w:World}{A:Around}{R:Result→Shared→Prop}{J:Addr}{fp wr:List Addr}{G:Array GenState→Array GenState→Prop}{n:Nat}{P:Nat→Value→Prop}{St:Nat→Shared→Prop}{κ:Type}[DecidableEq κ]{knd:KeyKind prog w κ}
theorem upd_loopS(W:WalksS prog w A.in1 J fp wr G n P St)(S:Addr)(nS:S∉fp)(val:Nat→κ)(hv:∀i v,P i v→∃x t,v=.str x t∧knd.is (val i) (.str x t)=true)(hb:n+1<scanBound) :
  ∀(k i:Nat) (s:Shared),n-i=k→i≤n→St i s→s.heap.SetOf knd S (fun q=>decide (q∈met val i)) (met val i).length→NotPlain w s.heap S →
   (∀s',Moved (S::wr) G s s'→s'.heap.SetOf knd S (fun q=>decide (q∈met val n)) (met val n).length→NotPlain w s'.heap S→R (.ok (.ret .none)) s') →
   codeAny (model prog w) A (.builtin "set.update.loop" ⟨[.ref S,.ref J],[]⟩) R s:=by
 have nSw:S∉wr:=fun q=>nS (W.sub _ q)
 have sub:∀b∈wr,b∈S::wr:=fun b q=>List.mem_cons_of_mem _ q
 intro k
 induction k with
 | zero =>
   intro i s hk hi st x np fin
   obtain rfl:i=n:=by omega
   refine codeAny_builtin PyProof.Rows.F.entry_set_update_loop ?_
   rw[Around.under_plainId PyProof.Rows.F.plain_set_update_loop _]
   show wpAny (model prog w) A.in1 (pyNext (.ref J)>>=_) _ _ s
   refine wpAny_bind (W.done s _ _ st fun s1 mv=>?_)
   show wpAny (model prog w) A.in1 (ret Value.none) _ _ s1
   refine wpAny_pure (fin s1 (mv.mono sub) ?_ (np.at fun o e=>mv.heap S _ nSw e))
   obtain⟨o,es,ep,tb,ho,r⟩:=x
   exact⟨o,es,ep,tb,mv.heap S _ nSw ho,r⟩
 | succ k ih =>
   intro i s hk hi st x np fin
   have lt:i<n:=by omega
   refine codeAny_builtin PyProof.Rows.F.entry_set_update_loop ?_
   rw[Around.under_plainId PyProof.Rows.F.plain_set_update_loop _]
   show wpAny (model prog w) A.in1 (pyNext (.ref J)>>=_) _ _ s
   refine wpAny_bind (W.item i s _ _ lt st fun v s1 hP st1 mv=>?_)
   obtain⟨tx,tt,rfl,kv⟩:=hv i v hP
   have np1:NotPlain w s1.heap S:=np.at fun o e=>mv.heap S _ nSw e
   have x1:s1.heap.SetOf knd S (fun q=>decide (q∈met val i)) (met val i).length:=by
     obtain⟨o,es,ep,tb,ho,r⟩:=x
     exact⟨o,es,ep,tb,mv.heap S _ nSw ho,r⟩
   show wpAny (model prog w) A.in1 (holding [Value.str tx tt] (setAdd S (Value.str tx tt))>>=_) _ _ s1
   refine wpAny_bind (wpAny_holding ?_)
   unfold setAdd
   refine wpAny_holding ?_
   refine wpAny_bind (knd.pyHash kv ?_)
   have room:(met val i).length+1<scanBound:=by have:=qfN val i;omega
   refine set_add (knd:=knd) (s:={s1 with toks:=s1.toks+1}) kv x1 np1 room fun h' sb x2 np2=>?_
   have x3:h'.SetOf knd S (fun q=>decide (q∈met val (i+1))) (met val (i+1)).length :=
     qel x2 (fun q=>by rw[qdt,qeN]) (by rw[qdt,qdr])
   refine wpAny_pure ⟨plainId_quiet PyProof.Rows.F.plain_set_update_loop _,ih (i+1) _ (by omega) lt (W.frame _ s1 _ _ st1 (Nat.le_succ _) fun b hb o e=>?_) x3 np2 fun s2 mv2 x4 np4=>?_⟩
   · rw[sb.2 b (fun z:b=S=>nS (by rw[←z];exact hb))];exact e
   · refine fin s2 (Moved.trans W.gtrans ((mv.mono sub).then_heap (Nat.le_succ _) fun b o hb e=>?_) mv2) x4 np4
     rw[sb.2 b (fun z:b=S=>hb (by rw[z];exact List.mem_cons_self))];exact e
end
section
variable{prog:Program}{w:World}{A:Around}{E:Value→Shared→Prop}{s:Shared}{κ:Type}[DecidableEq κ]{knd:KeyKind prog w κ}
theorem set_fromS{l:Addr}{its:Array Value}{val:Nat→κ}{Q:Value→Shared→Prop}(hh:A.handled=none)(hl:s.heap.IsList l its)(hv:∀(i:Nat) (v:Value),its[i]?=some v→∃x t,v=.str x t∧knd.is (val i) (.str x t)=true)(hb:its.size+1<scanBound)(fin:∀(h':Heap) (tk:Nat),h'.SetOf knd s.heap.objs.size (fun q=>decide (q∈met val its.size)) (met val its.size).length→NotPlain w h' s.heap.objs.size→(∀b o,b<s.heap.objs.size→s.heap.get? b=some o→h'.get? b=some o) →
   Q (.ref s.heap.objs.size) {s with heap:=h',toks:=tk}) :
  wpAny (model prog w) A (call (.type "set") [.ref l]) Q E s:=by
 obtain⟨c1,c2,m1⟩:=F.called_set.mro;have m2:=F.called_set.made;have m3:=F.called_set.sub;refine wpAny_call (codeAny_of_tree ?_);show wpAny (model prog w) _ (callAny (.type "set") _) _ _ _;refine wpAny_pure ⟨Code.quiet_builtin _ (by decide +kernel),codeAny_builtin F.entry_type_call ?_⟩;rw[Around.under_plain (weight_type_call_type "set" [.ref l] []) rfl];have m4:=F.called_set.notType;have m5:=F.called_set.canCreate;have m6:=F.typeCall_set_1 (.ref l)
 repeat (any_goals (first | assumption | wp_step))
 refine codeAny_mono (set_new (.ref l) (E:=E) (Q1:=fun ob s1=>∃led:Bool,ob=.ref s.heap.objs.size∧s1={s with heap:=s.heap.push (qbm led)}∧led=!(w.params.followText "set-order")) ⟨_,rfl,rfl,rfl⟩) fun r s1 hr=>?_
 rcases r with e | fl
 ·exact hr
 rcases fl with _ | _ | _ | ob<;>first | exact hr.elim | skip
 obtain⟨led,rfl,rfl,hled⟩:=hr;have gS:(s.heap.push (qbm led)).get? s.heap.objs.size=some (qbm led):=Heap.get?_push_size _ rfl;have tS:Shared.TypeIs {s with heap:=s.heap.push (qbm led)} (.ref s.heap.objs.size) "set":=⟨_,gS,rfl⟩;have q1:=F.called_set.init.lookup;have q2:=F.called_set.init.bind (.ref s.heap.objs.size)
 repeat (any_goals (first | assumption | wp_step))
 refine codeAny_mono (codeAny_call_builtin (R:=wants (fun r s2=>r=.none∧∃h' tk,s2={s with heap:=h',toks:=tk}∧h'.SetOf knd s.heap.objs.size (fun q=>decide (q∈met val its.size)) (met val its.size).length∧NotPlain w h' s.heap.objs.size ∧
   (∀b o,b<s.heap.objs.size→s.heap.get? b=some o→h'.get? b=some o)) E) F.called_set.init.plain F.entry_set_init (check_set_init_1 tS ?_)) fun r2 s2 hr2=>?_
 ·obtain⟨ol,hol,hcl,nl,hdl⟩:=hl;obtain⟨z1,z2,z3,z4⟩:=ol;simp only at hcl hdl;subst hcl hdl;have hol1:(s.heap.push (qbm led)).get? l=some ⟨.type "list",z2,.seq its nl,z4⟩:=Heap.get?_push_of_some _ hol;have e1:=F.sub_list_set;have e2:=F.sub_list_frozenset;have e3:(Value.type "list" == Value.type "dict")=false:=by decide
  have il:(s.heap.push (qbm led)).IsList l its:=⟨_,hol1,rfl,nl,rfl⟩;unfold Builtin.«set.__init__» noKeywords Builtin.Frozenset.updateFrom;generalize ePI:pyIter=PI
  wp_walk
  subst ePI;refine wpAny_pyIter_list il ?_;refine wpAny_bind (wpAny_runValue ?_);have lS:l<s.heap.objs.size:=Heap.lt_size hol;have h3:A.in1.in1.in1.handled=none:=by simp[hh]
  have nI:l≠(s.heap.push (qbm led)).objs.size:=by rw[Heap.size_push];exact Nat.ne_of_lt (Nat.lt_succ_of_lt lS)
  have nS:s.heap.objs.size∉[(s.heap.push (qbm led)).objs.size,l]:=by
   rw[Heap.size_push];intro z;rcases List.mem_cons.mp z with z | z
   ·exact absurd z (Nat.ne_of_lt (Nat.lt_succ_self _))
   ·rcases List.mem_cons.mp z with z | z
    ·exact absurd z.symm (Nat.ne_of_lt lS)
    ·cases z
  refine upd_loopS (knd:=knd) ((Walks.list h3 _ l nI its).toS) s.heap.objs.size nS val hv hb (its.size-0) 0 _ (by omega) (Nat.zero_le _) ⟨⟨_,Heap.get?_push_size _ rfl,rfl,rfl⟩,(il.push _)⟩ ?x0 ⟨_,_,_,_,Heap.get?_push_of_some _ gS,rfl,.inr rfl,hled⟩ ?xR
  case x0 =>
   exact qel ((PyProof.Rows.setObjOf_fresh (knd:=knd) led).setOf (Heap.get?_push_of_some _ gS) (by unfold scanBound;omega)) (fun q=>by simp[met]) rfl
  case xR =>
   intro s' mv x np;obtain⟨h',g',d',tk',os'⟩:=s';obtain rfl:g'=s.gens:=mv.gens;obtain rfl:d'=s.drawn:=mv.drawn;obtain rfl:os'=s.os:=mv.os;show wpAny (model prog w) _ _ _ _ _;refine wpAny_pure ?_;show wpAny (model prog w) _ (ret Value.none) _ _ _;refine wpAny_pure ⟨rfl,h',tk',rfl,x,np,fun b o hb e=>?_⟩;refine mv.heap b o (fun z=>?_) (Heap.get?_push_of_some _ (Heap.get?_push_of_some _ e));rcases List.mem_cons.mp z with z | z
   ·exact absurd z (Nat.ne_of_lt hb)
   ·have z':b=(s.heap.push (qbm led)).objs.size:=by simpa using z
    rw[Heap.size_push]at z';exact absurd z' (Nat.ne_of_lt (Nat.lt_succ_of_lt hb))
 ·rcases r2 with e | fl2
  ·exact hr2
  rcases fl2 with _ | _ | _ | r<;>first | exact hr2.elim | skip
  obtain⟨rfl,h',tk,rfl,x,np,kp⟩:=hr2
  repeat (any_goals (first | assumption | wp_step))
  exact fin _ _ x np kp
end
end L2
namespace L2
open PySem
theorem sit_next:Slot "set_iterator" "__next__" "set_iterator.__next__" :=
 .of (owner := "set_iterator") (n := "__next__") (by rw[typeLookup_type,builtinLookup_eq_fast];kernel_rfl) (by decide +kernel) (by decide +kernel) (by decide +kernel) (by first | exact .inl (by decide +kernel) | exact .inr (by decide +kernel)) (by rw[isSubtype_type];kernel_rfl)
theorem sit_iter:Slot "set_iterator" "__iter__" "set_iterator.__iter__" :=
 .of (owner := "set_iterator") (n := "__iter__") (by rw[typeLookup_type,builtinLookup_eq_fast];kernel_rfl) (by decide +kernel) (by decide +kernel) (by decide +kernel) (by first | exact .inl (by decide +kernel) | exact .inr (by decide +kernel)) (by rw[isSubtype_type];kernel_rfl)
theorem ent_sit_next:entryFor table "set_iterator.__next__" = some Builtin.«set_iterator.__next__»:=entryFor_of_tree (by kernel_rfl)
theorem ent_sit_iter:entryFor table "set_iterator.__iter__" = some Builtin.«dict_keyiterator.__iter__» :=
 entryFor_alias (id' := "dict_keyiterator.__iter__") (by kernel_rfl) (by first | rfl | decide +kernel) (by decide +kernel) (by kernel_rfl)
theorem ent_set_iter:entryFor table "set.__iter__" = some Builtin.«frozenset.__iter__» :=
 entryFor_alias (id' := "frozenset.__iter__") (by kernel_rfl) (by first | rfl | decide +kernel) (by decide +kernel) (by kernel_rfl)
theorem arg_sit_next(a:Value):argsOk "set_iterator.__next__" ⟨[a],[]⟩:=by unfold argsOk;kernel_rfl
theorem arg_sit_iter(a:Value):argsOk "set_iterator.__iter__" ⟨[a],[]⟩:=by unfold argsOk;kernel_rfl
def SIt(h:Heap)(it:Addr)(f:Value)(i:Nat)(d:Addr)(n ep:Nat):Prop:=h.get? it=some {cls:=.type "set_iterator",data:=.fields #[f,.int i 0,.ref d,.int n 0,.int ep 0]}
def SAt(h:Heap)(d:Addr)(es:Array (Int×Value))(ep:Nat)(t:SetTable):Prop:=∃o,h.get? d=some o∧o.data=.set es ep t∧t.fits es.size=true
theorem qcq{α:Type}:∀(l:List α) (i:Nat) (h:i<l.length),List.Perm (l[i]::l.eraseIdx i) l
 | x::l,0,h=>List.Perm.refl _
 | x :: l, i + 1, h => by
   have hi:i<l.length:=by simpa using h
   show List.Perm (l[i]::x::l.eraseIdx i) (x::l)
   exact(List.Perm.swap _ _ _).trans (List.Perm.cons _ (qcq l i hi))
theorem qcC{α:Type}(next:Nat→Nat):∀(fuel k:Nat) (left:List α) (out:Array α),left.length≤fuel→List.Perm (pickOrder.go next fuel k left out).toList (out.toList++left)
 | 0, k, left, out, h => by
   have:left=[]:=List.length_eq_zero_iff.mp (by omega)
   subst this
   simp[pickOrder.go]
 | fuel + 1, k, left, out, h => by
   unfold pickOrder.go
   cases left with
   | nil=>simp
   | cons y ys =>
     have hlt:next k % (y::ys).length<(y::ys).length:=Nat.mod_lt _ (by simp)
     rw[List.getElem?_eq_getElem hlt]
     dsimp only
     refine(qcC next fuel (k+1) _ _ (by rw[List.length_eraseIdx_of_lt hlt];omega)).trans ?_
     rw[Array.toList_push,List.append_assoc]
     refine List.Perm.append_left _ ?_
     exact qcq _ _ hlt
theorem qcR{α:Type}(next:Nat→Nat)(xs:Array α):List.Perm (pickOrder next xs).toList xs.toList:=by
 have:=qcC next xs.size 0 xs.toList #[] (by simp)
 simpa[pickOrder]using this
section
variable{prog:Program}{w:World}{A:Around}{E:Value→Shared→Prop}{s:Shared}
theorem choose_any{src:Source}{n:Nat}{Q:Nat→Shared→Prop}(hn:n≠0)(q:∀k d',k<n→Q k {s with drawn:=d'}):wpAny (model prog w) A (choose src n) Q E s:=fun Γ p hΓ=>by
 show Sem.wp _ _ (Sem.choose _ _ Sem.pure) _ _ _ _;rw[Sem.wp_choose];exact⟨hn,q _ _ (Nat.mod_lt _ (Nat.pos_of_ne_zero hn))⟩
theorem qdC{α:Type}:∀(n:Nat) (xs:List α) (s:Shared) (Q:List α→Shared→Prop),xs.length≤n→(∀ys d',ys.Perm xs→Q ys {s with drawn:=d'})→wpAny (model prog w) A (drawOrder n xs) Q E s
 | 0, xs, s, Q, h, q => by
   have:xs=[]:=List.length_eq_zero_iff.mp (by omega)
   subst this
   exact wpAny_pure (q [] s.drawn (List.Perm.refl _))
 | n+1,[],s,Q,h,q=>wpAny_pure (q [] s.drawn (List.Perm.refl _))
 | n + 1, x :: xs, s, Q, h, q => by
   unfold drawOrder
   refine wpAny_bind (choose_any (by simp) fun k d' hlt=>?_)
   rw[List.getElem?_eq_getElem hlt]
   dsimp only
   refine wpAny_bind (qdC n _ _ _ (by rw[List.length_eraseIdx_of_lt hlt];omega) fun ys d' pm=>wpAny_pure ?_)
   exact q _ _ ((List.Perm.cons _ pm).trans (qcq _ _ hlt))
theorem qc5{it:Addr}{f:Value}{i d n ep:Nat}{Q:Option Value→Shared→Prop}(hit:SIt s.heap it f i d n ep)(h:wpAny (model prog w) A.in1 (Builtin.«set_iterator.__next__» ⟨[.ref it],[]⟩) (fun fin s'=>∃v,fin=.done (.ret v)∧Q (some v) s') (fun e s'=>wpAny (model prog w) A (isInstance e (.type "StopIteration")) (fun b s2=>b=true∧Q none s2) E s') s) :
  wpAny (model prog w) A (pyNext (.ref it)) Q E s:=by
 have hT:s.TypeIs (.ref it) "set_iterator":=⟨_,hit,rfl⟩;unfold pyNext;refine wpAny_bind (wpAny_attempt (wpAny_callSpecial?_slot (name:=Str.ofString "__next__") hT sit_next (wpAny_call_entry sit_next hT ent_sit_next ?_ (arg_sit_next _))));refine wpAny_mono h (fun fin s' q=>?_) fun e s' q=>?_
 ·obtain⟨v,rfl,q⟩:=q;exact⟨v,rfl,wpAny_pure q⟩
 ·refine wpAny_bind (wpAny_mono q (fun b s2 z=>?_) fun _ _ z=>z);obtain⟨rfl,z⟩:=z;exact wpAny_pure z
end
end L2
namespace L2
open PySem
section
variable{prog:Program}{w:World}{A:Around}{E:Value→Shared→Prop}{s:Shared}
theorem SIt.set{h:Heap}{it:Addr}{f g:Value}{i j d n ep:Nat}(x:SIt h it f i d n ep):SIt (h.update it (Obj.mapFields (fun vs=>(vs.setIfInBounds 0 g).setIfInBounds 1 (rawInt j)))) it g j d n ep:=by
 unfold SIt;rw[Heap.get?_update_self _ x rfl];rfl
theorem qdp{Q:Option Value→Shared→Prop}{R:PySem.Fin→Shared→Prop}(hh:A.handled=none)(s':Shared)(hQ:∀h',(∀b o,s'.heap.get? b=some o→h'.get? b=some o)→Q none {s' with heap:=h'}) :
  wpAny (model prog w) A.in1 (newExc (.type "StopIteration") []>>=raiseNew) R (fun e s'=>wpAny (model prog w) A (isInstance e (.type "StopIteration")) (fun b s2=>b=true∧Q none s2) E s') s':=by
 refine wpAny_bind ?_;simp only[newExc,newTuple];refine wpAny_bind (wpAny_newObj_type ?_ (by size_fits));refine wpAny_bind (m:=firstArgMember _ _) (wpAny_of_eq (a:=Value.none) (by first | rfl | (simp only[firstArgMember];rfl)) ?_);refine wpAny_newObj_type ?_ (by size_fits);simp only[raiseNew];refine wpAny_bind (wpAny_handled ?_);rw[show A.in1.handled=none from hh];refine wpAny_bind (wpAny_pure (wpAny_throw ?_));refine wpAny_isInstance (T := "StopIteration") (b:=true) ⟨_,Heap.get?_push_size _ rfl,rfl⟩ isSubtype_stop ?_;exact⟨rfl,hQ _ fun b o e=>Heap.get?_push_of_some _ (Heap.get?_push_of_some _ e)⟩
theorem qbU{it:Addr}{f:Value}{i d n ep:Nat}{es:Array (Int × Value)}{t:SetTable}{R:PySem.Fin→Shared→Prop}{Ex:Value→Shared→Prop}(hit:SIt s.heap it f i d n ep)(hs:SAt s.heap d es ep t)(hn:es.size=n)(h:wpAny (model prog w) A (match f with
   | .int slot _ => do
     match ← setNext d slot.toNat i ep with
     | some (x, next) => do
       setField (.ref it) 0 (rawInt next)
       setField (.ref it) 1 (rawInt ((i:Int)+1))
       ret x
     | none=>do setField (.ref it) 2 .none; (newExc (.type "StopIteration") [] >>= raiseNew)
   | first => do
     let some places ← seqItems? first | unsupported "internal:set_iterator"
     match places[i]? with
     | some (.int place _) => do
       let x ← setNextDrawn d place.toNat ep
       setField (.ref it) 1 (rawInt ((i:Int)+1))
       ret x
     | some _=>unsupported "internal:set_iterator"
     | none=>do setField (.ref it) 0 (rawInt 0); setField (.ref it) 2 .none; (newExc (.type "StopIteration") [] >>= raiseNew)) R Ex s) :
  wpAny (model prog w) A (Builtin.«set_iterator.__next__» ⟨[.ref it],[]⟩) R Ex s:=by
 obtain ⟨o,ho,hd,hf⟩:=hs
 unfold Builtin.«set_iterator.__next__»
 refine wpAny_bind (wpAny_pure ?_)
 refine wpAny_bind (wpAny_fieldsOf hit rfl ?_)
 dsimp only
 refine wpAny_bind (wpAny_setEntries_of ho hd hf ?_)
 rw [hn,if_neg (by simp)]
 cases f with
 | int slot tk=>exact h
 | _=>exact h
end
end L2
namespace L2
open PySem
theorem SIt.turn{h:Heap}{it:Addr}{f:Value}{i d n ep:Nat}(x:SIt h it f i d n ep):SIt (h.update it (Obj.mapFields (·.setIfInBounds 1 (rawInt ((i:Int)+1))))) it f (i+1) d n ep:=by
 unfold SIt;rw[Heap.get?_update_self _ x rfl];rfl
theorem SIt.slot{h:Heap}{it:Addr}{f:Value}{i d n ep:Nat}(x:SIt h it f i d n ep)(k:Nat):SIt (h.update it (Obj.mapFields (·.setIfInBounds 0 (rawInt k)))) it (.int k 0) i d n ep:=by
 unfold SIt;rw[Heap.get?_update_self _ x rfl];rfl
theorem SIt.at{h h':Heap}{it:Addr}{f:Value}{i d n ep:Nat}(x:SIt h it f i d n ep)(k:∀o,h.get? it=some o→h'.get? it=some o):SIt h' it f i d n ep:=k _ x
theorem SAt.at{h h':Heap}{d:Addr}{es:Array (Int×Value)}{ep:Nat}{t:SetTable}(x:SAt h d es ep t)(k:∀o,h.get? d=some o→h'.get? d=some o):SAt h' d es ep t:=by
 obtain⟨o,e,r⟩:=x;exact⟨o,k _ e,r⟩
theorem qaS{h:Heap}{it b:Addr}{f:Obj→Obj}{o:Obj}(hb:b≠it)(e:h.get? b=some o):(h.update it f).get? b=some o:=(Heap.get?_update_other _ _ (Ne.symm hb)).trans e
def TAt(h:Heap)(T:Addr)(pl:List Nat):Prop:=h.get? T=some {cls:=.type "tuple",data:=.seq (pl.map fun p:Nat=>rawInt p).toArray}
def Eqg(a b:Array GenState):Prop:=b=a
section
variable{prog:Program}{w:World}{A:Around}
theorem qcO{it:Addr}{f:Value}{i d n ep:Nat}{s:Shared}{Q:Value→Shared→Prop}{E:Value→Shared→Prop}(x:SIt s.heap it f i d n ep)(q:Q (.ref it) s):wpAny (model prog w) A (pyIter (.ref it)) Q E s:=by
 have hT:s.TypeIs (.ref it) "set_iterator":=⟨_,x,rfl⟩;refine wpAny_pyIter_slot hT sit_iter (wpAny_call_entry sit_iter hT ent_sit_iter ?_ (arg_sit_iter _));show wpAny _ _ (ret (.ref it)) _ _ s;exact wpAny_pure ⟨_,rfl, "set_iterator",_,hT,sit_next.lookup,q⟩
theorem qb1{it:Addr}{s:Shared}{h':Heap}(k:∀b o,b≠it→s.heap.get? b=some o→h'.get? b=some o):Moved [it] Eqg s {s with heap:=h'} :=
 ⟨fun b o hb e=>k b o (by simpa using hb) e,rfl,rfl,rfl,Nat.le_refl _⟩
theorem walk_drawn(hh:A.handled=none){it d T:Addr}(n1:d≠it)(n2:T≠it){es:Array (Int×Value)}{ep:Nat}{t:SetTable}{pl:List Nat}{ord:List (Int×Value)}(hl:ord.length=es.size)(hp:∀i,i<es.size→∃p e,pl[i]?=some p∧es[p]?=some e∧ord[i]?=some e)(hpl:pl.length=es.size) :
  WalksS prog w A it [it,d,T] [it] Eqg es.size (fun i v=>∃e,ord[i]?=some e∧e.2=v) (fun i s=>SIt s.heap it (.ref T) i d es.size ep∧SAt s.heap d es ep t∧TAt s.heap T pl) where
 sub:=fun b hb=>by simp at hb;simp[hb]
 grefl:=fun _=>rfl
 gtrans:=fun _ _ _ h1 h2=>h2.trans h1
 frame:=fun i s h' tk st _ k=>⟨st.1.at fun o e=>k it (by simp) o e,st.2.1.at fun o e=>k d (by simp) o e,k T (by simp) _ st.2.2⟩
 item:=fun i s Q E hi st q=>by
  obtain⟨x1,x2,x3⟩:=st;obtain⟨p,e,e1,e2,e3⟩:=hp i hi;refine qc5 x1 (qbU x1 x2 rfl ?_);refine wpAny_bind (wpAny_seqItems x3 rfl ?_);dsimp only;have ep1:((pl.map fun p:Nat=>rawInt p).toArray)[i]?=some (.int p 0):=by simp[e1,rawInt]
  rw[ep1];dsimp only;obtain⟨o,ho,hd,hf⟩:=id x2;refine wpAny_bind ?_;unfold setNextDrawn;refine wpAny_bind (wpAny_setState_of ho hd hf ?_);dsimp only;rw[if_neg (by simp),Int.toNat_natCast,e2];refine wpAny_pure ?_;refine wpAny_bind (wpAny_setField x1 rfl (by simp) ?_);refine wpAny_pure ⟨_,rfl,q _ _ ⟨e,e3,rfl⟩ ⟨x1.turn,x2.at fun o z=>qaS n1 z,qaS n2 x3⟩ (qb1 fun b o hb z=>qaS hb z)⟩
 done:=fun s Q E st q=>by
  obtain⟨x1,x2,x3⟩:=st;refine qc5 x1 (qbU x1 x2 rfl ?_);refine wpAny_bind (wpAny_seqItems x3 rfl ?_);dsimp only;have ep1:((pl.map fun p:Nat=>rawInt p).toArray)[es.size]?=none:=by simp[hpl]
  rw[ep1];dsimp only;refine wpAny_bind (wpAny_setField x1 rfl (by simp) ?_);refine wpAny_bind (wpAny_setField (x1.slot 0) rfl (by simp) ?_);refine qdp hh _ fun h' k=>q _ (qb1 fun b o hb z=>k b o (qaS hb (qaS hb z)))
 self:=fun i s Q E st q=>qcO st.1 q
theorem walk_text(hh:A.handled=none)(hT:w.params.followText "set-order" = true){it d:Addr}(n1:d≠it){es:Array (Int×Value)}{ep:Nat}{t:SetTable} :
  WalksS prog w A it [it,d] [it] Eqg es.size (fun i v=>∃e,(pickOrder (w.params.setOrder d ep) es).toList[i]?=some e∧e.2=v) (fun i s=>(∃k:Nat,SIt s.heap it (.int k 0) i d es.size ep)∧SAt s.heap d es ep t) where
 sub:=fun b hb=>by simp at hb;simp[hb]
 grefl:=fun _=>rfl
 gtrans:=fun _ _ _ h1 h2=>h2.trans h1
 frame:=fun i s h' tk st _ k=>⟨st.1.imp fun _ z=>z.at fun o e=>k it (by simp) o e,st.2.at fun o e=>k d (by simp) o e⟩
 item:=fun i s Q E hi st q=>by
  obtain⟨⟨k,x1⟩,x2⟩:=st;have sz:(pickOrder (w.params.setOrder d ep) es).size=es.size:=by simpa using(qcR (w.params.setOrder d ep) es).length_eq
  have hi':i<(pickOrder (w.params.setOrder d ep) es).size:=by rw[sz];exact hi
  refine qc5 x1 (qbU x1 x2 rfl ?_);dsimp only;obtain⟨o,ho,hd,hf⟩:=id x2;refine wpAny_bind ?_;unfold setNext setsByText;refine wpAny_bind (wpAny_setState_of ho hd hf ?_);refine wpAny_bind (wpAny_bind (wpAny_askSetting (wpAny_pure ?_)));show wpAny _ _ (if(w.params.followText "set-order")=true then _ else _) _ _ _;rw[if_pos hT,if_neg (by simp)];refine wpAny_bind ?_;unfold setWalk setsByText;refine wpAny_bind (wpAny_setState_of ho hd hf ?_);refine wpAny_bind (wpAny_bind (wpAny_askSetting (wpAny_pure ?_)));show wpAny _ _ (if(w.params.followText "set-order")=true then _ else _) _ _ _;rw[if_pos hT];refine wpAny_bind (wpAny_askSetting (wpAny_pure ?_));refine wpAny_pure ?_;have eg:(pickOrder ((model prog w).w.params.setOrder d ep) es)[i]?=some ((pickOrder (w.params.setOrder d ep) es)[i]):=Array.getElem?_eq_getElem hi';rw[eg];dsimp only[Option.map_some];refine wpAny_bind (wpAny_setField x1 rfl (by simp) ?_);refine wpAny_bind (wpAny_setField (x1.slot _) rfl (by simp) ?_);refine wpAny_pure ⟨_,rfl,q _ _ ⟨_,by rw[Array.getElem?_toList,Array.getElem?_eq_getElem hi'],rfl⟩ ⟨⟨_,(x1.slot _).turn⟩,x2.at fun o z=>qaS n1 (qaS n1 z)⟩ (qb1 fun b o hb z=>qaS hb (qaS hb z))⟩
 done:=fun s Q E st q=>by
  obtain⟨⟨k,x1⟩,x2⟩:=st;have sz:(pickOrder (w.params.setOrder d ep) es).size=es.size:=by simpa using(qcR (w.params.setOrder d ep) es).length_eq
  refine qc5 x1 (qbU x1 x2 rfl ?_);dsimp only;obtain⟨o,ho,hd,hf⟩:=id x2;refine wpAny_bind ?_;unfold setNext setsByText;refine wpAny_bind (wpAny_setState_of ho hd hf ?_);refine wpAny_bind (wpAny_bind (wpAny_askSetting (wpAny_pure ?_)));show wpAny _ _ (if(w.params.followText "set-order")=true then _ else _) _ _ _;rw[if_pos hT,if_neg (by simp)];refine wpAny_bind ?_;unfold setWalk setsByText;refine wpAny_bind (wpAny_setState_of ho hd hf ?_);refine wpAny_bind (wpAny_bind (wpAny_askSetting (wpAny_pure ?_)));show wpAny _ _ (if(w.params.followText "set-order")=true then _ else _) _ _ _;rw[if_pos hT];refine wpAny_bind (wpAny_askSetting (wpAny_pure ?_));refine wpAny_pure ?_;have eg:(pickOrder ((model prog w).w.params.setOrder d ep) es)[es.size]?=none:=Array.getElem?_eq_none (by show(pickOrder (w.params.setOrder d ep) es).size≤es.size;omega);rw[eg];dsimp only[Option.map_none];refine wpAny_bind (wpAny_setField x1 rfl (by simp) ?_);refine qdp hh _ fun h' k=>q _ (qb1 fun b o hb z=>k b o (qaS hb z))
 self:=fun i s Q E st q=>by
  obtain⟨k,x1⟩:=st.1;exact qcO x1 q
end
end L2
namespace L2
open PySem
theorem qdM{xs:Array Nat}{j:Nat}(h:xs.size=1):SetTable.below xs j=if xs.getD 0 j<j then 1 else 0:=by
 unfold SetTable.below;rw[h];show(if 0<1 then if xs.getD ((0+1) / 2) j<j then SetTable.below.go xs j 0 ((0+1) / 2+1) 1 else SetTable.below.go xs j 0 0 ((0+1) / 2)else 0)=_;rw[if_pos (by decide)];rfl
section
variable{prog:Program}{w:World}{A:Around}{E:Value→Shared→Prop}{s:Shared}
theorem qda(hT:w.params.followText "set-order" = false){d:Addr}{es:Array (Int×Value)}{ep k i:Nat}{t:SetTable}(x:SAt s.heap d es ep t)(h1:es.size≤1)(hL:t.led=true){Q:Option (Value×Nat)→Shared→Prop}(q:Q (match es[SetTable.below t.place k]?,t.place[SetTable.below t.place k]? with | some (_,x),some j=>some (x,j+1) | _,_=>none) s):wpAny (model prog w) A (setNext d k i ep) Q E s:=by
 obtain⟨o,ho,hd,hf⟩:=x;unfold setNext setsByText;refine wpAny_bind (wpAny_setState_of ho hd hf ?_);refine wpAny_bind (wpAny_bind (wpAny_askSetting (wpAny_pure ?_)));show wpAny _ _ (if(w.params.followText "set-order")=true then _ else _) _ _ _;rw[hT,if_neg Bool.false_ne_true];have e1:(!t.plain && decide (es.size>1))=false:=by rw[decide_eq_false (by omega),Bool.and_false]
 show wpAny _ _ (if(!t.plain && decide (es.size>1))=true then _ else _) _ _ _;rw[e1,if_neg Bool.false_ne_true];refine wpAny_bind ?_;show wpAny _ _ (if(!t.led && !es.isEmpty)=true then _ else _) _ _ _;rw[hL,if_neg (by simp)];exact wpAny_pure (wpAny_pure q)
theorem walk_small(hh:A.handled=none)(hT:w.params.followText "set-order" = false){it d:Addr}(n1:d≠it){es:Array (Int×Value)}{ep:Nat}{t:SetTable}(h1:es.size≤1)(hL:t.led=true) :
  WalksS prog w A it [it,d] [it] Eqg es.size (fun i v=>∃e,es.toList[i]?=some e∧e.2=v)
   (fun i s=>((i=0∧SIt s.heap it (.int ((0:Nat):Int) 0) 0 d es.size ep)∨(i=1∧∃j:Nat,t.place[0]?=some j∧SIt s.heap it (.int ((j+1:Nat):Int) 0) 1 d es.size ep))∧SAt s.heap d es ep t) where
 sub:=fun b hb=>by simp at hb;simp[hb]
 grefl:=fun _=>rfl
 gtrans:=fun _ _ _ h1 h2=>h2.trans h1
 frame:=fun i s h' tk st _ k=>by
  refine⟨?_,st.2.at fun o e=>k d (by simp) o e⟩;rcases st.1 with⟨z,x⟩ | ⟨z,j,zj,x⟩
  ·exact .inl ⟨z,x.at fun o e=>k it (by simp) o e⟩
  ·exact .inr ⟨z,j,zj,x.at fun o e=>k it (by simp) o e⟩
 item:=fun i s Q E hi st q=>by
  obtain⟨st,x2⟩:=st;have sz:es.size=1:=by omega
  rcases st with⟨rfl,x1⟩ | ⟨rfl,_⟩
  case inr=>omega
  obtain⟨o,ho,hd,hf⟩:=id x2;have ps:t.place.size=1:=by
   have:=hf;simp only[SetTable.fits,Bool.and_eq_true,beq_iff_eq]at this;omega
  have b0:SetTable.below t.place 0=0:=by rw[qdM ps,if_neg (Nat.not_lt_zero _)]
  obtain⟨e,ee⟩:∃e,es[0]?=some e:=⟨es[0],by simp[sz]⟩;obtain⟨j,ej⟩:∃j,t.place[0]?=some j:=⟨t.place[0],by simp[ps]⟩;refine qc5 x1 (qbU x1 x2 rfl ?_);dsimp only;refine wpAny_bind (qda hT x2 h1 hL ?_);rw[Int.toNat_natCast,b0,ee,ej];dsimp only;refine wpAny_bind (wpAny_setField x1 rfl (by simp) ?_);refine wpAny_bind (wpAny_setField (x1.slot _) rfl (by simp) ?_);refine wpAny_pure ⟨_,rfl,q _ _ ⟨e,by rw[Array.getElem?_toList,ee],rfl⟩ ⟨.inr ⟨rfl,j,ej,(x1.slot _).turn⟩,x2.at fun o z=>qaS n1 (qaS n1 z)⟩ (qb1 fun b o hb z=>qaS hb (qaS hb z))⟩
 done:=fun s Q E st q=>by
  obtain⟨st,x2⟩:=st;obtain⟨o,ho,hd,hf⟩:=id x2;have ps:t.place.size=es.size:=by
   have:=hf;simp only[SetTable.fits,Bool.and_eq_true,beq_iff_eq]at this;omega
  have fin:∀(k:Nat),SIt s.heap it (.int (k:Int) 0) es.size d es.size ep→es[SetTable.below t.place k]?=none→wpAny (model prog w) A (pyNext (.ref it)) Q E s:=fun k x1 en=>by
   refine qc5 x1 (qbU x1 x2 rfl ?_);dsimp only;refine wpAny_bind (qda hT x2 h1 hL ?_);rw[Int.toNat_natCast,en];dsimp only;refine wpAny_bind (wpAny_setField x1 rfl (by simp) ?_);refine qdp hh _ fun h' k=>q _ (qb1 fun b o hb z=>k b o (qaS hb z))
  rcases st with⟨z,x1⟩ | ⟨z,j,ej,x1⟩
  ·have x1':SIt s.heap it (.int ((0:Nat):Int) 0) es.size d es.size ep:=by rw[z]at x1⊢;exact x1
   refine fin 0 x1' ?_;rw[Array.getElem?_eq_none (by omega)]
  ·have x1':SIt s.heap it (.int ((j+1:Nat):Int) 0) es.size d es.size ep:=by rw[z]at x1⊢;exact x1
   refine fin (j+1) x1' ?_;have lt:t.place.getD 0 (j+1)<j+1:=by
    rw[Array.getD_eq_getD_getElem?,ej];exact Nat.lt_succ_self _
   rw[qdM (by omega),if_pos lt,Array.getElem?_eq_none (by omega)]
 self:=fun i s Q E st q=>by
  rcases st.1 with⟨_,x⟩ | ⟨_,_,_,x⟩<;>exact qcO x q
theorem iter_set{d:Addr}{es:Array (Int×Value)}{ep:Nat}{t:SetTable}{o:Obj}(hh:A.handled=none)(ho:s.heap.get? d=some o)(hex:o.ExactSet)(hd:o.data=.set es ep t)(hf:t.fits es.size=true)(hb:es.size≤sizeLine)(hp:t.plain=false∨es.size=0)(hL:t.led=!(w.params.followText "set-order")){Q:Value→Shared→Prop}(q:∀(it:Addr) (fp:List Addr) (h':Heap) (d':Drawn) (ord:List (Int×Value)) (St:Nat→Shared→Prop),s.heap.objs.size≤it→it<h'.objs.size→(∀b o,s.heap.get? b=some o→h'.get? b=some o)→(∀b∈fp,b=d∨(s.heap.objs.size≤b∧b<h'.objs.size))→ord.Perm es.toList →
   (∀A':Around,A'.handled=none→WalksS prog w A' it fp [it] Eqg es.size (fun i v=>∃e,ord[i]?=some e∧e.2=v) St)→St 0 {s with heap:=h',drawn:=d'}→Q (.ref it) {s with heap:=h',drawn:=d'}) :
  wpAny (model prog w) A (pyIter (.ref d)) Q E s:=by
 have hT:s.TypeIs (.ref d) "set":=⟨o,ho,hex.1⟩;have dlt:=Heap.lt_size ho;have xd:SAt s.heap d es ep t:=⟨o,ho,hd,hf⟩;refine wpAny_pyIter_slot hT F.slot_set_iter (wpAny_call_entry F.slot_set_iter hT ent_set_iter ?_ (F.args_set_iter_1 _));unfold Builtin.«frozenset.__iter__»;refine wpAny_bind (wpAny_pure ?_);unfold Builtin.Frozenset.sizeOf setDrawn setsByText setEpoch;refine wpAny_bind (wpAny_bind (wpAny_setEntries_of ho hd hf (wpAny_pure ?_)));refine wpAny_bind (wpAny_bind (wpAny_setState_of ho hd hf (wpAny_bind (wpAny_bind (wpAny_askSetting (wpAny_pure (wpAny_pure ?_)))))));show wpAny _ _ (if(!(w.params.followText "set-order") && (!t.plain && decide (es.size>1)))=true then _ else _) _ _ _;have push_lt:∀{h:Heap} {o1:Obj},h.objs.size<(h.push o1).objs.size:=fun {h o1}=>by rw[Heap.size_push];exact Nat.lt_succ_self _
 by_cases dr:(!(w.params.followText "set-order") && (!t.plain && decide (es.size>1)))=true
 ·rw[if_pos dr];refine wpAny_bind (qdC _ _ _ _ (by simp) fun pl d' pm=>?_);have pll:pl.length=es.size:=by simpa using pm.length_eq
  refine wpAny_bind (wpAny_newObj_type ?_ ?zz)
  case zz=>show(List.map _ pl).toArray.size≤sizeLine;rw[List.size_toArray,List.length_map];omega
  refine wpAny_bind (wpAny_bind (wpAny_setState_of (s:={s with heap:=_,drawn:=d'}) (Heap.get?_push_of_some _ ho) hd hf (wpAny_pure ?_)));refine wpAny_bind (wpAny_newObj_type (wpAny_pure ⟨_,rfl, "set_iterator",_,⟨_,Heap.get?_push_size _ rfl,rfl⟩,sit_next.lookup,?_⟩));have inb:∀p∈pl,p<es.size:=fun p hp=>by simpa using pm.mem_iff.mp hp
  have e0:(pl.map fun p=>es.toList.getD p (0,.none)).Perm es.toList:=by
   refine(pm.map _).trans (List.Perm.of_eq ?_);apply List.ext_getElem?;intro i;rw[List.getElem?_map]
   by_cases hi:i<es.size
   ·rw[List.getElem?_range hi];simp[hi]
   ·rw[List.getElem?_eq_none (by simpa using hi),List.getElem?_eq_none (by simpa using hi)];rfl
  rw[Heap.size_push];refine q (s.heap.objs.size+1) [s.heap.objs.size+1,d,s.heap.objs.size] _ d' (pl.map fun p=>es.toList.getD p (0,.none)) (fun i s1=>SIt s1.heap (s.heap.objs.size+1) (.ref s.heap.objs.size) i d es.size ep∧SAt s1.heap d es ep t∧TAt s1.heap s.heap.objs.size pl) (Nat.le_succ _) ?_ (fun b o e=>Heap.get?_push_of_some _ (Heap.get?_push_of_some _ e)) (fun b hb=>?_) e0 (fun A' hA=>?_) ⟨?_,(xd.at fun o e=>Heap.get?_push_of_some _ (Heap.get?_push_of_some _ e)),Heap.get?_push_of_some _ (Heap.get?_push_size _ rfl)⟩
  ·rw[Heap.size_push,Heap.size_push];exact Nat.lt_succ_self _
  ·rcases List.mem_cons.mp hb with rfl | hb
   ·exact .inr ⟨Nat.le_succ _,by rw[Heap.size_push,Heap.size_push];exact Nat.lt_succ_self _⟩
   ·rcases List.mem_cons.mp hb with rfl | hb
    ·exact .inl rfl
    ·have:b=s.heap.objs.size:=by simpa using hb
     subst this;exact .inr ⟨Nat.le_refl _,by rw[Heap.size_push,Heap.size_push];exact Nat.lt_succ_of_lt (Nat.lt_succ_self _)⟩
  ·refine walk_drawn hA (Nat.ne_of_lt (Nat.lt_succ_of_lt dlt)) (Nat.ne_of_lt (Nat.lt_succ_self _)) (by rw[List.length_map,pll]) (fun i hi=>?_) pll;have hi':i<pl.length:=by omega
   have hp:=inb pl[i] (List.getElem_mem hi');exact⟨pl[i],es[pl[i]],by simp[hi'],by simp[hp],by simp[hi',hp]⟩
  ·have ez:s.heap.objs.size+1=(s.heap.push {cls:=.type "tuple",data:=.seq (pl.map fun i:Nat=>rawInt i).toArray}).objs.size:=by rw[Heap.size_push]
   unfold SIt;rw[ez];exact Heap.get?_push_size _ rfl
 ·rw[if_neg dr];refine wpAny_bind (wpAny_pure ?_);refine wpAny_bind (wpAny_bind (wpAny_setState_of ho hd hf (wpAny_pure ?_)));refine wpAny_bind (wpAny_newObj_type (wpAny_pure ⟨_,rfl, "set_iterator",_,⟨_,Heap.get?_push_size _ rfl,rfl⟩,sit_next.lookup,?_⟩));have hfp:∀{h':Heap},h'.objs.size=s.heap.objs.size+1→∀b∈[s.heap.objs.size,d],b=d∨(s.heap.objs.size≤b∧b<h'.objs.size):=fun {h'} hz b hb=>by
   rcases List.mem_cons.mp hb with rfl | hb
   ·exact .inr ⟨Nat.le_refl _,by rw[hz];exact Nat.lt_succ_self _⟩
   ·exact .inl (by simpa using hb)
  cases hTx:w.params.followText "set-order" with
  | true =>
    refine q _ [s.heap.objs.size,d] _ s.drawn (pickOrder (w.params.setOrder d ep) es).toList (fun i s1=>(∃k:Nat,SIt s1.heap s.heap.objs.size (.int k 0) i d es.size ep)∧SAt s1.heap d es ep t) (Nat.le_refl _) push_lt (fun b o e=>Heap.get?_push_of_some _ e) (hfp (by rw[Heap.size_push])) (qcR _ _) (fun A' hA=>walk_text hA hTx (Nat.ne_of_lt dlt)) ⟨⟨0,Heap.get?_push_size _ rfl⟩,xd.at fun o e=>Heap.get?_push_of_some _ e⟩
  | false =>
    have h1:es.size≤1:=by
      rw[hTx]at dr
      rcases hp with hp | hp
      · rw[hp]at dr
        simp at dr
        omega
      · omega
    refine q _ [s.heap.objs.size,d] _ s.drawn es.toList _ (Nat.le_refl _) push_lt (fun b o e=>Heap.get?_push_of_some _ e) (hfp (by rw[Heap.size_push])) (List.Perm.refl _) (fun A' hA=>walk_small hA hTx (t:=t) (ep:=ep) (Nat.ne_of_lt dlt) h1 (by rw[hL,hTx];rfl)) ⟨.inl ⟨rfl,Heap.get?_push_size _ rfl⟩,xd.at fun o e=>Heap.get?_push_of_some _ e⟩
end
end L2
namespace L2
open PySem PyProof.Rows
section
variable{prog:Program}{w:World}{A:Around}{E:Value→Shared→Prop}{s:Shared}
theorem hint_set{r:Addr}{Q:Bool→Shared→Prop}(hT:s.TypeIs (.ref r) "set")(h:Q false s):wpAny (model prog w) A (Builtin.List.listLengthHint (.ref r)) Q E s:=by
 unfold Builtin.List.listLengthHint;refine wpAny_bind (wpAny_specialOf hT PySem.F.slot_set_len.lookup ?_);generalize eid:("set.__len__" : String)=nm
 wp_delta
 rw[show splitId nm=some ("set", "__len__")from by subst eid;decide +kernel];subst eid;refine wpAny_bind (wpAny_isInstance (T := "set") (b:=true) hT (by rw[isSubtype_type];kernel_rfl) ?_);refine wpAny_ite_split (fun z=>absurd z (by decide)) (fun _=>?_);refine wpAny_ite_split (fun _=>?_) (fun z=>absurd (by decide +kernel) z);exact wpAny_bind (wpAny_typeOf hT (wpAny_pure h))
theorem set_collect{d:Addr}{es:Array (Int×Value)}{ep:Nat}{t:SetTable}{o:Obj}(hh:A.handled=none)(ho:s.heap.get? d=some o)(hex:o.ExactSet)(hd:o.data=.set es ep t)(hf:t.fits es.size=true)(hb:es.size≤sizeLine)(hp:t.plain=false∨es.size=0)(hL:t.led=!(w.params.followText "set-order")){R:List Value→Shared→Prop}(fin:∀(h':Heap) (tk:Nat) (d':Drawn) (ord:List (Int×Value)),(∀b o,s.heap.get? b=some o→h'.get? b=some o)→ord.Perm es.toList→R (ord.map (·.2)) {s with heap:=h',toks:=tk,drawn:=d'}) :
  wpAny (model prog w) A (collect (.ref d)) R E s:=by
 have dlt:=Heap.lt_size ho;unfold collect;refine wpAny_bind (wpAny_runValue (codeAny_builtin entry_proto_collect' ?_));rw[Around.under_plainId PySem.F.plain_proto_collect _];show wpAny _ A.in1 (newList []>>=fun l=>again (.builtin "list.__iadd__" ⟨[l,.ref d],[]⟩)) _ _ s;refine wpAny_bind (wpAny_newObj_type ?_);refine wpAny_pure ⟨plainId_quiet PySem.F.plain_list_iadd _,codeAny_builtin entry_list_iadd' ?_⟩;rw[Around.under_plainId PySem.F.plain_list_iadd _];show wpAny _ A.in1 (Builtin.List.listExtendWith (.ref s.heap.objs.size) (.ref d) (.ref s.heap.objs.size)) _ _ {s with heap:=s.heap.push {cls:=.type "list",data:=.seq ([]:List Value).toArray}};have g0:(s.heap.push {cls:=.type "list",data:=.seq ([]:List Value).toArray}).get? s.heap.objs.size=some {cls:=.type "list",data:=.seq #[]}:=Heap.get?_push_size _ rfl;have hd1:(s.heap.push {cls:=.type "list",data:=.seq ([]:List Value).toArray}).get? d=some o:=Heap.get?_push_of_some _ ho;have nSd:s.heap.objs.size≠d:=Nat.ne_of_gt dlt;unfold Builtin.List.listExtendWith;have hT:Shared.TypeIs {s with heap:=s.heap.push {cls:=.type "list",data:=.seq ([]:List Value).toArray}} (.ref d) "set":=⟨o,hd1,hex.1⟩;refine wpAny_bind (wpAny_typeOf hT ?_);have e1:Builtin.List.listSameRef (.ref s.heap.objs.size) (.ref d)=false:=by simp[Builtin.List.listSameRef,nSd]
 have e2:(Value.type "set" == Value.type "list")=false:=by decide
 have e3:(Value.type "set" == Value.type "tuple")=false:=by decide
 simp only[e1,e2,e3,Bool.or_false,Bool.false_eq_true,if_false];refine wpAny_bind (iter_set (A:=A.in1) hh hd1 hex hd hf hb hp hL fun it fp h2 d2 ord St l1 l2 k2 hfp pm W st=>?_);have g2:=k2 _ _ g0;have nSf:s.heap.objs.size∉fp:=fun z=>by
  rcases hfp _ z with e | ⟨e,_⟩
  ·exact nSd e
  ·rw[Heap.size_push]at e;exact absurd e (Nat.not_succ_le_self _)
 have loop:∀(h3:Heap) (c:Nat),St 0 {s with heap:=h3,drawn:=d2}→(∀b o,s.heap.get? b=some o→h3.get? b=some o)→h3.get? s.heap.objs.size=some {cls:=.type "list",data:=.seq #[] c} →
   codeAny (model prog w) A (.builtin "list.extend.loop" ⟨[.ref s.heap.objs.size,.ref it,.ref s.heap.objs.size],[]⟩) (fun r s'=>∃acc h' tk,r=.ok (.ret (.ref s.heap.objs.size))∧s'={s with heap:=h',toks:=tk,drawn:=d2} ∧
    (∀b o,s.heap.get? b=some o→h'.get? b=some o)∧(∃c',h'.get? s.heap.objs.size=some {cls:=.type "list",dict:=none,data:=.seq acc c',slots:=#[]})∧acc.toList=ord.map (·.2)) {s with heap:=h3,drawn:=d2}:=by
  intro h3 c st3 k3 g3;refine codeAny_extend_loopS (W A.in1 hh) hb s.heap.objs.size nSf _ es.size 0 _ #[] c rfl (Nat.zero_le _) st3 g3 (ItemsOf.nil _) fun s' acc c' mv g4 items=>?_
  obtain⟨h',g',dd,tk',os'⟩:=s';obtain rfl:g'=s.gens:=mv.gens;obtain rfl:dd=d2:=mv.drawn;obtain rfl:os'=s.os:=mv.os;refine⟨acc,h',tk',rfl,rfl,fun b o e=>mv.heap b o (fun z=>?_) (k3 b o e),⟨c',g4⟩,?_⟩
  ·have lb:=Heap.lt_size e;rcases List.mem_cons.mp z with z | z
   ·exact absurd lb (by rw[z];exact Nat.lt_irrefl _)
   ·have z':b=it:=by simpa using z
    rw[Heap.size_push]at l1;exact absurd lb (by rw[z'];exact Nat.not_lt_of_le (Nat.le_of_succ_le l1))
  ·have lo:ord.length=es.size:=by simpa using pm.length_eq
   apply List.ext_getElem?;intro j;rw[List.getElem?_map]
   by_cases hj:j<acc.size
   ·obtain⟨e,z1,z2⟩:=items.2 j acc[j] (by simp[hj]);rw[z1,Array.getElem?_toList,Array.getElem?_eq_getElem hj,←z2];rfl
   ·have ha:acc.size=es.size:=items.1;rw[List.getElem?_eq_none (by simpa using Nat.le_of_not_lt hj),List.getElem?_eq_none (by omega)];rfl
 refine wpAny_bind (wpAny_holding (hint_set ⟨o,k2 _ _ hd1,hex.1⟩ ?_));refine wpAny_ite_split (fun _=>?_) (fun _=>?_)
 ·refine wpAny_bind (wpAny_rule (wpAny_bind ?_));show wpAny _ _ (updateSeq s.heap.objs.size (·.push .none)>>=fun _=>updateSeq s.heap.objs.size (·.pop)) _ _ _;refine wpAny_bind (wpAny_updateSeq g2 rfl ?_);have g3:=Heap.get?_update_self (Obj.mapSeq (·.push Value.none)) g2 rfl;refine wpAny_updateSeq (hz:=by seq_fits) g3 rfl ?_;have g4:=Heap.get?_update_self (Obj.mapSeq (·.pop)) g3 rfl;refine wpAny_pure ⟨plainId_quiet PySem.F.plain_extend_loop _,codeAny_mono (loop _ _ ?_ (fun b o e=>qaS ?_ (qaS ?_ (k2 _ _ (Heap.get?_push_of_some _ e)))) g4) fun r s' x=>?_⟩
  ·exact(W A.in1 hh).frame 0 _ _ _ st (Nat.le_refl _) fun b hb o e=>by
    have nb:b≠s.heap.objs.size:=fun z=>nSf (z ▸ hb)
    exact qaS nb (qaS nb e)
  ·exact Nat.ne_of_lt (Heap.lt_size e)
  ·exact Nat.ne_of_lt (Heap.lt_size e)
  ·obtain⟨acc,h',tk,rfl,rfl,k,⟨c',g⟩,ea⟩:=x;show wpAny _ A (load s.heap.objs.size>>=_) _ _ _;refine wpAny_bind (wpAny_load g ?_);show wpAny _ _ (pure acc.toList) _ _ _;rw[ea];exact wpAny_pure (fin h' tk d2 ord k pm)
 ·refine wpAny_pure ⟨plainId_quiet PySem.F.plain_extend_loop _,codeAny_mono (loop _ _ st (fun b o e=>k2 _ _ (Heap.get?_push_of_some _ e)) g2) fun r s' x=>?_⟩;obtain⟨acc,h',tk,rfl,rfl,k,⟨c',g⟩,ea⟩:=x;show wpAny _ A (load s.heap.objs.size>>=_) _ _ _;refine wpAny_bind (wpAny_load g ?_);show wpAny _ _ (pure acc.toList) _ _ _;rw[ea];exact wpAny_pure (fin h' tk d2 ord k pm)
theorem sorted_set{d:Addr}{es:Array (Int×Value)}{ep:Nat}{t:SetTable}{o:Obj}(hh:A.handled=none)(ho:s.heap.get? d=some o)(hex:o.ExactSet)(hd:o.data=.set es ep t)(hf:t.fits es.size=true)(hb:es.size<64)(hp:t.plain=false∨es.size=0)(hL:t.led=!(w.params.followText "set-order")){ks:List Str}(hS:StrsAre (es.toList.map (·.2)) ks){Q:Value→Shared→Prop}(fin:∀(D:Addr) (h':Heap) (tk:Nat) (d':Drawn) (out:List Value) (ss:List Str) (c:Nat),s.heap.get? D=none→(∀b o,s.heap.get? b=some o→h'.get? b=some o)→h'.get? D=some {cls:=.type "list",data:=.seq out.toArray c}→StrsAre out ss→ss.Perm ks→sortedS ss=true→Q (.ref D) {s with heap:=h',toks:=tk,drawn:=d'}) :
  wpAny (model prog w) A (call (.builtin "sorted") [.ref d]) Q E s:=by
 have hb':es.size≤sizeLine:=by rw[sizeLine_eq];omega
 refine Calls.call_function_entry kind_sorted plain_sorted entry_sorted (args_sorted1 _) ?_;unfold Builtin.«sorted»;refine wpAny_bind (m:=checkCount "sorted" 1 1 _) (wpAny_pure ?_);refine wpAny_bind (set_collect (A:=A.in1) hh ho hex hd hf hb' hp hL fun h1 tk d1 ord k1 pm=>?_);have ln:(ord.map (·.2)).length=es.size:=by rw[List.length_map];simpa using pm.length_eq
 refine wpAny_bind (wpAny_newList ?_ (by rw[ln];exact hb'));have gD:(h1.push {cls:=.type "list",data:=.seq (ord.map (·.2)).toArray}).get? h1.objs.size=some (seqObj "list" (ord.map (·.2)).toArray 0):=Heap.get?_push_size _ rfl;obtain⟨ks',sk,pk⟩:∃ks',StrsAre (ord.map (·.2)) ks'∧ks'.Perm ks:=by
  refine⟨(ord.map (·.2)).map strOf,strsAre_map _ fun v hv=>?_,?_⟩
  ·obtain⟨e,he,rfl⟩:=List.mem_map.mp hv;exact hS.all _ (List.mem_map.mpr ⟨e,pm.mem_iff.mp he,rfl⟩)
  ·rw[←hS.strs];exact(pm.map _).map _
 refine wpAny_bind (wpAny_holding (wpAny_call_entry slot_list_sort ⟨_,gD,rfl⟩ entry_list_sort (list_sort_treeK strKind_oneLt gD sk.keysOf (fun v1 v2 rest e=>keyKind_strs (by rw[←e];exact sk)) (by rw[ln];exact hb) fun st' a1 a2=>⟨_,rfl,?_⟩) (args_list_sort _)));obtain⟨ss,h3,h4,h5⟩:=sorted_out_str sk a1 a2;refine wpAny_pure ⟨_,rfl,?_⟩;obtain⟨c,gc⟩:∃c,(sortedHeap (h1.push {cls:=.type "list",data:=.seq (ord.map (·.2)).toArray}) h1.objs.size (ord.map (·.2)) ((arrOf st').map (·.2))).get? h1.objs.size=some (seqObj "list" ((arrOf st').map (·.2)) c):=by
  have:=sortedHeap_at (out:=(arrOf st').map (·.2)) gD;exact this
 have lS:s.heap.get? h1.objs.size=none:=by
  cases z:s.heap.get? h1.objs.size with
  | none=>rfl
  | some o=>exact absurd (Heap.lt_size (k1 _ _ z)) (Nat.lt_irrefl _)
 refine fin h1.objs.size _ tk d1 ((arrOf st').map (·.2)).toList ss c lS (fun b o e=>?_) ?_ h3 (h4.trans pk) h5
 ·have lb:=Heap.lt_size (k1 b o e);rw[sortedHeap_old (Nat.ne_of_lt lb) (by rw[Heap.size_push];exact Nat.lt_succ_of_lt lb)];exact Heap.get?_push_of_some _ (k1 b o e)
 ·rw[gc]
end
end L2
namespace L2
open PySem PySem.Spec PyProof.Rows
theorem Inv.dr{X:Cx}{pins:List (Addr×Obj)}{σ:St}{H:Hp}{s:Shared}(I:Inv X pins σ H s)(d':Drawn):Inv X pins σ H {s with drawn:=d'}:=⟨I.ok,I.os,I.bare,I.base,I.loc,I.cell,I.free,I.freeC,I.pin,I.hok,I.len⟩
theorem dec_mem{κ:Type}[DecidableEq κ]{k:κ}{l:List κ}:decide (k∈l)=true↔k∈l:=decide_eq_true_iff
def once(ks:List Str):List Str:=ks.foldl one1 []
theorem one1_nd{κ:Type}[DecidableEq κ]{l:List κ}{v:κ}(h:l.Nodup):(one1 l v).Nodup:=by
 unfold one1
 split
 ·exact h
 ·rename_i n;rw[List.nodup_append];refine⟨h,by simp,fun a ha b hb=>?_⟩;have:b=v:=by simpa using hb
  subst this;exact fun z=>n (z ▸ ha)
theorem qex{κ:Type}[DecidableEq κ]:∀(ks l:List κ),l.Nodup→(ks.foldl one1 l).Nodup
 | [],l,h=>h
 | k::ks,l,h=>qex ks (one1 l k) (one1_nd h)
theorem qdI{κ:Type}[DecidableEq κ](x:κ):∀(ks l:List κ),x∈ks.foldl one1 l↔x∈l∨x∈ks
 | [],l=>by simp
 | k :: ks, l => by
   rw[List.foldl_cons,qdI x ks]
   have:x∈one1 l k↔x∈l∨x=k:=by
     have:=qeN l k x
     rw[Bool.eq_iff_iff]at this
     simpa using this
   rw[this,List.mem_cons,or_assoc]
theorem qd7(ks:List Str):(once ks).Nodup:=qex ks [] List.nodup_nil
theorem qeF(ks:List Str)(x:Str):x∈once ks↔x∈ks:=by unfold once;rw[qdI];simp
theorem qdU{κ ρ:Type}[DecidableEq κ][DecidableEq ρ](f:κ→ρ)(inj:∀a b,f a=f b→a=b):∀(ks l:List κ),(ks.map f).foldl one1 (l.map f)=(ks.foldl one1 l).map f
 | [],l=>rfl
 | k :: ks, l => by
   rw[List.map_cons,List.foldl_cons,List.foldl_cons,←qdU f inj ks (one1 l k)]
   congr 1
   unfold one1
   by_cases z:k∈l
   · rw[if_pos z,if_pos (List.mem_map_of_mem z)]
   · rw[if_neg z,if_neg (fun q=>by
       obtain⟨a,ha,e⟩:=List.mem_map.mp q
       exact z (inj _ _ e ▸ ha))]
     simp
theorem qcF{κ:Type}[DecidableEq κ]:∀(m l:List κ),m.Nodup→(∀x∈m,x∈l)→l.length=m.length→l.Perm m
 | [], l, _, _, h => by
   have:l=[]:=List.length_eq_zero_iff.mp h
   rw[this]
 | x :: m, l, nd, sub, h => by
   have hx:=sub x List.mem_cons_self
   obtain⟨nx,nm⟩:=List.nodup_cons.mp nd
   have p:=List.perm_cons_erase hx
   refine p.trans (List.Perm.cons _ (qcF m (l.erase x) nm (fun y hy=>?_) ?_))
   · exact(List.mem_erase_of_ne (fun z:y=x=>nx (z ▸ hy))).mpr (sub y (List.mem_cons_of_mem _ hy))
   · rw[List.length_erase_of_mem hx,h]
     rfl
def setS(w:World)(d:Addr)(ks:List Str):HO:=.ext fun h=>∃o es ep t,h.get? d=some o∧o.ExactSet∧o.data=.set es ep t∧t.fits es.size=true∧(t.plain=false∨es.size=0)∧t.led=!(w.params.followText "set-order") ∧
 es.size<scanBound∧∃us,StrsAre (es.toList.map (·.2)) us∧us.Perm ks
section
variable{X:Cx}
theorem qcG(hc:X.calm=true):CallR X (.type "set") (fun xs H Q=>∃(p:Addr) (ks:List Str),xs=[.ref p]∧SqL X.K H p (ks.map V.str)∧ks.length+1<scanBound∧∀d,H d=none→Q (.ref d) (upd H d (setS X.w d (once ks)))):=by
 intro pins s σ H xs us Q I r h;obtain⟨p,ks,rfl,hp,hb,q⟩:=h;obtain⟨u,rfl,rx⟩:=qcW r;cases rx;obtain⟨its,rv,pl,hz⟩:=I.list hp;have hlen:its.toArray.size=ks.length:=by rw[List.size_toArray,←rv.length,List.length_map]
 refine set_fromS (knd:=qbH X.prog X.w) (val:=fun i=>Sum.inr (ks.getD i Str.empty)) (I.ok.hd hc) pl.isList (fun i v e=>?_) (by rw[hlen];exact hb) fun h' tk x np kp=>?_
 ·have e':its[i]?=some v:=by simpa using e
  have hi:i<ks.length:=by rw[←hlen,List.size_toArray];exact(List.getElem?_eq_some_iff.mp e').1
  obtain⟨u,e2,r2⟩:=rv.get (i:=i) (x:=.str ks[i]) (by rw[List.getElem?_map,List.getElem?_eq_getElem hi];rfl);rw[e']at e2;cases e2;obtain⟨t,rfl⟩:=r2;have eg:ks.getD i Str.empty=ks[i]:=by simp[hi]
  exact⟨_,t,rfl,by rw[eg];exact qaO _ _ _ _⟩
 ·have em:met (fun i=>(Sum.inr (ks.getD i Str.empty):Key)) its.toArray.size=(once ks).map (Sum.inr:Str→Key):=by
   unfold met once;rw[hlen,←qdU (Sum.inr:Str→Key) (fun a b e=>Sum.inr.inj e) ks []]
   congr 1
   apply List.ext_getElem?;intro i;rw[List.getElem?_map,List.getElem?_map]
   by_cases h:i<ks.length
   ·rw[List.getElem?_range h,List.getElem?_eq_getElem h];simp[h]
   ·rw[List.getElem?_eq_none (by simpa using Nat.le_of_not_lt h),List.getElem?_eq_none (Nat.le_of_not_lt h)];rfl
  rw[em]at x;have keep:∀b o,s.heap.get? b=some o→h'.get? b=some o:=fun b o e=>kp b o (Heap.lt_size e) e
  have hn:H s.heap.objs.size=none:=I.hok.fresh (Nat.le_refl _);refine⟨.ref s.heap.objs.size,_,I.laid (o:=setS X.w s.heap.objs.size (once ks)) keep (Nat.le_refl _) ?_,rfl,q _ hn⟩;obtain⟨o,es,ep,t,ho,hex,hd,hel,hmem,hsb,hf,hsz⟩:=x;obtain⟨o',es',ep',t',e1,e2,e3,e4⟩:=np;rw[ho]at e1;cases e1;rw[hd]at e2;cases e2;have all:∀e∈es.toList,∃y tk,e.2=.str y tk∧y∈once ks:=fun e he=>by
   obtain⟨⟨k,hk,_⟩,_⟩:=hel e he;have t0:=(hmem k).mpr ⟨e,he,hk⟩;have this:k∈(once ks).map (Sum.inr:Str→Key):=dec_mem.mp t0;obtain⟨y,hy,rfl⟩:=List.mem_map.mp this;rcases keyIs_shape (show keyIs (Sum.inr y) e.2=true from hk)with⟨i,t,z,_⟩ | ⟨z,t,zz,ez⟩
   ·cases z
   ·cases zz;exact⟨y,t,ez,hy⟩
  have stt:StrsAre (es.toList.map (·.2)) ((es.toList.map (·.2)).map strOf):=strsAre_map _ fun v hv=>by
   obtain⟨e,he,rfl⟩:=List.mem_map.mp hv;obtain⟨y,tk,e1,_⟩:=all e he;exact⟨y,tk,e1⟩
  refine⟨⟨o,es,ep,t,ho,hex,hd,hf,e3,e4,hsb,_,stt,?_⟩,⟨o,ho⟩,fun g1 g2 y k=>?_⟩
  ·refine qcF _ _ (qd7 ks) (fun y hy=>?_) ?_
   ·obtain⟨e,he,hk⟩:=(hmem (Sum.inr y)).mp (dec_mem.mpr (List.mem_map_of_mem hy));rcases keyIs_shape (show keyIs (Sum.inr y) e.2=true from hk)with⟨i,t,z,_⟩ | ⟨z,t,zz,ez⟩
    ·cases z
    ·cases zz;rw[List.map_map];exact List.mem_map.mpr ⟨e,he,by show strOf e.2=y;rw[ez];rfl⟩
   ·rw[List.length_map,List.length_map,Array.length_toList,hsz,List.length_map]
  ·obtain⟨o1,es1,ep1,t1,z1,z2⟩:=y;exact⟨o1,es1,ep1,t1,k _ z1,z2⟩
theorem qcv(hc:X.calm=true)(hex:X.ex=[]):CallR X (.builtin "sorted") (fun xs H Q=>∃(d:Addr) (ks:List Str),xs=[.ref d]∧H d=some (setS X.w d ks)∧ks.length<64∧∀D ss,H D=none→ss.Perm ks→sortedS ss=true→Q (.ref D) (upd H D (.lst (ss.map V.str)))):=by
 intro pins s σ H xs us Q I r h;obtain⟨d,ks,rfl,hd,h64,q⟩:=h;obtain⟨u,rfl,rx⟩:=qcW r;cases rx;obtain⟨⟨o,es,ep,t,ho,hexs,hdt,hf,hp,hL,hb,ks',st,pm⟩,_⟩:=I.hok d _ hd;have ls:es.size=ks.length:=by
  have h1:=st.length;rw[List.length_map,Array.length_toList]at h1;rw[h1,pm.length_eq]
 refine sorted_set (I.ok.hd hc) ho hexs hdt hf (by omega) hp hL st fun D h' tk d' out ss c hD kp hg hs ps so=>?_
 have HD:H D=none:=by
  cases z:H D with
  | none=>rfl
  | some v =>
    obtain⟨o,e⟩:=(I.hok D v z).at
    rw[hD]at e
    cases e
 have pk:=ps.trans pm;have I2:=(I.kept (t':=tk) kp).dr d';have DL:D≠X.env.locals:=fun z=>by
  have:=Heap.lt_size (Classical.choose_spec (let⟨m,⟨o,_,_,e,_⟩,_⟩:=I.loc;⟨o,e⟩:∃o,s.heap.get? X.env.locals=some o));obtain⟨m,⟨o,_,_,e,_⟩,_⟩:=I.loc;rw[z,e]at hD;cases hD
 refine⟨.ref D,_,I2.track (o:=.lst (ss.map V.str)) ?_ HD DL (fun z c e w'=>?_) (fun z hz w'=>?_) ?_,rfl,q D ss HD pk so⟩
 ·cases z:X.s₀.heap.get? D with
  | none=>rfl
  | some o =>
    obtain⟨o',e⟩:=I.base.there D o z (by rw[hex];simp)
    rw[hD]at e
    cases e
 ·obtain⟨v,o,e1,_⟩:=I.cell z c e;rw[w',hD]at e1;cases e1
 ·have e:=(I.pin z hz).1;rw[w',hD]at e;cases e
 ·have vs:∀{out:List Value} {ss:List Str},StrsAre out ss→Vals (ss.map V.str) out:=fun {out ss} h=>by
   induction h with
   | nil=>exact .nil
   | cons x t _ ih=>exact .cons ⟨t,rfl⟩ ih
  refine⟨?_,out,c,vs hs,hg⟩;rw[List.length_map,pk.length_eq];exact Nat.le_of_lt (qaA (by omega))
end
end L2
namespace L2
open PySem PySem.Spec PyProof.Rows
structure Fx(P:Program)(w:World)(K:PySem.W.Frag)(mg:Str→Option Value)(base:Heap)(CX:CXT)(k:Nat)(x:Str)(ps:List Str)(sp:Sp):Prop where
 ex:∃f fd,FnOk P w K mg base CX k f fd ps sp∧Binds K fd ps []∧PySem.W.keepIn K (.ref f)=true∧mg x=some (.ref f)
section
variable{X:Cx}{CX:CXT}{k:Nat}{ps:List Str}{sp:Sp}{E:XK}{x:Str}{p pos:Pos}{e:Expr}{es:List Expr}{t:TA}
theorem qaE(F:Fx X.prog X.w X.K X.mg X.base CX k x ps sp)(hr:Room k X.A)(hg:Gl X x)(hx:qdf CX X E)(ha:PA X (e::es) t)(hdb:(x == ("__debug__" : Str))=false:=by decide)(he:starEach (e::es) X.env=(false,eval e X.env)::starEach es X.env:=by rfl)(hpl:(backTo pos (starEach es X.env)).any (·.1)=false:=by rfl):PE X (.Call (.Name x p) (e::es) [] pos) (qfZ sp [] E t):=by
 obtain⟨f,fd,G,b,kp,m⟩:=F.ex;exact pe_call G hr hg m kp b .nil hx ha hdb he hpl
end
def spNo:Sp:=fun _ _ _ _=>False
theorem Fx.no{P:Program}{w:World}{K:PySem.W.Frag}{mg:Str→Option Value}{base:Heap}{CX:CXT}{k:Nat}{x:Str}{ps:List Str}{f:Addr}{fd:FuncData}(b:Binds K fd ps [])(kp:PySem.W.keepIn K (.ref f)=true)(m:mg x=some (.ref f)):Fx P w K mg base CX k x ps spNo :=
 ⟨f,fd,⟨fun _ _ _ _ h=>h.elim,fun _ _ _ _ _ _ _ _ _ _ _ _ _ h=>h.elim⟩,b,kp,m⟩
theorem CompScope.plain{X:Cx}{scope:Scope}{own:List Str}(h1:scope.kind=.function)(h2:∀y∈scope.names,y.2≠.cell)(h3:∀y∈scope.names,y.2=.local→scope.names.lookup y.1=some .local)(h4:∀y∈scope.names,y.2≠.free):CompScope X scope own [] [] :=
 ⟨h1,h2,h3,fun y hy hf=>absurd hf (h4 y hy),rfl,fun _ z=>nomatch z⟩
theorem qfe{names:List (Str×NameKind)}{a:Str}(h:names.lookup a=some .cell):∀x∈[a],names.lookup x=some .cell∨names.lookup x=some .free:=fun x hx=>by
 have:x=a:=by simpa using hx
 rw[this];exact .inl h
theorem qfs{names:List (Str×NameKind)}{a b:Str}(h:names.lookup a=some .cell)(h':names.lookup b=some .cell):∀x∈[a,b],names.lookup x=some .cell∨names.lookup x=some .free:=fun x hx=>by
 rcases List.mem_cons.mp hx with rfl | hx
 ·exact .inl h
 ·exact qfe h' x hx
theorem CompScope.frees{X:Cx}{scope:Scope}{own fr:List Str}{ix:List Nat}(h1:scope.kind=.function)(h2:∀y∈scope.names,y.2≠.cell)(h3:∀y∈scope.names,y.2=.local→scope.names.lookup y.1=some .local)(h4:∀y∈scope.names,y.2=.free→y.1∈fr)(h5:ix.map (fun j=>X.N[j]?)=fr.map some)(h6:∀x∈fr,scope.names.lookup x=some .free)(h7:∀x∈fr,X.env.scope.names.lookup x=some .cell∨X.env.scope.names.lookup x=some .free):CompScope X scope own fr ix :=
 ⟨h1,h2,h3,fun y hy hf=>h7 _ (h4 y hy hf),h5,h6⟩
theorem qc4{lo:Int}{n own:Nat}{ix:List Nat}{g:TG}{tt:TT}{te:TE}{σ:St}{H:Hp}{Q:VK}(Pv:Nat→List V→St→Hp→Prop)(hz:n<sizeLine)(h0:Pv 0 [] (qbR own ix σ) H)(hl:∀i ys σ' H',i≤n→Pv i ys σ' H'→ys.length≤i)(hs:∀i ys σ' H',i<n→Pv i ys σ' H'→g (.int (lo+i)) σ' H' fun σ2 H3=>tt σ2 H3 fun b H4=>if b=true then te σ2 H4 fun v H5=>Pv (i+1) (ys++[v]) σ2 H5 else Pv (i+1) ys σ2 H4)(hd:∀ys σ' H',Pv n ys σ' H'→∀D,H' D=none→Q (.ref D) (upd H' D (.lst ys))):qb9 own ix g tt te (Itr lo n) σ H Q:=by
 refine⟨fun i m ys σ H=>m=n-i∧i≤n∧Pv i ys σ H,⟨n,by simp,Nat.zero_le _,h0⟩,?_⟩;rintro i m ys σ H ⟨rfl,hi,p⟩;have hy:=hl i ys σ H hi p;refine⟨by omega,?_⟩
 by_cases hlt:i<n
 ·refine .inr ⟨hlt,Pv (i+1),fun zs σ' H' p'=>⟨n-(i+1),by omega,rfl,hlt,p'⟩,fun x H' y=>?_⟩;obtain⟨e,y⟩:=y;subst e y;exact hs i ys σ _ hlt p
 ·have e:i=n:=by omega
  subst e;exact .inl ⟨Nat.le_refl _,hd ys σ H p⟩
theorem comp_enum{K:PySem.W.Frag}{a:Addr}{xs:List V}{own:Nat}{ix:List Nat}{g:TG}{tt:TT}{te:TE}{σ:St}{H:Hp}{Q:VK}(Pv:Nat→List V→St→Hp→Prop)(hz:xs.length<sizeLine)(h0:Pv 0 [] (qbR own ix σ) H)(hl:∀i ys σ' H',i≤xs.length→Pv i ys σ' H'→SqL K H' a xs∧ys.length≤i)(hs:∀i x ys σ' H' T,xs[i]?=some x→H' T=none→Pv i ys σ' H'→g (.ref T) σ' (upd H' T (.tup [.int (i:Nat),x])) fun σ2 H3=>tt σ2 H3 fun b H4=>if b=true then te σ2 H4 fun v H5=>Pv (i+1) (ys++[v]) σ2 H5 else Pv (i+1) ys σ2 H4)(hd:∀ys σ' H',Pv xs.length ys σ' H'→∀D,H' D=none→Q (.ref D) (upd H' D (.lst ys))):qb9 own ix g tt te (Ite K a) σ H Q:=by
 refine⟨fun i m ys σ H=>m=xs.length-i∧i≤xs.length∧Pv i ys σ H,⟨xs.length,by simp,Nat.zero_le _,h0⟩,?_⟩;rintro i m ys σ H ⟨rfl,hi,p⟩;obtain⟨q,hy⟩:=hl i ys σ H hi p;refine⟨by omega,?_⟩
 by_cases hlt:i<xs.length
 ·refine .inr ⟨⟨xs,xs[i],q,by simp[hlt]⟩,Pv (i+1),fun zs σ' H' p'=>⟨xs.length-(i+1),by omega,rfl,hlt,p'⟩,fun x H' y=>?_⟩;obtain⟨T,z,hT,e1,e2,y⟩:=y;subst e1 e2;exact hs i z ys σ _ T (y xs q) hT p
 ·have e:i=xs.length:=by omega
  subst e;exact .inl ⟨⟨xs,q,Nat.le_refl _⟩,hd ys σ H p⟩
def rEqP(neg:Bool):R2:=fun x y H Q=>∃d e,DIn H x d∧DIn H y e∧PySem.W.kqdOk 9 d=true∧PySem.W.kqdOk 9 e=true∧(d=e→Q (.bl (!neg)) H)∧(d≠e→Q (.bl neg) H)
section
variable{X:Cx}
open Classical in
theorem qeQ(hu:X.A.units+64<cLine):OpR X (compareOp .Eq) (rEqP false):=by
 intro pins s σ H x y v u Q I rx ry h;obtain⟨d,e,h1,h2,k1,k2,q1,q2⟩:=h;refine op_eqD hu pins s σ H x y v u Q I rx ry ⟨d,e,h1,h2,k1,k2,?_⟩;rw[if_neg Bool.false_ne_true]
 by_cases z:d=e
 ·rw[decide_eq_true z];exact q1 z
 ·rw[decide_eq_false z];exact q2 z
open Classical in
theorem qep(hu:X.A.units+64<cLine):OpR X (compareOp .NotEq) (rEqP true):=by
 intro pins s σ H x y v u Q I rx ry h;obtain⟨d,e,h1,h2,k1,k2,q1,q2⟩:=h;refine op_neD hu pins s σ H x y v u Q I rx ry ⟨d,e,h1,h2,k1,k2,?_⟩;rw[if_pos rfl]
 by_cases z:d=e
 ·rw[decide_eq_true z];exact q1 z
 ·rw[decide_eq_false z];exact q2 z
end
theorem qfb{H:Hp}:∀(nms:List Str),DAll H (nms.map V.str) (nms.map PySem.W.Dat.str)
 | []=>.nil
 | x::l=>.cons (.str x) (qfb l)
def rSlS:V→Option Int→Option Int→Hp→VK→Prop:=fun x lo hi H Q=>∃z,x=.str z∧z.length≤sizeLine∧Q (.str (Txt.slice z lo hi)) H
section
variable{X:Cx}
theorem sl_str:SlR X rSlS:=by
 intro pins s σ H x v vl vu lo hi sl Q I rx hs pl pu h;obtain⟨z,rfl,hz,q⟩:=h;obtain⟨t,rfl⟩:=rx;cases pl with
 | none =>
   cases pu with
   | none=>exact⟨"str",_,PySem.F.slot_str_getitem.lookup,typeIs_str _ _ _,wpAny_getItem_str_slice (l:=none) (u:=none) (st:=none) hs rfl (post_val_or_str ⟨Nat.le_trans (Txt.slice_le z _ _) hz,fun t' k=>⟨.str (Txt.slice z none none),H,I.tok k,⟨t',rfl⟩,q⟩⟩)⟩
   | int j u=>exact⟨"str",_,PySem.F.slot_str_getitem.lookup,typeIs_str _ _ _,wpAny_getItem_str_slice (l:=none) (u:=some (j,u)) (st:=none) hs rfl (post_val_or_str ⟨Nat.le_trans (Txt.slice_le z _ _) hz,fun t' k=>⟨.str (Txt.slice z none (some j)),H,I.tok k,⟨t',rfl⟩,q⟩⟩)⟩
 | int i u =>
   cases pu with
   | none=>exact⟨"str",_,PySem.F.slot_str_getitem.lookup,typeIs_str _ _ _,wpAny_getItem_str_slice (l:=some (i,u)) (u:=none) (st:=none) hs rfl (post_val_or_str ⟨Nat.le_trans (Txt.slice_le z _ _) hz,fun t' k=>⟨.str (Txt.slice z (some i) none),H,I.tok k,⟨t',rfl⟩,q⟩⟩)⟩
   | int j u'=>exact⟨"str",_,PySem.F.slot_str_getitem.lookup,typeIs_str _ _ _,wpAny_getItem_str_slice (l:=some (i,u)) (u:=some (j,u')) (st:=none) hs rfl (post_val_or_str ⟨Nat.le_trans (Txt.slice_le z _ _) hz,fun t' k=>⟨.str (Txt.slice z (some i) (some j)),H,I.tok k,⟨t',rfl⟩,q⟩⟩)⟩
theorem slice_to{x:Str}{j:Int}(h0:0≤j)(h1:j≤x.length):Txt.slice x none (some j)=⟨(x.cps.toList.take j.toNat).toArray⟩:=by
 have:=beq_iff_eq.mp (slice_closes_to (x:=x) (j:=j) ⟨h0,h1⟩);rw[this];simp
theorem slice_from{x:Str}{j:Int}(h0:0≤j)(h1:j≤x.length):Txt.slice x (some j) none=⟨(x.cps.toList.drop j.toNat).toArray⟩:=by
 have:=beq_iff_eq.mp (slice_closes_from (x:=x) (i:=j) ⟨h0,h1⟩);rw[this,List.take_of_length_le];rw[List.length_drop];omega
end
end L2
namespace Gen
open PySem L2 Bk
theorem b_isinstance:bootBuiltins "isinstance" = some (.builtin "isinstance"):=by decide +kernel
theorem b_len:bootBuiltins "len" = some (.builtin "len"):=by decide +kernel
theorem b_all:bootBuiltins "all" = some (.builtin "all"):=by decide +kernel
theorem b_sorted:bootBuiltins "sorted" = some (.builtin "sorted"):=by decide +kernel
theorem b_int:bootBuiltins "int" = some (.type "int"):=by decide +kernel
theorem b_bool:bootBuiltins "bool" = some (.type "bool"):=by decide +kernel
theorem b_str:bootBuiltins "str" = some (.type "str"):=by decide +kernel
theorem b_list:bootBuiltins "list" = some (.type "list"):=by decide +kernel
theorem b_tuple:bootBuiltins "tuple" = some (.type "tuple"):=by decide +kernel
theorem b_set:bootBuiltins "set" = some (.type "set"):=by decide +kernel
theorem b_verr:bootBuiltins "ValueError" = some (.type "ValueError"):=by decide +kernel
structure Bn(mg:Str→Option Value):Prop where
 isinstance:mg "isinstance" = none
 len:mg "len" = none
 range:mg "range" = none
 sorted:mg "sorted" = none
 int:mg "int" = none
 bool:mg "bool" = none
 list:mg "list" = none
 tuple:mg "tuple" = none
 str:mg "str" = none
 set:mg "set" = none
 enumerate:mg "enumerate" = none
 all:mg "all" = none
 ver:mg "ValueError" = none
def StOk(H:Hp)(st:Addr):Prop:=∃x y:Int,H st=some (.lst [.int x,.int y])∧0≤y∧y<4294967296
abbrev Keep1(st:Addr)(H H':Hp):Prop:=KeepN (fun b=>b≠st) H H'
abbrev qb8(st p:Addr)(H H':Hp):Prop:=KeepN (fun b=>b≠st∧b≠p) H H'
theorem Keep1.two{st p:Addr}{H H':Hp}(k:Keep1 st H H'):qb8 st p H H':=k.mono fun _ n=>n.1
theorem StOk.same{H H':Hp}{st:Addr}(h:StOk H st)(s:Same H H'):StOk H' st:=by
 obtain⟨x,y,e,z⟩:=h;exact⟨x,y,s _ _ e,z⟩
theorem StOk.some{H:Hp}{st:Addr}(h:StOk H st):∃o,H st=some o:=by
 obtain⟨x,y,e,z⟩:=h;exact⟨_,e⟩
theorem qaI{H:Hp}{a b:Addr}(h:∃o,H a=some o)(n:H b=none):b≠a:=by
 obtain⟨o,e⟩:=h;exact Ne.symm (qar e n)
def qes(K:PySem.W.Frag):Sp:=fun vs H Q _=>∃(a:Addr) (ns:List Int) (k:Int),vs=[.ref a,.int k]∧SqL K H a (ns.map V.int)∧0≤k∧k≤100∧∀(st:Addr) (H':Hp),H st=none→StOk H' st→Same H H'→Q (.ref st) H'
def spTake:Sp:=fun vs H Q _=>∃(st:Addr) (m:Int),vs=[.ref st,.int m]∧StOk H st∧0<m∧m≤1000000000000∧∀(r:Int) (H':Hp),0≤r→r<m→StOk H' st→Keep1 st H H'→Q (.int r) H'
def spWord:Sp:=fun vs H Q _=>∃(st:Addr) (m:Int),vs=[.ref st,.int m]∧StOk H st∧1≤m∧m≤20∧∀(x:Str) (H':Hp),Word x→(x.length:Int)≤m→StOk H' st→Keep1 st H H'→Q (.str x) H'
def spName:Sp:=fun vs H Q _=>∃(st:Addr) (n:Int),vs=[.ref st,.int n]∧StOk H st∧0≤n∧n≤1000∧∀(x:Str) (H':Hp),Name x→StOk H' st→Keep1 st H H'→Q (.str x) H'
def qcN(H:Hp):Addr→Prop:=fun b=>H b=none
def spPieces:Sp:=fun vs H Q _=>∃(st p:Addr) (n:Nat) (nms:List Str),vs=[.ref st,.int n,.ref p]∧StOk H st∧n≤2∧p≠st∧H p=some (.lst (nms.map V.str))∧nms≠[]∧nms.length≤1000∧(∀x∈nms,Name x) ∧
 ∀(s:Addr) (its:List Th) (H':Hp),Pieces n its→StAt (qcN H) H' s its→StOk H' st→Keep1 st H H'→Q (.ref s) H'
def New(H0:Hp)(p:Addr):Addr→Prop:=fun b=>H0 b=none∧b≠p
structure Gs(H0:Hp)(st p:Addr)(H:Hp)(ds:List Nd):Prop where
 so:StOk H st
 s0:∃o,H0 st=some o
 p0:H0 p=none
 old:Keep1 st H0 H
 bk:qbh (New H0 p) H p ds
section
variable{H0 H H':Hp}{st p:Addr}{ds:List Nd}
theorem Gs.pne(g:Gs H0 st p H ds):p≠st:=by
 obtain⟨o,e⟩:=g.s0;exact Ne.symm (qar e g.p0)
theorem Gs.nst(g:Gs H0 st p H ds){b:Addr}(h:New H0 p b):b≠st:=by
 obtain⟨o,e⟩:=g.s0;exact Ne.symm (qar e h.1)
theorem Gs.psome(g:Gs H0 st p H ds):∃o,H p=some o:=by
 obtain⟨as,e,_⟩:=g.bk;exact⟨_,e⟩
theorem Gs.fresh(g:Gs H0 st p H ds){b:Addr}(h:H b=none):New H0 p b:=by
 refine⟨?_,qaI g.psome h⟩;cases e:H0 b with
 | none=>rfl
 | some o =>
   have:=g.old b o (qaI g.so.some h) e
   rw[h]at this
   cases this
theorem Gs.keep1(g:Gs H0 st p H ds)(k:Keep1 st H H')(so:StOk H' st):Gs H0 st p H' ds:=by
 obtain⟨as,e,q⟩:=g.bk;exact⟨so,g.s0,g.p0,g.old.trans k,as,k _ _ g.pne e,q.keep (k.mono fun b n=>g.nst n) fun _ n _=>n⟩
theorem Gs.same(g:Gs H0 st p H ds)(s:Same H H'):Gs H0 st p H' ds:=g.keep1 s.keep (g.so.same s)
theorem Gs.push(g:Gs H0 st p H ds){as:List Addr}{a:Addr}{d:Nd}(e:H p=some (.lst (as.map V.ref)))(q:NdsAt (New H0 p) H as ds)(x:NdAt (New H0 p) H a d):Gs H0 st p (upd H p (.lst (as.map V.ref++[.ref a]))) (ds++[d]):=by
 have k:KeepN (New H0 p) H (upd H p (.lst (as.map V.ref++[.ref a]))):=fun b o n e=>by rw[qax n.2];exact e
 refine⟨?_,g.s0,g.p0,fun b o n e=>?_,as++[a],by rw[qad];simp,(q.keep k fun _ n _=>n).append (.cons (x.keep k fun _ n _=>n) .nil)⟩
 ·obtain⟨x,y,z,w⟩:=g.so;exact⟨x,y,by rw[qax (Ne.symm g.pne)];exact z,w⟩
 ·rw[qax (fun z=>by rw[z,g.p0]at e;cases e)];exact g.old b o n e
end
def NmOk(ds:List Nd)(x:Str):Prop:=x=noName∨(Name x∧∀c∈ds,c.nm≠x)
def qee(ds:List Nd):Prop:=∀d∈ds,d.nm=noName∨Name d.nm
def spOwn:Sp:=fun vs H Q _=>∃(H0:Hp) (p st:Addr) (ds:List Nd),vs=[.ref p,.ref st]∧Gs H0 st p H ds∧ds.length≤200 ∧
 ∀(l m:Addr) (nm:Str) (mks:List Str) (H':Hp),H l=none→H m=none→H' l=some (.lst [.str nm,.ref m])→H' m=some (.lst (mks.map V.str))→qcm mks→NmOk ds nm→StOk H' st→Keep1 st H H'→Q (.ref l) H'
def spAdd:Sp:=fun vs H Q _=>∃(H0:Hp) (p st s:Addr) (e:Int) (k:Kd) (its:List Th) (ds:List Nd),vs=[.ref p,.int e,.str k.s,.ref s,.ref st]∧Gs H0 st p H ds∧StAt (New H0 p) H s its∧ds.length≤200 ∧
 ∀(d:Nd) (H':Hp),d.e=e→d.k=k→d.st=its→qcm d.mks→NmOk ds d.nm→Gs H0 st p H' (ds++[d])→qb8 st p H H'→Q (.int ds.length) H'
structure More(e lv:Nat)(ds more:List Nd)(ks:List Kd):Prop where
 fo:Forest e ds.length lv more ks
 fm:∀d∈more,Form d
 nm:Names (ds++more)
def spText:Sp:=fun vs H Q _=>∃(H0:Hp) (p st:Addr) (e lv:Nat) (k:Kd) (ds:List Nd),vs=[.ref p,.int e,.str k.s,.ref st]∧Gs H0 st p H ds∧(k=.text∨k=.head)∧ds.length≤190∧lv≤5∧qee ds∧Names ds ∧
 ∀(more:List Nd) (H':Hp),More e lv ds more [k]→more.length≤3→Gs H0 st p H' (ds++more)→qb8 st p H H'→Q .non H'
def Cont(k:Kd):Prop:=k=.body∨k=.case∨k=.shelf∨k=.grid∨k=.aside
def qcb(n:Nat):Sp:=fun vs H Q _=>∃(H0:Hp) (p st:Addr) (e lv R:Nat) (de:Nd) (ds:List Nd),vs=[.ref p,.int e,.int lv,.int R,.ref st]∧Gs H0 st p H ds∧ds[e]?=some de∧Cont de.k∧1≤lv∧lv≤4∧5≤lv+n∧1≤R∧R≤12∧ds.length≤100 ∧
 qee ds∧Names ds∧∀(more:List Nd) (ks:List Kd) (H':Hp),More e lv ds more ks→ItemKs de.k ks→(R≤ds.length→more.length≤3)→(ds.length<R→ds.length+more.length≤cap R lv)→Gs H0 st p H' (ds++more)→qb8 st p H H'→Q .non H'
def spBook:Sp:=fun vs H Q _=>∃(st:Addr) (m R:Nat),vs=[.ref st,.int m,.int R]∧StOk H st∧1≤m∧m≤4∧1≤R∧R≤12 ∧
 ∀(p:Addr) (ds:List Nd) (H':Hp),Book ds→ds.length≤R+39→H p=none→qbh (qcN H) H' p ds→StOk H' st→Keep1 st H H'→Q (.ref p) H'
theorem Names.nil:Names []:=List.nodup_nil
theorem qbC{ds:List Nd}{d:Nd}(h:Names ds)(n:NmOk ds d.nm):Names (ds++[d]):=by
 unfold Names;rw[List.filter_append,List.map_append]
 by_cases z:d.nm=noName
 ·have:([d].filter fun d=>decide (d.nm≠noName))=[]:=by simp[z]
  rw[this,List.map_nil,List.append_nil];exact h
 ·have:([d].filter fun d=>decide (d.nm≠noName))=[d]:=by simp[z]
  rw[this,List.nodup_append];refine⟨h,by simp,fun a ha b hb=>?_⟩;have hb':b=d.nm:=by simpa using hb
  subst hb';obtain⟨c,hc,rfl⟩:=List.mem_map.mp ha;rcases n with n | n
  ·exact absurd n z
  ·exact n.2 c (List.mem_filter.mp hc).1
theorem nms_push{ds:List Nd}{d:Nd}(h:qee ds)(n:NmOk ds d.nm):qee (ds++[d]):=fun c hc=>by
 rcases List.mem_append.mp hc with hc | hc
 ·exact h c hc
 ·have:c=d:=by simpa using hc
  subst this;rcases n with n | n
  ·exact .inl n
  ·exact .inr n.1
end Gen
namespace Gen
open PySem L2 Bk
theorem int_at{ns:List Int}{k:Int}(h0:0≤k)(h:k<(ns.length:Int)):∃v:Int,atI (ns.map V.int) k=some (.int v):=by
 have hk:k.toNat<ns.length:=by omega
 have ek:k=((k.toNat:Nat):Int):=by omega
 have q:atI (ns.map V.int) ((k.toNat:Nat):Int)=some (.int ns[k.toNat]):=qcj (by rw[List.getElem?_map,List.getElem?_eq_getElem hk]<;>rfl);rw[←ek]at q;exact⟨_,q⟩
def signs:Str:=Str.ofString "abcdefghijklmnopqrstuvwxyzABCDEFGHIJKLMNOPQRSTUVWXYZ0123456789.,-;:'()!?"
def small:Str:=Str.ofString "abcdefghijklmnopqrstuvwxyz"
def sg(c:Nat):Str:=⟨#[c]⟩
theorem signs_is:signs.cps.toList=wordSigns:=by decide +kernel
theorem signs_le:signs.length≤sizeLine:=by decide +kernel
theorem small_le:small.length≤sizeLine:=by decide +kernel
theorem small_is:small.cps.toList=[97,98,99,100,101,102,103,104,105,106,107,108,109,110,111,112,113,114,115,116,117,118,119,120,121,122]:=by decide +kernel
theorem qeP{α:Type}{l:List α}{i:Int}(h0:0≤i)(h1:i<(l.length:Int)):∃c,atI l i=some c∧c∈l:=by
 have hi:i.toNat<l.length:=by omega
 have ei:i=((i.toNat:Nat):Int):=by omega
 have q:atI l ((i.toNat:Nat):Int)=some l[i.toNat]:=qcj (List.getElem?_eq_getElem hi);rw[←ei]at q;exact⟨_,q,List.getElem_mem hi⟩
theorem signs_at{i:Int}(h0:0≤i)(h1:i<72):∃c,atI signs.cps.toList i=some c∧c∈wordSigns:=by
 rw[signs_is];exact qeP h0 h1
theorem qdn{i:Int}(h0:0≤i)(h1:i<26):∃c,atI small.cps.toList i=some c∧qdJ c:=by
 rw[small_is];obtain⟨c,e,m⟩:=qeP (l:=[97,98,99,100,101,102,103,104,105,106,107,108,109,110,111,112,113,114,115,116,117,118,119,120,121,122]) h0 h1;refine⟨c,e,?_⟩;have all:∀c∈[97,98,99,100,101,102,103,104,105,106,107,108,109,110,111,112,113,114,115,116,117,118,119,120,121,122],97≤c∧c≤122:=by decide
 exact all c m
theorem noName_nil:noName.cps.toList=[]:=by decide +kernel
theorem qaK(x y:Str):(x++y).length=x.length+y.length:=by
 show(x.cps++y.cps).size=_;rw[Array.size_append];rfl
theorem app_list(x y:Str):(x++y).cps.toList=x.cps.toList++y.cps.toList:=by
 show(x.cps++y.cps).toList=_;exact Array.toList_append
theorem qfk{p:Nat→Prop}{c:Nat}(h:p c):∀d∈(sg c).cps.toList,p d:=fun d hd=>by
 have:d=c:=by simpa[sg]using hd
 rw[this];exact h
theorem qdm{p:Nat→Prop}{x y:Str}(h1:∀c∈x.cps.toList,p c)(h2:∀c∈y.cps.toList,p c):∀c∈(x++y).cps.toList,p c:=fun c hc=>by
 rw[app_list]at hc;rcases List.mem_append.mp hc with h | h
 ·exact h1 c h
 ·exact h2 c h
theorem qfa{p:Nat→Prop}{x:Str}{c:Nat}(h1:∀c∈x.cps.toList,p c)(h2:p c):∀d∈(x++sg c).cps.toList,p d:=qdm h1 (qfk h2)
end Gen
namespace Gen
open PySem L2 Bk
theorem small_str{x:Str}(h:∀c∈x.cps.toList,qdJ c):PyData.strOk x=true:=by
 show(x.cps.all fun c=>decide (c<0x110000))=true;rw[Array.all_eq_true'];intro c hc;have:=h c (by simpa using hc);unfold qdJ at this;exact decide_eq_true (by omega)
theorem qd2{nms:List Str}(h:∀x∈nms,Name x):PySem.W.kqdOk 9 (.list (nms.map PySem.W.Dat.str))=true:=by
 simp only[PySem.W.kqdOk,List.all_eq_true,List.mem_map,decide_eq_true_eq];rintro d ⟨x,hx,rfl⟩;have:=small_str (h x hx).2.2;simpa[PySem.W.kqdOk]using this
theorem qeY{nms:List Str}{i:Int}(h0:0≤i)(h1:i<((nms.map V.str).length:Int)):∃y,atI (nms.map V.str) i=some (.str y)∧y∈nms:=by
 obtain⟨v,e,m⟩:=qeP h0 h1;obtain⟨y,my,rfl⟩:=List.mem_map.mp m;exact⟨y,e,my⟩
theorem back{st:Addr}{H H':Hp}{b:Addr}(k:Keep1 st H H')(n:b≠st)(h:H' b=none):H b=none:=by
 cases e:H b with
 | none=>rfl
 | some o =>
   rw[k b o n e]at h
   cases h
theorem qbD(a b:List Th):qaC (a++b)=qaC a++qaC b:=List.filterMap_append
theorem notes_of(l:List Int):qaC (l.map fun k=>Th.tri .note (.inr k) 0)=l:=by
 unfold qaC;rw[List.filterMap_map];exact List.filterMap_some
theorem nums_take{n m:Nat}(h:m≤n):nums m=(nums n).take m:=by
 unfold nums;rw[←List.map_take,List.take_range,Nat.min_eq_left h]
theorem note_more(dn i:Nat):((nums (dn+(i+1))).drop dn).map (fun k=>Th.tri .note (.inr k) 0)=((nums (dn+i)).drop dn).map (fun k=>Th.tri .note (.inr k) 0)++[Th.tri .note (.inr ((dn+i:Nat):Int)) 0]:=by
 rw[←Nat.add_assoc,qc1,List.drop_append_of_le_length (by simp[nums]),List.map_append];rfl
theorem qbY{α β:Type}{F:α→β→Prop}:∀{a b:List α} {c d:List β},Paired F a c→Paired F b d→Paired F (a++b) (c++d)
 | _,_,_,_,.nil,h=>h
 | _,_,_,_,.cons q t,h=>.cons q (qbY t h)
end Gen
namespace L2
theorem KeepN.back{st:PySem.Addr}{H H':Hp}{b:PySem.Addr}(k:KeepN (fun b=>b≠st) H H')(n:b≠st)(h:H' b=none):H b=none:=Gen.back k n h
end L2
namespace K05
open PySem L2 Bk Gen
def top(i:Nat):Stmt:=PySem.Challenge.pw_leafpress_k05_books_refused.main.body.getD i (.Pass ⟨0,0,0,0⟩)
abbrev sStream:Stmt:=top 58
abbrev sTake:Stmt:=top 59
abbrev sWord:Stmt:=top 61
abbrev sName:Stmt:=top 62
abbrev sPieces:Stmt:=top 63
abbrev sOwn:Stmt:=top 64
abbrev sAdd:Stmt:=top 65
abbrev sText:Stmt:=top 66
abbrev sItem:Stmt:=top 67
abbrev sBook:Stmt:=top 68
section
variable{P:Program}{w:World}{K:PySem.W.Frag}{mg:Str→Option Value}{base:Heap}
theorem scStream:FnScope ["_law_script", "_law_k"] ["_law_script", "_law_k"] (qan sStream):=⟨rfl,rfl,rfl,by decide +kernel,rfl,by decide +kernel,by decide +kernel⟩
theorem ok_stream{f:Addr}{fd:FuncData}(F:Fun K "_law_stream" "_law_stream" sStream f fd)(T:Bn mg):FnOk P w K mg base CX0 1 f fd ["_law_script", "_law_k"] (qes K):=by
 refine F.ok scStream (fun vs H Q E h=>?_) (fun cdv A outer s H vs Q E hr h=>?_)
 ·obtain⟨a,ns,k,rfl,_⟩:=h;rfl
 ·obtain⟨a,ns,k,rfl,hS,k0,k1,q⟩:=h;refine⟨_,(qae (qaR (qas op_lt (pv 1) (qaw call_len_seq (by rfl) T.len b_len (qab (pv 0) pa_nil)) (qaz _)) (qai (qat (qaY (qab (qaF ix_list (pv 0) (pv 1) (fun _ _=>rfl)) (qab (qaN op_add (qaN op_add (qaN op_mod (qaF ix_list (pv 0) (pv 1) (fun _ _=>rfl)) qak) (qaN op_mul (pv 1) (pv 1))) qak) pa_nil))))) pss_nil)
   (qai (qat (qaY (qab (qaN op_add (qaN op_mul (qaN op_mul (pv 1) (pv 1)) qak) qak) (qab (qaN op_add (pv 1) qak) pa_nil)))))),?_⟩
  have kk:0≤k*k∧k*k≤10000:=by
   have h1:=Int.mul_nonneg k0 k0;have h2:k*k≤100*100:=Int.mul_le_mul k1 k1 k0 (by decide);omega
  refine⟨_,rfl,_,rfl,a,_,rfl,.inl hS,_,_,rfl,rfl,_,rfl,?_⟩;refine ite2 (fun c=>?_) (fun c=>?_)
  ·have c':k<(((ns.map V.int).length:Nat):Int):=of_decide_eq_true c;rw[List.length_map]at c';obtain⟨v,hv⟩:=int_at (ns:=ns) k0 c';refine⟨_,rfl,_,rfl,a,_,_,_,rfl,rfl,hS,hv,?_⟩;refine⟨_,rfl,_,rfl,a,_,_,_,rfl,rfl,hS,hv,_,_,rfl,rfl,(by show(0:Int)<2147483629;decide),_,rfl,_,rfl,_,_,rfl,rfl,.inl ⟨by omega,by omega⟩,_,_,rfl,rfl,_,_,rfl,rfl,(by show 2≤sizeLine;decide),fun l hl=>?_⟩;have m1:=Int.emod_nonneg v (show(2147483629:Int)≠0 by decide);have m2:=Int.emod_lt_of_pos v (show(0:Int)<2147483629 by decide);exact q l _ hl ⟨v,_,qad,by omega,by omega⟩ (qaf hl _)
  ·refine⟨_,rfl,_,rfl,_,_,rfl,rfl,.inl ⟨by omega,by omega⟩,_,_,rfl,rfl,.inl ⟨by omega,by omega⟩,_,_,rfl,rfl,_,rfl,_,_,rfl,rfl,(by show 2≤sizeLine;decide),fun l hl=>?_⟩;exact q l _ hl ⟨_,_,qad,by omega,by omega⟩ (qaf hl _)
theorem scTake:FnScope ["_law_stream_here", "_law_most", "_law_digit"] ["_law_stream_here", "_law_most"] (qan sTake):=⟨rfl,rfl,rfl,by decide +kernel,rfl,by decide +kernel,by decide +kernel⟩
theorem ok_take{f:Addr}{fd:FuncData}(F:Fun K "_law_take" "_law_take" sTake f fd):FnOk P w K mg base CX0 1 f fd ["_law_stream_here", "_law_most"] spTake:=by
 refine F.ok scTake (fun vs H Q E h=>?_) (fun cdv A outer s H vs Q E hr h=>?_)
 ·obtain⟨st,m,rfl,_⟩:=h;rfl
 ·obtain⟨st,m,rfl,⟨x,y,hst,y0,y1⟩,m0,m1,q0⟩:=h;have q:∀r x' y':Int,0≤r→r<m→0≤y'→y'<4294967296→Q (.int r) (upd H st (.lst [.int x',.int y'])):=fun r x' y' r0 r1 z0 z1=>q0 r _ r0 r1 ⟨x',y',qad,z0,z1⟩ fun b o n e=>by rw[qax n];exact e
  refine⟨_,(qae (qaR (PW.pt (qcx (qas op_eq (qaF ix_list (pv 0) qak (fun _ _=>rfl)) qak (qaz _)) (qbQ (qas op_eq (qaF ix_list (pv 0) qak (fun _ _=>rfl)) (qeJ un_neg qak) (qaz _))))) (qae (qfH (qaN op_mod (qaN op_add (qaN op_mul (qaF ix_list (pv 0) qak (fun _ _=>rfl)) qak) qak) qak) (qfB (pv 0) qak set_list))
   (qai (qat (qaN op_mod (qaN op_mod (qaN op_mul (qaF ix_list (pv 0) qak (fun _ _=>rfl)) (qaF ix_list (pv 0) qak (fun _ _=>rfl))) qak) (pv 1))))) pss_nil)
   (qae (qaD (i:=2) scTake.nd (by rfl) (by trivial) (qaN op_mod (qaF ix_list (pv 0) qak (fun _ _=>rfl)) (pv 1)))
   (qae (qfH (qaN op_fdivL (qaF ix_list (pv 0) qak (fun _ _=>rfl)) (pv 1)) (qfB (pv 0) qak set_list))
   (qai (qat (pv 2)))))),?_⟩
  have mm:∀v:Int,0≤v % m∧v % m<m:=fun v=>⟨Int.emod_nonneg v (by omega),Int.emod_lt_of_pos v m0⟩
  have empty:∀Q':VK,Q'=Q→tSeq (tAsg (tOp (rI (fun _ j=>0<j) fun i j=>.int (i % j)) (tOp (rI0 fun i j=>.int (i+j)) (tOp (rI CMul fun i j=>.int (i*j)) (tOp (rIxL K) (tVar 0) (tC (.int 1))) (tC (.int 48271))) (tC (.int 12345))) (tC (.int 2147483647))) (gSub (tVar 0) (tC (.int 1)) rSetL))
    (tRet (tOp (rI (fun _ j=>0<j) fun i j=>.int (i % j)) (tOp (rI (fun _ j=>0<j) fun i j=>.int (i % j)) (tOp (rI CMul fun i j=>.int (i*j)) (tOp (rIxL K) (tVar 0) (tC (.int 1))) (tOp (rIxL K) (tVar 0) (tC (.int 1)))) (tC (.int 2147483629))) (tVar 1)))
    {nx:=fun _ _=>False,rt:=Q'} [some (.ref st),some (.int m),none] H:=by
   rintro Q' rfl;refine⟨_,rfl,st,_,_,_,rfl,rfl,SqL.of hst,rfl,_,_,rfl,rfl,.inl ⟨by omega,by omega⟩,_,_,rfl,rfl,_,_,rfl,rfl,(by show(0:Int)<2147483647;decide),_,rfl,st,_,1,1,rfl,rfl,hst,rfl,?_⟩;have z0:=Int.emod_nonneg (y*48271+12345) (show(2147483647:Int)≠0 by decide);have z1:=Int.emod_lt_of_pos (y*48271+12345) (show(0:Int)<2147483647 by decide);have hst':upd H st (.lst [.int x,.int ((y*48271+12345) % 2147483647)]) st=some (.lst [.int x,.int ((y*48271+12345) % 2147483647)]):=qad;refine⟨_,rfl,st,_,_,_,rfl,rfl,SqL.of hst',rfl,_,rfl,st,_,_,_,rfl,rfl,SqL.of hst',rfl,_,_,rfl,rfl,.inl (show -(2 ^ 64)<(y*48271+12345) % 2147483647∧(y*48271+12345) % 2147483647<2 ^ 64 from⟨by omega,by omega⟩),_,_,rfl,rfl,(by show(0:Int)<2147483629;decide),_,rfl,_,_,rfl,rfl,m0,?_⟩;exact q _ x _ (mm _).1 (mm _).2 z0 (by omega)
  refine⟨_,rfl,st,_,_,_,rfl,rfl,SqL.of hst,rfl,rfl,_,rfl,?_⟩
  by_cases x0:x=0
  ·rw[decide_eq_true (show V.int x=V.int 0 by rw[x0])];refine iteT (iteT ?_);exact empty _ rfl
  ·rw[decide_eq_false (show¬V.int x=V.int 0 from fun z=>x0 (V.int.inj z))];refine iteF ⟨_,rfl,st,_,_,_,rfl,rfl,SqL.of hst,rfl,_,rfl,rfl,_,rfl,?_⟩
   by_cases x1:x=-1
   ·rw[decide_eq_true (show V.int x=V.int (-1) by rw[x1])];refine iteT ?_;exact empty _ rfl
   ·rw[decide_eq_false (show¬V.int x=V.int (-1)from fun z=>x1 (V.int.inj z))];refine iteF ?_;refine⟨_,rfl,st,_,_,_,rfl,rfl,SqL.of hst,rfl,_,rfl,_,_,rfl,rfl,m0,?_⟩;refine⟨_,rfl,st,_,_,_,rfl,rfl,SqL.of hst,rfl,_,rfl,_,_,rfl,rfl,⟨m0,by omega⟩,_,rfl,st,_,0,0,rfl,rfl,hst,rfl,?_⟩;refine⟨_,rfl,?_⟩;exact q _ (x / m) y (mm x).1 (mm x).2 y0 y1
end
end K05
namespace K05
open PySem L2 Bk Gen
section
variable{P:Program}{w:World}{K:PySem.W.Frag}{mg:Str→Option Value}{base:Heap}
theorem scWord:FnScope ["_law_stream_here", "_law_most", "_law_signs", "_law_word_here", "_law_k"] ["_law_stream_here", "_law_most"] (qan sWord):=⟨rfl,rfl,rfl,by decide +kernel,rfl,by decide +kernel,by decide +kernel⟩
theorem ok_word{f:Addr}{fd:FuncData}(F:Fun K "_law_word" "_law_word" sWord f fd)(T:Bn mg)(F_take:Fx P w K mg base CX0 1 "_law_take" ["_law_stream_here", "_law_most"] spTake):FnOk P w K mg base CX0 2 f fd ["_law_stream_here", "_law_most"] spWord:=by
 refine F.ok scWord (fun vs H Q E h=>?_) (fun cdv A outer s H vs Q E hr h=>?_)
 ·obtain⟨st,m,rfl,_⟩:=h;rfl
 ·obtain⟨st,m,rfl,S,m1,m2,q⟩:=h;have hr_take:=hr;refine⟨_,(qae (qaD (i:=2) scWord.nd (by rfl) (by trivial) qao)
   (qae (qaD (i:=3) scWord.nd (by rfl) (by trivial) qao)
   (qae (qbN PassesOwn.never (by rfl) (qbg (by rfl) T.range (qab (qaN op_add qak (qaE F_take hr_take (by rfl) qaG (qab (pv 0) (qab (pv 1) pa_nil)))) pa_nil)) (qaH (i:=4) scWord.nd (by rfl) (by trivial))
   (qai (qaD (i:=3) scWord.nd (by rfl) (by trivial) (qaN op_add_str (pv 3) (qaF ix_str (pv 2) (qaE F_take hr_take (by rfl) qaG (qab (pv 0) (qab qak pa_nil))) (fun _ _=>rfl))))))
   (qai (qat (pv 3)))))),?_⟩
  refine⟨_,rfl,_,rfl,st,m,rfl,S,by omega,by omega,fun r H1 r0 r1 S1 K1=>⟨_,_,rfl,rfl,_,rfl,by omega,by omega,qbn (fun i σ H2=>∃(x:Str) (v:Option V),σ=[some (.ref st),some (.int m),some (.str signs),some (.str x),v]∧x.length=i∧(∀c∈x.cps.toList,c∈wordSigns)∧StOk H2 st∧Keep1 st H H2)
   ⟨noName,none,rfl,rfl,(fun c hc=>by rw[noName_nil]at hc;cases hc),S1,K1⟩ ?_ ?_⟩⟩
  ·rintro i σ H2 hi ⟨x,v,rfl,lx,cx,S2,K2⟩;refine⟨_,rfl,_,rfl,_,rfl,st,72,rfl,S2,by decide,by decide,fun r2 H3 r20 r21 S3 K3=>?_⟩;obtain⟨c,ec,ic⟩:=signs_at r20 r21;refine⟨_,_,_,rfl,rfl,signs_le,ec,_,_,rfl,rfl,?_,?_⟩
   ·show x.length+1≤sizeLine;exact Nat.le_of_lt (qaA (by omega))
   exact⟨x++sg c,_,rfl,by rw[qaK,lx];rfl,qfa cx ic,S3,K2.trans K3⟩
  ·rintro σ H2 ⟨x,v,rfl,lx,cx,S2,K2⟩;refine⟨_,rfl,?_⟩;exact q x H2 ⟨by omega,by omega,cx⟩ (by omega) S2 K2
theorem scName:FnScope ["_law_stream_here", "_law_many", "_law_letters", "_law_size", "_law_name_here", "_law_k"] ["_law_stream_here", "_law_many"] (qan sName):=⟨rfl,rfl,rfl,by decide +kernel,rfl,by decide +kernel,by decide +kernel⟩
theorem ok_name{f:Addr}{fd:FuncData}(F:Fun K "_law_name" "_law_name" sName f fd)(T:Bn mg)(F_take:Fx P w K mg base CX0 1 "_law_take" ["_law_stream_here", "_law_most"] spTake):FnOk P w K mg base CX0 2 f fd ["_law_stream_here", "_law_many"] spName:=by
 refine F.ok scName (fun vs H Q E h=>?_) (fun cdv A outer s H vs Q E hr h=>?_)
 ·obtain⟨st,n,rfl,_⟩:=h;rfl
 ·obtain⟨st,n,rfl,S,n0,n1,q⟩:=h;have hr_take:=hr;refine⟨_,(qae (qaD (i:=2) scName.nd (by rfl) (by trivial) qao)
   (qae (qaD (i:=3) scName.nd (by rfl) (by trivial) (qaN op_add qak (qaE F_take hr_take (by rfl) qaG (qab (pv 0) (qab qak pa_nil)))))
   (qae (qaD (i:=4) scName.nd (by rfl) (by trivial) (qaN op_add_str (qaF ix_str (pv 2) (qaN op_mod (pv 1) qak) (fun _ _=>rfl)) (qaF ix_str (pv 2) (qaN op_mod (qaN op_add (qaN op_fdiv (pv 1) qak) (qaE F_take hr_take (by rfl) qaG (qab (pv 0) (qab qak pa_nil)))) qak) (fun _ _=>rfl))))
   (qae (qbN PassesOwn.never (by rfl) (qbg (by rfl) T.range (qab (pv 3) pa_nil)) (qaH (i:=5) scName.nd (by rfl) (by trivial))
   (qai (qaD (i:=4) scName.nd (by rfl) (by trivial) (qaN op_add_str (qaN op_add_str (qbG sl_str (pv 4) po_none (qbM (qaN op_mod (pv 5) qak))) (qaF ix_str (pv 2) (qaE F_take hr_take (by rfl) qaG (qab (pv 0) (qab qak pa_nil))) (fun _ _=>rfl))) (qbG sl_str (pv 4) (qbM (qaN op_mod (pv 5) qak)) po_none)))))
   (qai (qat (pv 4))))))),?_⟩
  refine⟨_,rfl,st,6,rfl,S,by decide,by decide,fun r H1 r0 r1 S1 K1=>⟨_,_,rfl,rfl,?_⟩⟩;have m0:=Int.emod_nonneg n (show(26:Int)≠0 by decide);have m1:=Int.emod_lt_of_pos n (show(0:Int)<26 by decide);obtain⟨c,ec,ic⟩:=qdn m0 m1;refine⟨_,rfl,_,rfl,_,_,rfl,rfl,(by show(0:Int)<26;decide),_,_,_,rfl,rfl,small_le,ec,?_⟩;refine⟨_,rfl,_,rfl,_,_,rfl,rfl,⟨by decide,by decide⟩,_,rfl,st,3,rfl,S1,by decide,by decide,fun r2 H2 r20 r21 S2 K2=>⟨_,_,rfl,rfl,_,_,rfl,rfl,(by show(0:Int)<26;decide),?_⟩⟩;have k0:=Int.emod_nonneg (n / 26+r2) (show(26:Int)≠0 by decide);have k1:=Int.emod_lt_of_pos (n / 26+r2) (show(0:Int)<26 by decide);obtain⟨d,ed,id'⟩:=qdn k0 k1;refine⟨_,_,_,rfl,rfl,small_le,ed,_,_,rfl,rfl,by show 1+1≤sizeLine;decide,?_⟩;refine⟨_,rfl,_,rfl,by omega,by omega,qbn (fun i σ H3=>∃(x:Str) (v:Option V),σ=[some (.ref st),some (.int n),some (.str small),some (.int (1+r)),some (.str x),v]∧x.length=i+2∧(∀c∈x.cps.toList,qdJ c)∧StOk H3 st∧Keep1 st H H3)
   ⟨sg c++sg d,none,rfl,rfl,qfa (qfk ic) id',S2,K1.trans K2⟩ ?_ ?_⟩
  ·rintro i σ H3 hi ⟨x,v,rfl,lx,cx,S3,K3⟩;have j0:=Int.emod_nonneg (0+(i:Int)) (show(2:Int)≠0 by decide);have j1:=Int.emod_lt_of_pos (0+(i:Int)) (show(0:Int)<2 by decide);have xl:x.length≤sizeLine:=Nat.le_of_lt (qaA (by omega));refine⟨_,rfl,_,rfl,_,_,rfl,rfl,(by show(0:Int)<2;decide),_,rfl,_,rfl,xl,?_⟩;refine⟨_,rfl,_,rfl,st,26,rfl,S3,by decide,by decide,fun r3 H4 r30 r31 S4 K4=>?_⟩;obtain⟨e,ee,ie⟩:=qdn r30 r31;refine⟨_,_,_,rfl,rfl,small_le,ee,?_⟩;rw[slice_to j0 (by omega)];have a1:(⟨(x.cps.toList.take ((0+(i:Int)) % 2).toNat).toArray⟩:Str).length=((0+(i:Int)) % 2).toNat:=by
    show(List.toArray _).size=_;rw[List.size_toArray,List.length_take,Array.length_toList];show min _ x.length=_;omega
   refine⟨_,_,rfl,rfl,?_,?_⟩
   ·rw[a1];show _+1≤sizeLine;exact Nat.le_of_lt (qaA (by omega))
   refine⟨_,rfl,_,rfl,_,_,rfl,rfl,(by show(0:Int)<2;decide),_,rfl,_,rfl,xl,?_⟩;rw[slice_from j0 (by omega)];have a2:(⟨(x.cps.toList.drop ((0+(i:Int)) % 2).toNat).toArray⟩:Str).length=x.length-((0+(i:Int)) % 2).toNat:=by
    show(List.toArray _).size=_;rw[List.size_toArray,List.length_drop,Array.length_toList];rfl
   refine⟨_,_,rfl,rfl,?_,?_⟩
   ·rw[qaK,a1,a2];show _+1+_≤sizeLine;exact Nat.le_of_lt (qaA (by omega))
   refine⟨_,_,rfl,?_,?_,S4,K3.trans K4⟩
   ·rw[qaK,qaK,a1,a2];show _+1+_=_;omega
   ·refine qdm (qdm (fun c hc=>cx c ?_) (qfk ie)) fun c hc=>cx c ?_
    ·exact List.mem_of_mem_take (by simpa using hc)
    ·exact List.mem_of_mem_drop (by simpa using hc)
  ·rintro σ H3 ⟨x,v,rfl,lx,cx,S3,K3⟩;refine⟨_,rfl,?_⟩;exact q x H3 ⟨by omega,by omega,cx⟩ S3 K3
end
end K05
namespace K05
open PySem L2 Bk Gen
section
variable{P:Program}{w:World}{K:PySem.W.Frag}{mg:Str→Option Value}{base:Heap}
theorem scPieces:FnScope ["_law_stream_here", "_law_notes", "_law_names", "_law_pieces_here", "_law_done", "_law_k"] ["_law_stream_here", "_law_notes", "_law_names"] (qan sPieces):=⟨rfl,rfl,rfl,by decide +kernel,rfl,by decide +kernel,by decide +kernel⟩
theorem ok_pieces{f:Addr}{fd:FuncData}(F:Fun K "_law_pieces" "_law_pieces" sPieces f fd)(T:Bn mg)(F_take:Fx P w K mg base CX0 1 "_law_take" ["_law_stream_here", "_law_most"] spTake)(F_word:Fx P w K mg base CX0 2 "_law_word" ["_law_stream_here", "_law_most"] spWord):FnOk P w K mg base CX0 3 f fd ["_law_stream_here", "_law_notes", "_law_names"] spPieces:=by
 refine F.ok scPieces (fun vs H Q E h=>?_) (fun cdv A outer s H vs Q E hr h=>?_)
 ·obtain⟨st,p,n,nms,rfl,_⟩:=h;rfl
 ·obtain⟨st,p,n,nms,rfl,S,n2,pne,hp,nne,nle,nok,q⟩:=h;have hr_take:Room 1 _:=hr.mono (by decide);have hr_word:=hr;have hu:=hr.units;refine⟨_,(qae (qaD (i:=3) scPieces.nd (by rfl) (by trivial) (qaY pa_nil))
   (qae (qaD (i:=4) scPieces.nd (by rfl) (by trivial) qak)
   (qae (qbN PassesOwn.never (by rfl) (qbg (by rfl) T.range (qab (qaN op_add qak (qaE F_take hr_take (by rfl) qaG (qab (pv 0) (qab qak pa_nil)))) pa_nil)) (qaH (i:=5) scPieces.nd (by rfl) (by trivial))
   (qae (qaR (PW.pt (qbP (qas (qep hu) (pv 2) (qaY pa_nil) (qaz _)) (qby (qas op_eq (qaE F_take hr_take (by rfl) qaG (qab (pv 0) (qab qak pa_nil))) qak (qaz _))))) (qai (qa8 (qeK PySem.F.plainAttrs_list PySem.F.slot_list_append PySem.F.type_list_append mt_append (pv 3) (qab (qbB (qab qao (qab (qaF ix_list (pv 2) (qaE F_take hr_take (by rfl) qaG (qab (pv 0) (qab (qaw call_len_seq (by rfl) T.len b_len (qab (pv 2) pa_nil)) pa_nil))) (fun _ _=>rfl)) (qab (qaE F_take hr_take (by rfl) qaG (qab (pv 0) (qab qak pa_nil))) pa_nil)))) pa_nil)))) (qai (qa8 (qeK PySem.F.plainAttrs_list PySem.F.slot_list_append PySem.F.type_list_append mt_append (pv 3) (qab (qbB (qab qao (qab (qaE F_word hr_word (by rfl) qaG (qab (pv 0) (qab qak pa_nil))) (qab (qaE F_take hr_take (by rfl) qaG (qab (pv 0) (qab qak pa_nil))) pa_nil)))) pa_nil)))))
   (qai (qaR (PW.pt (qbP (qas op_lt (pv 4) (pv 1) (qaz _)) (qby (qas op_eq (qaE F_take hr_take (by rfl) qaG (qab (pv 0) (qab qak pa_nil))) qak (qaz _))))) (qae (qa8 (qeK PySem.F.plainAttrs_list PySem.F.slot_list_append PySem.F.type_list_append mt_append (pv 3) (qab (qbB (qab qao (qab (pv 4) (qab qak pa_nil)))) pa_nil)))
   (qai (qaD (i:=4) scPieces.nd (by rfl) (by trivial) (qaN op_add (pv 4) qak)))) pss_nil))))
   (qai (qat (qaN op_cat (pv 3) (qbc (own:=["_law_k"]) (by rfl) (CompScope.plain (by rfl) (by decide +kernel) (by decide +kernel) (by decide +kernel)) (pi_range2 (by rfl) T.range (qab (pv 4) (qab (pv 1) pa_nil))) (fun cl C s2 H2 fp=>(qaH (i:=0) (by show(["_law_k"]:List Str).Nodup;decide +kernel) (by rfl) (by trivial) (by trivial))) (fun cl C s2 H2 fp=>qbr) (fun cl C s2 H2 fp=>(qbB (qab qao (qab (pv 0) (qab qak pa_nil)))))))))))),?_⟩
  refine⟨by show 0≤sizeLine;decide,fun l hl=>?_⟩;have lst:l≠st:=qaI S.some hl;have s0:=qaf hl (.lst []);refine⟨_,rfl,st,7,rfl,S.same s0,by decide,by decide,fun r H1 r0 r1 S1 K1=>⟨_,_,rfl,rfl,_,rfl,by omega,by omega,qbn (fun i σ H2=>∃(dn:Nat) (v:Option V) (vs:List V) (its:List Th),σ=[some (.ref st),some (.int n),some (.ref p),some (.ref l),some (.int dn),v]∧dn≤n∧H2 l=some (.lst vs)∧Paired (ItAt (fun b=>H b=none∧b≠l) H2) vs its∧(∀x∈its,PcOk x) ∧
   (i=0→its=[])∧(0<i→∃x r,its=x::r∧isNote x=false)∧qaC its=nums dn∧its.length≤i+dn∧StOk H2 st∧Keep1 st H H2)
   ⟨0,none,[],[],rfl,Nat.zero_le _,K1 _ _ lst qad,.nil,(fun x hx=>nomatch hx),(fun _=>rfl),(fun z=>absurd z (Nat.lt_irrefl 0)),rfl,Nat.zero_le _,S1,s0.keep.trans K1⟩ ?_ ?_⟩⟩
  ·rintro i σ H2 hi ⟨dn,v,vs,its,rfl,hdn,hl2,pr,ok,h0,h1,nn,le,S2,K2⟩;have lenv:vs.length=its.length:=pr.length;have hp2:H2 p=some (.lst (nms.map V.str)):=K2 _ _ pne hp;refine⟨_,rfl,by show 0≤sizeLine;decide,fun t0 ht0=>?_⟩;have s2:=qaf ht0 (.lst []);refine⟨_,_,.lst (s2 _ _ hp2) (qfb nms),.lst qad .nil,qd2 nok,rfl,fun z=>absurd (by simpa using z) nne,fun _=>⟨_,rfl,iteT ?_⟩⟩;refine⟨_,rfl,st,5,rfl,S2.same s2,by decide,by decide,fun r3 H3 r30 r31 S3 K3=>⟨rfl,_,rfl,?_⟩⟩;have K23:Keep1 st H2 H3:=s2.keep.trans K3;have hl3:=K23 _ _ lst hl2;have hp3:=K23 _ _ pne hp2;refine ite2 (fun _=>?_) (fun _=>?_)
   ·-- a name
    refine⟨_,rfl,.inl ⟨rfl,_,SqL.of hl3⟩,_,rfl,_,rfl,_,rfl,p,_,rfl,.inl (SqL.of hp3),?_⟩;have npos:0<nms.length:=List.length_pos_iff.mpr nne;refine⟨st,((nms.map V.str).length:Int),rfl,S3,by rw[List.length_map];omega,by rw[List.length_map];omega,fun r4 H4 r40 r41 S4 K4=>?_⟩;obtain⟨y,ey,my⟩:=qeY r40 r41;have hp4:=K4 _ _ pne hp3;refine⟨p,_,_,_,rfl,rfl,SqL.of hp4,ey,_,rfl,st,4,rfl,S4,by decide,by decide,fun r5 H5 r50 r51 S5 K5=>⟨by show 3≤sizeLine;decide,fun t ht=>?_⟩⟩;have s5:=qaf ht (.tup [.str (Str.ofString "page"),.str y,.int r5]);have K25:Keep1 st H2 _:=((K23.trans K4).trans K5).trans s5.keep;have hl5:=K25 _ _ lst hl2;refine⟨l,_,_,rfl,rfl,hl5,qaA (by omega),?_⟩;have it5:ItAt (fun b=>H b=none∧b≠l) (upd H5 t (.tup [.str (Str.ofString "page"),.str y,.int r5])) (.ref t) (.tri .page (.inl y) r5):=⟨t,rfl,⟨(K2.trans ((K23.trans K4).trans K5)).back (qaI S5.some ht) ht,qaI ⟨_,((K23.trans K4).trans K5) _ _ lst hl2⟩ ht⟩,qad⟩;have S6:=S5.same s5;have pk:PcOk (.tri .page (.inl y) r5):=⟨nok y my,by omega,by omega⟩;have nt:isNote (.tri .page (.inl y) r5)=false:=rfl;have nu:noteNum (.tri .page (.inl y) r5)=none:=rfl;generalize (Th.tri .page (.inl y) r5)=x0 at it5 pk nt nu;generalize upd H5 t (.tup [.str (Str.ofString "page"),.str y,.int r5])=H6 at K25 hl5 it5 S6⊢;have k6:KeepN (fun b=>H b=none∧b≠l) H2 (upd H6 l (.lst (vs++[.ref t]))):=fun b o nb e=>by
     rw[qax nb.2];exact K25 _ _ (fun z=>by obtain⟨o',e'⟩:=S.some;rw[z,e']at nb;cases nb.1) e
    have it6:ItAt (fun b=>H b=none∧b≠l) (upd H6 l (.lst (vs++[.ref t]))) (.ref t) x0:=it5.keep (fun b o nb e=>by rw[qax nb.2];exact e) fun _ n _=>n
    have pr6:=(pr.mono fun v x q=>q.keep k6 fun _ n _=>n).snoc it6;have S7:StOk (upd H6 l (.lst (vs++[.ref t]))) st:=by
     obtain⟨x,y,e,z⟩:=S6;exact⟨x,y,by rw[qax (Ne.symm lst)];exact e,z⟩
    have K7:Keep1 st H (upd H6 l (.lst (vs++[.ref t]))):=fun b o nb e=>by
     rw[qax (qar e hl)];exact K25 _ _ nb (K2 _ _ nb e)
    have hl7:upd H6 l (.lst (vs++[.ref t])) l=some (.lst (vs++[.ref t])):=qad;have ok7:∀x∈its++[x0],PcOk x:=fun x hx=>by
     rcases List.mem_append.mp hx with hx | hx
     ·exact ok x hx
     ·have:x=x0:=by simpa using hx
      rw[this];exact pk
    have nn7:qaC (its++[x0])=nums dn:=by
     rw[qbD,nn];simp[qaC,nu]
    have h17:∃x r,its++[x0]=x::r∧isNote x=false:=by
     cases its with
     | nil=>exact⟨x0,[],rfl,nt⟩
     | cons a b =>
       obtain⟨x,r,ex,nx⟩:=h1 (by
         rcases Nat.eq_zero_or_pos i with z | z
         · exact absurd (h0 z) (by simp)
         · exact z)
       cases ex
       exact⟨a,b++[x0],rfl,nx⟩
    generalize upd H6 l (.lst (vs++[.ref t]))=H7 at it6 pr6 S7 K7 hl7 k6⊢;refine⟨_,rfl,_,rfl,_,_,rfl,rfl,_,rfl,?_⟩;refine ite2 (fun cdn=>?_) (fun _=>?_)
    case' _ =>
     have cdn':dn<n:=by
      have:=of_decide_eq_true cdn;omega
     refine⟨_,rfl,st,2,rfl,S7,by decide,by decide,fun r8 H8 r80 r81 S8 K8=>⟨rfl,_,rfl,?_⟩⟩;have hl8:=K8 _ _ lst hl7;have pr8:=pr6.mono fun v x q=>q.keep (K8.mono (N':=fun b=>H b=none∧b≠l) fun b nb z=>by obtain⟨o',e'⟩:=S.some;rw[z,e']at nb;cases nb.1) fun _ n _=>n
     refine ite2 (fun _=>?_) (fun _=>?_)
     case' _ =>
      refine⟨_,rfl,.inl ⟨rfl,_,SqL.of hl8⟩,_,rfl,by show 3≤sizeLine;decide,fun t9 ht9=>?_⟩;have s9:=qaf ht9 (.tup [.str (Str.ofString "note"),.int (dn:Int),.int 0]);refine⟨l,_,_,rfl,rfl,s9 _ _ hl8,qaA (by rw[List.length_append,lenv];simp;omega),_,rfl,_,_,rfl,rfl,?_⟩;have t9l:t9≠l:=qaI ⟨_,hl8⟩ ht9;have it9:ItAt (fun b=>H b=none∧b≠l) (upd (upd H8 t9 (.tup [.str (Str.ofString "note"),.int (dn:Int),.int 0])) l (.lst (vs++[.ref t]++[.ref t9]))) (.ref t9) (.tri .note (.inr dn) 0):=⟨t9,rfl,⟨(K7.trans K8).back (qaI S8.some ht9) ht9,t9l⟩,by rw[qax t9l];exact qad⟩;refine⟨dn+1,_,_,its++[x0]++[.tri .note (.inr dn) 0],rfl,cdn',qad,(pr8.mono fun v x q=>q.keep (fun b o nb e=>by rw[qax nb.2];exact s9 _ _ e) fun _ n _=>n).snoc it9,?_,(fun z=>absurd z (Nat.succ_ne_zero _)),?_,?_,?_,?_,?_⟩
      ·intro x hx;rcases List.mem_append.mp hx with hx | hx
       ·exact ok7 x hx
       ·have:x=.tri .note (.inr dn) 0:=by simpa using hx
        rw[this];exact⟨by omega,by omega,rfl⟩
      ·intro _;obtain⟨x,r,e,nx⟩:=h17;rw[e];exact⟨x,_,rfl,nx⟩
      ·rw[qbD,nn7,qc1];rfl
      ·rw[List.length_append,List.length_append];simp;omega
      ·obtain⟨x,y,e,z⟩:=S8.same s9;exact⟨x,y,by rw[qax (Ne.symm lst)];exact e,z⟩
      ·intro b o nb e;rw[qax (qar e hl)];exact s9 _ _ (K8 _ _ nb (K7 _ _ nb e))
     ·exact⟨dn,_,_,its++[x0],rfl,hdn,hl8,pr8,ok7,(fun z=>absurd z (Nat.succ_ne_zero _)),(fun _=>h17),nn7,by rw[List.length_append];simp;omega,S8,K7.trans K8⟩
    ·exact⟨dn,_,_,its++[x0],rfl,hdn,hl7,pr6,ok7,(fun z=>absurd z (Nat.succ_ne_zero _)),(fun _=>h17),nn7,by rw[List.length_append];simp;omega,S7,K7⟩
   ·refine⟨_,rfl,.inl ⟨rfl,_,SqL.of hl3⟩,_,rfl,st,6,rfl,S3,by decide,by decide,fun y H4 wy _ S4 K4=>?_⟩;refine⟨_,rfl,st,4,rfl,S4,by decide,by decide,fun r5 H5 r50 r51 S5 K5=>⟨by show 3≤sizeLine;decide,fun t ht=>?_⟩⟩;have s5:=qaf ht (.tup [.str (Str.ofString "word"),.str y,.int r5]);have K25:Keep1 st H2 _:=((K23.trans K4).trans K5).trans s5.keep;have hl5:=K25 _ _ lst hl2;refine⟨l,_,_,rfl,rfl,hl5,qaA (by omega),?_⟩;have it5:ItAt (fun b=>H b=none∧b≠l) (upd H5 t (.tup [.str (Str.ofString "word"),.str y,.int r5])) (.ref t) (.tri .word (.inl y) r5):=⟨t,rfl,⟨(K2.trans ((K23.trans K4).trans K5)).back (qaI S5.some ht) ht,qaI ⟨_,((K23.trans K4).trans K5) _ _ lst hl2⟩ ht⟩,qad⟩;have S6:=S5.same s5;have pk:PcOk (.tri .word (.inl y) r5):=⟨wy,by omega,by omega⟩;have nt:isNote (.tri .word (.inl y) r5)=false:=rfl;have nu:noteNum (.tri .word (.inl y) r5)=none:=rfl;generalize (Th.tri .word (.inl y) r5)=x0 at it5 pk nt nu;generalize upd H5 t (.tup [.str (Str.ofString "word"),.str y,.int r5])=H6 at K25 hl5 it5 S6⊢;have k6:KeepN (fun b=>H b=none∧b≠l) H2 (upd H6 l (.lst (vs++[.ref t]))):=fun b o nb e=>by
     rw[qax nb.2];exact K25 _ _ (fun z=>by obtain⟨o',e'⟩:=S.some;rw[z,e']at nb;cases nb.1) e
    have it6:ItAt (fun b=>H b=none∧b≠l) (upd H6 l (.lst (vs++[.ref t]))) (.ref t) x0:=it5.keep (fun b o nb e=>by rw[qax nb.2];exact e) fun _ n _=>n
    have pr6:=(pr.mono fun v x q=>q.keep k6 fun _ n _=>n).snoc it6;have S7:StOk (upd H6 l (.lst (vs++[.ref t]))) st:=by
     obtain⟨x,y,e,z⟩:=S6;exact⟨x,y,by rw[qax (Ne.symm lst)];exact e,z⟩
    have K7:Keep1 st H (upd H6 l (.lst (vs++[.ref t]))):=fun b o nb e=>by
     rw[qax (qar e hl)];exact K25 _ _ nb (K2 _ _ nb e)
    have hl7:upd H6 l (.lst (vs++[.ref t])) l=some (.lst (vs++[.ref t])):=qad;have ok7:∀x∈its++[x0],PcOk x:=fun x hx=>by
     rcases List.mem_append.mp hx with hx | hx
     ·exact ok x hx
     ·have:x=x0:=by simpa using hx
      rw[this];exact pk
    have nn7:qaC (its++[x0])=nums dn:=by
     rw[qbD,nn];simp[qaC,nu]
    have h17:∃x r,its++[x0]=x::r∧isNote x=false:=by
     cases its with
     | nil=>exact⟨x0,[],rfl,nt⟩
     | cons a b =>
       obtain⟨x,r,ex,nx⟩:=h1 (by
         rcases Nat.eq_zero_or_pos i with z | z
         · exact absurd (h0 z) (by simp)
         · exact z)
       cases ex
       exact⟨a,b++[x0],rfl,nx⟩
    generalize upd H6 l (.lst (vs++[.ref t]))=H7 at it6 pr6 S7 K7 hl7 k6⊢;refine⟨_,rfl,_,rfl,_,_,rfl,rfl,_,rfl,?_⟩;refine ite2 (fun cdn=>?_) (fun _=>?_)
    case' _ =>
     have cdn':dn<n:=by
      have:=of_decide_eq_true cdn;omega
     refine⟨_,rfl,st,2,rfl,S7,by decide,by decide,fun r8 H8 r80 r81 S8 K8=>⟨rfl,_,rfl,?_⟩⟩;have hl8:=K8 _ _ lst hl7;have pr8:=pr6.mono fun v x q=>q.keep (K8.mono (N':=fun b=>H b=none∧b≠l) fun b nb z=>by obtain⟨o',e'⟩:=S.some;rw[z,e']at nb;cases nb.1) fun _ n _=>n
     refine ite2 (fun _=>?_) (fun _=>?_)
     case' _ =>
      refine⟨_,rfl,.inl ⟨rfl,_,SqL.of hl8⟩,_,rfl,by show 3≤sizeLine;decide,fun t9 ht9=>?_⟩;have s9:=qaf ht9 (.tup [.str (Str.ofString "note"),.int (dn:Int),.int 0]);refine⟨l,_,_,rfl,rfl,s9 _ _ hl8,qaA (by rw[List.length_append,lenv];simp;omega),_,rfl,_,_,rfl,rfl,?_⟩;have t9l:t9≠l:=qaI ⟨_,hl8⟩ ht9;have it9:ItAt (fun b=>H b=none∧b≠l) (upd (upd H8 t9 (.tup [.str (Str.ofString "note"),.int (dn:Int),.int 0])) l (.lst (vs++[.ref t]++[.ref t9]))) (.ref t9) (.tri .note (.inr dn) 0):=⟨t9,rfl,⟨(K7.trans K8).back (qaI S8.some ht9) ht9,t9l⟩,by rw[qax t9l];exact qad⟩;refine⟨dn+1,_,_,its++[x0]++[.tri .note (.inr dn) 0],rfl,cdn',qad,(pr8.mono fun v x q=>q.keep (fun b o nb e=>by rw[qax nb.2];exact s9 _ _ e) fun _ n _=>n).snoc it9,?_,(fun z=>absurd z (Nat.succ_ne_zero _)),?_,?_,?_,?_,?_⟩
      ·intro x hx;rcases List.mem_append.mp hx with hx | hx
       ·exact ok7 x hx
       ·have:x=.tri .note (.inr dn) 0:=by simpa using hx
        rw[this];exact⟨by omega,by omega,rfl⟩
      ·intro _;obtain⟨x,r,e,nx⟩:=h17;rw[e];exact⟨x,_,rfl,nx⟩
      ·rw[qbD,nn7,qc1];rfl
      ·rw[List.length_append,List.length_append];simp;omega
      ·obtain⟨x,y,e,z⟩:=S8.same s9;exact⟨x,y,by rw[qax (Ne.symm lst)];exact e,z⟩
      ·intro b o nb e;rw[qax (qar e hl)];exact s9 _ _ (K8 _ _ nb (K7 _ _ nb e))
     ·exact⟨dn,_,_,its++[x0],rfl,hdn,hl8,pr8,ok7,(fun z=>absurd z (Nat.succ_ne_zero _)),(fun _=>h17),nn7,by rw[List.length_append];simp;omega,S8,K7.trans K8⟩
    ·exact⟨dn,_,_,its++[x0],rfl,hdn,hl7,pr6,ok7,(fun z=>absurd z (Nat.succ_ne_zero _)),(fun _=>h17),nn7,by rw[List.length_append];simp;omega,S7,K7⟩
  ·rintro σ H2 ⟨dn,v,vs,its,rfl,hdn,hl2,pr,ok,h0,h1,nn,le,S2,K2⟩;have lenv:vs.length=its.length:=pr.length;have npos:0<(1+r).toNat:=by omega
   obtain⟨x1,rs,ei,ni⟩:=h1 npos;refine⟨_,rfl,_,rfl,_,rfl,_,_,rfl,⟨by omega,by omega,by omega,by omega⟩,qc4 (fun i ys σ' H3=>(∃z,σ'=[z])∧ys.length=i∧Same H2 H3∧Paired (ItAt (fun b=>H b=none∧b≠l) H3) ys ((nums (dn+i)).drop dn |>.map fun k=>Th.tri .note (.inr k) 0)) (by have:=qaA (n:=100) (by decide);omega) ⟨⟨none,rfl⟩,rfl,Same.refl _,?_⟩ ?_ ?_ ?_⟩
   ·rw[show(nums (dn+0)).drop dn=[]from by rw[List.drop_eq_nil_iff];simp[nums]];exact .nil
   ·rintro i ys σ' H3 hi ⟨_,e,_⟩;omega
   ·rintro i ys σ' H3 hi ⟨⟨z,rfl⟩,e,s3,p3⟩;refine⟨_,rfl,by show 3≤sizeLine;decide,fun t ht=>?_⟩;have s4:=qaf ht (.tup [.str (Str.ofString "note"),.int ((dn:Int)+i),.int 0]);refine⟨⟨_,rfl⟩,by rw[List.length_append,e];rfl,s3.trans s4,?_⟩;rw[note_more];refine(p3.mono fun v x q=>q.keep s4.keep fun _ n _=>n).snoc ⟨t,rfl,⟨(K2.trans s3.keep).back (qaI (S2.same s3).some ht) ht,qaI ⟨_,s3 _ _ hl2⟩ ht⟩,?_⟩;rw[qad];show some (HO.tup [.str (Str.ofString "note"),.int ((dn:Int)+i),.int 0])=some (HO.tup [.str (Str.ofString "note"),.int ((dn+i:Nat):Int),.int 0]);rw[Int.natCast_add]
   ·rintro ys σ' H3 ⟨_,e,s3,p3⟩ D hD;have sD:=qaf hD (.lst ys);have hl4:=sD _ _ (s3 _ _ hl2);refine⟨l,D,_,_,rfl,rfl,hl4,qad,?_,fun s hs=>?_⟩
    ·rw[lenv,e];exact Nat.le_of_lt (qaA (by omega))
    have sE:=qaf hs (.lst (vs++ys));have s3E:Same H2 _:=(s3.trans sD).trans sE;have en:dn+((n:Int)-dn).toNat=n:=by omega
    rw[en]at p3;refine q s (its++((nums n).drop dn).map fun k=>Th.tri .note (.inr k) 0) _ ⟨?_,?_,?_,?_⟩ ⟨?_,vs++ys,qad,?_⟩ (S2.same s3E) (K2.trans s3E.keep)
    ·intro x hx;rcases List.mem_append.mp hx with hx | hx
     ·exact ok x hx
     ·obtain⟨k,hk,rfl⟩:=List.mem_map.mp hx;have hk':=List.mem_of_mem_drop hk;obtain⟨j,hj,rfl⟩:=List.mem_map.mp (show k∈(List.range n).map fun(i:Nat)=>(i:Int)from hk');have:=List.mem_range.mp hj;exact⟨by omega,by omega,rfl⟩
    ·rw[ei];exact⟨x1,_,rfl,ni⟩
    ·rw[qbD,nn,notes_of];have:nums dn=(nums n).take dn:=nums_take hdn;rw[this,List.take_append_drop]
    ·rw[List.length_append,List.length_map,List.length_drop];have:(nums n).length=n:=by simp[nums]
     omega
    ·exact(K2.trans (s3.trans sD).keep).back (qaI (S2.same (s3.trans sD)).some hs) hs
    ·refine qbY (pr.mono fun v x q=>q.keep s3E.keep fun b n _=>n.1) (p3.mono fun v x q=>q.keep (sD.trans sE).keep fun b n _=>n.1)
end
end K05
namespace Gen
open PySem L2 Bk PyProof.Rows PySem.Spec
theorem rising_all:∀(l:List Str) (x:Str),risingS x l=true→(∀y∈l,¬y.cps.toList<x.cps.toList)∧l.Pairwise fun a b=>¬b.cps.toList<a.cps.toList
 | [],x,_=>⟨(fun y hy=>nomatch hy),List.Pairwise.nil⟩
 | y :: r, x, h => by
   have h':(!ltCps y.cps.toList x.cps.toList && risingS y r)=true:=h
   rw[Bool.and_eq_true]at h'
   obtain⟨h1,h2⟩:=h'
   have n1:¬y.cps.toList<x.cps.toList:=by
     rw[ltCps_eq]at h1
     simpa using h1
   obtain⟨a,b⟩:=rising_all r y h2
   refine⟨fun z hz=>?_,List.Pairwise.cons (fun z hz=>a z hz) b⟩
   rcases List.mem_cons.mp hz with rfl | hz
   · exact n1
   · intro lt
     exact a z hz (Std.lt_of_lt_of_le lt (List.not_lt.mp n1))
theorem sorted_all{l:List Str}(h:sortedS l=true):l.Pairwise fun a b=>¬b.cps.toList<a.cps.toList:=by
 cases l with
 | nil=>exact List.Pairwise.nil
 | cons x r =>
   obtain⟨a,b⟩:=rising_all r x h
   exact List.Pairwise.cons a b
theorem str_eq{x y:Str}(h:x.cps.toList=y.cps.toList):x=y:=by
 obtain⟨⟨x⟩⟩:=x;obtain⟨⟨y⟩⟩:=y;cases h;rfl
theorem qfc{l:List Str}(h:sortedS l=true)(n:l.Nodup):l.Pairwise fun a b=>a.cps.toList<b.cps.toList:=by
 have:=(sorted_all h).and n;refine this.imp fun {a b} q=>?_
 by_cases z:a.cps.toList<b.cps.toList
 ·exact z
 ·exact absurd (str_eq (List.le_antisymm (List.not_lt.mp q.1) (List.not_lt.mp z))) q.2
def fourMarks:List Str:=[Str.ofString "big",Str.ofString "red",Str.ofString "far",Str.ofString "of"]
theorem four_names:∀x∈fourMarks,Name x:=by
 intro x hx;unfold Name qdJ;revert x hx;decide +kernel
theorem marks_of{ks ms:List Str}(h:∀x∈ks,x∈fourMarks)(l:ks.length≤4)(pm:ms.Perm (once ks))(so:sortedS ms=true):qcm ms:=by
 have le:(once ks).length≤ks.length:=by
  have:∀(a b:List Str),(a.foldl one1 b).length≤a.length+b.length:=by
   intro a
   induction a with
   | nil=>intro b;simp
   | cons x a ih =>
     intro b
     rw[List.foldl_cons]
     have h1:=ih (one1 b x)
     have h2:=qdr b x
     have h3:(one1 b x).length≤b.length+1:=by rw[h2];split<;>omega
     simp only[List.length_cons]
     omega
  simpa[once]using this ks []
 refine⟨by rw[pm.length_eq];omega,fun m hm=>?_,qfc so (pm.nodup_iff.mpr (qd7 ks))⟩;exact four_names m (h m ((qeF ks m).mp (pm.mem_iff.mp hm)))
theorem inV_strs{x:Str}{nms:List Str}(h:inV (.str x) (nms.map V.str)=false):∀y∈nms,y≠x:=by
 intro y hy z;have:inV (.str x) (nms.map V.str)=true:=by
  unfold inV;rw[List.any_eq_true];exact⟨.str y,List.mem_map_of_mem hy,by show(y == x)=true;rw[z];simp⟩
 rw[h]at this;cases this
theorem flat_strs(nms:List Str):(nms.map V.str).all flatV=true:=by
 rw[List.all_eq_true];intro v hv;obtain⟨x,_,rfl⟩:=List.mem_map.mp hv;rfl
theorem qcd{α β:Type}(f:α→β){ts:List α}{i:Nat}{t:α}(h:ts[i]?=some t):(ts.take (i+1)).map f=(ts.take i).map f++[f t]:=by
 rw[List.take_succ,h,List.map_append];rfl
theorem qcs{as:List Addr}{i:Nat}{x:V}(h:(as.map V.ref)[i]?=some x):∃a,as[i]?=some a∧x=.ref a:=by
 rw[List.getElem?_map]at h;cases e:as[i]? with
 | none=>rw[e]at h;cases h
 | some t=>rw[e]at h;cases h;exact⟨t,rfl,rfl⟩
end Gen
namespace Gen
open PySem L2 Bk PyProof.Rows
theorem nmok_of{ds:List Nd}{nm:Str}(h:nm=noName∨Name nm)(n:∀y∈ds.map (·.nm),y≠nm):NmOk ds nm:=by
 rcases h with h | h
 ·exact .inl h
 ·exact .inr ⟨h,fun c hc=>n _ (List.mem_map_of_mem hc)⟩
theorem qe2(ks:List Str):(once ks).length≤ks.length:=by
 have:∀(a b:List Str),(a.foldl one1 b).length≤a.length+b.length:=by
  intro a
  induction a with
  | nil=>intro b;simp
  | cons x a ih =>
    intro b
    rw[List.foldl_cons]
    have h1:=ih (one1 b x)
    have h2:=qdr b x
    have h3:(one1 b x).length≤b.length+1:=by rw[h2];split<;>omega
    simp only[List.length_cons]
    omega
 simpa[once]using this ks []
theorem not_in{v:V}{l:List V}(h:¬(if false=true then !inV v l else inV v l)=true):inV v l=false:=by
 rw[if_neg Bool.false_ne_true]at h;exact Bool.eq_false_iff.mpr h
end Gen
namespace K05
open PySem L2 Bk Gen
section
variable{P:Program}{w:World}{K:PySem.W.Frag}{mg:Str→Option Value}{base:Heap}
theorem scOwn:FnScope ["_law_nodes", "_law_stream_here", "_law_names", "_law_name_here", "_law_marks"] ["_law_nodes", "_law_stream_here"] (qan sOwn):=⟨rfl,rfl,rfl,by decide +kernel,rfl,by decide +kernel,by decide +kernel⟩
theorem ok_own{f:Addr}{fd:FuncData}(F:Fun K "_law_own" "_law_own" sOwn f fd)(T:Bn mg)(F_take:Fx P w K mg base CX0 1 "_law_take" ["_law_stream_here", "_law_most"] spTake)(F_name:Fx P w K mg base CX0 2 "_law_name" ["_law_stream_here", "_law_many"] spName):FnOk P w K mg base CX0 3 f fd ["_law_nodes", "_law_stream_here"] spOwn:=by
 refine F.ok scOwn (fun vs H Q E h=>?_) (fun cdv A outer s H vs Q E hr h=>?_)
 ·obtain⟨H0,p,st,ds,rfl,_⟩:=h;rfl
 ·obtain⟨H0,p,st,ds,rfl,G,hlen,q⟩:=h;have hr_take:Room 1 _:=hr.mono (by decide);have hr_name:=hr;refine⟨_,(qae (qd3 (i:=2) (by rfl) scOwn.nd (by rfl) (by trivial) (own:=["_law_row"]) (CompScope.plain (by rfl) (by decide +kernel) (by decide +kernel) (by decide +kernel)) (qbl (pv 0)) (fun cl C s2 H2 fp=>(qaH (i:=0) (by show(["_law_row"]:List Str).Nodup;decide +kernel) (by rfl) (by trivial) (by trivial))) (fun cl C s2 H2 fp=>qbr) (fun cl C s2 H2 fp=>(qaF (r:=rIxT K) ix_tup (pv 0) qak (fun _ _=>rfl))))
   (qae (qaD (i:=3) scOwn.nd (by rfl) (by trivial) qao)
   (qae (qaR (qas op_eq (qaE F_take hr_take (by rfl) qaG (qab (pv 1) (qab qak pa_nil))) qak (qaz _)) (qai (qaD (i:=3) scOwn.nd (by rfl) (by trivial) (qaE F_name hr_name (by rfl) qaG (qab (pv 1) (qab (qaw call_len_seq (by rfl) T.len b_len (qab (pv 0) pa_nil)) pa_nil))))) pss_nil)
   (qae (qaR (qas op_in_seq (pv 3) (pv 2) (by with_unfolding_all rfl)) (qai (qaD (i:=3) scOwn.nd (by rfl) (by trivial) qao)) pss_nil)
   (qae (qd3 (i:=4) (by rfl) scOwn.nd (by rfl) (by trivial) (own:=["_law_k"]) (ix:=[1]) (frees:=["_law_stream_here"]) (CompScope.frees (by rfl) (by decide +kernel) (by decide +kernel) (by decide +kernel) (by rfl) (by decide +kernel) (by first | exact qfe (by rfl) | exact qfs (by rfl) (by rfl))) (qbg (by rfl) T.range (qab (qaE F_take hr_take (by rfl) qaG (qab (pv 1) (qab qak pa_nil))) pa_nil)) (fun cl C s2 H2 fp=>(qaH (i:=0) (by show(["_law_k", "_law_stream_here"]:List Str).Nodup;decide +kernel) (by rfl) (by trivial) (by trivial))) (fun cl C s2 H2 fp=>qbr) (fun cl C s2 H2 fp=>(qaF (r:=rIxL K) ix_list (qaY (qab qao (qab qao (qab qao (qab qao pa_nil))))) (qaE F_take hr_take (by rfl) qaG (qab (pv 1) (qab qak pa_nil))) (fun _ _=>rfl))))
   (qai (qat (qaY (qab (pv 3) (qab (qaw (qcv (by rfl) (by rfl)) (by rfl) T.sorted b_sorted (qab (qa5 (qcG (by rfl)) (by rfl) T.set b_set (qab (pv 4) pa_nil)) pa_nil)) pa_nil)))))))))),?_⟩
  obtain⟨as,hp,nd⟩:=G.bk;have lenas:as.length=ds.length:=nd.length;have zl:(as.map V.ref).length<sizeLine:=by rw[List.length_map];exact qaA (by omega)
  refine⟨_,rfl,p,rfl,⟨_,SqL.of hp⟩,qaZ (fun i ys σ' H'=>H'=H∧ys=(ds.take i).map (fun d=>V.str d.nm)∧∃z,σ'=[z]) zl ⟨rfl,rfl,none,rfl⟩ ?_ ?_ ?_⟩
  ·rintro i ys σ' H' hi ⟨rfl,rfl,_⟩;exact⟨SqL.of hp,by rw[List.length_map,List.length_take];exact Nat.min_le_left _ _⟩
  ·rintro i x ys σ' H' hx ⟨rfl,rfl,z,rfl⟩;obtain⟨a,ea,rfl⟩:=qcs hx;obtain⟨d,ed,na,m,s',ha,_⟩:=nd.at ea;refine⟨_,rfl,a,_,_,_,rfl,rfl,SqT.of ha,rfl,?_⟩;exact⟨rfl,(qcd _ ed).symm,_,rfl⟩
  rintro ys σ' H' ⟨rfl,rfl,z,rfl⟩ N hN;rw[List.length_map,lenas,List.take_length];have eN:ds.map (fun d=>V.str d.nm)=(ds.map (·.nm)).map V.str:=by rw[List.map_map];rfl
  rw[eN];have s1:=qaf hN (.lst ((ds.map (·.nm)).map V.str));have hN1:upd H' N (.lst ((ds.map (·.nm)).map V.str)) N=some (.lst ((ds.map (·.nm)).map V.str)):=qad;have S1:=G.so.same s1;have nst:N≠st:=qaI G.so.some hN;generalize upd H' N (.lst ((ds.map (·.nm)).map V.str))=H1 at s1 hN1 S1⊢;refine⟨_,rfl,st,3,rfl,S1,by decide,by decide,fun r2 H2 r20 r21 S2 K2=>⟨rfl,_,rfl,?_⟩⟩;refine ite2 (fun _=>?c1) (fun _=>?c2)
  case' c1 =>
   refine⟨_,rfl,_,rfl,p,_,rfl,.inl (SqL.of (K2 _ _ G.pne (s1 _ _ hp))),st,_,rfl,S2,by rw[List.length_map];omega,by rw[List.length_map];omega,fun nm H3 nk0 S3 K3=>?_⟩;have nk:nm=noName∨Name nm:=.inr nk0;have K13:=K2.trans K3;clear nk0 K3 K2 S2
  case' c2 =>
   have nk:noName=noName∨Name noName:=.inl rfl;have S3:=S2;have K13:=K2;clear K2 S2
  all_goals
   have hN3:=K13 _ _ nst hN1;refine⟨_,rfl,_,rfl,N,_,rfl,.inl (SqL.of hN3),rfl,flat_strs _,_,rfl,?_⟩;refine ite2 (fun _=>(?_:NmOk ds noName→_) (.inl rfl)) (fun cin=>(?_:NmOk ds _→_) (nmok_of nk (inV_strs (nms:=ds.map (·.nm)) (not_in cin))))
   all_goals
    intro nk2;refine⟨_,rfl,st,3,rfl,S3,by decide,by decide,fun r4 H4 r40 r41 S4 K4=>⟨_,rfl,by omega,by omega,qc4 (fun i ys σ' H5=>∃ks:List Str,ys=ks.map V.str∧ks.length=i∧(∀x∈ks,x∈fourMarks)∧(∃z,σ'=[z,some (.ref st)])∧StOk H5 st∧Keep1 st H4 H5) (qaA (by omega)) ⟨[],rfl,rfl,(fun x hx=>nomatch hx),⟨none,rfl⟩,S4,KeepN.refl⟩ ?_ ?_ ?_⟩⟩
    ·rintro i ys σ' H5 hi ⟨ks,rfl,e,_⟩;rw[List.length_map];omega
    ·rintro i ys σ' H5 hi ⟨ks,rfl,e,mk,⟨z,rfl⟩,S5,K5⟩;refine⟨by show 4≤sizeLine;decide,fun t ht=>?_⟩;have s5:=qaf ht (.lst (fourMarks.map V.str));refine⟨_,rfl,st,4,rfl,S5.same s5,by decide,by decide,fun r6 H6 r60 r61 S6 K6=>?_⟩;obtain⟨y,ey,my⟩:=qeY (nms:=fourMarks) r60 r61;refine⟨t,_,_,_,rfl,rfl,SqL.of (K6 _ _ (qaI S5.some ht) qad),ey,?_⟩;refine⟨ks++[y],by rw[List.map_append];rfl,by rw[List.length_append,e];rfl,fun x hx=>?_,⟨_,rfl⟩,S6,(K5.trans s5.keep).trans K6⟩;rcases List.mem_append.mp hx with hx | hx
     ·exact mk x hx
     ·have:x=y:=by simpa using hx
      rw[this];exact my
    ·rintro ys σ' H5 ⟨ks,rfl,e,mk,_,S5,K5⟩ D hD;have sD:=qaf hD (.lst (ks.map V.str));refine⟨_,rfl,_,rfl,D,ks,rfl,SqL.of qad,by unfold scanBound;omega,fun d6 hd6=>?_⟩;have s6:=qaf hd6 (setS w d6 (once ks));refine⟨d6,once ks,rfl,qad,?_,fun m ms hm pm so=>⟨by show 2≤sizeLine;decide,fun l hl=>?_⟩⟩
     ·have:=qe2 ks;omega
     have s7:=qaf hm (.lst (ms.map V.str));have s8:=fun o=>qaf hl o
     have S7:=S5.same ((sD.trans s6).trans s7);have KB:Keep1 st H' _:=((s1.keep.trans K13).trans K4).trans (K5.trans ((sD.trans s6).trans s7).keep);have KC:Keep1 st H' _:=((s1.keep.trans K13).trans K4).trans (K5.trans (sD.trans s6).keep);exact q l m _ ms _ (KB.back (qaI S7.some hl) hl) (KC.back (qaI (S5.same (sD.trans s6)).some hm) hm) qad (s8 _ _ _ qad) (marks_of mk (by omega) pm so) nk2 (S7.same (s8 _)) (KB.trans (s8 _).keep)
theorem scAdd:FnScope ["_law_nodes", "_law_elder", "_law_kind", "_law_stuff", "_law_stream_here", "_law_own_here"] ["_law_nodes", "_law_elder", "_law_kind", "_law_stuff", "_law_stream_here"] (qan sAdd):=⟨rfl,rfl,rfl,by decide +kernel,rfl,by decide +kernel,by decide +kernel⟩
theorem ok_add{f:Addr}{fd:FuncData}(F:Fun K "_law_add" "_law_add" sAdd f fd)(T:Bn mg)(F_own:Fx P w K mg base CX0 3 "_law_own" ["_law_nodes", "_law_stream_here"] spOwn):FnOk P w K mg base CX0 4 f fd ["_law_nodes", "_law_elder", "_law_kind", "_law_stuff", "_law_stream_here"] spAdd:=by
 refine F.ok scAdd (fun vs H Q E h=>?_) (fun cdv A outer s H vs Q E hr h=>?_)
 ·obtain⟨H0,p,st,s,e,k,its,ds,rfl,_⟩:=h;rfl
 ·obtain⟨H0,p,st,s,e,k,its,ds,rfl,G,hst,hlen,q⟩:=h;have hr_own:=hr;refine⟨_,(qae (qaD (i:=5) scAdd.nd (by rfl) (by trivial) (qaE F_own hr_own (by rfl) qaG (qab (pv 0) (qab (pv 4) pa_nil))))
   (qae (qa8 (qeK PySem.F.plainAttrs_list PySem.F.slot_list_append PySem.F.type_list_append mt_append (pv 0) (qab (qbB (qab (pv 1) (qab (pv 2) (qab (qaF ix_list (pv 5) qak (fun _ _=>rfl)) (qab (qaF ix_list (pv 5) qak (fun _ _=>rfl)) (qab (pv 3) pa_nil)))))) pa_nil)))
   (qai (qat (qaN op_sub (qaw call_len_seq (by rfl) T.len b_len (qab (pv 0) pa_nil)) qak))))),?_⟩
  refine⟨_,rfl,_,rfl,H0,p,st,ds,rfl,G,hlen,fun l m nm mks H1 hl hm el em mk nk S1 K1=>?_⟩;have G1:=G.keep1 K1 S1;obtain⟨as,hp,nd⟩:=G1.bk;have lenas:as.length=ds.length:=nd.length;refine⟨_,rfl,.inl ⟨rfl,_,SqL.of hp⟩,_,rfl,_,rfl,_,rfl,l,_,_,_,rfl,rfl,SqL.of el,rfl,_,rfl,l,_,_,_,rfl,rfl,SqL.of el,rfl,_,rfl,by show 5≤sizeLine;decide,fun a ha=>?_⟩;have s2:=qaf ha (.tup [.int e,.str k.s,.str nm,.ref m,.ref s]);have G2:=G1.same s2;have hp2:=s2 _ _ hp;have nd2:=nd.keep (N':=New H0 p) s2.keep fun _ n _=>n
  refine⟨p,_,_,rfl,rfl,hp2,qaA (by rw[List.length_map];omega),?_⟩;have na:NdAt (New H0 p) (upd H1 a (.tup [.int e,.str k.s,.str nm,.ref m,.ref s])) a ⟨e,k,nm,mks,its⟩:=⟨G1.fresh ha,m,s,qad,G.fresh hm,s2 _ _ em,(hst.keep (N':=New H0 p) (K1.mono fun b n=>G.nst n) fun _ n _=>n).keep s2.keep fun _ n _=>n⟩;have G3:=G2.push hp2 nd2 na;refine⟨_,rfl,p,_,rfl,.inl (SqL.of qad),_,_,rfl,rfl,?_⟩;have el:((as.map V.ref++[V.ref a]).length:Int)-1=ds.length:=by
   rw[List.length_append,List.length_map,lenas];simp
  show Q (.int (((as.map V.ref++[V.ref a]).length:Int)-1)) _;rw[el];refine q ⟨e,k,nm,mks,its⟩ _ rfl rfl rfl mk nk G3 fun b o n eb=>?_
  rw[qax n.2];exact s2 _ _ (K1 _ _ n.1 eb)
end
end K05
namespace Gen
open PySem L2 Bk
theorem qcr{e lv:Nat}(hl:lv≤6):∀(nts:List Nd) (i:Nat),(∀c∈nts,c.e=(e:Int)∧c.k=.note∧qaC c.st=[])→Forest e i lv nts (List.replicate nts.length .note)
 | [],i,_=>.nil
 | c :: nts, i, h => by
   obtain⟨h1,h2,h3⟩:=h c List.mem_cons_self
   have f:=qcr hl nts (i+1) fun d hd=>h d (List.mem_cons_of_mem _ hd)
   have:=Forest.cons (d:=c) (sub:=[]) (ks:=[]) h1 hl (by rw[h2];decide) .nil ⟨(fun c hc=>nomatch hc),(by rw[h2];intro z;cases z),trivial,(fun _=>h3)⟩ (show Forest e (i+1+([]:List Nd).length) lv nts _ from f)
   rw[h2,List.nil_append]at this
   exact this
theorem nexts_notes:∀n,Nexts (List.replicate n .note)
 | 0=>trivial
 | n+1=>nexts_notes n
theorem holds_notes{k:Kd}{n:Nat}{st:List Th}(hk:k=.text∨k=.head)(h:qaC st=nums n):Holds k (List.replicate n .note) st:=by
 refine⟨fun c hc=>?_,fun z=>?_,nexts_notes n,fun _=>by rw[List.length_replicate];exact h⟩
 ·rw[List.eq_of_mem_replicate hc];rcases hk with rfl | rfl<;>rfl
 ·rcases hk with rfl | rfl<;>cases z
theorem qe1{d:Nd}{n:Nat}(hk:d.k=.text∨d.k=.head∨d.k=.note)(p:Pieces n d.st)(m:qcm d.mks)(nm:d.nm=noName∨Name d.nm):Form d:=by
 refine⟨nm,m,?_⟩;rcases hk with h | h | h<;>rw[h]<;>exact⟨p.ok,p.ne,p.le⟩
theorem NmOk.or{ds:List Nd}{x:Str}(h:NmOk ds x):x=noName∨Name x:=by
 rcases h with h | h
 ·exact .inl h
 ·exact .inr h.1
theorem nowhere_name:Name (Str.ofString "nowhere"):=by unfold Name qdJ;decide +kernel
theorem notes_at{r:Int}(h0:0≤r)(h1:r<5):∃n:Nat,n≤2∧atI [V.int 0,V.int 0,V.int 1,V.int 0,V.int 2] r=some (.int n):=by
 rcases(by omega:r=0∨r=1∨r=2∨r=3∨r=4)with rfl | rfl | rfl | rfl | rfl
 ·exact⟨0,by decide,rfl⟩
 ·exact⟨0,by decide,rfl⟩
 ·exact⟨1,by decide,rfl⟩
 ·exact⟨0,by decide,rfl⟩
 ·exact⟨2,by decide,rfl⟩
theorem text_more{e lv n:Nat}{k:Kd}{ds nts:List Nd}{d:Nd}(hk:k=.text∨k=.head)(hl:lv≤5)(he:d.e=(e:Int))(hdk:d.k=k)(p:Pieces n d.st)(m:qcm d.mks)(nm:NmOk ds d.nm)(hn:nts.length=n)(hc:∀c∈nts,c.e=(ds.length:Int)∧c.k=.note∧Pieces 0 c.st∧qcm c.mks∧(c.nm=noName∨Name c.nm))(na:Names (ds++(d::nts))):More e lv ds (d::nts) [k]:=by
 refine⟨?_,fun c hc'=>?_,na⟩
 ·have f:=qcr (e:=ds.length) (lv:=lv+1) (by omega) nts (ds.length+1) fun c h=>⟨(hc c h).1,(hc c h).2.1,(hc c h).2.2.1.nn⟩
  have:=Forest.one (d:=d) he (by omega) (by rw[hdk];rcases hk with rfl | rfl<;>decide) f (by rw[hdk];exact holds_notes hk (by rw[hn];exact p.nn));rw[hdk]at this;exact this
 ·rcases List.mem_cons.mp hc' with rfl | h
  ·exact qe1 (by rw[hdk];rcases hk with rfl | rfl<;>simp) p m nm.or
  ·obtain⟨_,h2,h3,h4,h5⟩:=hc c h;exact qe1 (by rw[h2];simp) h3 h4 h5
end Gen
namespace K05
open PySem L2 Bk Gen
section
variable{P:Program}{w:World}{K:PySem.W.Frag}{mg:Str→Option Value}{base:Heap}
theorem scText:FnScope ["_law_nodes", "_law_elder", "_law_kind", "_law_stream_here", "_law_names", "_law_notes", "_law_at", "_law_k"] ["_law_nodes", "_law_elder", "_law_kind", "_law_stream_here"] (qan sText):=⟨rfl,rfl,rfl,by decide +kernel,rfl,by decide +kernel,by decide +kernel⟩
theorem ok_text{f:Addr}{fd:FuncData}(F:Fun K "_law_text" "_law_text" sText f fd)(T:Bn mg)(F_take:Fx P w K mg base CX0 1 "_law_take" ["_law_stream_here", "_law_most"] spTake)(F_pieces:Fx P w K mg base CX0 3 "_law_pieces" ["_law_stream_here", "_law_notes", "_law_names"] spPieces)(F_add:Fx P w K mg base CX0 4 "_law_add" ["_law_nodes", "_law_elder", "_law_kind", "_law_stuff", "_law_stream_here"] spAdd):FnOk P w K mg base CX0 5 f fd ["_law_nodes", "_law_elder", "_law_kind", "_law_stream_here"] spText:=by
 refine F.ok scText (fun vs H Q E h=>?_) (fun cdv A outer s H vs Q E hr h=>?_)
 ·obtain⟨H0,p,st,e,lv,k,ds,rfl,_⟩:=h;rfl
 ·obtain⟨H0,p,st,e,lv,k,ds,rfl,G,hk,hlen,hlv,nok,nms,q⟩:=h;have hr_take:Room 1 _:=hr.mono (by decide);have hr_pieces:Room 3 _:=hr.mono (by decide);have hr_add:=hr;refine⟨_,(qae (qaD (i:=4) scText.nd (by rfl) (by trivial) (qaN op_cat (qbc (own:=["_law_row"]) (by rfl) (CompScope.plain (by rfl) (by decide +kernel) (by decide +kernel) (by decide +kernel)) (qbl (pv 0)) (fun cl C s2 H2 fp=>(qaH (i:=0) (by show(["_law_row"]:List Str).Nodup;decide +kernel) (by rfl) (by trivial) (by trivial))) (fun cl C s2 H2 fp=>(qcS (qas op_ne (qaF (r:=rIxT K) ix_tup (pv 0) qak (fun _ _=>rfl)) qao (qaz _)))) (fun cl C s2 H2 fp=>(qaF (r:=rIxT K) ix_tup (pv 0) qak (fun _ _=>rfl)))) (qaY (qab qao pa_nil))))
   (qae (qaD (i:=5) scText.nd (by rfl) (by trivial) (qaF ix_list (qaY (qab qak (qab qak (qab qak (qab qak (qab qak pa_nil)))))) (qaE F_take hr_take (by rfl) qaG (qab (pv 3) (qab qak pa_nil))) (fun _ _=>rfl)))
   (qae (qaD (i:=6) scText.nd (by rfl) (by trivial) (qaE F_add hr_add (by rfl) qaG (qab (pv 0) (qab (pv 1) (qab (pv 2) (qab (qaE F_pieces hr_pieces (by rfl) qaG (qab (pv 3) (qab (pv 5) (qab (pv 4) pa_nil)))) (qab (pv 3) pa_nil)))))))
   (qai (qbN PassesOwn.never (by rfl) (qbg (by rfl) T.range (qab (pv 5) pa_nil)) (qaH (i:=7) scText.nd (by rfl) (by trivial))
   (qai (qa8 (qaE F_add hr_add (by rfl) qaG (qab (pv 0) (qab (pv 6) (qab qao (qab (qaE F_pieces hr_pieces (by rfl) qaG (qab (pv 3) (qab qak (qab (pv 4) pa_nil)))) (qab (pv 3) pa_nil))))))))))))),?_⟩
  obtain⟨as,hp,nd⟩:=G.bk;have lenas:as.length=ds.length:=nd.length;have zl:(as.map V.ref).length<sizeLine:=by rw[List.length_map];exact qaA (by omega)
  refine⟨_,rfl,p,rfl,⟨_,SqL.of hp⟩,qaZ (fun i ys σ' H'=>H'=H∧ys=(((ds.take i).filter fun d=>d.nm≠noName).map (·.nm)).map V.str∧∃z,σ'=[z]) zl ⟨rfl,rfl,none,rfl⟩ ?_ ?_ ?_⟩
  ·rintro i ys σ' H' hi ⟨rfl,rfl,_⟩;refine⟨SqL.of hp,?_⟩;rw[List.length_map,List.length_map];exact Nat.le_trans (List.length_filter_le _ _) (by rw[List.length_take];exact Nat.min_le_left _ _)
  ·rintro i x ys σ' H' hx ⟨rfl,rfl,z,rfl⟩;obtain⟨a,ea,rfl⟩:=qcs hx;obtain⟨d,ed,na,m,s',ha,_⟩:=nd.at ea;refine⟨_,rfl,a,_,_,_,rfl,rfl,SqT.of ha,rfl,rfl,_,rfl,?_⟩;have et:ds.take (i+1)=ds.take i++[d]:=by rw[List.take_succ,ed];rfl
   by_cases hd:d.nm=noName
   ·rw[decide_eq_true (show V.str d.nm=V.str (Str.ofString "")from congrArg V.str hd)];refine iteF ?_;refine⟨rfl,?_,_,rfl⟩;rw[et,List.filter_append];simp[hd]
   ·rw[decide_eq_false (show¬V.str d.nm=V.str (Str.ofString "")from fun z=>hd (V.str.inj z))];refine iteT ?_;refine⟨_,rfl,a,_,_,_,rfl,rfl,SqT.of ha,rfl,?_⟩;refine⟨rfl,?_,_,rfl⟩;rw[et,List.filter_append];simp[hd]
  rintro ys σ' H' ⟨rfl,rfl,z,rfl⟩ N0 hN0;rw[List.length_map,lenas,List.take_length];have fn:∀x∈(ds.filter fun d=>d.nm≠noName).map (·.nm),Name x:=fun x hx=>by
   obtain⟨d,hd,rfl⟩:=List.mem_map.mp hx;obtain⟨h1,h2⟩:=List.mem_filter.mp hd;rcases nok d h1 with z | z
   ·exact absurd z (by simpa using h2)
   ·exact z
  have fl:((ds.filter fun d=>d.nm≠noName).map (·.nm)).length≤ds.length:=by rw[List.length_map];exact List.length_filter_le _ _
  generalize (ds.filter fun d=>d.nm≠noName).map (·.nm)=nn at fn fl⊢;have s1:=qaf hN0 (.lst (nn.map V.str));refine⟨by show 1≤sizeLine;decide,fun t ht=>?_⟩;have s2:=s1.trans (qaf ht (.lst [V.str (Str.ofString "nowhere")]));have e1:upd (upd H' N0 (.lst (nn.map V.str))) t (.lst [V.str (Str.ofString "nowhere")]) N0=some (.lst (nn.map V.str)):=(qaf ht _) _ _ qad;refine⟨N0,t,_,_,rfl,rfl,e1,qad,?_,fun N hN=>?_⟩
  ·rw[List.length_map];exact Nat.le_of_lt (qaA (by show nn.length+1≤1000;omega))
  have eN:nn.map V.str++[V.str (Str.ofString "nowhere")]=(nn++[Str.ofString "nowhere"]).map V.str:=by rw[List.map_append];rfl
  rw[eN];have s3:=s2.trans (qaf hN (.lst ((nn++[Str.ofString "nowhere"]).map V.str)));have hN3:upd (upd (upd H' N0 (.lst (nn.map V.str))) t (.lst [V.str (Str.ofString "nowhere")])) N (.lst ((nn++[Str.ofString "nowhere"]).map V.str)) N=some (.lst ((nn++[Str.ofString "nowhere"]).map V.str)):=qad;have mn:∀x∈nn++[Str.ofString "nowhere"],Name x:=fun x hx=>by
   rcases List.mem_append.mp hx with hx | hx
   ·exact fn x hx
   ·have:x=Str.ofString "nowhere":=by simpa using hx
    rw[this];exact nowhere_name
  have ml:(nn++[Str.ofString "nowhere"]).length≤1000:=by rw[List.length_append];show nn.length+1≤1000;omega
  have me:nn++[Str.ofString "nowhere"]≠[]:=by simp
  generalize nn++[Str.ofString "nowhere"]=nx at hN3 mn ml me s3⊢;generalize upd (upd (upd H' N0 (.lst (nn.map V.str))) t (.lst [V.str (Str.ofString "nowhere")])) N (.lst (nx.map V.str))=H1 at hN3 s3⊢;have G1:=G.same s3;have nst:N≠st:=qaI (G.so.same s2).some hN;have np:N≠p:=qaI ⟨_,s2 _ _ hp⟩ hN;clear e1 s1 s2 eN hN ht hN0 fn fl;refine⟨by show 5≤sizeLine;decide,fun t2 ht2=>?_⟩;have s4:=qaf ht2 (.lst [V.int 0,V.int 0,V.int 1,V.int 0,V.int 2]);refine⟨_,rfl,st,5,rfl,G1.so.same s4,by decide,by decide,fun r5 H5 r50 r51 S5 K5=>?_⟩;obtain⟨n,n2,en⟩:=notes_at r50 r51;refine⟨t2,_,_,_,rfl,rfl,SqL.of (K5 _ _ (qaI G1.so.some ht2) qad),en,?_⟩;have K15:Keep1 st H1 H5:=s4.keep.trans K5;have G5:=G1.keep1 K15 S5;have hN5:=K15 _ _ nst hN3;refine⟨_,rfl,_,rfl,_,rfl,_,rfl,_,rfl,_,rfl,st,N,n,nx,rfl,S5,n2,nst,hN5,me,ml,mn,fun s6 its H6 pc sa S6 K6=>?_⟩;have G6:=G5.keep1 K6 S6;refine⟨_,rfl,H0,p,st,s6,e,k,its,ds,rfl,G6,sa.keep (N':=New H0 p) KeepN.refl fun b nb _=>G5.fresh nb,by omega,fun d H7 de dk dst dm dn G7 K7=>?_⟩;have hN7:=K7 _ _ ⟨nst,np⟩ (K6 _ _ nst hN5);have K17:qb8 st p H' H7:=((s3.keep.trans K15.two).trans K6.two).trans K7;refine⟨_,rfl,_,rfl,by omega,by omega,qbn (fun i σ H8=>∃(nts:List Nd) (v:Option V),σ=[some (.ref p),some (.int e),some (.str k.s),some (.ref st),some (.ref N),some (.int n),some (.int ds.length),v]∧nts.length=i∧Gs H0 st p H8 (ds++(d::nts)) ∧
   (∀c∈nts,c.e=(ds.length:Int)∧c.k=.note∧Pieces 0 c.st∧qcm c.mks∧(c.nm=noName∨Name c.nm))∧Names (ds++(d::nts))∧H8 N=some (.lst (nx.map V.str))∧qb8 st p H' H8)
   ⟨[],none,rfl,rfl,G7,(fun c hc=>nomatch hc),qbC nms dn,hN7,K17⟩ ?_ ?_⟩
  ·rintro i σ H8 hi ⟨nts,v,rfl,ln,G8,hc,na,hN8,K8⟩;refine⟨_,rfl,_,rfl,_,rfl,_,rfl,st,N,0,nx,rfl,G8.so,by decide,nst,hN8,me,ml,mn,fun s9 its9 H9 pc9 sa9 S9 K9=>?_⟩;have G9:=G8.keep1 K9 S9;have l9:(ds++(d::nts)).length≤200:=by rw[List.length_append,List.length_cons];omega
   refine⟨_,rfl,H0,p,st,s9,(ds.length:Int),.note,its9,ds++(d::nts),rfl,G9,sa9.keep (N':=New H0 p) KeepN.refl fun b nb _=>G8.fresh nb,l9,fun c HA ce ck cst cm cn GA KA=>?_⟩;have ea:ds++(d::nts)++[c]=ds++(d::(nts++[c])):=by simp
   rw[ea]at GA;refine⟨nts++[c],_,rfl,by rw[List.length_append,ln];rfl,GA,fun c' hc'=>?_,by rw[←ea];exact qbC na cn,KA _ _ ⟨nst,np⟩ (K9 _ _ nst hN8),(K8.trans K9.two).trans KA⟩;rcases List.mem_append.mp hc' with h | h
   ·exact hc c' h
   ·have:c'=c:=by simpa using h
    subst this;exact⟨ce,ck,by rw[cst];exact pc9,cm,cn.or⟩
  ·rintro σ H8 ⟨nts,v,rfl,ln,G8,hc,na,hN8,K8⟩;refine q (d::nts) H8 (text_more hk hlv de dk (by rw[dst];exact pc) dm dn (by omega) hc na) ?_ G8 K8;rw[List.length_cons];omega
end
end K05
namespace L2
theorem qci{t u:TS}{D:Ends}{σ:St}{H:Hp}(P:St→Hp→Prop)(h:∀D':Ends,(∀σ' H',P σ' H'→D'.nx σ' H')→t D' σ H)(k:∀σ' H',P σ' H'→u D σ' H'):tSeq t u D σ H:=h _ k
theorem qer{c:TT}{t u:TS}{D:Ends}{σ:St}{H:Hp}(P:Bool→Hp→Prop)(h:∀Q:Bool→Hp→Prop,(∀b H',P b H'→Q b H')→c σ H Q)(k:∀b H',P b H'→if b=true then t D σ H' else u D σ H'):tIfS c t u D σ H:=h _ k
end L2
namespace Gen
open PySem L2 Bk
theorem kdt(k k':Kd):decide (V.str k.s=V.str k'.s)=decide (k=k'):=by
 by_cases h:k=k'
 ·rw[decide_eq_true h,h];simp
 ·rw[decide_eq_false h];exact decide_eq_false fun z=>h ((Kd.inj k k').mp (V.str.inj z))
def kindsL:List Kd:=[.text,.text,.picture,.case,.shelf,.grid,.head,.aside]
theorem kinds_at{r:Int}(h0:0≤r)(h1:r<8):∃k:Kd,atI (kindsL.map fun k=>V.str k.s) r=some (.str k.s)∧(k=.text∨k=.picture∨k=.case∨k=.shelf∨k=.grid∨(6≤r∧(k=.head∨k=.aside))):=by
 rcases(by omega:r=0∨r=1∨r=2∨r=3∨r=4∨r=5∨r=6∨r=7)with rfl | rfl | rfl | rfl | rfl | rfl | rfl | rfl
 ·exact⟨.text,rfl,.inl rfl⟩
 ·exact⟨.text,rfl,.inl rfl⟩
 ·exact⟨.picture,rfl,.inr (.inl rfl)⟩
 ·exact⟨.case,rfl,.inr (.inr (.inl rfl))⟩
 ·exact⟨.shelf,rfl,.inr (.inr (.inr (.inl rfl)))⟩
 ·exact⟨.grid,rfl,.inr (.inr (.inr (.inr (.inl rfl))))⟩
 ·exact⟨.head,rfl,.inr (.inr (.inr (.inr (.inr ⟨by decide,.inl rfl⟩))))⟩
 ·exact⟨.aside,rfl,.inr (.inr (.inr (.inr (.inr ⟨by decide,.inr rfl⟩))))⟩
def Leaf(k:Kd):Prop:=k=.text∨k=.head∨k=.picture
def qfS(ke k:Kd):Prop:=(mayHold ke k=true∨(k=.aside∧ke=.aside))∧(k=.text∨k=.picture∨k=.case∨k=.shelf∨k=.grid∨k=.head∨k=.aside)
theorem kind0_of{ke k:Kd}{sd:Bool}{r:Int}(hc:Cont ke)(hs:sd=true↔ke=.shelf∨ke=.grid)(hr:r<if sd=true then 6 else 8)(hk:k=.text∨k=.picture∨k=.case∨k=.shelf∨k=.grid∨(6≤r∧(k=.head∨k=.aside))):qfS ke k:=by
 unfold qfS;have hsd:6≤r→¬(ke=.shelf∨ke=.grid):=fun h z=>by
  rw[if_pos (hs.mpr z)]at hr;omega
 rcases hc with rfl | rfl | rfl | rfl | rfl<;>rcases hk with rfl | rfl | rfl | rfl | rfl | ⟨h6,rfl | rfl⟩<;>first | exact⟨.inl rfl,by decide⟩ | exact⟨.inr ⟨rfl,rfl⟩,by decide⟩ | exact absurd (show _∨_ by first | exact .inl rfl | exact .inr rfl) (hsd h6)
instance (k:Kd):Decidable (Leaf k):=inferInstanceAs (Decidable (k=.text∨k=.head∨k=.picture))
def leafL:List Kd:=[.text,.head,.picture]
theorem qek(k:Kd):inV (.str k.s) (leafL.map fun k=>V.str k.s)=decide (Leaf k):=by
 unfold inV leafL Leaf;have e:∀a b:Kd,eqV (.str a.s) (.str b.s)=decide (a=b):=fun a b=>by
  show(a.s == b.s)=_;rw[Bool.eq_iff_iff];simp[Kd.inj]
 simp only[List.map_cons,List.map_nil,List.any_cons,List.any_nil,e];cases k<;>rfl
theorem qev{ke:Kd}(hc:Cont ke):mayHold ke .text=true:=by rcases hc with rfl | rfl | rfl | rfl | rfl<;>rfl
theorem may_picture{ke:Kd}(hc:Cont ke):mayHold ke .picture=true:=by rcases hc with rfl | rfl | rfl | rfl | rfl<;>rfl
structure Kind2(ke k:Kd)(lv R n:Nat):Prop where
 may:mayHold ke k=true
 lvl:3<lv→Leaf k
 room:R≤n→Leaf k
 one:k=.text∨k=.picture∨k=.case∨k=.shelf∨k=.grid∨k=.head∨k=.aside
theorem eight_six(sd:Bool):atI [V.int 8,V.int 6] (if sd=true then 1 else 0)=some (.int (if sd=true then 6 else 8)):=by cases sd<;>rfl
theorem qeD{R lv n:Nat}(h:n<R):n+3≤cap R lv:=by unfold cap;split<;>(try split)<;>(try split)<;>omega
def CapB(R lv j n:Nat):Prop:=n≤R+3*j∨(1≤j∧n≤cap R (lv+1)+3*(j-1))
theorem qdV{R lv j n n':Nat}(h:CapB R lv j n)(h1:R≤n→n'≤n+3)(h2:n<R→n'≤cap R (lv+1)):CapB R lv (j+1) n':=by
 unfold CapB at *
 by_cases z:n<R
 ·exact .inr ⟨by omega,by have:=h2 z;omega⟩
 ·have:=h1 (by omega);rcases h with h | ⟨h,h'⟩
  ·exact .inl (by omega)
  ·exact .inr ⟨by omega,by omega⟩
theorem capB_end{R lv j n:Nat}(h:CapB R lv j n)(hj:j≤3)(hl:1≤lv)(hl3:lv≤3):n+3≤cap R lv:=by
 unfold CapB cap at *;rcases(by omega:lv=1∨lv=2∨lv=3)with rfl | rfl | rfl<;>simp at*<;> omega
theorem qeR{R lv j n:Nat}(h:CapB R lv j n)(hj:j≤3)(hR:R≤12):n≤60:=by
 unfold CapB cap at h
 split at h<;>(try split at h)<;>(try split at h)<;>omega
structure Kids(at_ lv:Nat)(k:Kd)(pre sub:List Nd)(ks:List Kd):Prop where
 fo:Forest at_ (at_+1) (lv+1) sub ks
 fm:∀d∈sub,Form d
 nm:Names (pre++sub)
 ok:qee (pre++sub)
 may:∀c∈ks,mayHold k c=true
 nx:Nexts ks
theorem Kids.more{at_ lv:Nat}{k:Kd}{pre sub more:List Nd}{ks ks':List Kd}(x:Kids at_ lv k pre sub ks)(hl:(pre++sub).length=at_+1+sub.length)(m:More at_ (lv+1) (pre++sub) more ks')(i:ItemKs k ks'):Kids at_ lv k pre (sub++more) (ks++ks'):=by
 refine⟨x.fo.append (by have:=m.fo;rw[hl]at this;exact this),fun d hd=>?_,by rw[←List.append_assoc];exact m.nm,fun d hd=>?_,fun c hc=>?_,x.nx.append i.nexts⟩
 ·rcases List.mem_append.mp hd with h | h
  ·exact x.fm d h
  ·exact m.fm d h
 ·rw[←List.append_assoc]at hd;rcases List.mem_append.mp hd with h | h
  ·exact x.ok d h
  ·exact(m.fm d h).nm
 ·rcases List.mem_append.mp hc with h | h
  ·exact x.may c h
  ·exact i.may c h
theorem More.nms{e lv:Nat}{ds more:List Nd}{ks:List Kd}(m:More e lv ds more ks)(h:qee ds):qee (ds++more):=fun d hd=>by
 rcases List.mem_append.mp hd with z | z
 ·exact h d z
 ·exact(m.fm d z).nm
theorem box_more{e lv:Nat}{ds sub:List Nd}{d:Nd}{ks:List Kd}(he:d.e=(e:Int))(hl:lv≤6)(hk:d.k=.case∨d.k=.shelf∨d.k=.grid∨d.k=.aside)(hst:d.st=[])(hm:qcm d.mks)(nm:NmOk ds d.nm)(x:Kids ds.length lv d.k (ds++[d]) sub ks)(hne:d.k≠.case→ks≠[]):More e lv ds (d::sub) [d.k]:=by
 refine⟨Forest.one he hl (by rcases hk with h | h | h | h<;>rw[h]<;>decide) x.fo ⟨x.may,fun z=>?_,x.nx,fun z=>?_⟩,fun c hc=>?_,by have:=x.nm;simpa using this⟩
 ·refine hne fun q=>?_
  rw[q]at z;cases z
 ·rcases hk with h | h | h | h<;>rw[h]at z<;>cases z
 ·rcases List.mem_cons.mp hc with rfl | h
  ·refine⟨nm.or,hm,?_⟩;rcases hk with h | h | h | h<;>rw[h]<;>exact hst
  ·exact x.fm c h
theorem pic_more{e lv:Nat}{ds:List Nd}{d:Nd}{a b:Int}(he:d.e=(e:Int))(hl:lv≤6)(hk:d.k=.picture)(hst:d.st=[.int a,.int b])(ha:1≤a∧a≤2000)(hb:1≤b∧b≤2000)(hm:qcm d.mks)(nm:NmOk ds d.nm)(na:Names ds):More e lv ds [d] [.picture]:=by
 refine⟨?_,fun c hc=>?_,qbC na nm⟩
 ·have:=Forest.one (i:=ds.length) (lv:=lv) (sub:=[]) (ks:=[]) he hl (by rw[hk];decide) .nil ⟨(fun c hc=>nomatch hc),(by rw[hk];intro z;cases z),trivial,(by rw[hk];intro z;cases z)⟩;rw[hk]at this;exact this
 ·have:c=d:=by simpa using hc
  subst this;refine⟨nm.or,hm,?_⟩;rw[hk,hst];exact⟨a,b,rfl,ha.1,ha.2,hb.1,hb.2⟩
theorem More.cat{e lv:Nat}{ds a b:List Nd}{ks ks':List Kd}(x:More e lv ds a ks)(y:More e lv (ds++a) b ks'):More e lv ds (a++b) (ks++ks'):=by
 refine⟨x.fo.append (by have:=y.fo;rw[List.length_append]at this;exact this),fun d hd=>?_,by rw[←List.append_assoc];exact y.nm⟩;rcases List.mem_append.mp hd with h | h
 ·exact x.fm d h
 ·exact y.fm d h
end Gen
namespace K05
open PySem L2 Bk Gen
section
variable{P:Program}{w:World}{K:PySem.W.Frag}{mg:Str→Option Value}{base:Heap}
theorem scItem:FnScope ["_law_nodes", "_law_elder", "_law_level", "_law_room", "_law_stream_here", "_law_kinds", "_law_sides", "_law_kind", "_law_at", "_law_k"] ["_law_nodes", "_law_elder", "_law_level", "_law_room", "_law_stream_here"] (qan sItem):=⟨rfl,rfl,rfl,by decide +kernel,rfl,by decide +kernel,by decide +kernel⟩
theorem qds{f:Addr}{fd:FuncData}{n:Nat}(F:Fun K "_law_item" "_law_item" sItem f fd)(T:Bn mg)(F_take:Fx P w K mg base CX0 1 "_law_take" ["_law_stream_here", "_law_most"] spTake)(F_add:Fx P w K mg base CX0 4 "_law_add" ["_law_nodes", "_law_elder", "_law_kind", "_law_stuff", "_law_stream_here"] spAdd)(F_text:Fx P w K mg base CX0 5 "_law_text" ["_law_nodes", "_law_elder", "_law_kind", "_law_stream_here"] spText)(F_item:Fx P w K mg base CX0 (6+n) "_law_item" ["_law_nodes", "_law_elder", "_law_level", "_law_room", "_law_stream_here"] (qcb n)):FnOk P w K mg base CX0 (6+n+1) f fd ["_law_nodes", "_law_elder", "_law_level", "_law_room", "_law_stream_here"] (qcb (n+1)):=by
 refine F.ok scItem (fun vs H Q E h=>?_) (fun cdv A outer s H vs Q E hr h=>?_)
 ·obtain⟨H0,p,st,e,lv,R,de,ds,rfl,_⟩:=h;rfl
 ·obtain⟨H0,p,st,e,lv,R,de,ds,rfl,G,hde,hct,l1,l4,hn,R1,R12,hlen,nok,nms,q⟩:=h;have hr_take:Room 1 _:=hr.mono (by omega);have hr_add:Room 4 _:=hr.mono (by omega);have hr_text:Room 5 _:=hr.mono (by omega);have hr_item:=hr;refine⟨_,(qae (qaD (i:=5) scItem.nd (by rfl) (by trivial) (qaY (qab qao (qab qao (qab qao (qab qao (qab qao (qab qao (qab qao (qab qao pa_nil))))))))))
   (qae (qaD (i:=6) scItem.nd (by rfl) (by trivial) (qeL (qaW op_eq (qaF ix_tup (qaF ix_list (pv 0) (pv 1) (fun _ _=>rfl)) qak (fun _ _=>rfl)) qao (qaz _)) (qbL (qaW op_eq (qaF ix_tup (qaF ix_list (pv 0) (pv 1) (fun _ _=>rfl)) qak (fun _ _=>rfl)) qao (qaz _)))))
   (qae (qaD (i:=7) scItem.nd (by rfl) (by trivial) (qaF ix_list (pv 5) (qaE F_take hr_take (by rfl) qaG (qab (pv 4) (qab (qaF ix_list (qaY (qab qak (qab qak pa_nil))) (qa5 call_int1 (by rfl) T.int b_int (qab (pv 6) pa_nil)) (fun _ _=>rfl)) pa_nil))) (fun _ _=>rfl)))
   (qae (qaR (PW.pt (qcx (PW.pt (qbP (qas op_eq (pv 7) qao (qaz _)) (qby (qas op_eq (qaF ix_tup (qaF ix_list (pv 0) (pv 1) (fun _ _=>rfl)) qak (fun _ _=>rfl)) qao (qaz _))))) (qbQ (PW.pt (qbP (qas op_gt (pv 2) qak (qaz _)) (qby (qas op_notIn_seq (pv 7) (qaY (qab qao (qab qao (qab qao pa_nil)))) (by with_unfolding_all rfl)))))))) (qai (qaD (i:=7) scItem.nd (by rfl) (by trivial) qao)) pss_nil)
   (qae (qaR (PW.pt (qbP (qas op_ge (qaw call_len_seq (by rfl) T.len b_len (qab (pv 0) pa_nil)) (pv 3) (qaz _)) (qby (qas op_notIn_seq (pv 7) (qaY (qab qao (qab qao (qab qao pa_nil)))) (by with_unfolding_all rfl))))) (qai (qaD (i:=7) scItem.nd (by rfl) (by trivial) qao)) pss_nil)
   (qae (qaR (PW.pt (qcx (qas op_eq (pv 7) qao (qaz _)) (qbQ (qas op_eq (pv 7) qao (qaz _))))) (qai (qa8 (qaE F_text hr_text (by rfl) qaG (qab (pv 0) (qab (pv 1) (qab (pv 7) (qab (pv 4) pa_nil))))))) (qai (qaR (qas op_eq (pv 7) qao (qaz _)) (qai (qa8 (qaE F_add hr_add (by rfl) qaG (qab (pv 0) (qab (pv 1) (qab (pv 7) (qab (qaY (qab (qaN op_add qak (qaE F_take hr_take (by rfl) qaG (qab (pv 4) (qab qak pa_nil)))) (qab (qaN op_add qak (qaE F_take hr_take (by rfl) qaG (qab (pv 4) (qab qak pa_nil)))) pa_nil))) (qab (pv 4) pa_nil)))))))) (qae (qaD (i:=8) scItem.nd (by rfl) (by trivial) (qaE F_add hr_add (by rfl) qaG (qab (pv 0) (qab (pv 1) (qab (pv 7) (qab (qaY pa_nil) (qab (pv 4) pa_nil)))))))
   (qai (qbN PassesOwn.never (by rfl) (qbg (by rfl) T.range (qab (qaN op_add (qaE F_take hr_take (by rfl) qaG (qab (pv 4) (qab qak pa_nil))) (qa5 call_int1 (by rfl) T.int b_int (qab (qaW op_ne (pv 7) qao (qaz _)) pa_nil))) pa_nil)) (qaH (i:=9) scItem.nd (by rfl) (by trivial))
   (qai (qa8 (qaE F_item hr_item (by rfl) qaG (qab (pv 0) (qab (pv 8) (qab (qaN op_add (pv 2) qak) (qab (pv 3) (qab (pv 4) pa_nil))))))))))))))
   (qai (qaR (qas op_eq (pv 7) qao (qaz _)) (qai (qa8 (qaE F_text hr_text (by rfl) qaG (qab (pv 0) (qab (pv 1) (qab qao (qab (pv 4) pa_nil))))))) pss_nil)))))))),?_⟩
  refine⟨by show 8≤sizeLine;decide,fun kl hkl=>?_⟩;have s1:=qaf hkl (.lst (kindsL.map fun k=>V.str k.s));have G1:=G.same s1;have hk1:upd H kl (.lst (kindsL.map fun k=>V.str k.s)) kl=some (.lst (kindsL.map fun k=>V.str k.s)):=qad;have kst:kl≠st:=qaI G.so.some hkl;have kp:kl≠p:=qaI G.psome hkl;have K1:qb8 st p H (upd H kl (.lst (kindsL.map fun k=>V.str k.s))):=s1.keep;dsimp only[qeI];show tSeq _ _ _ [some (.ref p),some (.int e),some (.int lv),some (.int R),some (.ref st),some (.ref kl),none,none,none,none] (upd H kl (.lst (kindsL.map fun k=>V.str k.s)));generalize upd H kl (.lst (kindsL.map fun k=>V.str k.s))=H1 at s1 G1 hk1 K1⊢;obtain⟨as,hp,nd⟩:=G1.bk;obtain⟨a,ea,na⟩:=nd.get hde;obtain⟨m,s',ha,_⟩:=na.ex;refine qci (fun σ' H'=>∃sd:Bool,σ'=[some (.ref p),some (.int e),some (.int lv),some (.int R),some (.ref st),some (.ref kl),some (.bl sd),none,none,none]∧H1=H'∧(sd=true↔de.k=.shelf∨de.k=.grid)) (fun D' hD=>?_) ?_
  ·refine⟨_,rfl,_,rfl,p,_,_,_,rfl,rfl,SqL.of hp,qbA ea,a,_,_,_,rfl,rfl,SqT.of ha,rfl,rfl,_,rfl,?_⟩;rw[show decide (V.str de.k.s=V.str (Str.ofString "shelf"))=decide (de.k=.shelf)from kdt de.k .shelf];refine ite2 (fun c=>?_) (fun c=>?_)
   ·exact hD _ _ ⟨true,rfl,rfl,⟨fun _=>.inl (of_decide_eq_true c),fun _=>rfl⟩⟩
   ·refine⟨_,rfl,_,rfl,p,_,_,_,rfl,rfl,SqL.of hp,qbA ea,a,_,_,_,rfl,rfl,SqT.of ha,rfl,rfl,?_⟩;rw[show decide (V.str de.k.s=V.str (Str.ofString "grid"))=decide (de.k=.grid)from kdt de.k .grid];refine hD _ _ ⟨decide (de.k=.grid),rfl,rfl,⟨fun z=>.inr (of_decide_eq_true z),fun z=>?_⟩⟩;rcases z with z | z
    ·exact absurd (decide_eq_true z) c
    ·exact decide_eq_true z
  rintro _ _ ⟨sd,rfl,rfl,hsd⟩;refine qci (fun σ' H'=>∃k:Kd,σ'=[some (.ref p),some (.int e),some (.int lv),some (.int R),some (.ref st),some (.ref kl),some (.bl sd),some (.str k.s),none,none]∧Keep1 st H1 H'∧StOk H' st∧qfS de.k k) (fun D' hD=>?_) ?_
  ·refine⟨_,rfl,_,rfl,by show 2≤sizeLine;decide,fun t ht=>?_⟩;have s2:=qaf ht (.lst [V.int 8,V.int 6]);refine⟨_,rfl,.inr ⟨sd,rfl,t,_,_,_,rfl,rfl,SqL.of qad,eight_six sd,st,_,rfl,G1.so.same s2,by split<;>decide,by split<;>decide,fun r H3 r0 r1 S3 K3=>?_⟩⟩;have r8:r<8:=by revert r1;split<;>omega
   obtain⟨k,ek,hk⟩:=kinds_at r0 r8;refine⟨kl,_,_,_,rfl,rfl,SqL.of (K3 _ _ kst (s2 _ _ hk1)),ek,?_⟩;exact hD _ _ ⟨k,rfl,s2.keep.trans K3,S3,kind0_of hct hsd r1 hk⟩
  rintro _ H3 ⟨k0,rfl,K13,S3,hk0⟩;have G3:=G1.keep1 K13 S3;have K03:qb8 st p H H3:=K1.trans K13.two;obtain⟨as3,hp3,nd3⟩:=G3.bk;obtain⟨a3,ea3,na3⟩:=nd3.get hde;obtain⟨m3,s3',ha3,_⟩:=na3.ex;refine qci (fun σ' H'=>∃k:Kd,σ'=[some (.ref p),some (.int e),some (.int lv),some (.int R),some (.ref st),some (.ref kl),some (.bl sd),some (.str k.s),none,none]∧Same H3 H'∧mayHold de.k k=true∧(3<lv→Leaf k)∧(k=.text∨k=.picture∨k=.case∨k=.shelf∨k=.grid∨k=.head∨k=.aside)) (fun D' hD=>?_) ?_
  ·refine qer (fun b H'=>Same H3 H'∧(b=false→mayHold de.k k0=true∧(3<lv→Leaf k0))) (fun Q' hQ=>?_) (fun b H' hb=>?_)
   ·refine⟨_,rfl,rfl,_,rfl,?_⟩;rw[show decide (V.str k0.s=V.str (Str.ofString "aside"))=decide (k0=.aside)from kdt k0 .aside];have second:∀(b1:Bool),(b1=false→mayHold de.k k0=true)→if b1=true then Q' true H3 else tAnd (qfp (tOp (rI0 fun i j=>.bl (decide (j<i))) (tVar 2) (tC (.int 3)))) (qfp (tOp (rIn K true) (tVar 7) (tLst (qed (tC (.str (Str.ofString "text"))) (qed (tC (.str (Str.ofString "head"))) (qed (tC (.str (Str.ofString "picture"))) tNil))))))
      [some (.ref p),some (.int e),some (.int lv),some (.int R),some (.ref st),some (.ref kl),some (.bl sd),some (.str k0.s),none,none] H3 Q':=by
     intro b1 hm;cases b1 with
     | true=>exact iteT (hQ _ _ ⟨Same.refl _,(fun z=>nomatch z)⟩)
     | false =>
       refine iteF ⟨_,rfl,_,_,rfl,rfl,_,rfl,?_⟩
       refine ite2 (fun c=>?_) (fun c=>?_)
       · refine⟨_,rfl,by show 3≤sizeLine;decide,fun t ht=>⟨t,leafL.map (fun k=>V.str k.s),rfl,.inl (SqL.of qad),rfl,rfl,_,rfl,?_⟩⟩
         refine hQ _ _ ⟨qaf ht _,fun z=>⟨hm rfl,fun _=>?_⟩⟩
         rw[if_pos rfl,qek]at z
         simpa using z
       · exact hQ _ _ ⟨Same.refl _,fun _=>⟨hm rfl,fun z=>absurd (decide_eq_true (show(3:Int)<(lv:Int) by omega)) c⟩⟩
    refine ite2 (fun c=>?_) (fun c=>?_)
    ·refine⟨_,rfl,_,rfl,p,_,_,_,rfl,rfl,SqL.of hp3,qbA ea3,a3,_,_,_,rfl,rfl,SqT.of ha3,rfl,rfl,_,rfl,?_⟩;rw[show decide (V.str de.k.s=V.str (Str.ofString "aside"))=decide (de.k=.aside)from kdt de.k .aside];refine second _ fun z=>?_
     rcases hk0.1 with y | y
     ·exact y
     ·exact absurd y.2 (of_decide_eq_false z)
    ·refine second false fun _=>?_
     rcases hk0.1 with y | y
     ·exact y
     ·exact absurd (decide_eq_true y.1) c
   ·obtain⟨sb,hb⟩:=hb;cases b with
    | true=>exact iteT (hD _ _ ⟨.text,rfl,sb,qev hct,(fun _=>.inl rfl),.inl rfl⟩)
    | false=>exact iteF (hD _ _ ⟨k0,rfl,sb,(hb rfl).1,(hb rfl).2,hk0.2⟩)
  rintro _ H4 ⟨k1,rfl,s34,may1,lv1,one1⟩;have G4:=G3.same s34;have K04:qb8 st p H H4:=K03.trans s34.keep;obtain⟨as4,hp4,nd4⟩:=G4.bk;have len4:as4.length=ds.length:=nd4.length;refine qci (fun σ' H'=>∃k:Kd,σ'=[some (.ref p),some (.int e),some (.int lv),some (.int R),some (.ref st),some (.ref kl),some (.bl sd),some (.str k.s),none,none]∧Same H4 H'∧Kind2 de.k k lv R ds.length) (fun D' hD=>?_) ?_
  ·refine qer (fun b H'=>Same H4 H'∧(b=false→R≤ds.length→Leaf k1)) (fun Q' hQ=>?_) (fun b H' hb=>?_)
   ·refine⟨_,rfl,p,_,rfl,.inl (SqL.of hp4),_,rfl,_,_,rfl,rfl,_,rfl,?_⟩;refine ite2 (fun c=>?_) (fun c=>?_)
    ·refine⟨_,rfl,by show 3≤sizeLine;decide,fun t ht=>⟨t,leafL.map (fun k=>V.str k.s),rfl,.inl (SqL.of qad),rfl,rfl,_,rfl,?_⟩⟩;refine hQ _ _ ⟨qaf ht _,fun z _=>?_⟩;rw[if_pos rfl,qek]at z;simpa using z
    ·refine hQ _ _ ⟨Same.refl _,fun _ z=>absurd (decide_eq_true ?_) c⟩;rw[List.length_map,len4];omega
   ·obtain⟨sb,hb⟩:=hb;cases b with
    | true=>exact iteT (hD _ _ ⟨.picture,rfl,sb,may_picture hct,(fun _=>.inr (.inr rfl)),(fun _=>.inr (.inr rfl)),.inr (.inl rfl)⟩)
    | false=>exact iteF (hD _ _ ⟨k1,rfl,sb,may1,lv1,hb rfl,one1⟩)
  rintro _ H5 ⟨k2,rfl,s45,hk2⟩;have G5:=G4.same s45;have K05:qb8 st p H H5:=K04.trans s45.keep;have notA:∀(k:Kd),k≠.aside→decide (V.str k.s=V.str (Str.ofString "aside"))=false:=fun k hk=>by
   rw[show decide (V.str k.s=V.str (Str.ofString "aside"))=decide (k=.aside)from kdt k .aside];exact decide_eq_false hk
  refine qci (fun σ' H'=>∃(more:List Nd) (v8 v9:Option V),σ'=[some (.ref p),some (.int e),some (.int lv),some (.int R),some (.ref st),some (.ref kl),some (.bl sd),some (.str k2.s),v8,v9]∧More e lv ds more [k2]∧(R≤ds.length→more.length≤3)∧(ds.length<R→ds.length+more.length+(if k2=.aside then 3 else 0)≤cap R lv)∧ds.length+more.length≤103∧(k2=.aside→ds.length<R)∧Gs H0 st p H' (ds++more)∧qb8 st p H5 H') (fun D' hD=>?_) ?_
  ·have texts:(k2=.text∨k2=.head)→spText ([.ref p,.int e,.str k2.s,.ref st]++[]) H5 (fun _ H'=>D'.nx [some (.ref p),some (.int e),some (.int lv),some (.int R),some (.ref st),some (.ref kl),some (.bl sd),some (.str k2.s),none,none] H') E0:=fun hk=>by
    have na:k2≠.aside:=by rcases hk with rfl | rfl<;>decide
    refine⟨H0,p,st,e,lv,k2,ds,rfl,G5,hk,by omega,by omega,nok,nms,fun more H6 mo m3 G6 K6=>?_⟩;refine hD _ _ ⟨more,none,none,rfl,mo,(fun _=>m3),(fun z=>?_),by omega,(fun z=>absurd z na),G6,K6⟩;rw[if_neg na];have:=qeD (R:=R) (lv:=lv) z;omega
   refine⟨_,rfl,rfl,_,rfl,?_⟩;rw[show decide (V.str k2.s=V.str (Str.ofString "text"))=decide (k2=.text)from kdt k2 .text];refine ite2 (fun c=>?_) (fun c=>?_)
   ·exact iteT ⟨_,rfl,_,rfl,_,rfl,_,rfl,texts (.inl (of_decide_eq_true c))⟩
   refine⟨_,rfl,rfl,_,rfl,?_⟩;rw[show decide (V.str k2.s=V.str (Str.ofString "head"))=decide (k2=.head)from kdt k2 .head];refine ite2 (fun c2=>?_) (fun c2=>?_)
   ·exact⟨_,rfl,_,rfl,_,rfl,_,rfl,texts (.inr (of_decide_eq_true c2))⟩
   refine⟨_,rfl,rfl,_,rfl,?_⟩;rw[show decide (V.str k2.s=V.str (Str.ofString "picture"))=decide (k2=.picture)from kdt k2 .picture];refine ite2 (fun c3=>?_) (fun c3=>?_)
   ·-- a picture
    have hkp:k2=.picture:=of_decide_eq_true c3;refine⟨_,rfl,_,rfl,_,rfl,_,rfl,st,60,rfl,G5.so,by decide,by decide,fun r6 H6 r60 r61 S6 K6=>⟨_,_,rfl,rfl,_,rfl,st,60,rfl,S6,by decide,by decide,fun r7 H7 r70 r71 S7 K7=>⟨_,_,rfl,rfl,by show 2≤sizeLine;decide,fun t ht=>?_⟩⟩⟩;have s8:=qaf ht (.lst [.int (1+r6),.int (1+r7)]);have K58:Keep1 st H5 _:=(K6.trans K7).trans s8.keep;have G8:=G5.keep1 K58 (S7.same s8);refine⟨_,rfl,H0,p,st,t,e,k2,[.int (1+r6),.int (1+r7)],ds,rfl,G8,⟨(G5.keep1 (K6.trans K7) S7).fresh ht,_,qad,.cons rfl (.cons rfl .nil)⟩,by omega,fun d H9 de' dk dst dm dn G9 K9=>?_⟩;refine hD _ _ ⟨[d],none,none,rfl,by rw[hkp]at dk⊢;exact pic_more de' (by omega) dk dst ⟨by omega,by omega⟩ ⟨by omega,by omega⟩ dm dn nms,(fun _=>by simp),(fun z=>?_),by simp;omega,(fun z=>by rw[hkp]at z;cases z),G9,K58.two.trans K9⟩;rw[hkp,if_neg (by decide)];have:=qeD (R:=R) (lv:=lv) z;simp;omega
   ·-- a box
    have hb:k2=.case∨k2=.shelf∨k2=.grid∨k2=.aside:=by
     have n1:k2≠.text:=fun z=>c (decide_eq_true z)
     have n2:k2≠.head:=fun z=>c2 (decide_eq_true z)
     have n3:k2≠.picture:=fun z=>c3 (decide_eq_true z)
     rcases hk2.one with h | h | h | h | h | h | h<;>simp_all
    have nl:¬Leaf k2:=by rcases hb with h | h | h | h<;>rw[h]<;>decide
    have lv3:lv≤3:=Nat.le_of_not_lt fun z=>nl (hk2.lvl z)
    have hR:ds.length<R:=Nat.lt_of_not_le fun z=>nl (hk2.room z)
    have ct2:Cont k2:=by rcases hb with h | h | h | h<;>rw[h]<;>simp[Cont]
    refine⟨_,rfl,_,rfl,_,rfl,by show 0≤sizeLine;decide,fun t ht=>?_⟩;have s6:=qaf ht (.lst []);refine⟨_,rfl,H0,p,st,t,e,k2,[],ds,rfl,G5.same s6,⟨G5.fresh ht,_,qad,.nil⟩,by omega,fun d H7 de' dk dst dm dn G7 K7=>?_⟩;have K57:qb8 st p H5 H7:=s6.keep.trans K7;refine⟨_,rfl,st,3,rfl,G7.so,by decide,by decide,fun r8 H8 r80 r81 S8 K8=>⟨_,rfl,rfl,.inr ⟨_,rfl,_,_,rfl,rfl,?_⟩⟩⟩;rw[show decide (V.str k2.s=V.str (Str.ofString "case"))=decide (k2=.case)from kdt k2 .case];have G8:=G7.keep1 K8 S8;have cnt:∃c:Nat,r8+(if(!decide (k2=Kd.case))=true then 1 else 0)=(c:Int)∧c≤3∧(k2≠.case→1≤c):=by
     refine⟨(r8+(if(!decide (k2=Kd.case))=true then 1 else 0)).toNat,?_,?_,fun z=>?_⟩
     ·split<;>omega
     ·split<;>omega
     ·rw[decide_eq_false z];simp;omega
    obtain⟨c,ec,c3',c1⟩:=cnt;refine⟨(c:Int),congrArg (fun z=>[V.int z]) ec,by omega,by omega,qbn (fun j σ H9=>∃(sub:List Nd) (ks:List Kd) (v:Option V),σ=[some (.ref p),some (.int e),some (.int lv),some (.int R),some (.ref st),some (.ref kl),some (.bl sd),some (.str k2.s),some (.int ds.length),v]∧Kids ds.length lv k2 (ds++[d]) sub ks∧(0<j→ks≠[])∧CapB R lv j (ds.length+1+sub.length)∧Gs H0 st p H9 (ds++[d]++sub)∧qb8 st p H5 H9)
     ⟨[],[],none,rfl,⟨.nil,(fun d hd=>nomatch hd),by rw[List.append_nil];exact qbC nms dn,by rw[List.append_nil];exact nms_push nok dn,(fun c hc=>nomatch hc),trivial⟩,(fun z=>absurd z (Nat.lt_irrefl 0)),.inl (by simp;omega),by rw[List.append_nil];exact G8,K57.trans K8.two⟩ ?_ ?_⟩
    ·rintro j σ H9 hj ⟨sub,ks,v,rfl,kids,hks,cb,G9,K9⟩;have j3:j<3:=by simp at hj;omega
     have l9:(ds++[d]++sub).length=ds.length+1+sub.length:=by rw[List.length_append,List.length_append];rfl
     have le60:=qeR cb (by omega) R12;refine⟨_,rfl,_,rfl,_,rfl,_,_,rfl,rfl,_,rfl,_,rfl,H0,p,st,ds.length,lv+1,R,d,ds++[d]++sub,rfl,G9,?_,by rw[dk];exact ct2,by omega,by omega,by omega,R1,R12,by omega,kids.ok,kids.nm,fun more ks' HA mo ik m3 mc GA KA=>?_⟩
     ·rw[List.append_assoc,List.getElem?_append_right (Nat.le_refl _)];simp
     rw[dk]at ik;refine⟨sub++more,ks++ks',_,rfl,kids.more l9 mo ik,(fun _=>by have:=ik.ne;simp[this]),?_,by rw[←List.append_assoc];exact GA,K9.trans KA⟩;refine qdV cb (fun z=>?_) (fun z=>?_)
     ·have:=m3 (by omega);rw[List.length_append];omega
     ·have:=mc (by omega);rw[List.length_append];omega
    ·rintro σ H9 ⟨sub,ks,v,rfl,kids,hks,cb,G9,K9⟩;have cc:((c:Int)).toNat≤3:=by simpa using c3'
     have cb':=capB_end cb cc l1 lv3;have le60:=qeR cb cc R12;have ee:ds++(d::sub)=ds++[d]++sub:=by simp
     refine hD _ _ ⟨d::sub,_,v,rfl,?_,(fun z=>absurd z (by omega)),(fun _=>?_),by rw[List.length_cons];omega,(fun _=>hR),by rw[ee];exact G9,K9⟩
     ·have:=box_more (lv:=lv) de' (by omega) (by rw[dk];exact hb) dst dm dn (by rw[dk];exact kids) (by rw[dk];exact fun z=>hks (by have:=c1 z;simp;omega));rw[dk]at this;exact this
     ·rw[List.length_cons]
      split<;>omega
  rintro _ H6 ⟨more,v8,v9,rfl,mo,m3,mc,ml,hA,G6,K6⟩;have K06:qb8 st p H H6:=K05.trans K6;refine⟨_,rfl,rfl,_,rfl,?_⟩;rw[show decide (V.str k2.s=V.str (Str.ofString "aside"))=decide (k2=.aside)from kdt k2 .aside];refine ite2 (fun c=>?_) (fun c=>?_)
  ·have hk:k2=.aside:=of_decide_eq_true c;refine⟨_,rfl,_,rfl,_,rfl,H0,p,st,e,lv,.text,ds++more,rfl,G6,.inl rfl,by rw[List.length_append];omega,by omega,mo.nms nok,mo.nm,fun more' H7 mo' m3' G7 K7=>?_⟩;have hR:=hA hk;have mc':=mc hR;rw[if_pos hk]at mc';refine q (more++more') ([k2]++[.text]) H7 (mo.cat mo') (.inr ⟨by rw[hk];rfl,by rw[←hk];exact hk2.may,qev hct⟩) (fun z=>absurd z (by omega)) (fun _=>by rw[List.length_append];omega) (by rw[←List.append_assoc];exact G7) (K06.trans K7)
  ·have hk:k2≠.aside:=fun z=>c (decide_eq_true z)
   refine q more [k2] H6 mo (.inl ⟨k2,rfl,hk,hk2.may⟩) m3 (fun z=>?_) G6 K06;have:=mc z;rw[if_neg hk]at this;omega
end
end K05
namespace Bk
open PySem L2
open PySem.W (Dat kqdOk)
def thgD:Sum Str Int→Dat
 | .inl w=>.str w
 | .inr k=>.int k
def thD:Th→Dat
 | .int n=>.int n
 | .tri s x t=>.tuple [.str s.s,thgD x,.int t]
def ndD(d:Nd):Dat:=.tuple [.int d.e,.str d.k.s,.str d.nm,.list (d.mks.map Dat.str),.list (d.st.map thD)]
def bkD(ds:List Nd):Dat:=.list (ds.map ndD)
section
variable{N:Addr→Prop}{H:Hp}
theorem th_in{v:V}{x:Th}(h:ItAt N H v x):DIn H v (thD x):=by
 cases x with
 | int n=>cases h;exact .int n
 | tri s x t =>
   obtain⟨a,rfl,_,e⟩:=h
   refine .tup e (.cons (.str _) (.cons ?_ (.cons (.int _) .nil)))
   cases x with
   | inl w=>exact .str w
   | inr k=>exact .int k
theorem ths_in{vs:List V}{l:List Th}(p:Paired (ItAt N H) vs l):DAll H vs (l.map thD):=by
 induction p with
 | nil=>exact .nil
 | cons q t ih=>exact .cons (th_in q) ih
theorem nd_in{a:Addr}{d:Nd}(h:NdAt N H a d):DIn H (.ref a) (ndD d):=by
 obtain⟨_,m,s,e,_,em,_,vs,es,p⟩:=h;exact .tup e (.cons (.int _) (.cons (.str _) (.cons (.str _) (.cons (.lst em (qfb _)) (.cons (.lst es (ths_in p)) .nil)))))
theorem qeX{as:List Addr}{ds:List Nd}(p:NdsAt N H as ds):DAll H (as.map V.ref) (ds.map ndD):=by
 induction p with
 | nil=>exact .nil
 | cons q t ih=>exact .cons (nd_in q) ih
theorem qfq{p:Addr}{ds:List Nd}(h:qbh N H p ds):DIn H (.ref p) (bkD ds):=by
 obtain⟨as,e,q⟩:=h;exact .lst e (qeX q)
end
theorem low_str{x:Str}(h:∀c∈x.cps.toList,c<128):PyData.strOk x=true:=by
 show(x.cps.all fun c=>decide (c<0x110000))=true;rw[Array.all_eq_true'];intro c hc;have:=h c (by simpa using hc);exact decide_eq_true (by omega)
theorem qfL(k:Kd):PyData.strOk k.s=true:=by cases k<;>decide +kernel
theorem qcI(s:So):PyData.strOk s.s=true:=by cases s<;>decide +kernel
theorem word_low:∀c∈wordSigns,c<128:=by decide
theorem word_str{w:Str}(h:Word w):PyData.strOk w=true:=low_str fun c hc=>word_low c (h.2.2 c hc)
theorem qdx{n:Str}(h:n=noName∨Name n):PyData.strOk n=true:=by
 rcases h with rfl | h
 ·decide +kernel
 ·exact Gen.small_str h.2.2
theorem pc_ok{x:Th}(h:PcOk x):kqdOk 6 (thD x)=true:=by
 cases x with
 | int n=>cases h
 | tri s x t =>
   cases s<;>cases x<;>first | (exfalso;exact h) | skip
   · have:=word_str h.1
     simp[thD,thgD,kqdOk,this,qcI]
   · have:=qdx (.inr h.1)
     simp[thD,thgD,kqdOk,this,qcI]
   · simp[thD,thgD,kqdOk,qcI]
theorem qeH{k:Kd}{l:List Th}(h:Stuff k l):∀x∈l,kqdOk 6 (thD x)=true:=by
 intro x hx;cases k<;>first
  | (obtain⟨h1,_⟩:=h;exact pc_ok (h1 x hx))
  | (obtain⟨a,b,rfl,_⟩:=h;rcases List.mem_cons.mp hx with rfl | hx;rfl;have:x=.int b:=(by simpa using hx);subst this;rfl)
  | (have:l=[]:=h;subst this;cases hx)
theorem nd_ok{d:Nd}(h:Form d):kqdOk 8 (ndD d)=true:=by
 have h1:=qdx h.nm;have h2:∀m∈d.mks,PyData.strOk m=true:=fun m hm=>qdx (.inr (h.mks.2.1 m hm))
 have h3:=qeH h.st;simp only[ndD,kqdOk,List.all_cons,List.all_nil,Bool.and_true,Bool.and_eq_true,List.all_eq_true,List.mem_map];refine⟨trivial,qfL _,h1,?_,?_⟩
 ·rintro x ⟨m,hm,rfl⟩;exact h2 m hm
 ·rintro x ⟨m,hm,rfl⟩;exact h3 m hm
theorem qfQ{ds:List Nd}(h:∀d∈ds,Form d):kqdOk 9 (bkD ds)=true:=by
 simp only[bkD,kqdOk,List.all_eq_true,List.mem_map];rintro x ⟨d,hd,rfl⟩;exact nd_ok (h d hd)
theorem cut_to1{xs:List V}(h:1≤xs.length):cutV xs none (some 1)=xs.take 1:=by
 unfold cutV;rw[HT.sIx_none,show HT.sIx xs.length xs.length (some 1)=1 from by rw[show(1:Int)=((1:Nat):Int)from rfl,HT.sIx_nat];omega];simp
theorem cut_from1{xs:List V}(h:1≤xs.length):cutV xs (some 1) none=xs.drop 1:=by
 unfold cutV;rw[HT.sIx_none,show HT.sIx xs.length 0 (some 1)=1 from by rw[show(1:Int)=((1:Nat):Int)from rfl,HT.sIx_nat];omega];rw[List.take_of_length_le];rw[List.length_drop];omega
def bodyNd:Nd:=⟨-1,.body,noName,[],[]⟩
theorem body_form:Form bodyNd:=⟨.inl rfl,⟨by decide,(fun m hm=>nomatch hm),List.Pairwise.nil⟩,rfl⟩
end Bk
namespace Gen
open PySem L2 Bk
theorem kids0:Kids 0 0 .body [bodyNd] [] []:=by
 refine⟨.nil,(fun d hd=>nomatch hd),?_,fun d hd=>?_,(fun c hc=>nomatch hc),trivial⟩
 ·show Names ([]++[bodyNd]);exact qbC Names.nil (.inl rfl)
 ·have:d=bodyNd:=by simpa using hd
  subst this;exact .inl rfl
end Gen
namespace K05
open PySem L2 Bk Gen
section
variable{P:Program}{w:World}{K:PySem.W.Frag}{mg:Str→Option Value}{base:Heap}
theorem scBook:FnScope ["_law_stream_here", "_law_many", "_law_room", "_law_nodes", "_law_k"] ["_law_stream_here", "_law_many", "_law_room"] (qan sBook):=⟨rfl,rfl,rfl,by decide +kernel,rfl,by decide +kernel,by decide +kernel⟩
theorem ok_book{f:Addr}{fd:FuncData}(F:Fun K "_law_book" "_law_book" sBook f fd)(T:Bn mg)(F_text:Fx P w K mg base CX0 5 "_law_text" ["_law_nodes", "_law_elder", "_law_kind", "_law_stream_here"] spText)(F_item:Fx P w K mg base CX0 10 "_law_item" ["_law_nodes", "_law_elder", "_law_level", "_law_room", "_law_stream_here"] (qcb 4)):FnOk P w K mg base CX0 11 f fd ["_law_stream_here", "_law_many", "_law_room"] spBook:=by
 refine F.ok scBook (fun vs H Q E h=>?_) (fun cdv A outer s H vs Q E hr h=>?_)
 ·obtain⟨st,m,R,rfl,_⟩:=h;rfl
 ·obtain⟨st,m,R,rfl,S,m1,m4,R1,R12,q⟩:=h;have hr_text:Room 5 _:=hr.mono (by decide);have hr_item:=hr;have hu:=hr.units;refine⟨_,(qae (qaD (i:=3) scBook.nd (by rfl) (by trivial) (qaY (qab (qbB (qab (qeJ un_neg qak) (qab qao (qab qao (qab (qaY pa_nil) (qab (qaY pa_nil) pa_nil)))))) pa_nil)))
   (qae (qbN PassesOwn.never (by rfl) (qbg (by rfl) T.range (qab (pv 1) pa_nil)) (qaH (i:=4) scBook.nd (by rfl) (by trivial))
   (qai (qa8 (qaE F_item hr_item (by rfl) qaG (qab (pv 3) (qab qak (qab qak (qab (pv 2) (qab (pv 0) pa_nil)))))))))
   (qae (qaR (qas (qeQ hu) (qbc (own:=["_law_row"]) (by rfl) (CompScope.plain (by rfl) (by decide +kernel) (by decide +kernel) (by decide +kernel)) (qbl (pv 3)) (fun cl C s2 H2 fp=>(qaH (i:=0) (by show(["_law_row"]:List Str).Nodup;decide +kernel) (by rfl) (by trivial) (by trivial))) (fun cl C s2 H2 fp=>(qcS (PW.pt (qbP (qas op_eq (qaF (r:=rIxT K) ix_tup (pv 0) qak (fun _ _=>rfl)) qak (qaz _)) (qby (qas op_ne (qaF (r:=rIxT K) ix_tup (pv 0) qak (fun _ _=>rfl)) qao (qaz _))))))) (fun cl C s2 H2 fp=>(pv 0))) (qaY pa_nil) (qaz _)) (qai (qa8 (qaE F_text hr_text (by rfl) qaG (qab (pv 3) (qab qak (qab qao (qab (pv 0) pa_nil))))))) pss_nil)
   (qai (qat (qaN op_cat (qbG sl_list (pv 3) po_none (qbM qak)) (qbG sl_list (pv 3) (qbM qak) po_none))))))),?_⟩
  refine⟨_,rfl,by show 0≤sizeLine;decide,fun mk hmk=>⟨by show 0≤sizeLine;decide,fun sf hsf=>⟨by show 5≤sizeLine;decide,fun a ha=>⟨by show 1≤sizeLine;decide,fun p hp=>?_⟩⟩⟩⟩;have s1:=qaf hmk (.lst []);have s2:=qaf hsf (.lst []);have s3:=qaf ha (.tup [.int (-1),.str (Str.ofString "body"),.str (Str.ofString ""),.ref mk,.ref sf]);have s4:=qaf hp (.lst [V.ref a]);have s14:Same H _:=((s1.trans s2).trans s3).trans s4;have fr:∀{H':Hp} {b:Addr},Same H H'→H' b=none→H b=none:=fun ss hb=>ss.free hb
  have hp0:H p=none:=((s1.trans s2).trans s3).free hp;have G1:Gs H st p (upd (upd (upd (upd H mk (.lst [])) sf (.lst [])) a (.tup [.int (-1),.str (Str.ofString "body"),.str (Str.ofString ""),.ref mk,.ref sf])) p (.lst [V.ref a])) [bodyNd]:=by
   refine⟨S.same s14,S.some,hp0,s14.keep,[a],qad,.cons ⟨⟨(s1.trans s2).free ha,ne_of (s4 _ _ qad) qad (by intro z;cases z)⟩,mk,sf,s4 _ _ qad,⟨hmk,qaI ⟨_,(s2.trans s3) _ _ qad⟩ hp |>.symm⟩,(s2.trans (s3.trans s4)) _ _ qad,⟨s1.free hsf,(qaI ⟨_,s3 _ _ qad⟩ hp).symm⟩,[],(s3.trans s4) _ _ qad,.nil⟩ .nil⟩
  generalize upd (upd (upd (upd H mk (.lst [])) sf (.lst [])) a (.tup [.int (-1),.str (Str.ofString "body"),.str (Str.ofString ""),.ref mk,.ref sf])) p (.lst [V.ref a])=H1 at G1 s14⊢;refine⟨_,rfl,_,rfl,by omega,by omega,qbn (fun j σ H2=>∃(sub:List Nd) (ks:List Kd) (v:Option V),σ=[some (.ref st),some (.int m),some (.int R),some (.ref p),v]∧Kids 0 0 .body [bodyNd] sub ks∧(0<j→∃k∈ks,k≠.aside)∧CapB R 0 j (1+sub.length)∧Gs H st p H2 (bodyNd::sub))
   ⟨[],[],none,rfl,kids0,(fun z=>absurd z (Nat.lt_irrefl 0)),.inl (by simp;omega),G1⟩ ?_ ?_⟩
  ·rintro j σ H2 hj ⟨sub,ks,v,rfl,kids,hks,cb,G2⟩;have j4:j<4:=by simp at hj;omega
   have le60:1+sub.length≤60:=by
    unfold CapB cap at cb;simp at cb;omega
   refine⟨_,rfl,_,rfl,_,rfl,H,p,st,0,1,R,bodyNd,bodyNd::sub,rfl,G2,rfl,.inl rfl,by decide,by decide,by decide,R1,R12,by rw[List.length_cons];omega,kids.ok,kids.nm,fun more ks' H3 mo ik m3 mc G3 K3=>?_⟩;refine⟨sub++more,ks++ks',_,rfl,kids.more (by show(bodyNd::sub).length=0+1+sub.length;rw[List.length_cons];omega) mo ik,(fun _=>?_),?_,G3⟩
   ·obtain⟨k,hk,nk⟩:=ik.block;exact⟨k,List.mem_append_right _ hk,nk⟩
   ·refine qdV cb (fun z=>?_) (fun z=>?_)
    ·have:=m3 (by rw[List.length_cons];omega);rw[List.length_append];omega
    ·have:=mc (by rw[List.length_cons];omega);rw[List.length_cons]at this;rw[List.length_append];show 1+(sub.length+more.length)≤cap R 1;omega
  ·rintro σ H2 ⟨sub,ks,v,rfl,kids,hks,cb,G2⟩;obtain⟨kb,mkb,nkb⟩:=hks (by simp;omega);have le:1+sub.length≤R+39:=by
    unfold CapB cap at cb;simp at cb;omega
   have fms:∀d∈bodyNd::sub,Form d:=fun d hd=>by
    rcases List.mem_cons.mp hd with rfl | h
    ·exact body_form
    ·exact kids.fm d h
   obtain⟨as,hp2,nd⟩:=G2.bk;have lenas:as.length=1+sub.length:=by rw[nd.length,List.length_cons];omega
   have zl:(as.map V.ref).length<sizeLine:=by rw[List.length_map];exact qaA (by omega)
   refine⟨_,rfl,p,rfl,⟨_,SqL.of hp2⟩,qaZ (fun i ys σ' H3=>H3=H2∧(∃z,σ'=[z])∧∃(bs:List Addr) (es:List Nd),ys=bs.map V.ref∧bs.length≤i∧NdsAt (New H p) H2 bs es∧(∀d∈es,d∈bodyNd::sub)∧((∃d∈(bodyNd::sub).take i,d.e=0∧d.k≠.aside)→es≠[])) zl ⟨rfl,⟨none,rfl⟩,[],[],rfl,Nat.zero_le _,.nil,(fun d hd=>nomatch hd),(fun⟨d,hd,_⟩=>by simp at hd)⟩ ?_ ?_ ?_⟩
   ·rintro i ys σ' H3 hi ⟨rfl,_,bs,es,rfl,hb,_⟩;exact⟨SqL.of hp2,by rw[List.length_map];exact hb⟩
   ·rintro i x ys σ' H3 hx ⟨rfl,⟨z,rfl⟩,bs,es,rfl,hb,nb,hin,hne⟩;obtain⟨a,ea,rfl⟩:=qcs hx;obtain⟨d,ed,nad⟩:=nd.at ea;obtain⟨m',s',ha',_⟩:=nad.ex;have et:(bodyNd::sub).take (i+1)=(bodyNd::sub).take i++[d]:=by rw[List.take_succ,ed];rfl
    have skip:¬(d.e=0∧d.k≠.aside)→(∃d∈(bodyNd::sub).take (i+1),d.e=0∧d.k≠.aside)→es≠[]:=fun hd ⟨c,hc,h1,h2⟩=>by
     rw[et]at hc;rcases List.mem_append.mp hc with h | h
     ·exact hne ⟨c,h,h1,h2⟩
     ·have:c=d:=by simpa using h
      rw[this]at h1 h2;exact absurd ⟨h1,h2⟩ hd
    refine⟨_,rfl,a,_,_,_,rfl,rfl,SqT.of ha',rfl,rfl,_,rfl,?_⟩;refine ite2 (fun c1=>?_) (fun c1=>?_)
    ·refine⟨_,rfl,a,_,_,_,rfl,rfl,SqT.of ha',rfl,rfl,_,rfl,?_⟩;rw[show decide (V.str d.k.s=V.str (Str.ofString "aside"))=decide (d.k=.aside)from kdt d.k .aside]
     by_cases hk:d.k=.aside
     ·rw[decide_eq_true hk];refine iteF ?_;exact⟨rfl,⟨_,rfl⟩,bs,es,rfl,Nat.le_succ_of_le hb,nb,hin,skip fun z=>z.2 hk⟩
     ·rw[decide_eq_false hk];refine iteT ⟨_,rfl,rfl,⟨_,rfl⟩,bs++[a],es++[d],by rw[List.map_append];rfl,by rw[List.length_append];exact Nat.succ_le_succ hb,nb.append (.cons nad .nil),fun c hc=>?_,fun _=>by simp⟩;rcases List.mem_append.mp hc with h | h
      ·exact hin c h
      ·have:c=d:=by simpa using h
       rw[this];exact List.mem_of_getElem? ed
    ·refine iteF ?_;exact⟨rfl,⟨_,rfl⟩,bs,es,rfl,Nat.le_succ_of_le hb,nb,hin,skip fun z=>c1 (decide_eq_true (congrArg V.int z.1))⟩
   rintro ys σ' H3 ⟨rfl,_,bs,es,rfl,hb,nb,hin,hne⟩ D hD;have ne:es≠[]:=by
    refine hne ?_;rw[List.length_map,lenas,List.take_of_length_le (by rw[List.length_cons];omega)];obtain⟨d,hd,h1,h2⟩:=kids.fo.has kb mkb;exact⟨d,List.mem_cons_of_mem _ hd,h1,by rw[h2];exact nkb⟩
   have sD:=qaf hD (.lst (bs.map V.ref));refine⟨by show 0≤sizeLine;decide,fun t ht=>?_⟩;have s5:=qaf ht (.lst []);have nb5:=(nb.keep (N':=New H p) (sD.trans s5).keep fun _ n _=>n);refine⟨_,_,.lst ((s5 _ _ qad)) (qeX nb5),.lst qad .nil,qfQ fun d hd=>fms d (hin d hd),rfl,fun z=>absurd (by simpa using z) ne,fun _=>⟨_,rfl,iteF ?_⟩⟩;have sT:Same H3 _:=sD.trans s5;have hp5:=sT _ _ hp2;have one:1≤(as.map V.ref).length:=by rw[List.length_map];omega
   refine⟨_,rfl,_,rfl,p,_,rfl,SqL.of hp5,fun l1 hl1=>?_⟩;have s6:=qaf hl1 (.lst (cutV (as.map V.ref) none (some 1)));refine⟨_,rfl,_,rfl,p,_,rfl,SqL.of (s6 _ _ hp5),fun l2 hl2=>?_⟩;have s7:=qaf hl2 (.lst (cutV (as.map V.ref) (some 1) none));refine⟨l1,l2,_,_,rfl,rfl,s7 _ _ qad,qad,?_,fun p' hp'=>?_⟩
   ·rw[cut_to1 one,cut_from1 one,←List.length_append,List.take_append_drop];exact Nat.le_of_lt zl
   have s8:=qaf hp' (.lst (cutV (as.map V.ref) none (some 1)++cutV (as.map V.ref) (some 1) none));have sA:Same H3 _:=((sT.trans s6).trans s7).trans s8;refine q p' (bodyNd::sub) _ ⟨⟨bodyNd,sub,ks,rfl,rfl,rfl,kids.fo,kids.may,(fun _ z=>by rw[z]at mkb;cases mkb),kids.nx,(fun z=>nomatch z)⟩,fms,kids.nm⟩ (by rw[List.length_cons];omega) ?_ ⟨as,by rw[qad,cut_to1 one,cut_from1 one,List.take_append_drop],nd.keep (N':=qcN H) sA.keep fun b n _=>n.1⟩ (G2.so.same sA) (G2.old.trans sA.keep);exact(G2.old.trans ((sT.trans s6).trans s7).keep).back (qaI ((G2.so.same ((sT.trans s6).trans s7)).some) hp') hp'
end
end K05
namespace L2
open PySem PySem.Spec PyProof.Rows
def TJ:=Str→St→Hp→VK→Prop
def PJ(X:Cx)(es:List Expr)(t:TJ):Prop :=
 ∀(out:Str) (pins:List (Addr×Obj)) (s:Shared) (σ:St) (H:Hp) (Q:VK),Inv X pins σ H s→t out σ H Q→wpAny (model X.prog X.w) X.A (joinParts out (evalEach es X.env)) (EP X pins σ Q) X.xe s
def tJnil:TJ:=fun out _ H Q=>out.length≤sizeLine∧Q (.str out) H
def qe6(te:TE)(t:TJ):TJ:=fun out σ H Q=>te σ H fun x H1=>∃y,x=.str y∧(out++y).length≤sizeLine∧t (out++y) σ H1 Q
section
variable{X:Cx}{e a b:Expr}{es:List Expr}{te:TE}{t:TJ}{pos:Pos}
theorem pj_nil:PJ X [] tJnil:=fun out pins s σ H Q I h=>joinParts_nil ⟨.str out,H,I.tok _,⟨_,rfl⟩,h.2⟩ h.1
theorem qbs(he:PE X e te)(hr:PJ X es t)(hs:evalEach (e::es) X.env=eval e X.env::evalEach es X.env:=by rfl):PJ X (e::es) (qe6 te t):=by
 intro out pins s σ H Q I h;rw[hs];refine joinParts_cons (thn (he pins s σ H _ I h) fun v s1 ⟨x,H1,I1,r1,q1⟩=>?_);obtain⟨y,rfl,hz,q⟩:=q1;obtain⟨tk,rfl⟩:=r1;exact⟨hz,hr (out++y) pins s1 σ H1 Q I1 q⟩
theorem qcc(h:PJ X (a::b::es) t)(hs:evalEach (a::b::es) X.env=eval a X.env::eval b X.env::evalEach es X.env:=by rfl):PE X (.JoinedStr (a::b::es) pos) (fun σ H Q=>t Str.empty σ H Q):=by
 intro pins s σ H Q I hq;refine JoinedStr_many ?_;rw[←hs];exact h Str.empty pins s σ H Q I hq
theorem qeh(he:PE X e te):PE X (.FormattedValue e (-1) none pos) (fun σ H Q=>te σ H fun x H1=>∃y,x=.str y∧y.length≤sizeLine∧Q (.str y) H1):=by
 intro pins s σ H Q I hq;refine FormattedValue_plain (thn (he pins s σ H _ I hq) fun v s1 ⟨x,H1,I1,r1,q1⟩=>?_);obtain⟨y,rfl,hz,q⟩:=q1;obtain⟨tk,rfl⟩:=r1;exact formatField_str (fun t' k=>⟨.str y,H1,I1.tok _,⟨_,rfl⟩,q⟩) hz
end
end L2
namespace L2
open PySem PySem.Spec PyProof.Rows
structure FunD(K:PySem.W.Frag)(x qual:Str)(st:Stmt)(f:Addr)(fd:FuncData):Prop where
 ex:∃(oc:Value) (od:Option Addr) (dV kV doc pm:Value) (an:Option Addr) (cdv ct:Value) (osl:Array (Option Value)),
  fd=PySem.W.fnOf x qual (qa9 st) (qa0 st) (qan st) dV kV doc pm an cdv ct∧K.lookup f=some ⟨oc,od,.func fd,osl⟩∧PySem.W.codeIn K cdv qual=true
 kp:PySem.W.keepIn K (.ref f)=true
theorem FunD.ok{P:Program}{w:World}{K:PySem.W.Frag}{mg:Str→Option Value}{base:Heap}{CX:CXT}{x qual:Str}{st:Stmt}{f:Addr}{fd:FuncData}{N ps:List Str}{k:Nat}{sp:Sp}(F:FunD K x qual st f fd)(S:FnScope N ps (qan st))(len:∀vs H Q E,sp vs H Q E→vs.length=ps.length)(hbody:∀(cdv:Value) (A:Around) (outer:List Env) (s:Shared) (H:Hp) (vs:List V) (Q:VK) (E:XK),Room k (A.deeper (envOfC qual (qan st) s.heap.objs.size f cdv))→sp vs H Q E →
   ∃t,PSs (cxOf CX P w K mg base N qual (qan st) f cdv A outer s H E) (qa0 st) t∧t {nx:=fun _ H'=>Q .non H',rt:=Q} (qc2 N vs) H):FnOk P w K mg base CX (k+1) f fd ps sp:=by
 obtain⟨oc,od,dV,kV,doc,pm,an,cdv,ct,osl,rfl,lk,hcd⟩:=F.ex;exact qf3 lk hcd S len fun A outer s H vs Q E hr hsp=>hbody cdv A outer s H vs Q E hr hsp
theorem FunD.binds{K:PySem.W.Frag}{x qual:Str}{st:Stmt}{f:Addr}{fd:FuncData}{ps:List Str}(F:FunD K x qual st f fd)(h:∀(dV kV doc pm:Value) (an:Option Addr) (cdv ct:Value) (us:List Value),us.length=ps.length→bindArgs (PySem.W.fnOf x qual (qa9 st) (qa0 st) (qan st) dV kV doc pm an cdv ct) ⟨us,[]⟩=pure (ps.zip us)):Binds K fd ps []:=by
 obtain⟨oc,od,dV,kV,doc,pm,an,cdv,ct,osl,rfl,lk,hcd⟩:=F.ex;exact .all (h dV kV doc pm an cdv ct)
def qfV(K:PySem.W.Frag):List V→Hp→VK→Prop:=fun xs H Q=>∃a C c b,xs=[.ref a,c]∧H a=some (excO a C)∧XCls K C∧(∃cv,(∀u,RelV c u→u=cv)∧PySem.W.kitOne K (.ref C) cv=some b)∧Q (.bl b) H
def qfl(K:PySem.W.Frag):List V→Hp→VK→Prop:=fun xs H Q=>∃(a C p:Addr) (cs:List Addr) (b:Bool),xs=[.ref a,.ref p]∧H a=some (excO a C)∧XCls K C∧H p=some (.tup (cs.map V.ref))∧PySem.W.kitAny K (.ref C) (cs.map Value.ref)=some b∧Q (.bl b) H
theorem qdz{X:Cx}:CallR X (.builtin "isinstance") (qfV X.K):=call_isinstX
theorem qdd{X:Cx}:CallR X (.builtin "isinstance") (qfl X.K):=call_isinstXT
theorem fund_mk{K:PySem.W.Frag}{x qual:Str}{st:Stmt}{f:Addr}{oc:Value}{od an:Option Addr}{osl:Array (Option Value)}{dV kV doc pm cdv ct:Value}(l:K.lookup f=some ⟨oc,od,.func (PySem.W.fnOf x qual (qa9 st) (qa0 st) (qan st) dV kV doc pm an cdv ct),osl⟩)(c:PySem.W.codeIn K cdv qual=true)(k:PySem.W.keepIn K (.ref f)=true):FunD K x qual st f (PySem.W.fnOf x qual (qa9 st) (qa0 st) (qan st) dV kV doc pm an cdv ct) :=
 ⟨⟨oc,od,dV,kV,doc,pm,an,cdv,ct,osl,rfl,l,c⟩,k⟩
theorem qfG{K:PySem.W.Frag}{h:Heap}{mg:Str→Option Value}{x:Str}{C:Addr}{bm:List Value}{newId:String}(X:K.In h)(G:h.Ns mainGlobals mg)(e:PySem.W.nsIn K mainGlobals x=some (some (.ref C)))(q:PySem.W.excIn K C bm newId=true):OwnCls x C bm newId mg h:=by
 refine⟨PySem.W.mg_of X G e,?_⟩;simp only[PySem.W.excIn]at q
 split at q
 case h_2=>exact absurd q Bool.false_ne_true
 case h_1 dd cd sl hK =>
  split at q
  case h_2=>exact absurd q Bool.false_ne_true
  case h_1 C2 tl a0 a1 a2 a3 nn a5 em es =>
   simp only[Bool.and_eq_true,beq_iff_eq,Bool.not_eq_true']at q;have q1:=q.1.1.1.1.1;have q2:=q.1.1.1.1.2;have q3:=q.1.1.1.2;have q4:=q.1.1.2;have q5:=q.1.2;have q6:=q.2;subst q1 q2;cases cd;cases sl;simp only at em q3 q5 q6 es;subst em q3 es;exact⟨tl,_,_,_,_,_,_,_,_,_,dd,a0,a1,a2,a3,a5,_,X _ _ hK,.of_isNs (PySem.W.isNs_of_in X q5),PySem.W.nsMap_none_of_in X q5 q6,PySem.W.tail_of_in X q4⟩
section
variable{X:Cx}{e:Expr}{te:TE}{pos:Pos}
theorem qc7{i:Int}(h:i.natAbs<10 ^ 100):i.natAbs.log2<1920:=by
 by_cases z:i.natAbs=0
 ·rw[z];decide
 ·exact(Nat.log2_lt z).mpr (Nat.lt_of_lt_of_le h (by decide +kernel))
theorem qeT(he:PE X e te):PE X (.FormattedValue e (-1) none pos) (fun σ H Q=>te σ H fun x H1=>∃i:Int,x=.int i∧i.natAbs<10 ^ 100∧((Str.ofString (toString i)).length≤1921→Q (.str (Str.ofString (toString i))) H1)):=by
 intro pins s σ H Q I hq;refine FormattedValue_plain (thn (he pins s σ H _ I hq) fun v s1 ⟨x,H1,I1,r1,q1⟩=>?_);obtain⟨i,rfl,hz,q⟩:=q1;obtain⟨tk,rfl⟩:=r1;refine formatField_int_small (qc7 hz) ⟨.str (Str.ofString (toString i)),H1,(I1.tok _).tok _,⟨_,rfl⟩,q ?_⟩;rw[PySem.ofString_length];exact PySem.int_text_length_le (k:=1920) (by decide) (qc7 hz)
end
section
variable{X:Cx}{k:Nat}{Y:Addr}{ps:List Str}{sp:Sp}{x y n:Str}{p cpos epos np hpos pos:Pos}{e:Expr}{es:List Expr}{t:TA}{ts:TS}{b0:Stmt}{suite:List Stmt}{i:Nat}
theorem ps_tryFx(hst:X.stack=X.env::X.outer)(hfm:X.env.frame=some X.env.locals)(F:Fx X.prog X.w X.K X.mg X.base (CX1 X.prog X.w) k x ps sp)(hr:Room k X.A)(hg:Gl X x)(ha:PA X.nox (e::es) t)(gy:Gl X y)(my:X.mg y=some (.ref Y))(hN:X.N.Nodup)(hi:X.N[i]?=some n)(hx:X.env.scope.names.lookup n=some .local)(hs:∀ea,PSs (X.caught ea) (b0::suite) ts)(hdb:(x == ("__debug__" : Str))=false:=by decide)(hdy:(y == ("__debug__" : Str))=false:=by decide)(he:starEach (e::es) X.env=(false,eval e X.env)::starEach es X.env:=by rfl)(hpl:(backTo cpos (starEach es X.env)).any (·.1)=false:=by rfl)(hsw:swapsWith (.Call (.Name x p) (e::es) [] cpos) none epos.line X.env=pure false:=by rfl) :
  PS X (.Try [.Expr (.Call (.Name x p) (e::es) [] cpos) epos] [.ExceptHandler (some (.Name y np)) (some n) (b0::suite) hpos] [] [] pos) (qfO X.K Y i sp [] t ts):=by
 obtain⟨f,fd,G,b,kp,m⟩:=F.ex;exact ps_tryAs hst hfm G hr hg m kp b .nil ha gy my hN hi hx hs hdb hdy he hpl hsw
theorem ps_try0Fx(hst:X.stack=X.env::X.outer)(hfm:X.env.frame=some X.env.locals)(F:Fx X.prog X.w X.K X.mg X.base (CX1 X.prog X.w) k x ps sp)(hr:Room k X.A)(hg:Gl X x)(ha:PA X.nox (e::es) t)(gy:Gl X y)(my:X.mg y=some (.ref Y))(hs:∀ea,PSs (X.caught ea) (b0::suite) ts)(hdb:(x == ("__debug__" : Str))=false:=by decide)(hdy:(y == ("__debug__" : Str))=false:=by decide)(he:starEach (e::es) X.env=(false,eval e X.env)::starEach es X.env:=by rfl)(hpl:(backTo cpos (starEach es X.env)).any (·.1)=false:=by rfl)(hsw:swapsWith (.Call (.Name x p) (e::es) [] cpos) none epos.line X.env=pure false:=by rfl) :
  PS X (.Try [.Expr (.Call (.Name x p) (e::es) [] cpos) epos] [.ExceptHandler (some (.Name y np)) none (b0::suite) hpos] [] [] pos) (qfY X.K Y sp [] t ts):=by
 obtain⟨f,fd,G,b,kp,m⟩:=F.ex;exact ps_try0 hst hfm G hr hg m kp b .nil ha gy my hs hdb hdy he hpl hsw
end
def rList(K:PySem.W.Frag):List V→Hp→VK→Prop:=fun xs H Q=>∃p ys,xs=[.ref p]∧(SqL K H p ys∨SqT K H p ys)∧∀l,H l=none→Q (.ref l) (upd H l (.lst ys))
theorem qdh{X:Cx}(K:PySem.W.Frag)(hK:X.K=K):CallR X (.type "list") (rList K):=by
 subst hK;exact call_list_of
theorem Fx.none{P:Program}{w:World}{K:PySem.W.Frag}{mg:Str→Option Value}{base:Heap}{CX:CXT}{k:Nat}{x:Str}{ps:List Str}{f:Addr}{fd:FuncData}{sp:Sp}(b:Binds K fd ps [])(kp:PySem.W.keepIn K (.ref f)=true)(m:mg x=some (.ref f))(no:∀vs H Q E,¬sp vs H Q E):Fx P w K mg base CX k x ps sp :=
 ⟨f,fd,⟨fun _ _ _ _ h=>(no _ _ _ _ h).elim,fun _ _ _ _ _ _ _ _ _ _ _ _ _ h=>(no _ _ _ _ h).elim⟩,b,kp,m⟩
theorem qfn{X:Cx}{es:List Expr}{k:Nat}{t:TGs}{n:Nat}{pos:Pos}(K:PySem.W.Frag)(hK:X.K=K)(hc:X.calm=true)(h:PGs X es t)(hn:(assignEach es X.env).length=n:=by rfl)(hst:(assignEach es X.env).findIdx? (·.1)=none:=by rfl):PG X (.Tuple es k pos) (gTup K n t):=by
 subst hK;exact qfg hc h hn hst
end L2
namespace Gen
open PySem L2 Bk
section
variable{X:Cx}
theorem qb3{e:Expr}{te:TE}{T:Str}{T':String}{p1 p2 pos:Pos}(hi:X.mg "isinstance" = none)(g1:Gl X "isinstance")(hT:X.mg T=none)(gT:Gl X T)(bT:bootBuiltins T=some (.type T'))(he:PE X e te)(hn:T ≠ "__name__":=by decide)(hd:(T == ("__debug__" : Str))=false:=by decide)(h1:starEach [e,.Name T p2] X.env=(false,eval e X.env)::starEach [.Name T p2] X.env:=by rfl)(h2:starEach [.Name T p2] X.env=(false,eval (.Name T p2) X.env)::starEach [] X.env:=by rfl)(h3:(backTo pos (starEach [.Name T p2] X.env)).any (·.1)=false:=by rfl) :
  PE X (.Call (.Name "isinstance" p1) [e,.Name T p2] [] pos) (tCB (fun xs H Q=>∃x c t b,xs=[x,c]∧TyOf X.K H x t∧(∃cv,(∀u,RelV c u→u=cv)∧PySem.W.kitOne X.K t cv=some b)∧Q (.bl b) H) (qed te (qed (tC (.ty T')) tNil))) :=
 qaw call_isinst g1 hi b_isinstance (qab he (qab (qe5 (v:=.ty T') gT hT bT rfl hn hd) pa_nil h2) h1) (by decide) (by decide) h1 h3
end
section
variable{K:PySem.W.Frag}
theorem k_ii:PySem.W.kitOne K (.type "int") (.type "int")=some true:=by unfold PySem.W.kitOne;rw[if_pos (by decide)]
theorem k_ib:PySem.W.kitOne K (.type "int") (.type "bool")=some false:=by
 unfold PySem.W.kitOne;rw[if_neg (by decide)];show(if PySem.W.kitMeta "bool" = true then PySem.W.subIn K (.type "int") (.type "bool")else none)=_;rw[if_pos (by decide +kernel)];show(fastBuiltinMro "int").map (·.contains (Value.type "bool"))=some false;decide +kernel
theorem k_ss:PySem.W.kitOne K (.type "str") (.type "str")=some true:=by unfold PySem.W.kitOne;rw[if_pos (by decide)]
theorem k_ll:PySem.W.kitOne K (.type "list") (.type "list")=some true:=by unfold PySem.W.kitOne;rw[if_pos (by decide)]
theorem k_tt:PySem.W.kitOne K (.type "tuple") (.type "tuple")=some true:=by unfold PySem.W.kitOne;rw[if_pos (by decide)]
theorem k_self{K:PySem.W.Frag}{C:Addr}:PySem.W.kitOne K (.ref C) (.ref C)=some true:=by unfold PySem.W.kitOne;rw[if_pos (by simp)]
end
end Gen
namespace L2
open PySem PySem.Spec PyProof.Rows
theorem turn_str{P:Program}{w:World}{K:PySem.W.Frag}{tg:Expr}(x:Str)(t:Tok)(it:Addr):Turn P w K tg (Its x) [it] it (fun i h=>h.IsStrIter it "str_ascii_iterator" x t i) where
 mem:=by simp
 obj:=fun i h st b hb=>by
  have e:b=it:=by simpa using hb
  subst e;obtain⟨o,e,c,d⟩:=st;exact⟨o,e,fun v z=>by rw[d]at z;cases z⟩
 keep:=fun i h h' st k=>by
  obtain⟨o,ho,r⟩:=st;exact⟨o,k it (by simp) o ho,r⟩
 item:=by
  intro X hP hw hK hc i pins s σ H E I hf st hg;subst hP hw hK;have hg':i<x.cps.size:=hg;obtain⟨f0,f1,f2,f3,f4,f5⟩:=hf it (by simp);have hx:x.cps[i]?=some x.cps[i]:=by simp[hg']
  refine wpAny_pyNext_ascii_item st hx fun h' st' sb=>?_
  have I1:Inv X pins σ H {s with heap:=h',toks:=s.toks+1}:=I.turned (t':=s.toks+1) (fun b o hb e=>(sb.2 b hb).trans e) f0 f1 f3 f4 f5;obtain⟨o,e,c,d⟩:=id st';exact⟨_,rfl,qfR (s:={s with heap:=h',toks:=s.toks+1}) e c d (by decide) ⟨.str ⟨#[x.cps[i]]⟩,H,I1,⟨_,rfl⟩,⟨rfl,_,hx,rfl⟩,st',fun b hb=>(hf b hb).1⟩⟩
 done:=by
  intro X hP hw hK hc i pins s σ H E I hf st hg;subst hP hw hK;have hg':x.cps.size≤i:=hg;obtain⟨f0,f1,f2,f3,f4,f5⟩:=hf it (by simp);exact wpAny_pyNext_ascii_end (I.ok.hd hc) st (by simp[hg']) fun h' eb=>⟨rfl,I.turned (t':=s.toks) (fun b o hb e=>eb b o hb e) f0 f1 f3 f4 f5⟩
 self:=fun _ _ _ _ _ st h=>wpAny_pyIter_striter_ascii st h
def iStr(tl:TE):TI:=fun σ H R=>tl σ H fun x H1=>∃z,x=.str z∧z.cps.all (·< 128)=true∧R (Its z) H1
section
variable{X:Cx}{tg:Expr}
theorem qfw{l:Expr}{tl:TE}(hl:PE X l tl):PI X tg l (iStr tl):=by
 intro pins s σ H R I h;refine thn (hl pins s σ H _ I h) fun v s1 ⟨x,H1,I1,r1,q1⟩=>?_
 obtain⟨z,rfl,ha,q⟩:=q1;obtain⟨t,rfl⟩:=r1;refine wpAny_pyIter_ascii ha ?_;refine⟨s1.heap.objs.size,[s1.heap.objs.size],_,_,H1,rfl,I1.kept (t':=s1.toks) fun b o e=>Heap.get?_push_of_some _ e,turn_str z t _,⟨_,Heap.get?_push_size _ rfl,rfl,rfl⟩,fun b hb=>?_,q⟩;have e:b=s1.heap.objs.size:=by simpa using hb
 subst e;exact I1.fpOk (Nat.le_refl _) (I1.hok.fresh (Nat.le_refl _))
end
theorem qew{x:Str}{own:Nat}{ix:List Nat}{g:TG}{tt:TT}{te:TE}{σ:St}{H:Hp}{Q:VK}(Pv:Nat→List V→St→Hp→Prop)(hz:x.cps.size<sizeLine)(h0:Pv 0 [] (qbR own ix σ) H)(hl:∀i ys σ' H',i≤x.cps.size→Pv i ys σ' H'→ys.length≤i)(hs:∀i c ys σ' H',x.cps[i]?=some c→Pv i ys σ' H'→g (.str ⟨#[c]⟩) σ' H' fun σ2 H3=>tt σ2 H3 fun b H4=>if b=true then te σ2 H4 fun v H5=>Pv (i+1) (ys++[v]) σ2 H5 else Pv (i+1) ys σ2 H4)(hd:∀ys σ' H',Pv x.cps.size ys σ' H'→∀D,H' D=none→Q (.ref D) (upd H' D (.lst ys))):qb9 own ix g tt te (Its x) σ H Q:=by
 refine⟨fun i m ys σ H=>m=x.cps.size-i∧i≤x.cps.size∧Pv i ys σ H,⟨x.cps.size,by simp,Nat.zero_le _,h0⟩,?_⟩;rintro i m ys σ H ⟨rfl,hi,p⟩;have hy:=hl i ys σ H hi p;refine⟨by omega,?_⟩
 by_cases hlt:i<x.cps.size
 ·refine .inr ⟨hlt,Pv (i+1),fun zs σ' H' p'=>⟨x.cps.size-(i+1),by omega,rfl,hlt,p'⟩,fun v H' y=>?_⟩;obtain⟨e,c,hc,e2⟩:=y;subst e e2;exact hs i c ys σ _ hc p
 ·have e:i=x.cps.size:=by omega
  subst e;exact .inl ⟨Nat.le_refl _,hd ys σ H p⟩
theorem qeA{K:PySem.W.Frag}{a:Addr}{xs:List V}{g:TG}{tb:TS}{D:Ends}{σ:St}{H:Hp}(Pv:Nat→St→Hp→Prop)(h0:Pv 0 σ H)(hl:∀i σ H,i≤xs.length→Pv i σ H→SqL K H a xs)(hs:∀i x σ H T,xs[i]?=some x→H T=none→Pv i σ H→g (.ref T) σ (upd H T (.tup [.int (i:Nat),x])) fun σ2 H2=>tb {D with nx:=Pv (i+1),ct:=Pv (i+1),bk:=D.nx} σ2 H2)(hd:∀σ H,Pv xs.length σ H→D.nx σ H) :
  ∃W:Nat→Nat→St→Hp→Prop,(∃m,W 0 m σ H)∧∀i m σ H,W i m σ H →
   ((Ite K a).stop i H∧D.nx σ H)∨((Ite K a).go i H∧∃N:St→Hp→Prop,(∀σ' H',N σ' H'→∃m',m'<m∧W (i+1) m' σ' H')∧∀x H',(Ite K a).yld i H x H'→g x σ H' fun σ2 H2=>tb {D with nx:=N,ct:=N,bk:=D.nx} σ2 H2):=by
 refine⟨fun i m σ H=>m=xs.length-i∧i≤xs.length∧Pv i σ H,⟨xs.length,by simp,Nat.zero_le _,h0⟩,?_⟩;rintro i m σ H ⟨rfl,hi,p⟩;have q:=hl i σ H hi p
 by_cases hlt:i<xs.length
 ·refine .inr ⟨⟨xs,xs[i],q,by simp[hlt]⟩,Pv (i+1),fun σ' H' p'=>⟨xs.length-(i+1),by omega,rfl,hlt,p'⟩,fun x H' y=>?_⟩;obtain⟨T,z,hT,e1,e2,y⟩:=y;subst e1 e2;exact hs i z σ _ T (y xs q) hT p
 ·have e:i=xs.length:=by omega
  subst e;exact .inl ⟨⟨xs,q,Nat.le_refl _⟩,hd σ H p⟩
def rInS(neg:Bool):R2:=fun x y H Q=>∃(c:Nat) (j:Str),x=.str ⟨#[c]⟩∧y=.str j∧Q (.bl (if neg=true then !decide (c∈j.cps.toList)else decide (c∈j.cps.toList))) H
theorem qdT{X:Cx}:OpR X (compareOp .In) (rInS false):=by
 intro pins s σ H x y v u Q I rx ry h;obtain⟨c,j,rfl,rfl,q⟩:=h;refine op_in_str pins s σ H _ _ v u Q I rx ry ⟨_,j,rfl,rfl,?_⟩;rw[StrLaws.found_one];exact q
end L2
namespace L2
open PySem PySem.Spec PyProof.Rows
section
variable{X:Cx}
theorem call_lenSetS:CallR X (.builtin "len") (fun xs H Q=>∃(d:Addr) (ks:List Str),xs=[.ref d]∧H d=some (setS X.w d ks)∧Q (.int ks.length) H):=by
 intro pins s σ H xs us Q I r h;obtain⟨d,ks,rfl,hd,q⟩:=h;obtain⟨u,rfl,rx⟩:=qcW r;cases rx;obtain⟨x,_⟩:=I.hok d _ hd;obtain⟨o,es,ep,t,ho,hex,hdt,hf,_,_,hb,us,sa,pm⟩:=x;have hn:es.size=ks.length:=by
  have h1:=sa.length;have h2:=pm.length_eq;rw[List.length_map,Array.length_toList]at h1;omega
 refine call_len_set ho hex hdt hf (by unfold scanBound at hb;omega) ?_;exact⟨.int ks.length,H,I.tok _,⟨_,by rw[hn]⟩,q⟩
end
end L2
namespace L2
open PySem PySem.Spec PyProof.Rows
section
variable{X:Cx}
theorem call_rng1:CallR X (.type "range") (fun xs H Q=>∃n:Nat,xs=[.int n]∧n≤1000000∧∀r,H r=none→Q (.ref r) (upd H r (.rng 0 n))):=by
 intro pins s σ H xs us Q I r h;obtain⟨n,rfl,hn,q⟩:=h;obtain⟨u,rfl,t,rfl⟩:=qcW r;refine call_range_1 ⟨.ref s.heap.objs.size,upd H s.heap.objs.size (.rng 0 n),I.laid (fun b o e=>Heap.get?_push_of_some _ e) (Nat.le_refl _) ?_,rfl,q _ (I.hok.fresh (Nat.le_refl _))⟩;exact⟨_,_,_,Heap.get?_push_size _ rfl⟩
theorem ints_vals{n:Nat}{acc:Array Value}(h:ItemsOf (fun(i:Nat) (v:Value)=>∃t,v=Value.int ((0:Int)+i*1) t) acc n):Vals ((Bk.nums n).map V.int) acc.toList:=by
 obtain⟨h1,h2⟩:=h;have:∀(l:List Value) (k:Nat),(∀j v,l[j]?=some v→∃t,v=Value.int (((k+j:Nat):Int)) t)→Vals (((List.range' k l.length).map fun(i:Nat)=>(i:Int)).map V.int) l:=by
  intro l
  induction l with
  | nil=>intro k _;exact .nil
  | cons v l ih =>
    intro k hk
    obtain⟨t,e⟩:=hk 0 v rfl
    refine .cons ⟨t,by rw[e];rfl⟩ (ih (k+1) fun j w hw=>?_)
    obtain⟨t,e⟩:=hk (j+1) w (by simpa using hw)
    exact⟨t,by rw[e];congr 2;omega⟩
 have hl:acc.toList.length=n:=by rw[Array.length_toList];exact h1
 have:=this acc.toList 0 fun j v hv=>by
  obtain⟨t,e⟩:=h2 j v (by simpa using hv);exact⟨t,by rw[e];congr 1;omega⟩
 rw[hl]at this;unfold Bk.nums;rw[List.range_eq_range'];exact this
theorem call_list_rng(hc:X.calm=true):CallR X (.type "list") (fun xs H Q=>∃(r:Addr) (n:Nat),xs=[.ref r]∧n≤1000000∧H r=some (.rng 0 n)∧∀l,H l=none→Q (.ref l) (upd H l (.lst ((Bk.nums n).map V.int)))):=by
 intro pins s σ H xs us Q I r h;obtain⟨a,n,rfl,hn,ha,q⟩:=h;obtain⟨u,rfl,rx⟩:=qcW r;cases rx;obtain⟨t,u,v,e⟩:∃t u v,s.heap.get? a=some {cls:=.type "range",data:=.fields #[.int 0 t,.int n u,.int 1 v]}:=I.hok a _ ha;refine call_list_range (n:=n) (I.ok.hd hc) (a:=0) (b:=n) (c:=1) e (small_one (by omega) (by omega) (by omega) (by omega)) (by rw[rangeSize_one];split<;>omega) (by omega) fun h' tk acc c' kp e' it=>?_
 refine⟨.ref s.heap.objs.size,upd H s.heap.objs.size (.lst ((Bk.nums n).map V.int)),I.laid kp (Nat.le_refl _) ?_,rfl,q _ (I.hok.fresh (Nat.le_refl _))⟩;have hl:((Bk.nums n).map V.int).length=n:=by simp[Bk.nums]
 have hz:n≤sizeLine:=by
  have:sizeLine=16777216:=by decide
  omega
 exact⟨by rw[hl];exact hz,acc.toList,c',ints_vals it,by simpa using e'⟩
end
end L2
namespace L2
open PySem PySem.Spec PyProof.Rows
structure ZipSt(h:Heap)(z TI TO i1 i2 l1 l2:Addr)(i:Nat):Prop where
 hz:IsZip h z TI TO .none
 ti:IsPair h TI (.ref i1) (.ref i2)
 to:∃a b,IsPair h TO a b
 it1:h.IsListIter i1 l1 i
 it2:h.IsListIter i2 l2 i
end L2
namespace L2
open PySem PySem.Spec PyProof.Rows
structure KDict(P:Program)(w:World)(K:PySem.W.Frag)(a:Addr)(kvs:List (Key×Value)):Prop where
 ex:∃o es ep,K.lookup a=some o∧o.ExactDict∧o.data=.dict es ep∧KeysOf (qbH P w) es∧Pairs (qbH P w) es.toList kvs∧(kvs.map (·.1)).Nodup
def rIxD(P:Program)(w:World)(K:PySem.W.Frag):R2:=fun x y H Q=>∃(a:Addr) (k:Str) (kvs:List (Key×Value)) (u:Value) (v:V),x=.ref a∧y=.str k∧KDict P w K a kvs∧valueAt kvs (.inr k)=some u∧RelV v u∧Q v H
theorem ix_kdict{X:Cx}:IxR X (rIxD X.prog X.w X.K):=by
 intro value slice pins s σ H x y v u Q I rx ry h hs;obtain⟨a,k,kvs,z,zv,rfl,rfl,⟨o,es,ep,lk,ed,dt,ko,pr,nd⟩,hv,rz,q⟩:=h;cases rx;obtain⟨t,rfl⟩:=ry;have ho:s.heap.get? a=some o:=I.bk a o (I.mod.kin a o lk);have dd:s.heap.DictOf (qbH X.prog X.w) a kvs:=⟨o,es,ep,ho,ed,dt,ko,pr,nd⟩;have fin:∀s',Inv X pins σ H s'→EP X pins σ Q z s':=fun s' I'=>⟨zv,H,I',rz,q⟩
 exact subscriptTail_builtinR (x:=z) dd.typeIs PySem.F.slot_dict_getitem.lookup
  (wpAny_getItem_of (Q:=fun r s'=>r=z∧EP X pins σ Q r s') (qaO _ _ _ _) dd.mapOf hv ⟨rfl,fin _ (I.tok _)⟩) hs
end L2
namespace L2
open PySem PySem.Spec PyProof.Rows
def repS(z:Str)(n:Nat):Str:=⟨(List.replicate n z.cps).foldl (·++ ·) #[]⟩
def rMulS:R2:=fun x y H Q=>∃(z:Str) (n:Nat),x=.str z∧y=.int n∧z.length=1∧n≤1000∧Q (.str (repS z n)) H
theorem qez{α:Type}(a:Array α):∀(n:Nat) (acc:Array α),((List.replicate n a).foldl (·++ ·) acc).size=acc.size+n*a.size
 | 0,acc=>by simp
 | n + 1, acc => by
   rw[List.replicate_succ,List.foldl_cons,qez a n,Array.size_append,Nat.succ_mul]
   omega
theorem rep_len(z:Str)(n:Nat):(repS z n).length=n*z.length:=by
 show((List.replicate n z.cps).foldl (·++ ·) #[]).size=_;rw[qez];simp;rfl
section
variable{X:Cx}
theorem op_mulS:OpR X (binaryOp .Mult) rMulS:=by
 intro pins s σ H x y v u Q I rx ry h;obtain⟨z,n,rfl,rfl,hz,hn,q⟩:=h;obtain⟨t,rfl⟩:=rx;obtain⟨t',rfl⟩:=ry;refine PySem.P.mul_str ?_ ?_ ?_ ?_
 ·simp;omega
 ·intro h1 h2 h3;rw[hz]at h3;have:(1:Int)≤(2 ^ 63-1) / (n:Int):=by
   rw[Int.le_ediv_iff_mul_le (by omega)];omega
  omega
 ·intro h1 h2;rw[hz];unfold Builtin.Str.tooLong sizeLine
  exact decide_eq_false (by have : (2 : Nat) ^ 24 = 16777216 := by decide
                            simp;omega)
 ·by_cases h1:(n:Int)<1
  ·rw[if_pos h1];have e:n=0:=by omega
   subst e;exact⟨by decide,⟨.str (repS z 0),H,I.tok _,⟨_,rfl⟩,q⟩⟩
  ·rw[if_neg h1]
   by_cases h2:(((n:Int) == 1) || z.length == 0)=true
   ·rw[if_pos h2];have e:n=1:=by
     rw[hz]at h2;simp at h2;omega
    subst e;have ez:repS z 1=z:=by
     unfold repS;simp
    rw[ez]at q;exact⟨.str z,H,I,⟨_,rfl⟩,q⟩
   ·rw[if_neg h2];refine⟨?_,⟨.str (repS z n),H,I.tok _,⟨_,rfl⟩,q⟩⟩;show(repS z n).length≤sizeLine;rw[rep_len,hz];have:sizeLine=16777216:=by decide
    omega
theorem strs_of:∀{zs:List Str} {us:List Value},Vals (zs.map V.str) us→∃l:List (Str×Tok),us=strValues l∧l.map (·.1)=zs
 | [],_,.nil=>⟨[],rfl,rfl⟩
 | z :: zs, _, .cons ⟨t, h⟩ r => by
   obtain⟨l,e1,e2⟩:=strs_of r
   subst h e1
   exact⟨(z,t)::l,rfl,by rw[List.map_cons,e2]⟩
end
end L2
namespace Gen
open PySem L2 Bk
def qbi(ds:List Nd)(n:Int)(i:Nat):List Int:=((List.range i).filter fun j=>decide (ds[j]?.map Nd.e=some n)).map fun(j:Nat)=>(j:Int)
theorem qde{ds:List Nd}{n:Int}{i:Nat}{d:Nd}(h:ds[i]?=some d)(e:d.e=n):qbi ds n (i+1)=qbi ds n i++[(i:Int)]:=by
 unfold qbi;rw[List.range_succ,List.filter_append,List.map_append];simp[h,e]
theorem qdL{ds:List Nd}{n:Int}{i:Nat}{d:Nd}(h:ds[i]?=some d)(e:¬d.e=n):qbi ds n (i+1)=qbi ds n i:=by
 unfold qbi;rw[List.range_succ,List.filter_append,List.map_append];simp[h,e]
theorem qdD(ds:List Nd)(n:Int)(i:Nat):(qbi ds n i).length≤i:=by
 unfold qbi;rw[List.length_map];exact Nat.le_trans (List.length_filter_le ..) (by simp)
def qfj(C:Addr):Sp:=fun vs H Q E=>∃(p:Addr) (n:Int) (ds:List Nd) (N:Addr→Prop),vs=[.ref p,.int n]∧qbh N H p ds∧ds.length≤1000∧n.natAbs<10 ^ 50 ∧
 ((¬ (0≤n∧n < ds.length)∧∀ H',Same H H'→E (.ref C) none H') ∨
  ((0≤n∧n<ds.length)∧∀l H',H l=none→Same H H'→H' l=some (.lst ((qbi ds n ds.length).map V.int))→Q (.ref l) H'))
theorem qfU{H:Hp}:∀(xs:List Int),DAll H (xs.map V.int) (xs.map PySem.W.Dat.int)
 | []=>.nil
 | x::l=>.cons (.int x) (qfU l)
theorem qe7(xs:List Int):PySem.W.kqdOk 9 (.list (xs.map PySem.W.Dat.int))=true:=by
 simp only[PySem.W.kqdOk,List.all_eq_true,List.mem_map];rintro x ⟨d,hd,rfl⟩;rfl
theorem item_none:∀vs H Q E,¬qcb 0 vs H Q E:=by
 rintro vs H Q E ⟨H0,p,st,e,lv,R,de,ds,rfl,_,_,_,h1,h2,h3,_⟩;omega
end Gen
namespace Bk
open PySem L2 Gen
abbrev T(x:String):Str:=Str.ofString x
def qf0(t:Int):Str:=repS (T "*") t.toNat
def thS:Th→Str
 | .int n=>T (toString n)
 | .tri .note _ _=>T "{}"
 | .tri .page (.inl n) t=>qf0 t++T "{" ++ n++T "}"
 | .tri .word (.inl w) t=>qf0 t++w
 | _=>noName
def w1(d:Nd):List Str:=if d.nm=noName then[]else[T "#" ++ d.nm]
def w2(d:Nd):List Str:=d.mks.map (T "." ++ ·)
def w3(d:Nd):List Str:=if d.st.length>0 then T "|" :: d.st.map thS else[]
def r1(r:Str)(d:Nd):Str:=if d.nm=noName then r else r++T " #" ++ d.nm
def r2(r:Str)(l:List Str):Str:=l.foldl (fun r m=>r++T " ." ++ m) r
inductive Lev(ds:List Nd):Nat→Nat→Prop
 | top {i:Nat} {d:Nd}:ds[i]?=some d→d.e=-1→Lev ds i 0
 | up {i j l:Nat} {d:Nd}:ds[i]?=some d→d.e=(j:Int)→j<i→Lev ds j l→Lev ds i (l+1)
theorem Forest.elds{e i lv:Nat}{l:List Nd}{ks:List Kd}(x:Forest e i lv l ks):e<i→∀(k:Nat) (d:Nd),l[k]?=some d→∃j:Nat,d.e=(j:Int)∧j<i+k:=by
 induction x with
 | nil=>intro _ k d h;cases h
 | @cons e i lv d sub rest ks ks' h1 h2 h3 f1 h4 f2 ih1 ih2 =>
   intro he k c hk
   cases k with
   | zero=>cases hk;exact⟨e,h1,by omega⟩
   | succ k =>
     rw[List.getElem?_cons_succ]at hk
     by_cases hs:k<sub.length
     · rw[List.getElem?_append_left hs]at hk
       obtain⟨j,ej,hj⟩:=ih1 (by omega) k c hk
       exact⟨j,ej,by omega⟩
     · rw[List.getElem?_append_right (by omega)]at hk
       obtain⟨j,ej,hj⟩:=ih2 (by omega) _ c hk
       exact⟨j,ej,by omega⟩
theorem Book.lev{ds:List Nd}(b:Book ds):∀(i:Nat),i<ds.length→∃l,l≤i∧Lev ds i l:=by
 obtain⟨d,sub,ks,rfl,h1,h2,f,_⟩:=b.tree;intro i
 induction i using Nat.strongRecOn with
 | _ i ih =>
   intro hi
   cases i with
   | zero=>exact⟨0,Nat.le_refl _,.top rfl h1⟩
   | succ k =>
     have hk:k<sub.length:=by simpa using hi
     have e:sub[k]?=some sub[k]:=List.getElem?_eq_getElem hk
     obtain⟨j,ej,hj⟩:=f.elds (by decide) k _ e
     obtain⟨l,hl,hv⟩:=ih j (by omega) (by simp;omega)
     exact⟨l+1,by omega,.up (by rw[List.getElem?_cons_succ];exact e) ej (by omega) hv⟩
theorem kd_len(k:Kd):k.s.length≤7:=by cases k<;>decide +kernel
end Bk
namespace Gen
open PySem L2 Bk
structure Nums(mg:Str→Option Value):Prop where
 elder:∃t,mg "ELDER" = some (.int 0 t)
 kind:∃t,mg "KIND" = some (.int 1 t)
 name:∃t,mg "NAME" = some (.int 2 t)
 marks:∃t,mg "MARKS" = some (.int 3 t)
 stuff:∃t,mg "STUFF" = some (.int 4 t)
 sort:∃t,mg "SORT" = some (.int 0 t)
 thing:∃t,mg "THING" = some (.int 1 t)
 tone:∃t,mg "TONE" = some (.int 2 t)
theorem sot(k k':So):decide (V.str k.s=V.str k'.s)=decide (k=k'):=by
 by_cases h:k=k'
 ·rw[decide_eq_true h,h];exact decide_eq_true rfl
 ·rw[decide_eq_false h];refine decide_eq_false fun z=>h ?_
  have:=V.str.inj z;rw[So.inj]at this;exact this
theorem nmt(x:Str):decide (V.str x=V.str (Str.ofString ""))=decide (x=noName):=by
 by_cases h:x=noName
 ·rw[decide_eq_true h,h];exact decide_eq_true rfl
 ·rw[decide_eq_false h];exact decide_eq_false fun z=>h (V.str.inj z)
end Gen
namespace Gen
open PySem L2 Bk
theorem qcZ{α β:Type}{F:α→β→Prop}{as:List α}{ds:List β}(h:Paired F as ds){i:Nat}{a:α}(e:as[i]?=some a):∃d,ds[i]?=some d∧F a d:=by
 induction h generalizing i with
 | nil=>cases e
 | @cons a b l1 l2 q t ih =>
   cases i with
   | zero=>cases e;exact⟨b,rfl,q⟩
   | succ i=>exact ih (by simpa using e)
end Gen
namespace Bk
open PySem L2 Gen
open PySem.W (Dat kqdOk)
end Bk
namespace Bk
open PySem L2 Gen
def Low(x:Str):Prop:=x.cps.all (·< 128)=true
def greatS:Str:=T "ABCDEFGHIJKLMNOPQRSTUVWXYZ"
def figS:Str:=T "0123456789"
def pointS:Str:=T ".,-;:'()!?"
theorem signs_split:wordSigns=small.cps.toList++(greatS.cps.toList++(figS.cps.toList++pointS.cps.toList)):=by decide +kernel
def qcL(x:Str):Bool:=decide (1≤(x.length:Int)∧(x.length:Int)≤20) && (x.cps.toList.map fun c=>decide (c∈wordSigns)).all id
def qca(x:Str):Bool:=decide (1≤(x.length:Int)∧(x.length:Int)≤8) && (x.cps.toList.map fun c=>decide (c∈small.cps.toList)).all id
theorem qdY(c:Nat):c∈small.cps.toList↔qdJ c:=by
 rw[small_is];have all:∀c∈[97,98,99,100,101,102,103,104,105,106,107,108,109,110,111,112,113,114,115,116,117,118,119,120,121,122],97≤c∧c≤122:=by decide +kernel
 have back:∀d<26,97+d∈[97,98,99,100,101,102,103,104,105,106,107,108,109,110,111,112,113,114,115,116,117,118,119,120,121,122]:=by decide +kernel
 refine⟨fun h=>all c h,fun h=>?_⟩;have h1:=h.1;have h2:=h.2;have:=back (c-97) (by omega)
 rwa [show 97+(c-97)=c by omega]at this
theorem qdv{p:Nat→Bool}{l:List Nat}:(l.map p).all id=true↔∀c∈l,p c=true:=by
 rw[List.all_eq_true];constructor
 ·intro h c hc;exact h _ (List.mem_map.mpr ⟨c,hc,rfl⟩)
 ·intro h y hy;obtain⟨c,hc,rfl⟩:=List.mem_map.mp hy;exact h c hc
theorem qem{x:Str}(h:Word x):qcL x=true:=by
 unfold qcL;rw[Bool.and_eq_true,decide_eq_true_iff,qdv];exact⟨⟨by have:=h.1;omega,by have:=h.2.1;omega⟩,fun c hc=>decide_eq_true (h.2.2 c hc)⟩
theorem qbZ{x:Str}(h:Name x):qca x=true:=by
 unfold qca;rw[Bool.and_eq_true,decide_eq_true_iff,qdv];exact⟨⟨by have:=h.1;omega,by have:=h.2.1;omega⟩,fun c hc=>decide_eq_true ((qdY c).mpr (h.2.2 c hc))⟩
theorem qfJ{x:Str}(h:∀c∈x.cps.toList,c<128):Low x:=by
 unfold Low;rw[Array.all_eq_true'];intro c hc;exact decide_eq_true (h c (by simpa using hc))
theorem Word.low{x:Str}(h:Word x):Low x:=qfJ fun c hc=>word_low c (h.2.2 c hc)
theorem Name.low{x:Str}(h:Name x):Low x:=qfJ fun c hc=>by have:=(h.2.2 c hc).2;omega
def pieceB:Th→Bool
 | .tri .note (.inr k) t=>decide (0≤k∧k≤60) && decide (0≤t∧t≤0)
 | .tri .word (.inl w) t=>decide (0≤t∧t≤3) && qcL w
 | .tri .page (.inl n) t=>decide (0≤t∧t≤3) && qca n
 | _=>false
def PcForm:Th→Prop
 | .tri .note (.inr _) _=>True
 | .tri .word (.inl w) _ | .tri .page (.inl w) _ | .tri .sign (.inl w) _=>Low w∧w.length≤1000
 | _=>False
theorem qc0{x:Th}(h:PcOk x):pieceB x=true:=by
 cases x with
 | int n=>cases h
 | tri s x t =>
   cases s<;>cases x<;>first | (exfalso;exact h) | skip
   · show(decide _ && qcL _)=true
     rw[qem h.1,Bool.and_true,decide_eq_true_iff]
     exact h.2
   · show(decide _ && qca _)=true
     rw[qbZ h.1,Bool.and_true,decide_eq_true_iff]
     exact h.2
   · show(decide _ && decide _)=true
     rw[Bool.and_eq_true,decide_eq_true_iff,decide_eq_true_iff]
     exact⟨⟨h.1,h.2.1⟩,by rw[h.2.2];exact⟨Int.le_refl _,Int.le_refl _⟩⟩
theorem qcU{x:Th}(h:PcOk x):PcForm x:=by
 cases x with
 | int n=>cases h
 | tri s x t =>
   cases s<;>cases x<;>first | (exfalso;exact h) | skip
   · exact⟨h.1.low,by have:=h.1.2.1;omega⟩
   · exact⟨h.1.low,by have:=h.1.2.1;omega⟩
   · trivial
end Bk
namespace Gen
open PySem L2 Bk
structure Glob(mg:Str→Option Value):Prop where
 sm:∃t,mg "SMALL_LETTERS" = some (.str small t)
 gr:∃t,mg "GREAT_LETTERS" = some (.str greatS t)
 fi:∃t,mg "FIGURES" = some (.str figS t)
 po:∃t,mg "WORD_POINTS" = some (.str pointS t)
 mw:∃t,mg "MOST_WORD_SIGNS" = some (.int 20 t)
 mn:∃t,mg "MOST_NAME_SIGNS" = some (.int 8 t)
 nodes:∃t,mg "MOST_NODES" = some (.int 60 t)
 marks:∃t,mg "MOST_MARKS" = some (.int 4 t)
 pieces:∃t,mg "MOST_PIECES" = some (.int 60 t)
 level:∃t,mg "GREATEST_LEVEL" = some (.int 6 t)
 tone:∃t,mg "GREATEST_TONE" = some (.int 3 t)
 pict:∃t,mg "GREATEST_PICTURE" = some (.int 2000 t)
def spWhole:Sp:=fun vs H Q _=>∃v lo hi:Int,vs=[.int v,.int lo,.int hi]∧Q (.bl (decide (lo≤v∧v≤hi))) H
def spWSign:Sp:=fun vs H Q _=>∃c:Nat,vs=[.str ⟨#[c]⟩]∧Q (.bl (decide (c∈wordSigns))) H
def spWordB:Sp:=fun vs H Q _=>∃x:Str,vs=[.str x]∧Low x∧x.length≤1000∧∀H',Same H H'→Q (.bl (qcL x)) H'
def spNameB:Sp:=fun vs H Q _=>∃x:Str,vs=[.str x]∧Low x∧x.length≤1000∧∀H',Same H H'→Q (.bl (qca x)) H'
def spPieceB:Sp:=fun vs H Q _=>∃(a:Addr) (s:So) (x:Sum Str Int) (t:Int),vs=[.ref a]∧H a=some (.tup [.str s.s,thV x,.int t])∧PcForm (.tri s x t)∧∀H',Same H H'→Q (.bl (pieceB (.tri s x t))) H'
end Gen
namespace K05
open PySem L2 Bk Gen
abbrev sIsWhole:Stmt:=top 17
abbrev sIsWordSign:Stmt:=top 18
abbrev sIsWord:Stmt:=top 19
abbrev sIsName:Stmt:=top 20
abbrev sIsPiece:Stmt:=top 48
section
variable{P:Program}{w:World}{K:PySem.W.Frag}{mg:Str→Option Value}{base:Heap}
theorem scIsWhole:FnScope ["value", "low", "high"] ["value", "low", "high"] (qan sIsWhole):=⟨rfl,rfl,rfl,by decide +kernel,rfl,by decide +kernel,by decide +kernel⟩
theorem ok_is_whole{f:Addr}{fd:FuncData}(F:Fun K "is_whole" "is_whole" sIsWhole f fd)(T:Bn mg):FnOk P w K mg base CX0 1 f fd ["value", "low", "high"] spWhole:=by
 refine F.ok scIsWhole (fun vs H Q E h=>?_) (fun cdv A outer s H vs Q E hr h=>?_)
 ·obtain⟨v,lo,hi,rfl,_⟩:=h;rfl
 ·obtain⟨v,lo,hi,rfl,q⟩:=h;refine⟨_,(qai (qat (qb4 (qb3 T.isinstance (by rfl) T.int (by rfl) b_int (pv 0)) (qb4 (qfh (qb3 T.isinstance (by rfl) T.bool (by rfl) b_bool (pv 0))) (qbL (pe_chain op_le op_le (pv 1) (pv 0) (pv 2))))))),?_⟩;refine⟨_,rfl,_,_,_,_,rfl,.int v,⟨_,fun u r=>r,k_ii⟩,_,rfl,iteT ?_⟩;refine⟨_,rfl,_,_,_,_,rfl,.int v,⟨_,fun u r=>r,k_ib⟩,_,rfl,_,rfl,iteT ?_⟩;refine⟨_,rfl,_,rfl,_,_,rfl,rfl,_,rfl,?_⟩;refine ite2 (fun c=>?_) (fun c=>?_)
  ·have c':lo≤v:=of_decide_eq_true c;refine⟨_,rfl,_,_,rfl,rfl,?_⟩;have e:decide (lo≤v∧v≤hi)=decide (v≤hi):=by simp[c']
   rw[e]at q;exact q
  ·have c':¬lo≤v:=fun z=>c (decide_eq_true z)
   have e:decide (lo≤v∧v≤hi)=false:=by simp[c']
   rw[e]at q;exact q
theorem scIsWordSign:FnScope ["sign"] ["sign"] (qan sIsWordSign):=⟨rfl,rfl,rfl,by decide +kernel,rfl,by decide +kernel,by decide +kernel⟩
theorem ok_is_word_sign{f:Addr}{fd:FuncData}(F:Fun K "is_word_sign" "is_word_sign" sIsWordSign f fd)(U:Glob mg):FnOk P w K mg base CX0 1 f fd ["sign"] spWSign:=by
 refine F.ok scIsWordSign (fun vs H Q E h=>?_) (fun cdv A outer s H vs Q E hr h=>?_)
 ·obtain⟨c,rfl,_⟩:=h;rfl
 ·obtain⟨c,rfl,q⟩:=h;obtain⟨_,g_SMALL_LETTERS⟩:=U.sm;obtain⟨_,g_GREAT_LETTERS⟩:=U.gr;obtain⟨_,g_FIGURES⟩:=U.fi;obtain⟨_,g_WORD_POINTS⟩:=U.po;refine⟨_,(qai (qat (qeL (qaW qdT (pv 0) (qap (v:=.str (Str.ofString "abcdefghijklmnopqrstuvwxyz")) (by rfl) g_SMALL_LETTERS ⟨_,rfl⟩) (by with_unfolding_all rfl)) (qeL (qaW qdT (pv 0) (qap (v:=.str (Str.ofString "ABCDEFGHIJKLMNOPQRSTUVWXYZ")) (by rfl) g_GREAT_LETTERS ⟨_,rfl⟩) (by with_unfolding_all rfl)) (qeL (qaW qdT (pv 0) (qap (v:=.str (Str.ofString "0123456789")) (by rfl) g_FIGURES ⟨_,rfl⟩) (by with_unfolding_all rfl)) (qbL (qaW qdT (pv 0) (qap (v:=.str (Str.ofString ".,-;:'()!?")) (by rfl) g_WORD_POINTS ⟨_,rfl⟩) (by with_unfolding_all rfl)))))))),?_⟩;rw[signs_split]at q;refine⟨_,rfl,c,small,rfl,rfl,_,rfl,?_⟩;rw[if_neg Bool.false_ne_true]
  by_cases h1:c∈small.cps.toList
  ·rw[decide_eq_true h1];rw[decide_eq_true (List.mem_append_left _ h1)]at q;exact iteT q
  rw[decide_eq_false h1];refine iteF ⟨_,rfl,c,greatS,rfl,rfl,_,rfl,?_⟩;rw[if_neg Bool.false_ne_true]
  by_cases h2:c∈greatS.cps.toList
  ·rw[decide_eq_true h2];rw[decide_eq_true (List.mem_append_right _ (List.mem_append_left _ h2))]at q;exact iteT q
  rw[decide_eq_false h2];refine iteF ⟨_,rfl,c,figS,rfl,rfl,_,rfl,?_⟩;rw[if_neg Bool.false_ne_true]
  by_cases h3:c∈figS.cps.toList
  ·rw[decide_eq_true h3];rw[decide_eq_true (List.mem_append_right _ (List.mem_append_right _ (List.mem_append_left _ h3)))]at q;exact iteT q
  rw[decide_eq_false h3];refine iteF ⟨_,rfl,c,pointS,rfl,rfl,?_⟩;rw[if_neg Bool.false_ne_true];have e:decide (c∈small.cps.toList++(greatS.cps.toList++(figS.cps.toList++pointS.cps.toList)))=decide (c∈pointS.cps.toList):=by
   simp only[List.mem_append,h1,h2,h3,false_or]
  rw[e]at q;exact q
theorem scIsWord:FnScope ["value"] ["value"] (qan sIsWord):=⟨rfl,rfl,rfl,by decide +kernel,rfl,by decide +kernel,by decide +kernel⟩
theorem ok_is_word{f:Addr}{fd:FuncData}(F:Fun K "is_word" "is_word" sIsWord f fd)(T:Bn mg)(U:Glob mg)(F_is_word_sign:Fx P w K mg base CX0 1 "is_word_sign" ["sign"] spWSign):FnOk P w K mg base CX0 2 f fd ["value"] spWordB:=by
 refine F.ok scIsWord (fun vs H Q E h=>?_) (fun cdv A outer s H vs Q E hr h=>?_)
 ·obtain⟨x,rfl,_⟩:=h;rfl
 ·obtain⟨x,rfl,lo,le,q⟩:=h;obtain⟨_,g_MOST_WORD_SIGNS⟩:=U.mw;have hr_is_word_sign:=hr;have sz:sizeLine=16777216:=by decide
  have xs:x.cps.size=x.length:=rfl;have xl:x.cps.toList.length=x.length:=Array.length_toList;refine⟨_,(qae (qaR (PW.pt (qcx (qa6 (qbj (qb3 T.isinstance (by rfl) T.str (by rfl) b_str (pv 0)))) (qbQ (qa6 (qce op_le op_le qak (qaw call_len_str (by rfl) T.len b_len (qab (pv 0) pa_nil)) (qap (v:=.int 20) (by rfl) g_MOST_WORD_SIGNS ⟨_,rfl⟩)))))) (qai (qat qcJ)) pss_nil)
   (qai (qat (qaw (qb0 (by rfl)) (by rfl) T.all b_all (qab (qbc (own:=["sign"]) (by rfl) (CompScope.plain (by rfl) (by decide +kernel) (by decide +kernel) (by decide +kernel)) (qfw (pv 0)) (fun cl C s2 H2 fp=>(qaH (i:=0) (by show(["sign"]:List Str).Nodup;decide +kernel) (by rfl) (by trivial) (by trivial))) (fun cl C s2 H2 fp=>qbr) (fun cl C s2 H2 fp=>(qaE F_is_word_sign hr_is_word_sign (by rfl) qaG (qab (pv 0) pa_nil)))) pa_nil))))),?_⟩
  refine⟨_,rfl,_,_,_,_,rfl,.str x,⟨_,fun u r=>r,k_ss⟩,_,rfl,iteF ?_⟩;refine⟨_,rfl,x,rfl,by omega,_,_,rfl,rfl,_,rfl,?_⟩;have no:¬(1≤(x.length:Int)∧(x.length:Int)≤20)→Q (.bl false) H:=fun c=>by
   have:=q H (Same.refl H);unfold qcL at this;rw[decide_eq_false c,Bool.false_and]at this;exact this
  refine ite2 (fun c1=>?_) (fun c1=>?_)
  rotate_left
  ·refine⟨_,rfl,iteT ?_⟩;exact no fun z=>c1 (decide_eq_true z.1)
  refine⟨_,_,rfl,rfl,_,rfl,?_⟩
  by_cases c:1≤(x.length:Int)∧(x.length:Int)≤20
  rotate_left
  ·rw[decide_eq_false (fun z=>c ⟨of_decide_eq_true c1,z⟩:¬(x.length:Int)≤20)];exact iteT (no c)
  rw[decide_eq_true c.2];refine iteF ?_;refine⟨_,rfl,x,rfl,lo,qew (fun i ys σ' H'=>H'=H∧ys=((x.cps.toList.take i).map fun c=>decide (c∈wordSigns)).map V.bl∧∃z,σ'=[z]) (by omega) ⟨rfl,rfl,none,rfl⟩ ?_ ?_ ?_⟩
  ·rintro i ys σ' H' hi ⟨rfl,rfl,_⟩;rw[List.length_map,List.length_map,List.length_take];exact Nat.min_le_left _ _
  ·rintro i c ys σ' H' hc ⟨rfl,rfl,z,rfl⟩;refine⟨_,rfl,c,rfl,rfl,?_,_,rfl⟩;rw[List.map_map,List.map_map,qcd (V.bl∘fun c=>decide (c∈wordSigns)) (by simpa using hc)];rfl
  ·rintro ys σ' H' ⟨rfl,rfl,_⟩ D hD;have eT:x.cps.toList.take x.cps.size=x.cps.toList:=List.take_of_length_le (by omega);rw[eT];refine⟨D,_,rfl,SqL.of qad,?_⟩;have:=q _ (qaf hD (.lst ((x.cps.toList.map fun c=>decide (c∈wordSigns)).map V.bl)));unfold qcL at this;rw[decide_eq_true c,Bool.true_and]at this;exact this
theorem scIsName:FnScope ["value"] ["value"] (qan sIsName):=⟨rfl,rfl,rfl,by decide +kernel,rfl,by decide +kernel,by decide +kernel⟩
theorem ok_is_name{f:Addr}{fd:FuncData}(F:Fun K "is_name" "is_name" sIsName f fd)(T:Bn mg)(U:Glob mg):FnOk P w K mg base CX0 1 f fd ["value"] spNameB:=by
 refine F.ok scIsName (fun vs H Q E h=>?_) (fun cdv A outer s H vs Q E hr h=>?_)
 ·obtain⟨x,rfl,_⟩:=h;rfl
 ·obtain⟨x,rfl,lo,le,q⟩:=h;obtain⟨_,g_MOST_NAME_SIGNS⟩:=U.mn;obtain⟨_,g_SMALL_LETTERS⟩:=U.sm;have sz:sizeLine=16777216:=by decide
  have xs:x.cps.size=x.length:=rfl;have xl:x.cps.toList.length=x.length:=Array.length_toList;refine⟨_,(qae (qaR (PW.pt (qcx (qa6 (qbj (qb3 T.isinstance (by rfl) T.str (by rfl) b_str (pv 0)))) (qbQ (qa6 (qce op_le op_le qak (qaw call_len_str (by rfl) T.len b_len (qab (pv 0) pa_nil)) (qap (v:=.int 8) (by rfl) g_MOST_NAME_SIGNS ⟨_,rfl⟩)))))) (qai (qat qcJ)) pss_nil)
   (qai (qat (qaw (qb0 (by rfl)) (by rfl) T.all b_all (qab (qbc (own:=["sign"]) (by rfl) (CompScope.plain (by rfl) (by decide +kernel) (by decide +kernel) (by decide +kernel)) (qfw (pv 0)) (fun cl C s2 H2 fp=>(qaH (i:=0) (by show(["sign"]:List Str).Nodup;decide +kernel) (by rfl) (by trivial) (by trivial))) (fun cl C s2 H2 fp=>qbr) (fun cl C s2 H2 fp=>(qaW qdT (pv 0) (qap (v:=.str (Str.ofString "abcdefghijklmnopqrstuvwxyz")) (by rfl) g_SMALL_LETTERS ⟨_,rfl⟩) (by with_unfolding_all rfl)))) pa_nil))))),?_⟩
  refine⟨_,rfl,_,_,_,_,rfl,.str x,⟨_,fun u r=>r,k_ss⟩,_,rfl,iteF ?_⟩;refine⟨_,rfl,x,rfl,by omega,_,_,rfl,rfl,_,rfl,?_⟩;have no:¬(1≤(x.length:Int)∧(x.length:Int)≤8)→Q (.bl false) H:=fun c=>by
   have:=q H (Same.refl H);unfold qca at this;rw[decide_eq_false c,Bool.false_and]at this;exact this
  refine ite2 (fun c1=>?_) (fun c1=>?_)
  rotate_left
  ·refine⟨_,rfl,iteT ?_⟩;exact no fun z=>c1 (decide_eq_true z.1)
  refine⟨_,_,rfl,rfl,_,rfl,?_⟩
  by_cases c:1≤(x.length:Int)∧(x.length:Int)≤8
  rotate_left
  ·rw[decide_eq_false (fun z=>c ⟨of_decide_eq_true c1,z⟩:¬(x.length:Int)≤8)];exact iteT (no c)
  rw[decide_eq_true c.2];refine iteF ?_;refine⟨_,rfl,x,rfl,lo,qew (fun i ys σ' H'=>H'=H∧ys=((x.cps.toList.take i).map fun c=>decide (c∈small.cps.toList)).map V.bl∧∃z,σ'=[z]) (by omega) ⟨rfl,rfl,none,rfl⟩ ?_ ?_ ?_⟩
  ·rintro i ys σ' H' hi ⟨rfl,rfl,_⟩;rw[List.length_map,List.length_map,List.length_take];exact Nat.min_le_left _ _
  ·rintro i c ys σ' H' hc ⟨rfl,rfl,z,rfl⟩;refine⟨_,rfl,c,small,rfl,rfl,rfl,?_,_,rfl⟩;rw[List.map_map,List.map_map,qcd (V.bl∘fun c=>decide (c∈small.cps.toList)) (by simpa using hc)];rfl
  ·rintro ys σ' H' ⟨rfl,rfl,_⟩ D hD;have eT:x.cps.toList.take x.cps.size=x.cps.toList:=List.take_of_length_le (by omega);rw[eT];refine⟨D,_,rfl,SqL.of qad,?_⟩;have:=q _ (qaf hD (.lst ((x.cps.toList.map fun c=>decide (c∈small.cps.toList)).map V.bl)));unfold qca at this;rw[decide_eq_true c,Bool.true_and]at this;exact this
theorem scIsPiece:FnScope ["piece"] ["piece"] (qan sIsPiece):=⟨rfl,rfl,rfl,by decide +kernel,rfl,by decide +kernel,by decide +kernel⟩
theorem ok_is_piece{f:Addr}{fd:FuncData}(F:Fun K "is_piece" "is_piece" sIsPiece f fd)(T:Bn mg)(U:Glob mg)(N:Nums mg)(F_is_whole:Fx P w K mg base CX0 1 "is_whole" ["value", "low", "high"] spWhole)(F_is_word:Fx P w K mg base CX0 2 "is_word" ["value"] spWordB)(F_is_name:Fx P w K mg base CX0 1 "is_name" ["value"] spNameB):FnOk P w K mg base CX0 3 f fd ["piece"] spPieceB:=by
 refine F.ok scIsPiece (fun vs H Q E h=>?_) (fun cdv A outer s H vs Q E hr h=>?_)
 ·obtain⟨a,so,x,t,rfl,_⟩:=h;rfl
 ·obtain⟨a,so,x,t,rfl,ha,fm,q⟩:=h;obtain⟨_,g_SORT⟩:=N.sort;obtain⟨_,g_THING⟩:=N.thing;obtain⟨_,g_TONE⟩:=N.tone;obtain⟨_,g_MOST_PIECES⟩:=U.pieces;obtain⟨_,g_GREATEST_TONE⟩:=U.tone;have hr_is_whole:Room 1 _:=hr.mono (by decide);have hr_is_name:Room 1 _:=hr.mono (by decide);have hr_is_word:=hr;refine⟨_,(qae (qaR (PW.pt (qcx (qa6 (qbj (qb3 T.isinstance (by rfl) T.tuple (by rfl) b_tuple (pv 0)))) (qbQ (qas op_ne (qaw call_len_seq (by rfl) T.len b_len (qab (pv 0) pa_nil)) qak (qaz _))))) (qai (qat qcJ)) pss_nil)
   (qae (qaR (qas op_eq (qaF ix_tup (pv 0) (qap (v:=.int 0) (by rfl) g_SORT ⟨_,rfl⟩) (fun _ _=>rfl)) qao (qaz _)) (qai (qat (qb4 (qaE F_is_whole hr_is_whole (by rfl) qaG (qab (qaF ix_tup (pv 0) (qap (v:=.int 1) (by rfl) g_THING ⟨_,rfl⟩) (fun _ _=>rfl)) (qab qak (qab (qap (v:=.int 60) (by rfl) g_MOST_PIECES ⟨_,rfl⟩) pa_nil)))) (qbL (qaE F_is_whole hr_is_whole (by rfl) qaG (qab (qaF ix_tup (pv 0) (qap (v:=.int 2) (by rfl) g_TONE ⟨_,rfl⟩) (fun _ _=>rfl)) (qab qak (qab qak pa_nil)))))))) pss_nil)
   (qae (qaR (qa6 (qbj (qaE F_is_whole hr_is_whole (by rfl) qaG (qab (qaF ix_tup (pv 0) (qap (v:=.int 2) (by rfl) g_TONE ⟨_,rfl⟩) (fun _ _=>rfl)) (qab qak (qab (qap (v:=.int 3) (by rfl) g_GREATEST_TONE ⟨_,rfl⟩) pa_nil)))))) (qai (qat qcJ)) pss_nil)
   (qae (qaR (qas op_eq (qaF ix_tup (pv 0) (qap (v:=.int 0) (by rfl) g_SORT ⟨_,rfl⟩) (fun _ _=>rfl)) qao (qaz _)) (qai (qat (qaE F_is_word hr_is_word (by rfl) qaG (qab (qaF ix_tup (pv 0) (qap (v:=.int 1) (by rfl) g_THING ⟨_,rfl⟩) (fun _ _=>rfl)) pa_nil)))) pss_nil)
   (qai (qat (qb4 (qaW op_eq (qaF ix_tup (pv 0) (qap (v:=.int 0) (by rfl) g_SORT ⟨_,rfl⟩) (fun _ _=>rfl)) qao (qaz _)) (qbL (qaE F_is_name hr_is_name (by rfl) qaG (qab (qaF ix_tup (pv 0) (qap (v:=.int 1) (by rfl) g_THING ⟨_,rfl⟩) (fun _ _=>rfl)) pa_nil)))))))))),?_⟩
  refine⟨_,rfl,_,_,_,_,rfl,.tup ha,⟨_,fun u r=>r,k_tt⟩,_,rfl,iteF ?_⟩;refine⟨_,rfl,a,_,rfl,.inr (SqT.of ha),rfl,_,rfl,iteF ?_⟩;refine⟨_,rfl,a,_,_,_,rfl,rfl,SqT.of ha,rfl,rfl,_,rfl,?_⟩;rw[show decide (V.str so.s=V.str (Str.ofString "note"))=decide (so=.note)from sot so .note];cases so<;>cases x<;>first | (exfalso;exact fm) | skip
  ·-- a word
   refine iteF ?_;refine⟨_,rfl,a,_,_,_,rfl,rfl,SqT.of ha,rfl,t,0,3,rfl,_,rfl,?_⟩
   by_cases c:0≤t∧t≤3
   rotate_left
   ·rw[decide_eq_false c];refine iteT ?_;have:=q H (Same.refl H);dsimp only[pieceB]at this;rw[decide_eq_false c,Bool.false_and]at this;exact this
   rw[decide_eq_true c];refine iteF ?_;refine⟨_,rfl,a,_,_,_,rfl,rfl,SqT.of ha,rfl,rfl,_,rfl,?_⟩;rw[show decide (V.str So.word.s=V.str (Str.ofString "word"))=decide (So.word=.word)from sot .word .word];refine iteT ?_;refine⟨_,rfl,a,_,_,_,rfl,rfl,SqT.of ha,rfl,_,rfl,fm.1,fm.2,fun H' s'=>?_⟩;have:=q H' s';dsimp only[pieceB]at this;rw[decide_eq_true c,Bool.true_and]at this;exact this
  ·-- a page
   refine iteF ?_;refine⟨_,rfl,a,_,_,_,rfl,rfl,SqT.of ha,rfl,t,0,3,rfl,_,rfl,?_⟩
   by_cases c:0≤t∧t≤3
   rotate_left
   ·rw[decide_eq_false c];refine iteT ?_;have:=q H (Same.refl H);dsimp only[pieceB]at this;rw[decide_eq_false c,Bool.false_and]at this;exact this
   rw[decide_eq_true c];refine iteF ?_;refine⟨_,rfl,a,_,_,_,rfl,rfl,SqT.of ha,rfl,rfl,_,rfl,?_⟩;rw[show decide (V.str So.page.s=V.str (Str.ofString "word"))=decide (So.page=.word)from sot .page .word];refine iteF ?_;refine⟨_,rfl,a,_,_,_,rfl,rfl,SqT.of ha,rfl,rfl,_,rfl,?_⟩;rw[show decide (V.str So.page.s=V.str (Str.ofString "page"))=decide (So.page=.page)from sot .page .page];refine iteT ?_;refine⟨_,rfl,a,_,_,_,rfl,rfl,SqT.of ha,rfl,_,rfl,fm.1,fm.2,fun H' s'=>?_⟩;have:=q H' s';dsimp only[pieceB]at this;rw[decide_eq_true c,Bool.true_and]at this;exact this
  ·-- a note
   rename_i k;refine iteT ?_;refine⟨_,rfl,a,_,_,_,rfl,rfl,SqT.of ha,rfl,k,0,60,rfl,_,rfl,?_⟩;have:=q H (Same.refl H);dsimp only[pieceB]at this
   by_cases c:0≤k∧k≤60
   ·rw[decide_eq_true c]at this⊢;refine iteT ?_;rw[Bool.true_and]at this;exact⟨_,rfl,a,_,_,_,rfl,rfl,SqT.of ha,rfl,t,0,0,rfl,this⟩
   ·rw[decide_eq_false c]at this⊢;exact iteF this
  ·-- another sort
   refine iteF ?_;have qq:=q H (Same.refl H);refine⟨_,rfl,a,_,_,_,rfl,rfl,SqT.of ha,rfl,t,0,3,rfl,_,rfl,?_⟩
   by_cases c:0≤t∧t≤3
   rotate_left
   ·rw[decide_eq_false c];exact iteT qq
   rw[decide_eq_true c];refine iteF ?_;refine⟨_,rfl,a,_,_,_,rfl,rfl,SqT.of ha,rfl,rfl,_,rfl,?_⟩;rw[show decide (V.str So.sign.s=V.str (Str.ofString "word"))=decide (So.sign=.word)from sot .sign .word];refine iteF ?_;refine⟨_,rfl,a,_,_,_,rfl,rfl,SqT.of ha,rfl,rfl,_,rfl,?_⟩;rw[show decide (V.str So.sign.s=V.str (Str.ofString "page"))=decide (So.sign=.page)from sot .sign .page];exact iteF qq
end
end K05
namespace Bk
open PySem L2 Gen
def qef(n:Int)(d:Nd):Bool:=decide (d.e=n)
def kk(l:List Nd)(n:Int):List Kd:=(l.filter (qef n)).map (·.k)
theorem qcu(a b:List Nd)(n:Int):kk (a++b) n=kk a n++kk b n:=by unfold kk;rw[List.filter_append,List.map_append]
theorem qbF{l:List Nd}{n:Int}(h:∀d∈l,d.e≠n):kk l n=[]:=by
 unfold kk;rw[List.filter_eq_nil_iff.mpr fun d hd=>by simp[qef,h d hd]];rfl
theorem qb6(d:Nd)(l:List Nd)(n:Int):kk (d::l) n=(if d.e=n then[d.k]else[])++kk l n:=by
 unfold kk;rw[List.filter_cons]
 by_cases h:d.e=n
 ·simp[qef,h]
 ·simp[qef,h]
structure FoAll(e i:Nat)(l:List Nd)(ks:List Kd):Prop where
 el:∀d∈l,d.e=(e:Int)∨((i:Int)≤d.e∧d.e<i+l.length)
 top:kk l e=ks
 each:∀k d,l[k]?=some d→Holds d.k (kk l ((i+k:Nat):Int)) d.st∧d.k≠.body
theorem Forest.all{e i lv:Nat}{l:List Nd}{ks:List Kd}(x:Forest e i lv l ks):e<i→FoAll e i l ks:=by
 induction x with
 | nil=>intro _;exact⟨(fun d hd=>nomatch hd),rfl,(fun k d h=>nomatch h)⟩
 | @cons e i lv d sub rest ks ks' h1 h2 h3 f1 h4 f2 ih1 ih2 =>
   intro he
   have A:=ih1 (by omega)
   have B:=ih2 (by omega)
   have bel:∀c∈rest,c.e=(e:Int)∨((i+1+sub.length:Nat):Int)≤c.e:=fun c hc=>(B.el c hc).imp id And.left
   refine⟨fun c hc=>?_,?_,fun k c hk=>?_⟩
   · rw[List.length_cons,List.length_append]
     rcases List.mem_cons.mp hc with rfl | hc
     · exact .inl h1
     · rcases List.mem_append.mp hc with hc | hc
       · rcases A.el c hc with z | z<;>right<;>omega
       · rcases B.el c hc with z | z
         · exact .inl z
         · right;omega
   · rw[qb6,if_pos h1,qcu,qbF (l:=sub) fun c hc=>by rcases A.el c hc with z | z<;>omega,B.top]
     rfl
   · rw[qb6,qcu,if_neg (by omega)]
     cases k with
     | zero =>
       cases hk
       rw[show((i+0:Nat):Int)=(i:Int) by simp,A.top,qbF (l:=rest) fun c hc=>by rcases bel c hc with z | z<;>omega,List.append_nil]
       exact⟨h4,h3⟩
     | succ k =>
       rw[List.getElem?_cons_succ]at hk
       by_cases hs:k<sub.length
       · rw[List.getElem?_append_left hs]at hk
         obtain⟨q1,q2⟩:=A.each k c hk
         rw[qbF (l:=rest) fun c hc=>by rcases bel c hc with z | z<;>omega,List.append_nil,show i+(k+1)=i+1+k by omega]
         exact⟨q1,q2⟩
       · rw[List.getElem?_append_right (by omega)]at hk
         obtain⟨q1,q2⟩:=B.each _ c hk
         rw[qbF (l:=sub) fun c hc=>by rcases A.el c hc with z | z<;>omega,show i+(k+1)=i+1+sub.length+(k-sub.length) by omega]
         exact⟨q1,q2⟩
theorem Forest.lev{ds:List Nd}{e i lv:Nat}{l:List Nd}{ks:List Kd}(x:Forest e i lv l ks):e<i→(∀k d,l[k]?=some d→ds[i+k]?=some d)→(∃u,lv=u+1∧Lev ds e u)→∀k,k<l.length→∃u,u≤6∧Lev ds (i+k) u:=by
 induction x with
 | nil=>intro _ _ _ k hk;exact absurd hk (Nat.not_lt_zero _)
 | @cons e i lv d sub rest ks ks' h1 h2 h3 f1 h4 f2 ih1 ih2 =>
   rintro he hp ⟨u,rfl,le⟩ k hk
   have ld:Lev ds i (u+1):=.up (hp 0 d rfl) h1 he le
   have hs1:∀k c,sub[k]?=some c→ds[i+1+k]?=some c:=fun k c hc=>by
     have hk':k<sub.length:=(List.getElem?_eq_some_iff.mp hc).1
     have:=hp (k+1) c (by rw[List.getElem?_cons_succ,List.getElem?_append_left hk'];exact hc)
     rw[show i+1+k=i+(k+1) by omega];exact this
   have hs2:∀k c,rest[k]?=some c→ds[i+1+sub.length+k]?=some c:=fun k c hc=>by
     have:=hp (sub.length+k+1) c (by rw[List.getElem?_cons_succ,List.getElem?_append_right (by omega)];rw[show sub.length+k-sub.length=k by omega];exact hc)
     rw[show i+1+sub.length+k=i+(sub.length+k+1) by omega];exact this
   cases k with
   | zero=>exact⟨u+1,h2,ld⟩
   | succ k =>
     rw[List.length_cons,List.length_append]at hk
     by_cases hs:k<sub.length
     · obtain⟨v,v1,v2⟩:=ih1 (by omega) hs1 ⟨u+1,rfl,ld⟩ k hs
       exact⟨v,v1,by rw[show i+(k+1)=i+1+k by omega];exact v2⟩
     · obtain⟨v,v1,v2⟩:=ih2 (by omega) hs2 ⟨u,rfl,le⟩ (k-sub.length) (by omega)
       exact⟨v,v1,by rw[show i+(k+1)=i+1+sub.length+(k-sub.length) by omega];exact v2⟩
inductive Up(ds:List Nd):Nat→Nat→Nat→Prop
 | here {a:Nat}:Up ds a a 0
 | step {a b j m:Nat} {d:Nd}:ds[a]?=some d→d.e=(j:Int)→Up ds j b m→Up ds a b (m+1)
theorem Up.trans{ds:List Nd}{a b m:Nat}(x:Up ds a b m):∀{c n:Nat},Up ds b c n→∃k,Up ds a c k:=by
 induction x with
 | here=>intro c n y;exact⟨n,y⟩
 | step h1 h2 _ ih =>
   intro c n y
   obtain⟨k,z⟩:=ih y
   exact⟨k+1,.step h1 h2 z⟩
theorem Forest.up{ds:List Nd}{e i lv:Nat}{l:List Nd}{ks:List Kd}(x:Forest e i lv l ks):e<i→(∀k d,l[k]?=some d→ds[i+k]?=some d)→(∃m,Up ds (i-1) e m) →
  (∀k d,l[k]?=some d→∃j m:Nat,d.e=(j:Int)∧Up ds (i+k-1) j m)∧∃m,Up ds (i+l.length-1) e m:=by
 induction x with
 | nil=>rintro _ _ hu;exact⟨(fun k d h=>nomatch h),hu⟩
 | @cons e i lv d sub rest ks ks' h1 h2 h3 f1 h4 f2 ih1 ih2 =>
   rintro he hp hu
   have hs1:∀k c,sub[k]?=some c→ds[i+1+k]?=some c:=fun k c hc=>by
     have hk':k<sub.length:=(List.getElem?_eq_some_iff.mp hc).1
     have:=hp (k+1) c (by rw[List.getElem?_cons_succ,List.getElem?_append_left hk'];exact hc)
     rw[show i+1+k=i+(k+1) by omega];exact this
   have hs2:∀k c,rest[k]?=some c→ds[i+1+sub.length+k]?=some c:=fun k c hc=>by
     have:=hp (sub.length+k+1) c (by rw[List.getElem?_cons_succ,List.getElem?_append_right (by omega)];rw[show sub.length+k-sub.length=k by omega];exact hc)
     rw[show i+1+sub.length+k=i+(sub.length+k+1) by omega];exact this
   obtain⟨a1,m1,a2⟩:=ih1 (by omega) hs1 ⟨0,by rw[show i+1-1=i by omega];exact .here⟩
   have ie:Up ds i e 1:=.step (hp 0 d rfl) h1 .here
   obtain⟨m2,u2⟩:=a2.trans ie
   obtain⟨b1,m3,b2⟩:=ih2 (by omega) hs2 ⟨m2,u2⟩
   refine⟨fun k c hk=>?_,m3,?_⟩
   · cases k with
     | zero =>
       cases hk
       obtain⟨m,u⟩:=hu
       exact⟨e,m,h1,u⟩
     | succ k =>
       rw[List.getElem?_cons_succ]at hk
       by_cases hs:k<sub.length
       · rw[List.getElem?_append_left hs]at hk
         obtain⟨j,m,q1,q2⟩:=a1 k c hk
         exact⟨j,m,q1,by rw[show i+(k+1)-1=i+1+k-1 by omega];exact q2⟩
       · rw[List.getElem?_append_right (by omega)]at hk
         obtain⟨j,m,q1,q2⟩:=b1 _ c hk
         exact⟨j,m,q1,by rw[show i+(k+1)-1=i+1+sub.length+(k-sub.length)-1 by omega];exact q2⟩
   · rw[List.length_cons,List.length_append,show i+(sub.length+rest.length+1)-1=i+1+sub.length+rest.length-1 by omega]
     exact b2
structure NdOf(ds:List Nd)(n:Nat)(d:Nd):Prop where
 kids:Holds d.k (kk ds n) d.st
 body:d.k=.body↔n=0
 lev:∃u,u≤6∧Lev ds n u
 up:(n=0∧d.e=-1)∨(0<n∧∃j m:Nat,d.e=(j:Int)∧j<n∧Up ds (n-1) j m)
theorem Book.each{ds:List Nd}(b:Book ds){n:Nat}{d:Nd}(h:ds[n]?=some d):NdOf ds n d:=by
 obtain⟨d0,sub,ks,rfl,e0,k0,f,hh⟩:=b.tree;have A:=f.all (by decide);have hp:∀k c,sub[k]?=some c→(d0::sub)[1+k]?=some c:=fun k c hc=>by rw[Nat.add_comm,List.getElem?_cons_succ];exact hc
 have l0:Lev (d0::sub) 0 0:=.top rfl e0;have kc:∀n:Nat,kk (d0::sub) n=kk sub n:=fun n=>by rw[qb6,if_neg (by omega)];rfl
 cases n with
 | zero =>
   cases h
   refine⟨?_,by simp[k0],⟨0,by decide,l0⟩,.inl ⟨rfl,e0⟩⟩
   rw[k0,kc,show((0:Nat):Int)=((0:Nat):Int)from rfl,A.top]
   exact hh
 | succ k =>
   rw[List.getElem?_cons_succ]at h
   obtain⟨q1,q2⟩:=A.each k d h
   have hk:k<sub.length:=(List.getElem?_eq_some_iff.mp h).1
   obtain⟨u,u1,u2⟩:=f.lev (by decide) hp ⟨0,rfl,l0⟩ k hk
   obtain⟨c1,_⟩:=f.up (ds:=d0::sub) (by decide) hp ⟨0,.here⟩
   obtain⟨j,m,ej,uj⟩:=c1 k d h
   obtain⟨j',ej',lt⟩:=f.elds (by decide) k d h
   have:j=j':=by omega
   subst this
   refine⟨?_,⟨fun z=>absurd z q2,fun z=>absurd z (by omega)⟩,⟨u,u1,by rw[Nat.add_comm];exact u2⟩,.inr ⟨by omega,j,m,ej,by omega,?_⟩⟩
   · rw[kc,show((k+1:Nat):Int)=((1+k:Nat):Int) by omega]
     exact q1
   · rw[show k+1-1=1+k-1 by omega]
     exact uj
theorem qd8(ds:List Nd)(n:Int):∀i,i≤ds.length→(qbi ds n i).map (fun(j:Int)=>(ds[j.toNat]?).map (·.k))=(kk (ds.take i) n).map some
 | 0,_=>rfl
 | i + 1, hi => by
   have ed:ds[i]?=some ds[i]:=List.getElem?_eq_getElem (by omega)
   have ih:=qd8 ds n i (by omega)
   rw[List.take_succ,ed,Option.toList_some,qcu,List.map_append,←ih]
   by_cases h:(ds[i]).e=n
   · rw[qde ed h,List.map_append]
     simp[kk,qef,h]
     exact⟨_,ed,rfl⟩
   · rw[qdL ed h]
     simp[kk,qef,h]
end Bk
namespace Gen
open PySem L2 Bk
def kindsAll:List Kd:=[.body,.case,.shelf,.grid,.text,.head,.picture,.aside,.note]
def spNotesA:Sp:=fun vs H Q _=>∃(s:Addr) (st:List Th) (N:Addr→Prop),vs=[.ref s]∧StAt N H s st∧(∀x∈st,PcOk x)∧st.length≤60∧∀l H',H l=none→Same H H'→H' l=some (.lst ((qaC st).map V.int))→Q (.ref l) H'
structure NdNew(M N:Addr→Prop)(H:Hp)(a:Addr)(d:Nd):Prop where
 na:M a
 ex:∃m s,H a=some (.tup [.int d.e,.str d.k.s,.str d.nm,.ref m,.ref s])∧M m∧H m=some (.lst (d.mks.map V.str))∧M s∧∃vs,H s=some (.lst vs)∧Paired (ItAt N H) vs d.st
def spCopied:Sp:=fun vs H Q _=>∃(a:Addr) (d:Nd) (N:Addr→Prop),vs=[.ref a]∧NdAt N H a d∧∀a' H',NdNew (qcN H) N H' a' d→Same H H'→Q (.ref a') H'
theorem once_self:∀{ks:List Str},ks.Nodup→once ks=ks:=by
 have:∀(ks l:List Str),(l++ks).Nodup→ks.foldl one1 l=l++ks:=by
  intro ks
  induction ks with
  | nil=>intro l _;simp
  | cons k ks ih =>
    intro l h
    have nk:k∉l:=fun hk=>by
      rw[List.nodup_append]at h
      exact h.2.2 k hk k List.mem_cons_self rfl
    have e:one1 l k=l++[k]:=by
      unfold one1
      simp[nk]
    rw[List.foldl_cons,e,ih (l++[k]) (by simpa using h)]
    simp
 intro ks h;exact(this ks [] (by simpa using h)).trans (by simp)
theorem rise_eq:∀{l m:List Str},l.Perm m→(l.Pairwise fun a b=>a.cps.toList<b.cps.toList)→(m.Pairwise fun a b=>a.cps.toList<b.cps.toList)→l=m
 | [],m,p,_,_=>p.nil_eq
 | x::l,[],p,_,_=>absurd p.eq_nil (by simp)
 | x :: l, y :: m, p, h1, h2 => by
   rw[List.pairwise_cons]at h1 h2
   have e:x=y:=by
     have hx:x∈y::m:=p.subset List.mem_cons_self
     have hy:y∈x::l:=p.symm.subset List.mem_cons_self
     rcases List.mem_cons.mp hx with z | hx
     · exact z
     rcases List.mem_cons.mp hy with z | hy
     · exact z.symm
     exact absurd (h1.1 y hy) (List.lt_asymm (h2.1 x hx))
   subst e
   rw[rise_eq ((List.perm_cons x).mp p) h1.2 h2.2]
end Gen
namespace Bk
open PySem L2
def eldR(ds:List Nd):Nat→Int→List Int
 | 0,_=>[]
 | m+1,ab=>ab::eldR ds m (match ds[ab.toNat]? with | some d=>d.e | none=>-1)
theorem qcA(ds:List Nd):∀(m:Nat) (ab:Int),(eldR ds m ab).length=m
 | 0,_=>rfl
 | m+1,ab=>by rw[eldR,List.length_cons,qcA ds m]
theorem qcH{ds:List Nd}{j m:Nat}{d:Nd}(h:ds[j]?=some d):eldR ds (m+1) (j:Int)=(j:Int)::eldR ds m d.e:=by
 rw[eldR,Int.toNat_natCast,h]
def RemE(ds:List Nd)(ab:Int)(m:Nat):Prop:=(ab=-1∧m=0)∨∃j k:Nat,ab=j∧Lev ds j k∧m=k+1
theorem qbv{ds:List Nd}{i l:Nat}{d:Nd}(h:Lev ds i l)(e':ds[i]?=some d):RemE ds d.e l:=by
 cases h with
 | top e h=>rw[e']at e;cases e;exact .inl ⟨h,rfl⟩
 | up e h1 h2 h3=>rw[e']at e;cases e;exact .inr ⟨_,_,h1,h3,rfl⟩
theorem Lev.nd{ds:List Nd}{i l:Nat}(h:Lev ds i l):∃d,ds[i]?=some d:=by
 cases h with
 | top e h=>exact⟨_,e⟩
 | up e h1 h2 h3=>exact⟨_,e⟩
theorem qet{H H':Hp}{L:Addr}{o:HO}(s:Same H H')(h:H L=none):Same H (upd H' L o):=fun b u e=>by rw[qax (qar e h)];exact s b u e
end Bk
namespace Gen
open PySem L2 Bk
def spElders:Sp:=fun vs H Q _=>∃(p:Addr) (i l:Nat) (d:Nd) (ds:List Nd) (N:Addr→Prop),vs=[.ref p,.int i]∧qbh N H p ds∧ds[i]?=some d∧Lev ds i l∧l≤999 ∧
 ∀(L:Addr) (H':Hp),H L=none→Same H H'→H' L=some (.lst ((eldR ds l d.e).map V.int))→Q (.ref L) H'
def spLevelS:Sp:=fun vs H Q _=>∃(p:Addr) (i l:Nat) (ds:List Nd) (N:Addr→Prop),vs=[.ref p,.int i]∧qbh N H p ds∧Lev ds i l∧l≤999∧∀H',Same H H'→Q (.int l) H'
end Gen
namespace Bk
open PySem L2 Gen
theorem qdN{x:Str}:qcL x=true↔Word x:=by
 refine⟨fun h=>?_,qem⟩;unfold qcL at h;rw[Bool.and_eq_true,decide_eq_true_iff,qdv]at h;exact⟨by omega,by omega,fun c hc=>of_decide_eq_true (h.2 c hc)⟩
theorem nameB_iff{x:Str}:qca x=true↔Name x:=by
 refine⟨fun h=>?_,qbZ⟩;unfold qca at h;rw[Bool.and_eq_true,decide_eq_true_iff,qdv]at h;exact⟨by omega,by omega,fun c hc=>(qdY c).mp (of_decide_eq_true (h.2 c hc))⟩
theorem pieceB_iff{x:Th}:pieceB x=true↔PcOk x:=by
 refine⟨fun h=>?_,qc0⟩;cases x with
 | int n=>cases h
 | tri s x t =>
   cases s<;>cases x<;>first | cases h | skip
   · have h:(decide _ && qcL _)=true:=h
     rw[Bool.and_eq_true,decide_eq_true_iff,qdN]at h
     exact⟨h.2,h.1⟩
   · have h:(decide _ && qca _)=true:=h
     rw[Bool.and_eq_true,decide_eq_true_iff,nameB_iff]at h
     exact⟨h.2,h.1⟩
   · have h:(decide _ && decide _)=true:=h
     rw[Bool.and_eq_true,decide_eq_true_iff,decide_eq_true_iff]at h
     exact⟨h.1.1,h.1.2,by omega⟩
def sideB:Th→Bool
 | .int n=>decide (1≤n∧n≤2000)
 | _=>false
def qbt(st:List Th):Prop:=(∀x∈st,PcOk x)∧(∃x r,st=x::r∧isNote x=false)∧st.length≤60
def qfW(k:Kd)(st:List Th):Prop:=(ofPieces k=true→∀x∈st,PcForm x)∧(k=.picture→∀x∈st,∃n,x=.int n)∧st.length≤500
def qfr(l:List Str):Prop:=(∀m∈l,Low m∧m.length≤1000)∧l.length≤500
theorem stuff_pic{st:List Th}(h:st.length=2):(st.map sideB).all id=true↔Stuff .picture st:=by
 match st,h with
 | [x, y], _ =>
   cases x with
   | tri s x t=>simp[sideB,Stuff]
   | int a =>
     cases y with
     | tri s x t=>simp[sideB,Stuff]
     | int b =>
       show(decide (1≤a∧a≤2000) && (decide (1≤b∧b≤2000) && true))=true↔_
       rw[Bool.and_true,Bool.and_eq_true,decide_eq_true_iff,decide_eq_true_iff]
       constructor
       · intro z
         exact⟨a,b,rfl,z.1.1,z.1.2,z.2.1,z.2.2⟩
       · rintro⟨a',b',e,z⟩
         cases e
         exact⟨⟨z.1,z.2.1⟩,z.2.2.1,z.2.2.2⟩
theorem qbO{k:Kd}{st:List Th}(h:k∈[Kd.text,.head,.note]):qbt st↔Stuff k st:=by
 rcases List.mem_cons.mp h with rfl | h
 ·exact Iff.rfl
 rcases List.mem_cons.mp h with rfl | h
 ·exact Iff.rfl
 have:k=.note:=by simpa using h
 subst this;exact Iff.rfl
theorem stuff_none{k:Kd}{st:List Th}(h1:k≠.picture)(h2:k∉[Kd.text,.head,.note]):st=[]↔Stuff k st:=by
 cases k<;>first | exact Iff.rfl | exact absurd rfl h1 | exact absurd (by decide) h2
theorem qd0{x:Str}(h:Low x):PyData.strOk x=true:=by
 show(x.cps.all fun c=>decide (c<0x110000))=true;unfold Low at h;rw[Array.all_eq_true']at h⊢;intro c hc;have:=of_decide_eq_true (h c hc);exact decide_eq_true (by omega)
theorem qdy{x:Th}(h:PcForm x):PySem.W.kqdOk 6 (thD x)=true:=by
 cases x with
 | int n=>cases h
 | tri s x t =>
   cases s<;>cases x<;>first | (exfalso;exact h) | skip
   · have:=qd0 h.1
     simp[thD,thgD,PySem.W.kqdOk,this,qcI]
   · have:=qd0 h.1
     simp[thD,thgD,PySem.W.kqdOk,this,qcI]
   · simp[thD,thgD,PySem.W.kqdOk,qcI]
   · have:=qd0 h.1
     simp[thD,thgD,PySem.W.kqdOk,this,qcI]
structure Raw(d:Nd):Prop where
 nm:Low d.nm∧d.nm.length≤1000
 mks:qfr d.mks
 ok:∀x∈d.st,PySem.W.kqdOk 6 (thD x)=true
 st:qfW d.k d.st
theorem raw_ok{d:Nd}(h:Raw d):PySem.W.kqdOk 8 (ndD d)=true:=by
 have h1:=qd0 h.nm.1;have h2:∀m∈d.mks,PyData.strOk m=true:=fun m hm=>qd0 (h.mks.1 m hm).1
 simp only[ndD,PySem.W.kqdOk,List.all_cons,List.all_nil,Bool.and_true,Bool.and_eq_true,List.all_eq_true,List.mem_map];refine⟨trivial,qfL _,h1,?_,?_⟩
 ·rintro x ⟨m,hm,rfl⟩;exact h2 m hm
 ·rintro x ⟨m,hm,rfl⟩;exact h.ok m hm
theorem qfi{ds:List Nd}(h:∀d∈ds,Raw d):PySem.W.kqdOk 9 (bkD ds)=true:=by
 simp only[bkD,PySem.W.kqdOk,List.all_eq_true,List.mem_map];rintro x ⟨d,hd,rfl⟩;exact raw_ok (h d hd)
def qd4(d:Nd):Prop:=-1≤d.e∧d.e≤60∧d.k∈kindsAll∧Form d
def Hang(ds:List Nd)(n:Nat)(d:Nd):Prop:=(n=0∧d.e=-1)∨(0<n∧∃j m:Nat,d.e=(j:Int)∧j<n∧Up ds (n-1) j m)
structure TreeOk(ds:List Nd)(n:Nat)(d:Nd):Prop where
 body:d.k=.body↔n=0
 up:Hang ds n d
 lev:∃u,u≤6∧Lev ds n u
structure GoodX(ds:List Nd):Prop where
 ge:1≤ds.length
 le:ds.length≤60
 form:∀d∈ds,qd4 d
 tree:∀(n:Nat) (d:Nd),ds[n]?=some d→TreeOk ds n d
 held:∀(n:Nat) (d:Nd),ds[n]?=some d→Holds d.k (kk ds n) d.st
 names:Names ds
theorem once_nodup:∀{ks:List Str},(once ks).length=ks.length→ks.Nodup:=by
 have le:∀(ks l:List Str),(ks.foldl one1 l).length≤l.length+ks.length:=by
  intro ks
  induction ks with
  | nil=>intro l;simp
  | cons k ks ih =>
    intro l
    have h1:(one1 l k).length≤l.length+1:=by
      unfold one1
      split<;>simp
    have:=ih (one1 l k)
    rw[List.foldl_cons,List.length_cons]
    omega
 have main:∀(ks l:List Str),l.Nodup→(ks.foldl one1 l).length=l.length+ks.length→(l++ks).Nodup:=by
  intro ks
  induction ks with
  | nil=>intro l hl _;simpa using hl
  | cons k ks ih =>
    intro l hl h
    rw[List.foldl_cons,List.length_cons]at h
    by_cases hk:k∈l
    · have e:one1 l k=l:=by unfold one1;simp[hk]
      rw[e]at h
      have:=le ks l
      omega
    · have e:one1 l k=l++[k]:=by unfold one1;simp[hk]
      rw[e]at h
      have nd:(l++[k]).Nodup:=by
        rw[List.nodup_append]
        exact⟨hl,by simp,fun a ha b hb=>by rintro rfl;simp at hb;subst hb;exact hk ha⟩
      have:=ih (l++[k]) nd (by rw[List.length_append,List.length_singleton];omega)
      simpa using this
 intro ks h;have h':(ks.foldl one1 []).length=ks.length:=h;have:=main ks [] (by simp) (by rw[h'];simp);simpa using this
end Bk
namespace Gen
open PySem L2 Bk
def spPiecesX:Sp:=fun vs H Q _=>∃(s:Addr) (st:List Th) (N:Addr→Prop),vs=[.ref s]∧StAt N H s st∧(∀x∈st,PcForm x)∧st.length≤500∧∀b H',Same H H'→(b=true↔qbt st)→Q (.bl b) H'
def spStuffX:Sp:=fun vs H Q _=>∃(k:Kd) (s:Addr) (st:List Th) (N:Addr→Prop),vs=[.str k.s,.ref s]∧StAt N H s st∧qfW k st∧∀b H',Same H H'→(b=true↔Stuff k st)→Q (.bl b) H'
def spMarksX:Sp:=fun vs H Q _=>∃(m:Addr) (mks:List Str),vs=[.ref m]∧H m=some (.lst (mks.map V.str))∧qfr mks∧∀b H',Same H H'→(b=true↔qcm mks)→Q (.bl b) H'
def spFormX:Sp:=fun vs H Q _=>∃(a:Addr) (d:Nd) (N:Addr→Prop),vs=[.ref a]∧NdAt N H a d∧Raw d∧∀(t:Str) (H':Hp),Same H H'→t.length≤200→(t=noName↔qd4 d)→Q (.str t) H'
def qdX(C:Addr):Sp:=fun vs H Q E=>∃(n:Int) (t:Str),vs=[.int n,.str t]∧n.natAbs<1000∧t.length≤200∧((t=noName∧Q .non H)∨(t≠noName∧E (.ref C) none H))
def spUnlikeX:Sp:=fun vs H Q _=>∃(l:Addr) (ks:List Str),vs=[.ref l]∧H l=some (.lst (ks.map V.str))∧ks.length≤1000∧∀b H',Same H H'→(b=true↔ks.Nodup)→Q (.bl b) H'
def spMayX:Sp:=fun vs H Q _=>∃e k:Kd,vs=[.str e.s,.str k.s]∧e∈kindsAll∧Q (.bl (mayHold e k)) H
def qfD(ds:List Nd)(n:Nat):Prop:=0<n→∃u,u≤6∧Lev ds (n-1) u
def spHangsX:Sp:=fun vs H Q _=>∃(p:Addr) (n:Nat) (d:Nd) (ds:List Nd) (N:Addr→Prop),vs=[.ref p,.int n]∧qbh N H p ds∧ds[n]?=some d∧qfD ds n∧∀b H',Same H H'→(b=true↔Hang ds n d)→Q (.bl b) H'
def spTreeX:Sp:=fun vs H Q _=>∃(p:Addr) (n:Nat) (d:Nd) (ds:List Nd) (N:Addr→Prop),vs=[.ref p,.int n]∧qbh N H p ds∧ds[n]?=some d∧(∀i c,i<n→ds[i]?=some c→TreeOk ds i c)∧∀(t:Str) (H':Hp),Same H H'→t.length≤200→(t=noName↔TreeOk ds n d)→Q (.str t) H'
def spHeldX:Sp:=fun vs H Q _=>∃(p:Addr) (n:Nat) (d:Nd) (ds:List Nd) (N:Addr→Prop),vs=[.ref p,.int n]∧qbh N H p ds∧ds.length≤100∧ds[n]?=some d∧(∀c∈ds,qd4 c)∧∀(t:Str) (H':Hp),Same H H'→t.length≤200→(t=noName↔Holds d.k (kk ds n) d.st)→Q (.str t) H'
end Gen
namespace L2
open PySem PySem.Spec PyProof.Rows
end L2
namespace Bk
open PySem L2
structure Rl where
 rank:Int
 k:Str
 wi:Str
 mrk:Str
 sets:List (Str×Int)
def SetAt(N:Addr→Prop)(H:Hp)(v:V)(y:Str×Int):Prop:=∃a,v=.ref a∧N a∧H a=some (.tup [.str y.1,.int y.2])
structure RlAt(N:Addr→Prop)(H:Hp)(r:Addr)(x:Rl):Prop where
 nr:N r
 ex:∃s vs,H r=some (.tup [.int x.rank,.str x.k,.str x.wi,.str x.mrk,.ref s])∧N s∧H s=some (.lst vs)∧Paired (SetAt N H) vs x.sets
theorem SetAt.keep{N N':Addr→Prop}{H H':Hp}{v:V}{y:Str×Int}(h:SetAt N H v y)(k:KeepN N H H')(sub:∀b,N b→(H b).isSome=true→N' b):SetAt N' H' v y:=by
 obtain⟨a,e,n,g⟩:=h;exact⟨a,e,sub a n (by rw[g];rfl),k _ _ n g⟩
theorem RlAt.keep{N N':Addr→Prop}{H H':Hp}{r:Addr}{x:Rl}(h:RlAt N H r x)(k:KeepN N H H')(sub:∀b,N b→(H b).isSome=true→N' b):RlAt N' H' r x:=by
 obtain⟨nr,s,vs,e1,ns,e2,p⟩:=h;exact⟨sub r nr (by rw[e1];rfl),s,vs,k _ _ nr e1,sub s ns (by rw[e2];rfl),k _ _ ns e2,p.mono fun v y q=>q.keep k sub⟩
def props:List (Str×Int×Int×Int):=[("face",0,99,0),("align",0,3,0),("above",0,400,0),("inset",0,400,0),("weight",1,9,1),("least",0,4000,0),("most",0,4000,4000),("columns",1,6,2),("span",1,6,1),("deep",1,4,1),("side",0,1,0),("wide",1,4000,100),("fresh",0,1,0)].map fun y=>(Str.ofString y.1,y.2.1,y.2.2.1,y.2.2.2)
def SetOk(y:Str×Int):Prop:=∃z∈props,z.1=y.1∧z.2.1≤y.2∧y.2≤z.2.2.1
def ruleKinds:List Str:=["", "", "", "text", "head", "case", "shelf", "grid", "picture", "aside", "note", "body"].map Str.ofString
def ruleMarks:List Str:=["", "", "big", "red", "far", "of", "small"].map Str.ofString
structure RlOk(x:Rl):Prop where
 r0:0≤x.rank
 r9:x.rank≤9
 k:x.k∈ruleKinds
 wi:x.wi∈ruleKinds
 mrk:x.mrk∈ruleMarks
 ne:x.sets≠[]
 le:x.sets.length≤13
 ok:∀y∈x.sets,SetOk y
 nd:(x.sets.map (·.1)).Nodup
end Bk
namespace Bk
open PySem L2
open PySem.W (Dat kqdOk)
theorem rk_str:∀k∈ruleKinds,PyData.strOk k=true:=by decide +kernel
theorem rm_str:∀k∈ruleMarks,PyData.strOk k=true:=by decide +kernel
theorem pr_str:∀z∈props,PyData.strOk z.1=true:=by decide +kernel
end Bk
namespace Gen
open PySem L2 Bk
end Gen
namespace L2
open PySem PySem.Spec PyProof.Rows
section
variable{κ:Type}[DecidableEq κ]
def valV(kvs:List (κ×V))(k:κ):Option V:=(kvs.find? fun kv=>decide (kv.1=k)).map (·.2)
def putK(kvs:List (κ×V))(k:κ)(v:V):List (κ×V) :=
 if(kvs.any fun kv=>decide (kv.1=k))=true then kvs.map (fun kv=>if kv.1=k then(kv.1,v)else kv)else kvs++[(k,v)]
def qf4(kvs:List (κ×V))(k:κ):List (κ×V):=kvs.filter fun kv=>decide (kv.1≠k)
theorem qdq{p:κ×V}{r:List (κ×V)}{k:κ}(e:p.1=k):valV (p::r) k=some p.2:=by simp[valV,List.find?_cons,e]
theorem qdw{p:κ×V}{r:List (κ×V)}{k:κ}(e:¬p.1=k):valV (p::r) k=valV r k:=by simp[valV,List.find?_cons,e]
theorem qeu(k:κ):∀kvs:List (κ×V),(kvs.any fun kv=>decide (kv.1=k))=(valV kvs k).isSome
 | []=>rfl
 | p :: r => by
   rw[List.any_cons]
   by_cases e:p.1=k
   · simp only[qdq e,decide_eq_true e,Bool.true_or,Option.isSome_some]
   · rw[qdw e,decide_eq_false e,Bool.false_or];exact qeu k r
theorem RelO.isSome_eq{o:Option V}{u:Option Value}(r:RelO o u):o.isSome=u.isSome:=by
 cases o with
 | none => cases u with
   | none=>rfl
   | some _=>exact(show False from r).elim
 | some _ => cases u with
   | none=>exact(show False from r).elim
   | some _=>rfl
theorem RelO.getD{o:Option V}{u:Option Value}{d:V}{d':Value}(r:RelO o u)(rd:RelV d d'):RelV (o.getD d) (u.getD d'):=by
 cases o with
 | none => cases u with
   | none=>exact rd
   | some _=>exact(show False from r).elim
 | some _ => cases u with
   | none=>exact(show False from r).elim
   | some _=>exact r
theorem KV.val{kvs:List (κ×V)}{vs:List (κ×Value)}(r:KV kvs vs)(k:κ):RelO (valV kvs k) (valueAt vs k):=by
 unfold KV at r
 induction r with
 | nil=>exact True.intro
 | @cons p q ps qs h t ih =>
   obtain⟨h1,h2⟩:=h
   by_cases e:p.1=k
   · have e':q.1=k:=h1.symm.trans e
     have b:valueAt (q::qs) k=some q.2:=by simp[valueAt,List.find?_cons,e']
     rw[qdq e,b];exact h2
   · have e':¬q.1=k:=fun z=>e (h1.trans z)
     have b:valueAt (q::qs) k=valueAt qs k:=by simp[valueAt,List.find?_cons,e']
     rw[qdw e,b];exact ih
theorem KV.any{kvs:List (κ×V)}{vs:List (κ×Value)}(r:KV kvs vs)(k:κ):(kvs.any fun kv=>decide (kv.1=k))=vs.any fun kv=>decide (kv.1=k):=by
 unfold KV at r
 induction r with
 | nil=>rfl
 | cons h t ih=>rw[List.any_cons,List.any_cons,ih,h.1]
theorem KV.repl{kvs:List (κ×V)}{vs:List (κ×Value)}(r:KV kvs vs)(k:κ){y:V}{u:Value}(ry:RelV y u) :
  KV (kvs.map fun kv=>if kv.1=k then(kv.1,y)else kv) (vs.map fun kv=>if kv.1=k then(kv.1,u)else kv):=by
 unfold KV at r⊢
 induction r with
 | nil=>exact .nil
 | @cons p q ps qs h t ih =>
   rw[List.map_cons,List.map_cons]
   refine .cons ?_ ih
   obtain⟨h1,h2⟩:=h
   by_cases e:p.1=k
   · rw[if_pos e,if_pos (h1.symm.trans e)];exact⟨h1,ry⟩
   · rw[if_neg e,if_neg (fun z=>e (h1.trans z))];exact⟨h1,h2⟩
theorem KV.put{kvs:List (κ×V)}{vs:List (κ×Value)}(r:KV kvs vs)(k:κ){y:V}{u:Value}(ry:RelV y u):KV (putK kvs k y) (stored vs k u):=by
 unfold putK stored;rw[r.any k]
 by_cases e:(vs.any fun kv=>decide (kv.1=k))=true
 ·rw[if_pos e,if_pos e];exact r.repl k ry
 ·rw[if_neg e,if_neg e];exact Paired.snoc r ⟨rfl,ry⟩
theorem KV.drop{kvs:List (κ×V)}{vs:List (κ×Value)}(r:KV kvs vs)(k:κ):KV (qf4 kvs k) (without vs k):=by
 unfold KV at r⊢;unfold qf4 without
 induction r with
 | nil=>exact .nil
 | @cons p q ps qs h t ih =>
   obtain⟨h1,h2⟩:=h
   rw[List.filter_cons,List.filter_cons]
   by_cases e:p.1=k
   · have a:¬decide (p.1≠k)=true:=by simp[e]
     have b:¬decide (q.1≠k)=true:=by simp[h1.symm.trans e]
     rw[if_neg a,if_neg b];exact ih
   · have e':¬q.1=k:=fun z=>e (h1.trans z)
     have a:decide (p.1≠k)=true:=by simp[e]
     have b:decide (q.1≠k)=true:=by simp[e']
     rw[if_pos a,if_pos b];exact .cons ⟨h1,h2⟩ ih
theorem KV.length{kvs:List (κ×V)}{vs:List (κ×Value)}(r:KV kvs vs):kvs.length=vs.length:=Paired.length r
end
abbrev KT(H:Hp):List (List Key×V)→List (List Key×Addr×Value)→Prop:=Paired fun p q=>p.1=q.1∧H q.2.1=some (.tup (p.1.map kV))∧RelV p.2 q.2.2
theorem KT.val{H:Hp}{kvs:List (List Key×V)}{xs:List (List Key×Addr×Value)}(r:KT H kvs xs)(k:List Key):RelO (valV kvs k) ((atKey xs k).map (·.2)):=by
 induction r with
 | nil=>exact True.intro
 | @cons p q ps qs h t ih =>
   obtain⟨h1,_,h2⟩:=h
   by_cases e:p.1=k
   · have e':q.1=k:=h1.symm.trans e
     have b:atKey (q::qs) k=some q.2:=by simp[atKey,List.find?_cons,e']
     rw[qdq e,b];exact h2
   · have e':¬q.1=k:=fun z=>e (h1.trans z)
     have b:atKey (q::qs) k=atKey qs k:=by simp[atKey,List.find?_cons,e']
     rw[qdw e,b];exact ih
theorem KT.repl{H:Hp}{kvs:List (List Key×V)}{xs:List (List Key×Addr×Value)}(r:KT H kvs xs)(k:List Key){y:V}{u:Value}(ry:RelV y u) :
  KT H (kvs.map fun kv=>if kv.1=k then(kv.1,y)else kv) (xs.map (putAt k u)):=by
 induction r with
 | nil=>exact .nil
 | @cons p q ps qs h t ih =>
   rw[List.map_cons,List.map_cons]
   refine .cons ?_ ih
   obtain⟨h1,h2,h3⟩:=h
   unfold putAt
   by_cases e:p.1=k
   · rw[if_pos e,if_pos (h1.symm.trans e)];exact⟨h1,h2,ry⟩
   · rw[if_neg e,if_neg (fun z=>e (h1.trans z))];exact⟨h1,h2,h3⟩
theorem KT.put{H:Hp}{kvs:List (List Key×V)}{xs:List (List Key×Addr×Value)}(r:KT H kvs xs)(k:List Key){b:Addr}{y:V}{u:Value}(hb:H b=some (.tup (k.map kV)))(ry:RelV y u) :
  KT H (putK kvs k y) (storedH xs k b u):=by
 have e:(kvs.any fun kv=>decide (kv.1=k))=(atKey xs k).isSome:=by
  rw[qeu,(r.val k).isSome_eq,Option.isSome_map]
 unfold putK storedH;rw[e]
 by_cases q:(atKey xs k).isSome=true
 ·rw[if_pos q,if_pos q];exact r.repl k ry
 ·rw[if_neg q,if_neg q];exact Paired.snoc r ⟨rfl,hb,ry⟩
theorem KT.keeps{H H':Hp}{kvs:List (List Key×V)}{xs:List (List Key×Addr×Value)}(r:KT H kvs xs)(ht:∀b ys,H b=some (.tup ys)→H' b=some (.tup ys)):KT H' kvs xs :=
 Paired.mapP r fun _ _ z=>⟨z.1,ht _ _ z.2.1,z.2.2⟩
def DGet(H:Hp)(a:Addr)(y:V)(r:Option V):Prop :=
 (∃kvs k,Rd H a (.dK kvs)∧y=kV k∧r=valV kvs k)∨∃kvs k b,Rd H a (.dT kvs)∧y=.ref b∧H b=some (.tup (k.map kV))∧r=valV kvs k
def DPut(H:Hp)(a:Addr)(y v:V)(H':Hp):Prop :=
 (∃kvs k,H a=some (.dK kvs)∧y=kV k∧kvs.length<sizeLine∧H'=upd H a (.dK (putK kvs k v))) ∨
 ∃kvs k b,H a=some (.dT kvs)∧y=.ref b∧H b=some (.tup (k.map kV))∧kvs.length<sizeLine∧H'=upd H a (.dT (putK kvs k v))
theorem DGet.k{H:Hp}{a:Addr}{kvs:List (Key×V)}{k:Key}(e:H a=some (.dK kvs)):DGet H a (kV k) (valV kvs k):=.inl ⟨kvs,k,.inl e,rfl,rfl⟩
theorem DGet.t{H:Hp}{a b:Addr}{kvs:List (List Key×V)}{k:List Key}(e:H a=some (.dT kvs))(eb:H b=some (.tup (k.map kV))):DGet H a (.ref b) (valV kvs k):=.inr ⟨kvs,k,b,.inl e,rfl,eb,rfl⟩
theorem DPut.k{H:Hp}{a:Addr}{kvs:List (Key×V)}{k:Key}{v:V}(e:H a=some (.dK kvs))(hl:kvs.length<sizeLine):DPut H a (kV k) v (upd H a (.dK (putK kvs k v))):=.inl ⟨kvs,k,e,rfl,hl,rfl⟩
theorem DPut.t{H:Hp}{a b:Addr}{kvs:List (List Key×V)}{k:List Key}{v:V}(e:H a=some (.dT kvs))(eb:H b=some (.tup (k.map kV)))(hl:kvs.length<sizeLine) :
  DPut H a (.ref b) v (upd H a (.dT (putK kvs k v))):=.inr ⟨kvs,k,b,e,rfl,eb,hl,rfl⟩
section
variable{X:Cx}{pins:List (Addr×Obj)}{σ:St}{H:Hp}{s:Shared}{a:Addr}{y v:V}{u r:Value}{o:Option V}{A:Around}{E:Value→Shared→Prop}
theorem Inv.big(I:Inv X pins σ H s):sysModules<s.heap.objs.size:=by
 have h:mainGlobals<s.heap.objs.size:=(I.mod.glob.keeps I.bk).lt;exact Nat.lt_trans (by decide) h
end
end L2
namespace Gd
open PySem L2 Gen
structure Pl where
 r:Nat
 c:Nat
 s:Nat
 d:Nat
def Pl.vs(p:Pl):List V:=[.int p.r,.int p.c,.int p.s,.int p.d]
def meet(p q:Pl):Bool:=decide (q.r<p.r+p.d∧p.r<q.r+q.d∧q.c<p.c+p.s∧p.c<q.c+q.s)
def free(ps:List Pl)(q:Pl):Bool:=ps.all fun p=>!meet p q
structure First(ps:List Pl)(cols s d:Nat)(q:Pl):Prop where
 es:q.s=s
 ed:q.d=d
 ec:q.c+s≤cols
 fr:free ps q=true
 lc:∀c,c<q.c→free ps ⟨q.r,c,s,d⟩=false
 lr:∀r,r<q.r→∀c,c+s≤cols→free ps ⟨r,c,s,d⟩=false
def PsOk(cols:Nat)(ps:List Pl):Prop:=∀p∈ps,1≤p.s∧1≤p.d∧p.d≤4∧p.s≤6∧p.r+p.d≤4*ps.length∧p.c+p.s≤cols
theorem PsOk.one{cols:Nat}{ps:List Pl}(ok:PsOk cols ps):∀p∈ps,1≤p.s∧1≤p.d:=fun p hp=>⟨(ok p hp).1,(ok p hp).2.1⟩
theorem free_low{cols:Nat}{ps:List Pl}(ok:PsOk cols ps){r c s d:Nat}(h:4*ps.length≤r):free ps ⟨r,c,s,d⟩=true:=by
 refine List.all_eq_true.mpr fun p hp=>?_
 have h1:=ok p hp;have:meet p ⟨r,c,s,d⟩=false:=decide_eq_false fun z=>by
  have z1:r<p.r+p.d:=z.1;omega
 rw[this];rfl
theorem First.row{ps:List Pl}{cols s d:Nat}{q:Pl}(a:First ps cols s d q)(ok:PsOk cols ps)(hs:s≤cols):q.r≤4*ps.length:=by
 refine Nat.le_of_not_lt fun z=>?_
 have h1:=a.lr _ z 0 (by omega);rw[free_low ok (Nat.le_refl _)]at h1;cases h1
theorem PsOk.snoc{ps:List Pl}{cols s d:Nat}{q:Pl}(ok:PsOk cols ps)(a:First ps cols s d q)(s1:1≤s)(s2:s≤cols)(s3:cols≤6)(d1:1≤d)(d2:d≤4):PsOk cols (ps++[q]):=by
 intro p hp;rw[List.length_append,List.length_singleton];rcases List.mem_append.mp hp with h | h
 ·have:=ok p h;omega
 ·have e:p=q:=by simpa using h
  have h1:=a.row ok s2;have h2:=a.es;have h3:=a.ed;have h4:=a.ec;subst e;omega
inductive Placed(cols:Nat):List (Nat×Nat)→List Pl→Prop
 | nil:Placed cols [] []
 | snoc {cs:List (Nat×Nat)} {ps:List Pl} {x:Nat×Nat} {q:Pl}:Placed cols cs ps→First ps cols (min x.1 cols) x.2 q→Placed cols (cs++[x]) (ps++[q])
theorem Placed.len{cols:Nat}{cs:List (Nat×Nat)}{ps:List Pl}(a:Placed cols cs ps):ps.length=cs.length:=by
 induction a with
 | nil=>rfl
 | snoc _ _ ih=>rw[List.length_append,List.length_append,ih];rfl
def TupAt(H:Hp)(a:Addr)(x:Nat×Nat):Prop:=H a=some (.tup [.int x.1,.int x.2])
def PlAt(H:Hp)(a:Addr)(p:Pl):Prop:=H a=some (.tup p.vs)
def LstAt{β:Type}(F:Hp→Addr→β→Prop)(H:Hp)(L:Addr)(xs:List β):Prop:=∃as:List Addr,H L=some (.lst (as.map V.ref))∧Paired (F H) as xs
def Tups(H H':Hp):Prop:=∀b xs,H b=some (.tup xs)→H' b=some (.tup xs)
theorem Tups.of{H H':Hp}(s:Same H H'):Tups H H':=fun b _ e=>s b _ e
theorem Tups.trans{H H1 H2:Hp}(a:Tups H H1)(b:Tups H1 H2):Tups H H2:=fun c xs e=>b c xs (a c xs e)
theorem Tups.lst{H:Hp}{L:Addr}{ys:List V}{o:HO}(h:H L=some (.lst ys)):Tups H (upd H L o):=fun b xs e=>by
 rw[qax (fun z=>by rw[z,h]at e;cases e)];exact e
theorem TupAt.keep{H H':Hp}(t:Tups H H'){a:Addr}{x:Nat×Nat}(h:TupAt H a x):TupAt H' a x:=t _ _ h
theorem PlAt.keep{H H':Hp}(t:Tups H H'){a:Addr}{x:Pl}(h:PlAt H a x):PlAt H' a x:=t _ _ h
theorem tups_keep{H H':Hp}(t:Tups H H'){as:List Addr}{xs:List (Nat×Nat)}(h:Paired (TupAt H) as xs):Paired (TupAt H') as xs:=h.mono fun _ _ z=>t _ _ z
theorem pls_keep{H H':Hp}(t:Tups H H'){as:List Addr}{xs:List Pl}(h:Paired (PlAt H) as xs):Paired (PlAt H') as xs:=h.mono fun _ _ z=>t _ _ z
theorem LstAt.tup{H H':Hp}(s:Same H H'){L:Addr}{xs:List (Nat×Nat)}(h:LstAt TupAt H L xs):LstAt TupAt H' L xs:=by
 obtain⟨as,e,p⟩:=h;exact⟨as,s _ _ e,tups_keep (.of s) p⟩
theorem LstAt.pl{H H':Hp}(s:Same H H'){L:Addr}{xs:List Pl}(h:LstAt PlAt H L xs):LstAt PlAt H' L xs:=by
 obtain⟨as,e,p⟩:=h;exact⟨as,s _ _ e,pls_keep (.of s) p⟩
theorem LstAt.len{β:Type}{F:Hp→Addr→β→Prop}{H:Hp}{L:Addr}{as:List Addr}{xs:List β}(h:Paired (F H) as xs):(as.map V.ref).length=xs.length:=by rw[List.length_map];exact Paired.length h
structure BnG(mg:Str→Option Value):Prop where
 isinstance:mg "isinstance" = none
 len:mg "len" = none
 range:mg "range" = none
 int:mg "int" = none
 bool:mg "bool" = none
 list:mg "list" = none
 tuple:mg "tuple" = none
 any:mg "any" = none
 min:mg "min" = none
 max:mg "max" = none
 sum:mg "sum" = none
 zip:mg "zip" = none
structure NumsG(mg:Str→Option Value):Prop where
 row:∃t,mg "ROW" = some (.int 0 t)
 column:∃t,mg "COLUMN" = some (.int 1 t)
 span:∃t,mg "SPAN" = some (.int 2 t)
 deep:∃t,mg "DEEP" = some (.int 3 t)
end Gd
namespace L2
open PySem PySem.Spec PyProof.Rows
end L2
namespace Gen
open PySem L2 Bk
structure BnX(mg:Str→Option Value):Prop extends Bn mg where
 any:mg "any" = none
 min:mg "min" = none
 max:mg "max" = none
 sum:mg "sum" = none
 zip:mg "zip" = none
end Gen
namespace L2
open PySem PySem.Spec PyProof.Rows
end L2
namespace L2
open PySem PySem.Spec PyProof.Rows
end L2
namespace Bk
open PySem L2
def propNames:List Str:=props.map (·.1)
structure RlForm(x:Rl):Prop where
 low:Low x.mrk
 le:x.mrk.length≤1000
 sl:x.sets.length≤100
theorem rm_low:∀k∈ruleMarks,k.cps.all (·< 128)=true∧k.length≤1000:=by decide +kernel
structure RlNew(M N:Addr→Prop)(H:Hp)(r:Addr)(x:Rl):Prop where
 nr:M r
 ex:∃s vs,H r=some (.tup [.int x.rank,.str x.k,.str x.wi,.str x.mrk,.ref s])∧M s∧H s=some (.lst vs)∧Paired (SetAt N H) vs x.sets
theorem RlNew.keep{M N M':Addr→Prop}{H H':Hp}{r:Addr}{x:Rl}(h:RlNew M N H r x)(s:Same H H')(sub:∀b,M b→M' b):RlNew M' N H' r x:=by
 obtain⟨nr,l,vs,e1,nl,e2,p⟩:=h;exact⟨sub _ nr,l,vs,s _ _ e1,sub _ nl,s _ _ e2,p.mono fun v y q=>q.keep s.keep fun _ n _=>n⟩
theorem RlNew.at{M N:Addr→Prop}{H:Hp}{r:Addr}{x:Rl}(h:RlNew M N H r x):RlAt (fun _=>True) H r x:=by
 obtain⟨nr,l,vs,e1,nl,e2,p⟩:=h;exact⟨trivial,l,vs,e1,trivial,e2,p.mono fun v y q=>q.keep KeepN.refl fun _ _ _=>trivial⟩
theorem RlNew.ne{M N:Addr→Prop}{H:Hp}{r p:Addr}{x:Rl}(h:RlNew M N H r x)(hp:H p=none):RlNew (fun b=>M b∧b≠p) N H r x:=by
 obtain⟨nr,l,vs,e1,nl,e2,q⟩:=h;exact⟨⟨nr,qar e1 hp⟩,l,vs,e1,⟨nl,qar e2 hp⟩,e2,q⟩
def RlStr(x:Rl):Prop:=PyData.strOk x.k=true∧PyData.strOk x.wi=true∧PyData.strOk x.mrk=true∧∀y∈x.sets,PyData.strOk y.1=true
theorem RlOk.str{x:Rl}(h:RlOk x):RlStr x:=⟨rk_str _ h.k,rk_str _ h.wi,rm_str _ h.mrk,fun y hy=>by
 obtain⟨z,hz,e,_⟩:=h.ok y hy;have:=pr_str z hz;rw[e]at this;exact this⟩
theorem RlOk.form{x:Rl}(h:RlOk x):RlForm x:=⟨(rm_low _ h.mrk).1,(rm_low _ h.mrk).2,Nat.le_trans h.le (by decide)⟩
end Bk
namespace L2
open PySem PySem.Spec PyProof.Rows
end L2
namespace Gen
open PySem L2 Bk
end Gen
namespace Bd
open PySem L2 Bk Gen Gd
structure Un where
 w:Int
 b:Int
 h:Int
 k:Int
def lkA(ls:List (List Int))(n i:Nat):Int:=((ls[n]?).getD []).getD i 0
def usA(us:List (List Un))(n:Nat):List Un:=(us[n]?).getD []
def kidsN(ds:List Nd)(n:Nat):List Nat:=(List.range ds.length).filter fun j=>decide (ds[j]?.map Nd.e=some (n:Int))
def qen(us:List Un):Int:=(us.map Un.w).sum+(us.dropLast.map Un.b).sum
section
variable{ds:List Nd}{ls:List (List Int)}
def Behind(ds:List Nd):Prop:=∀(m:Nat) (d:Nd),ds[m]?=some d→d.e<(m:Int)
end
theorem _root_.PySem.Paired.set{α β:Type}{F:α→β→Prop}{l1:List α}{l2:List β}(h:Paired F l1 l2){a:α}{b:β}(q:F a b):∀i,Paired F (l1.set i a) (l2.set i b):=by
 induction h with
 | nil=>intro i;exact .nil
 | cons q' t ih =>
   intro i
   cases i with
   | zero=>exact .cons q t
   | succ i=>exact .cons q' (ih i)
def PrAt(H:Hp)(a:Addr)(x:Int×Int):Prop:=H a=some (.tup [.int x.1,.int x.2])
def LkAt(H:Hp)(a:Addr)(l:List Int):Prop:=H a=some (.lst (l.map V.int))
def UnAt(H:Hp)(a:Addr)(u:Un):Prop:=∃nl,H a=some (.tup [.int u.w,.int u.b,.int u.h,.int u.k,.ref nl])∧H nl=some (.lst [])
def RowAt(H:Hp)(a:Addr)(r:List Un):Prop:=LstAt UnAt H a r
theorem PrAt.same{H H':Hp}(s:Same H H'){a:Addr}{x:Int×Int}(h:PrAt H a x):PrAt H' a x:=s _ _ h
theorem LkAt.same{H H':Hp}(s:Same H H'){a:Addr}{x:List Int}(h:LkAt H a x):LkAt H' a x:=s _ _ h
theorem UnAt.same{H H':Hp}(s:Same H H'){a:Addr}{x:Un}(h:UnAt H a x):UnAt H' a x:=by
 obtain⟨nl,h1,h2⟩:=h;exact⟨nl,s _ _ h1,s _ _ h2⟩
theorem qdo{β:Type}{F:Hp→Addr→β→Prop}{H H':Hp}(hF:∀a x,F H a x→F H' a x)(s:Same H H'){L:Addr}{xs:List β}(h:LstAt F H L xs):LstAt F H' L xs:=by
 obtain⟨as,e,p⟩:=h;exact⟨as,s _ _ e,p.mono hF⟩
theorem RowAt.same{H H':Hp}(s:Same H H'){a:Addr}{x:List Un}(h:RowAt H a x):RowAt H' a x:=qdo (fun _ _=>UnAt.same s) s h
theorem looks_same{H H':Hp}(s:Same H H'){p:Addr}{ls:List (List Int)}(h:LstAt LkAt H p ls):LstAt LkAt H' p ls:=qdo (fun _ _=>LkAt.same s) s h
theorem units_same{H H':Hp}(s:Same H H'){p:Addr}{us:List (List Un)}(h:LstAt RowAt H p us):LstAt RowAt H' p us:=qdo (fun _ _=>RowAt.same s) s h
structure In(H:Hp)(B Lk U:Addr)(ds:List Nd)(ls:List (List Int))(us:List (List Un)):Prop where
 bk:qbh (fun _=>True) H B ds
 lk:LstAt LkAt H Lk ls
 un:LstAt RowAt H U us
theorem In.same{H H':Hp}{B Lk U:Addr}{ds:List Nd}{ls:List (List Int)}{us:List (List Un)}(h:In H B Lk U ds ls us)(s:Same H H'):In H' B Lk U ds ls us:=by
 obtain⟨as,e,nd⟩:=h.bk;exact⟨⟨as,s _ _ e,nd.keep s.keep fun _ _ _=>trivial⟩,looks_same s h.lk,units_same s h.un⟩
structure LkOk(l:List Int):Prop where
 len:l.length=13
 ins:0≤l.getD 3 0
 least:0≤l.getD 5 0
 most:0≤l.getD 6 0
 cols:1≤l.getD 7 0∧l.getD 7 0≤6
 span:1≤l.getD 8 0∧l.getD 8 0≤6
 wide:0≤l.getD 11 0
structure Ctx(ds:List Nd)(ls:List (List Int))(us:List (List Un)):Prop where
 le:ds.length≤100
 ll:ls.length=ds.length
 ul:us.length=ds.length
 lk:∀l∈ls,LkOk l
 pos:∀r∈us,r.length≤100∧∀u∈r,0≤u.w∧0≤u.b
 un:∀(n:Nat) (d:Nd),ds[n]?=some d→(d.k=.text∨d.k=.head∨d.k=.note)→usA us n≠[]
 pic:∀(n:Nat) (d:Nd),ds[n]?=some d→d.k=.picture→∃a b:Int,d.st=[.int a,.int b]∧0≤a
 gr:∀(n:Nat) (d:Nd),ds[n]?=some d→d.k=.grid→kidsN ds n≠[]
 bh:Behind ds
theorem Ctx.look{ds:List Nd}{ls:List (List Int)}{us:List (List Un)}(c:Ctx ds ls us){n:Nat}(h:n<ds.length):∃l,ls[n]?=some l∧LkOk l∧∀i,lkA ls n i=l.getD i 0:=by
 have hl:n<ls.length:=by rw[c.ll];exact h
 refine⟨ls[n],List.getElem?_eq_getElem hl,c.lk _ (List.getElem_mem hl),fun i=>?_⟩;unfold lkA;rw[List.getElem?_eq_getElem hl];rfl
structure PropT(K:PySem.W.Frag)(a:Addr):Prop where
 tup:∀H:Hp,SqT K H a (propNames.map V.str)
 ob:∃o,K.lookup a=some o∧o.cls=.type "tuple" ∧ o.dict=none
structure NumsB(mg:Str→Option Value):Prop where
 kind:∃t,mg "KIND" = some (.int 1 t)
 stuff:∃t,mg "STUFF" = some (.int 4 t)
 uw:∃t,mg "UNIT_WIDE" = some (.int 0 t)
 ub:∃t,mg "UNIT_BLANK" = some (.int 1 t)
 low:∃t,mg "LOW" = some (.int 0 t)
 great:∃t,mg "GREAT" = some (.int 1 t)
end Bd
namespace Bd
open PySem L2 Bk Gen Gd
def UnN(N:Addr→Prop)(H:Hp)(a:Addr)(u:Un):Prop:=∃nl,N a∧N nl∧H a=some (.tup [.int u.w,.int u.b,.int u.h,.int u.k,.ref nl])∧H nl=some (.lst [])
def RowN(N:Addr→Prop)(H:Hp)(r:Addr)(row:List Un):Prop:=N r∧∃bs,H r=some (.lst (bs.map V.ref))∧Paired (UnN N H) bs row
theorem UnN.keep{N N':Addr→Prop}{H H':Hp}{a:Addr}{u:Un}(h:UnN N H a u)(k:KeepN N H H')(sub:∀b,N b→(H b).isSome=true→N' b):UnN N' H' a u:=by
 obtain⟨nl,n1,n2,h1,h2⟩:=h;exact⟨nl,sub _ n1 (by rw[h1];rfl),sub _ n2 (by rw[h2];rfl),k _ _ n1 h1,k _ _ n2 h2⟩
theorem RowN.keep{N N':Addr→Prop}{H H':Hp}{a:Addr}{u:List Un}(h:RowN N H a u)(k:KeepN N H H')(sub:∀b,N b→(H b).isSome=true→N' b):RowN N' H' a u:=by
 obtain⟨n1,bs,h1,p⟩:=h;exact⟨sub _ n1 (by rw[h1];rfl),bs,k _ _ n1 h1,p.mono fun _ _ z=>z.keep k sub⟩
theorem RowN.row{N:Addr→Prop}{H:Hp}{a:Addr}{u:List Un}(h:RowN N H a u):RowAt H a u:=by
 obtain⟨_,bs,h1,p⟩:=h;exact⟨bs,h1,p.mono fun _ _ ⟨nl,_,_,e1,e2⟩=>⟨nl,e1,e2⟩⟩
def LkN(N:Addr→Prop)(H:Hp)(a:Addr)(l:List Int):Prop:=N a∧H a=some (.lst (l.map V.int))
theorem LkN.keep{N N':Addr→Prop}{H H':Hp}{a:Addr}{l:List Int}(h:LkN N H a l)(k:KeepN N H H')(sub:∀b,N b→(H b).isSome=true→N' b):LkN N' H' a l:=⟨sub _ h.1 (by rw[h.2];rfl),k _ _ h.1 h.2⟩
end Bd
namespace Br
open PySem L2 Bk Gen Gd Bd
def ov:Option Int→V
 | none=>.non
 | some x=>.int x
def UOk(u:Un):Prop:=1≤u.w∧u.w≤960∧0≤u.b∧u.b≤960
def cutU(us:List Un)(i j:Nat):List Un:=(us.drop i).take (j-i)
def qc3(us:List Un)(i j:Nat):Int:=qen (cutU us i j)
def blem(us:List Un)(i j:Nat)(room:Int):Option Int :=
 if room-qc3 us i j<0 then(if j-i=1 then some (1000000-(room-qc3 us i j))else none)
 else some (if j=us.length then 0 else(room-qc3 us i j)*(room-qc3 us i j))
def UnX(L:Addr)(H:Hp)(a:Addr)(u:Un):Prop:=∃nl,a≠L∧nl≠L∧H a=some (.tup [.int u.w,.int u.b,.int u.h,.int u.k,.ref nl])∧H nl=some (.lst [])
theorem UnX.at{L:Addr}{H:Hp}{a:Addr}{u:Un}(h:UnX L H a u):UnAt H a u:=by
 obtain⟨nl,_,_,h1,h2⟩:=h;exact⟨nl,h1,h2⟩
theorem UnX.same{L:Addr}{H H':Hp}(s:Same H H'){a:Addr}{u:Un}(h:UnX L H a u):UnX L H' a u:=by
 obtain⟨nl,n1,n2,h1,h2⟩:=h;exact⟨nl,n1,n2,s _ _ h1,s _ _ h2⟩
theorem UnX.put{L:Addr}{H:Hp}{o:HO}{a:Addr}{u:Un}(h:UnX L H a u):UnX L (upd H L o) a u:=by
 obtain⟨nl,n1,n2,h1,h2⟩:=h;exact⟨nl,n1,n2,by rw[qax n1];exact h1,by rw[qax n2];exact h2⟩
structure CaseOk(us:List Un)(wd:Int)(nw:Int×Int):Prop where
 ne:us≠[]
 le:us.length≤12
 ok:∀u∈us,UOk u
 w0:0≤wd
 w1:wd≤3200
 c0:0≤nw.1
 c1:nw.1≤12
 b0:0≤nw.2
 b1:nw.2≤1920
structure BnR(mg:Str→Option Value):Prop extends BnG mg where
 tw:∃t,mg "UNIT_WIDE" = some (.int 0 t)
 tb:∃t,mg "UNIT_BLANK" = some (.int 1 t)
end Br
namespace L2
open PySem PySem.Spec PyProof.Rows
end L2
namespace L2
open PySem PySem.Spec PyProof.Rows
theorem qa3{t u:TS}{D:Ends}{σ:St}{H:Hp}(P:St→Hp→Prop)(h:∀N:St→Hp→Prop,(∀σ' H',P σ' H'→N σ' H')→t {D with nx:=N} σ H)(k:∀σ' H',P σ' H'→u D σ' H'):tSeq t u D σ H:=h _ k
theorem PS.nox{X:Cx}{st:Stmt}{t:TS}(h:PS X.nox st t):PS X st t:=fun pins s σ H D I hw =>
 wpAny_mono (h pins s σ H D (I.wish _) hw) (fun _ _ q=>q.unwish) fun _ _ z=>False.elim z
end L2
namespace Br
open PySem L2 Bk Gen Gd Bd
def qdc(us:List Un)(j:Nat)(room:Int):Nat→List (Nat×Int)
 | 0=>[]
 | k + 1 => match blem us k j room with
   | none=>[]
   | some b=>(k,b)::qdc us j room k
def begs(us:List Un)(j:Nat)(room:Int):List (Nat×Int):=qdc us j room j
theorem cut_cons{us:List Un}{i j:Nat}{u:Un}(h:i<j)(e:us[i]?=some u):cutU us i j=u::cutU us (i+1) j:=by
 unfold cutU;obtain⟨hl,rfl⟩:=List.getElem?_eq_some_iff.mp e;rw[List.drop_eq_getElem_cons hl,show j-i=(j-(i+1))+1 by omega,List.take_succ_cons]
theorem great_cons{u:Un}(hb:0≤u.b)(hw:0≤u.w)(r:List Un):qen r≤qen (u::r):=by
 unfold qen;cases r with
 | nil=>simp;omega
 | cons v r=>simp;omega
theorem long_mono1{us:List Un}(ok:∀u∈us,UOk u){i j:Nat}(h:i<j)(hj:j≤us.length):qc3 us (i+1) j≤qc3 us i j:=by
 unfold qc3;have e:=List.getElem?_eq_getElem (show i<us.length by omega);obtain⟨h1,h2,h3,h4⟩:=ok _ (List.mem_of_getElem? e);rw[cut_cons h e];exact great_cons h3 (by omega) _
theorem qdH{us:List Un}(ok:∀u∈us,UOk u){j:Nat}(hj:j≤us.length){k:Nat}(hk:k≤j):∀d,d≤k→qc3 us k j≤qc3 us (k-d) j
 | 0,_=>Int.le_refl _
 | d + 1, h => by
   have h1:=qdH ok hj hk d (by omega)
   have h2:=long_mono1 ok (i:=k-(d+1)) (j:=j) (by omega) hj
   rw[show k-(d+1)+1=k-d by omega]at h2
   omega
theorem blem_none{us:List Un}(ok:∀u∈us,UOk u){i k j:Nat}{room:Int}(hj:j≤us.length)(hk:k<j)(hi:i≤k)(h:blem us k j room=none):blem us i j room=none:=by
 have h1:=qdH ok hj (k:=k) (by omega) (k-i) (by omega);rw[show k-(k-i)=i by omega]at h1;unfold blem at h⊢
 by_cases c:room-qc3 us k j<0
 ·rw[if_pos c]at h
  by_cases d:j-k=1
  ·rw[if_pos d]at h;cases h
  ·rw[if_pos (by omega),if_neg (by omega)]
 ·rw[if_neg c]at h;cases h
theorem qdi{us:List Un}(ok:∀u∈us,UOk u){j:Nat}{room:Int}(hj:j≤us.length){i:Nat}{b:Int}:∀k,k≤j→((i,b)∈qdc us j room k↔i<k∧blem us i j room=some b)
 | 0,_=>by simp[qdc]
 | k + 1, h => by
   have ih:=qdi ok hj (room:=room) (i:=i) (b:=b) k (by omega)
   unfold qdc
   cases e:blem us k j room with
   | none =>
     constructor
     · intro z;cases z
     · rintro⟨h1,h2⟩
       rw[blem_none ok hj (by omega) (show i≤k by omega) e]at h2
       cases h2
   | some b' =>
     show(i,b)∈(k,b')::qdc us j room k↔_
     rw[List.mem_cons,ih]
     constructor
     · rintro(z | ⟨h1,h2⟩)
       · cases z;exact⟨Nat.lt_succ_self _,e⟩
       · exact⟨by omega,h2⟩
     · rintro⟨h1,h2⟩
       by_cases z:i=k
       · subst z
         rw[e]at h2
         cases h2
         exact .inl rfl
       · exact .inr ⟨by omega,h2⟩
theorem mem_begs{us:List Un}(ok:∀u∈us,UOk u){j:Nat}{room:Int}(hj:j≤us.length){i:Nat}{b:Int}:(i,b)∈begs us j room↔i<j∧blem us i j room=some b:=qdi ok hj j (Nat.le_refl _)
def minL:List Int→Int
 | []=>0
 | x::l=>l.foldl min x
theorem minfold_le:∀(l:List Int) (a:Int),l.foldl min a≤a∧∀x∈l,l.foldl min a≤x
 | [],a=>⟨Int.le_refl _,fun x hx=>nomatch hx⟩
 | y :: l, a => by
   obtain⟨h1,h2⟩:=minfold_le l (min a y)
   rw[List.foldl_cons]
   refine⟨by omega,fun x hx=>?_⟩
   rcases List.mem_cons.mp hx with rfl | hx
   · omega
   · exact h2 x hx
theorem minL_le{l:List Int}:∀x∈l,minL l≤x:=by
 cases l with
 | nil=>intro x hx;cases hx
 | cons y l =>
   intro x hx
   rcases List.mem_cons.mp hx with rfl | hx
   · exact(minfold_le l x).1
   · exact(minfold_le l y).2 x hx
def oA(os:List (Option Int))(i:Nat):Option Int:=os.getD i none
def qe4(os:List (Option Int))(bs:List (Nat×Int)):List Int:=bs.filterMap fun x=>(oA os x.1).map (·+ x.2)
def qdG(os:List (Option Int))(bs:List (Nat×Int)):Option Int:=if qe4 os bs=[]then none else some (minL (qe4 os bs))
theorem mem_cands{os:List (Option Int)}{bs:List (Nat×Int)}{m:Int}:m∈qe4 os bs↔∃i b s,(i,b)∈bs∧oA os i=some s∧s+b=m:=by
 unfold qe4;rw[List.mem_filterMap];constructor
 ·rintro⟨⟨i,b⟩,h1,h2⟩;obtain⟨s,h3,h4⟩:=Option.map_eq_some_iff.mp h2;exact⟨i,b,s,h1,h3,h4⟩
 ·rintro⟨i,b,s,h1,h3,h4⟩;exact⟨(i,b),h1,by rw[h3];exact congrArg some h4⟩
theorem least_le{os:List (Option Int)}{bs:List (Nat×Int)}{m:Int}(h:m∈qe4 os bs):∃m',qdG os bs=some m'∧m'≤m:=by
 unfold qdG;rw[if_neg (fun z=>by rw[z]at h;cases h)];exact⟨_,rfl,minL_le m h⟩
def noRow(us:List Un):List (Option Int):=some 0::List.replicate us.length none
def qej(us:List Un)(room:Nat→Int):Nat→List (Option Int)
 | 0=>noRow us
 | r+1=>(List.range (us.length+1)).map fun j=>qdG (qej us room r) (begs us j (room r))
theorem sums_succ{us:List Un}{room:Nat→Int}{r j:Nat}(h:j≤us.length):oA (qej us room (r+1)) j=qdG (qej us room r) (begs us j (room r)):=by
 show((List.range (us.length+1)).map fun j=>qdG (qej us room r) (begs us j (room r))).getD j none=_;rw[List.getD_eq_getElem?_getD,List.getElem?_map,List.getElem?_range (by omega)];rfl
inductive Fw(us:List Un)(room:Nat→Int):Nat→Nat→List (Nat×Nat)→Int→Prop
 | nil {r:Nat}:Fw us room r us.length [] 0
 | cons {r i j:Nat} {b s:Int} {rest:List (Nat×Nat)}:i<j→j≤us.length→blem us i j (room r)=some b→Fw us room (r+1) j rest s→Fw us room r i ((i,j)::rest) (b+s)
inductive Pf(us:List Un)(room:Nat→Int):Nat→List (Nat×Nat)→Int→Prop
 | nil:Pf us room 0 [] 0
 | snoc {i j:Nat} {b s:Int} {rows:List (Nat×Nat)}:Pf us room i rows s→i<j→j≤us.length→blem us i j (room rows.length)=some b→Pf us room j (rows++[(i,j)]) (s+b)
theorem Fw.least{us:List Un}(ok:∀u∈us,UOk u){room:Nat→Int}{r i:Nat}{rest:List (Nat×Nat)}{s:Int}(h:Fw us room r i rest s):∀{m:Int},oA (qej us room r) i=some m→∃M,oA (qej us room (r+rest.length)) us.length=some M∧M≤m+s:=by
 induction h with
 | nil=>intro m hm;exact⟨m,hm,by omega⟩
 | cons hi hj hb f ih =>
   rename_i r i j b s rest
   intro m hm
   obtain⟨m',e,le⟩:=least_le (os:=qej us room r) (bs:=begs us j (room r)) (m:=m+b) (mem_cands.mpr ⟨i,b,m,(mem_begs ok hj).mpr ⟨hi,hb⟩,hm,rfl⟩)
   rw[←sums_succ hj]at e
   obtain⟨M,e2,le2⟩:=ih e
   refine⟨M,?_,by omega⟩
   rw[List.length_cons,show r+(rest.length+1)=r+1+rest.length by omega]
   exact e2
theorem Fw.len{us:List Un}{room:Nat→Int}{r i:Nat}{rest:List (Nat×Nat)}{s:Int}(h:Fw us room r i rest s):i+rest.length≤us.length:=by
 induction h with
 | nil=>simp
 | cons hi hj hb f ih=>rw[List.length_cons];omega
def OsAt(H:Hp)(a:Addr)(os:List (Option Int)):Prop:=H a=some (.lst (os.map ov))
def PnAt(H:Hp)(a:Addr)(x:Nat×Int):Prop:=H a=some (.tup [.int x.1,.int x.2])
theorem OsAt.same{H H':Hp}(s:Same H H'){a:Addr}{x:List (Option Int)}(h:OsAt H a x):OsAt H' a x:=s _ _ h
theorem PnAt.same{H H':Hp}(s:Same H H'){a:Addr}{x:Nat×Int}(h:PnAt H a x):PnAt H' a x:=s _ _ h
structure UsOk(us:List Un)(wd:Int)(nw:Int×Int):Prop where
 ne:us≠[]
 le:us.length≤100
 ok:∀u∈us,UOk u
 w0:0≤wd
 w1:wd≤4000
 c0:0≤nw.1
 b0:0≤nw.2
def NnAt(H:Hp)(a:Addr)(x:Nat×Nat):Prop:=H a=some (.tup [.int x.1,.int x.2])
theorem NnAt.same{H H':Hp}(s:Same H H'){a:Addr}{x:Nat×Nat}(h:NnAt H a x):NnAt H' a x:=s _ _ h
end Br
namespace Br
open PySem L2 Bk Gen Gd Bd
theorem Fw.drop{us:List Un}{room:Nat→Int}{r i:Nat}{rest:List (Nat×Nat)}{s:Int}(h:Fw us room r i rest s):∀{k:Nat} {x:Nat×Nat},rest[k]?=some x→∃pre s',Fw us room (r+k) x.1 (rest.drop k) s'∧pre+s'=s:=by
 induction h with
 | nil=>intro k x e;simp at e
 | cons hi hj hb f ih =>
   rename_i r i j b s rest
   intro k x e
   cases k with
   | zero =>
     simp at e
     subst e
     exact⟨0,b+s,.cons hi hj hb f,by omega⟩
   | succ k =>
     rw[List.getElem?_cons_succ]at e
     obtain⟨pre,s',f',e'⟩:=ih e
     refine⟨b+pre,s',?_,by omega⟩
     rw[show r+(k+1)=r+1+k by omega]
     exact f'
end Br
namespace K05
open PySem L2 Bk Gen
abbrev sArePieces:Stmt:=top 47
abbrev sIsStuff:Stmt:=top 46
abbrev sAreMarks:Stmt:=top 45
abbrev sFormFault:Stmt:=top 44
abbrev sRefuseFault:Stmt:=top 42
abbrev sCopiedNode:Stmt:=top 41
abbrev sAreUnlike:Stmt:=top 43
abbrev sNoteNumbers:Stmt:=top 55
section
variable{P:Program}{w:World}{K:PySem.W.Frag}{mg:Str→Option Value}{base:Heap}
def KTup(K:PySem.W.Frag)(a:Addr)(ks:List Kd):Prop:=∀H,SqT K H a (ks.map fun k=>V.str k.s)
theorem qbk(ks:List Kd):(ks.map fun k=>V.str k.s).all flatV=true:=by
 rw[List.all_eq_true];intro x hx;obtain⟨k,_,rfl⟩:=List.mem_map.mp hx;rfl
theorem qbx(k:Kd)(ks:List Kd):inV (.str k.s) (ks.map fun k=>V.str k.s)=decide (k∈ks):=by
 unfold inV
 induction ks with
 | nil=>simp
 | cons c ks ih =>
   rw[List.map_cons,List.any_cons,ih]
   have e:eqV (V.str c.s) (V.str k.s)=decide (c=k):=by
     show(c.s == k.s)=_
     rw[Bool.eq_iff_iff]
     simp[Kd.inj]
   rw[e]
   by_cases h:c=k
   · subst h;simp
   · have h':¬k=c:=fun z=>h z.symm
     simp[h,h']
theorem qd1{α β:Type}{f:α→β}(hf:∀a b,f a=f b→a=b):∀{l m:List α},l.map f=m.map f→l=m
 | [],[],_=>rfl
 | a :: l, b :: m, h => by
   rw[List.map_cons,List.map_cons]at h
   injection h with h1 h2
   rw[hf a b h1,qd1 hf h2]
theorem scArePieces:FnScope ["stuff"] ["stuff"] (qan sArePieces):=⟨rfl,rfl,rfl,by decide +kernel,rfl,by decide +kernel,by decide +kernel⟩
theorem ok_are_pieces{f:Addr}{fd:FuncData}(F:Fun K "are_pieces" "are_pieces" sArePieces f fd)(T:Bn mg)(U:Glob mg)(N:Nums mg)(F_is_piece:Fx P w K mg base CX0 3 "is_piece" ["piece"] spPieceB):FnOk P w K mg base CX0 4 f fd ["stuff"] spPiecesX:=by
 refine F.ok scArePieces (fun vs H Q E h=>?_) (fun cdv A outer s H vs Q E hr h=>?_)
 ·obtain⟨sf,st,N',rfl,_⟩:=h;rfl
 ·obtain⟨sf,st,N',rfl,⟨nsf,vs,hs,its⟩,fm,le,q⟩:=h;obtain⟨_,g_SORT⟩:=N.sort;obtain⟨_,g_MOST_PIECES⟩:=U.pieces;have hr_is_piece:=hr;have lv:vs.length=st.length:=its.length;have zl:vs.length<sizeLine:=qaA (by omega);refine⟨_,(qae (qaR (PW.pt (qcx (qa6 (qce op_le op_le qak (qaw call_len_seq (by rfl) T.len b_len (qab (pv 0) pa_nil)) (qap (v:=.int 60) (by rfl) g_MOST_PIECES ⟨_,rfl⟩))) (qbQ (qa6 (qbj (qaw (qb0 (by rfl)) (by rfl) T.all b_all (qab (qbc (own:=["piece"]) (by rfl) (CompScope.plain (by rfl) (by decide +kernel) (by decide +kernel) (by decide +kernel)) (qbl (pv 0)) (fun cl C s2 H2 fp=>(qaH (i:=0) (by show(["piece"]:List Str).Nodup;decide +kernel) (by rfl) (by trivial) (by trivial))) (fun cl C s2 H2 fp=>qbr) (fun cl C s2 H2 fp=>(qaE F_is_piece hr_is_piece (by rfl) qaG (qab (pv 0) pa_nil)))) pa_nil))))))) (qai (qat qcJ)) pss_nil)
   (qai (qat (qaW op_ne (qaF ix_tup (qaF ix_list (pv 0) qak (fun _ _=>rfl)) (qap (v:=.int 0) (by rfl) g_SORT ⟨_,rfl⟩) (fun _ _=>rfl)) qao (qaz _))))),?_⟩
  refine⟨_,rfl,sf,_,rfl,.inl (SqL.of hs),_,_,rfl,rfl,_,rfl,?_⟩
  by_cases g1:1≤st.length
  rotate_left
  ·rw[decide_eq_false (by omega:¬(1:Int)≤(vs.length:Nat))];refine iteF ⟨_,rfl,iteT (q false H (Same.refl H) ⟨fun z=>(by cases z),fun z=>?_⟩)⟩;obtain⟨_,⟨x,r,rfl,_⟩,_⟩:=z;exact absurd (by simp) g1
  rw[decide_eq_true (by omega:(1:Int)≤(vs.length:Nat))];refine iteT ⟨_,_,rfl,rfl,_,rfl,?_⟩
  by_cases g2:st.length≤60
  rotate_left
  ·rw[decide_eq_false (by omega:¬((vs.length:Nat):Int)≤60)];exact iteT (q false H (Same.refl H) ⟨fun z=>(by cases z),fun z=>absurd z.2.2 g2⟩)
  rw[decide_eq_true (by omega:((vs.length:Nat):Int)≤60)];refine iteF ?_;refine⟨_,rfl,sf,rfl,⟨_,SqL.of hs⟩,qaZ (fun i ys σ' H'=>Same H H'∧ys=((st.take i).map pieceB).map V.bl∧∃z,σ'=[z]) zl ⟨Same.refl H,rfl,none,rfl⟩ ?_ ?_ ?_⟩
  ·rintro i ys σ' H' hi ⟨s1,rfl,_⟩;exact⟨SqL.of (s1 _ _ hs),by simp;omega⟩
  ·rintro i x ys σ' H' hx ⟨s1,rfl,z,rfl⟩;obtain⟨th,et,it⟩:=qcZ its hx;have pk:=fm th (List.mem_of_getElem? et);cases th with
   | int n=>cases pk
   | tri so x t =>
     obtain⟨a,rfl,_,ha⟩:=it
     refine⟨_,rfl,a,so,x,t,rfl,s1 _ _ ha,pk,fun H2 s2=>⟨s1.trans s2,?_,_,rfl⟩⟩
     rw[List.take_succ,et,Option.toList_some,List.map_append,List.map_append]
     rfl
  ·rintro ys σ' H' ⟨s1,rfl,_⟩ D hD;rw[lv,List.take_length]at *;have s2:=s1.trans (qaf hD (.lst ((st.map pieceB).map V.bl)));refine⟨D,_,rfl,SqL.of qad,_,rfl,?_⟩
   by_cases al:(st.map pieceB).all id=true
   rotate_left
   ·rw[Bool.eq_false_iff.mpr al];refine iteT (q false _ s2 ⟨fun z=>(by cases z),fun z=>absurd ?_ al⟩);rw[List.all_eq_true];intro b hb;obtain⟨x,hx,rfl⟩:=List.mem_map.mp hb;exact qc0 (z.1 x hx)
   rw[al];refine iteF ?_;have ok:∀x∈st,PcOk x:=fun x hx=>pieceB_iff.mp (List.all_eq_true.mp al _ (List.mem_map.mpr ⟨x,hx,rfl⟩))
   cases its with
   | nil=>exact absurd g1 (by decide)
   | @cons v x0 vs' r it rest =>
     have pk:=ok x0 List.mem_cons_self
     cases x0 with
     | int n=>cases pk
     | tri so x t =>
       obtain⟨a,rfl,_,ha⟩:=it
       refine⟨_,rfl,sf,_,_,_,rfl,rfl,SqL.of (s2 _ _ hs),(qcj (j:=0) rfl),a,_,_,_,rfl,rfl,SqT.of (s2 _ _ ha),rfl,rfl,?_⟩
       rw[show decide (V.str so.s=V.str (Str.ofString "note"))=decide (so=.note)from sot so .note]
       refine q _ _ s2 ⟨fun z=>⟨ok,⟨_,r,rfl,?_⟩,g2⟩,fun z=>?_⟩
       · cases so<;>first | rfl | exact absurd z (by decide)
       · obtain⟨_,⟨y,r',e,nn⟩,_⟩:=z
         cases e
         cases so<;>first | rfl | cases nn
theorem scIsStuff:FnScope ["kind", "stuff"] ["kind", "stuff"] (qan sIsStuff):=⟨rfl,rfl,rfl,by decide +kernel,rfl,by decide +kernel,by decide +kernel⟩
theorem ok_is_stuff{f a_KINDS_OF_PIECES:Addr}{fd:FuncData}(F:Fun K "is_stuff" "is_stuff" sIsStuff f fd)(T:Bn mg)(U:Glob mg)(g_KINDS_OF_PIECES:mg "KINDS_OF_PIECES" = some (.ref a_KINDS_OF_PIECES))(KP:KTup K a_KINDS_OF_PIECES [.text,.head,.note])(F_is_whole:Fx P w K mg base CX0 1 "is_whole" ["value", "low", "high"] spWhole)(F_are_pieces:Fx P w K mg base CX0 4 "are_pieces" ["stuff"] spPiecesX):FnOk P w K mg base CX0 5 f fd ["kind", "stuff"] spStuffX:=by
 refine F.ok scIsStuff (fun vs H Q E h=>?_) (fun cdv A outer s H vs Q E hr h=>?_)
 ·obtain⟨k,sf,st,N',rfl,_⟩:=h;rfl
 ·obtain⟨k,sf,st,N',rfl,⟨nsf,vs,hs,its⟩,ok,q⟩:=h;obtain⟨_,g_GREATEST_PICTURE⟩:=U.pict;have hr_is_whole:Room 1 _:=hr.mono (by decide);have hr_are_pieces:=hr;have lv:vs.length=st.length:=its.length;refine⟨_,(qae (qaR (qa6 (qbj (qb3 T.isinstance (by rfl) T.list (by rfl) b_list (pv 1)))) (qai (qat qcJ)) pss_nil)
   (qae (qaR (qas op_eq (pv 0) qao (qaz _)) (qai (qat (qb4 (qaW op_eq (qaw call_len_seq (by rfl) T.len b_len (qab (pv 1) pa_nil)) qak (qaz _)) (qbL (qaw (qb0 (by rfl)) (by rfl) T.all b_all (qab (qbc (own:=["side"]) (by rfl) (CompScope.plain (by rfl) (by decide +kernel) (by decide +kernel) (by decide +kernel)) (qbl (pv 1)) (fun cl C s2 H2 fp=>(qaH (i:=0) (by show(["side"]:List Str).Nodup;decide +kernel) (by rfl) (by trivial) (by trivial))) (fun cl C s2 H2 fp=>qbr) (fun cl C s2 H2 fp=>(qaE F_is_whole hr_is_whole (by rfl) qaG (qab (pv 0) (qab qak (qab (qap (v:=.int 2000) (by rfl) g_GREATEST_PICTURE ⟨_,rfl⟩) pa_nil)))))) pa_nil)))))) pss_nil)
   (qae (qaR (qas op_in_seq (pv 0) (qap (v:=.ref a_KINDS_OF_PIECES) (by rfl) g_KINDS_OF_PIECES rfl) (by with_unfolding_all rfl)) (qai (qat (qaE F_are_pieces hr_are_pieces (by rfl) qaG (qab (pv 1) pa_nil)))) pss_nil)
   (qai (qat (qaW op_eq (qaw call_len_seq (by rfl) T.len b_len (qab (pv 1) pa_nil)) qak (qaz _))))))),?_⟩
  refine⟨_,rfl,_,_,_,_,rfl,.lst hs,⟨_,fun u r=>r,k_ll⟩,_,rfl,iteF ?_⟩;refine⟨_,rfl,rfl,_,rfl,?_⟩;rw[show decide (V.str k.s=V.str (Str.ofString "picture"))=decide (k=.picture)from kdt k .picture];have l5:=ok.2.2
  by_cases hk:k=.picture
  ·rw[decide_eq_true hk];subst hk;have zl:vs.length<sizeLine:=qaA (by omega);refine iteT ⟨_,rfl,sf,_,rfl,.inl (SqL.of hs),rfl,_,rfl,?_⟩
   by_cases l2:st.length=2
   rotate_left
   ·rw[decide_eq_false (fun z=>l2 (by injection z with z;omega):¬V.int (vs.length:Nat)=V.int 2)];refine iteF (q false H (Same.refl H) ⟨fun z=>(by cases z),fun z=>?_⟩);obtain⟨a,b,rfl,_⟩:=z;exact absurd rfl l2
   rw[decide_eq_true (by rw[lv,l2];rfl:V.int (vs.length:Nat)=V.int 2)];refine iteT ?_;refine⟨_,rfl,sf,rfl,⟨_,SqL.of hs⟩,qaZ (fun i ys σ' H'=>H'=H∧ys=((st.take i).map sideB).map V.bl∧∃z,σ'=[z]) zl ⟨rfl,rfl,none,rfl⟩ ?_ ?_ ?_⟩
   ·rintro i ys σ' H' hi ⟨rfl,rfl,_⟩;exact⟨SqL.of hs,by simp;omega⟩
   ·rintro i v ys σ' H' hx ⟨rfl,rfl,z,rfl⟩;obtain⟨th,et,it⟩:=qcZ its hx;obtain⟨n,rfl⟩:=ok.2.1 rfl th (List.mem_of_getElem? et);cases it;refine⟨_,rfl,n,1,2000,rfl,rfl,?_,_,rfl⟩;rw[List.take_succ,et,Option.toList_some,List.map_append,List.map_append];rfl
   ·rintro ys σ' H' ⟨rfl,rfl,_⟩ D hD;rw[lv,List.take_length]at *;refine⟨D,_,rfl,SqL.of qad,?_⟩;exact q _ _ (qaf hD _) (stuff_pic l2)
  ·rw[decide_eq_false hk];refine iteF ⟨_,rfl,a_KINDS_OF_PIECES,_,rfl,.inr (KP H),rfl,qbk _,_,rfl,?_⟩;rw[if_neg Bool.false_ne_true,qbx]
   by_cases hp:k∈[Kd.text,.head,.note]
   ·rw[decide_eq_true hp];refine iteT ⟨_,rfl,sf,st,N',rfl,⟨nsf,vs,hs,its⟩,ok.1 ?_,l5,fun b H2 s2 i=>q b H2 s2 (i.trans (qbO hp))⟩;cases k<;>first | rfl | exact absurd hp (by decide)
   ·rw[decide_eq_false hp];refine iteF ⟨_,rfl,sf,_,rfl,.inl (SqL.of hs),rfl,?_⟩;refine q _ H (Same.refl H) (Iff.trans ?_ (stuff_none hk hp));rw[decide_eq_true_iff];constructor
    ·intro z;injection z with z
     exact List.eq_nil_of_length_eq_zero (by omega)
    ·rintro rfl;rw[lv];rfl
theorem scAreMarks:FnScope ["marks"] ["marks"] (qan sAreMarks):=⟨rfl,rfl,rfl,by decide +kernel,rfl,by decide +kernel,by decide +kernel⟩
theorem ok_are_marks{f:Addr}{fd:FuncData}(F:Fun K "are_marks" "are_marks" sAreMarks f fd)(T:Bn mg)(U:Glob mg)(F_is_name:Fx P w K mg base CX0 1 "is_name" ["value"] spNameB):FnOk P w K mg base CX0 2 f fd ["marks"] spMarksX:=by
 refine F.ok scAreMarks (fun vs H Q E h=>?_) (fun cdv A outer s H vs Q E hr h=>?_)
 ·obtain⟨m,mks,rfl,_⟩:=h;rfl
 ·obtain⟨m,mks,rfl,hm,mk,q⟩:=h;obtain⟨_,g_MOST_MARKS⟩:=U.marks;have hr_is_name:=hr;have hu:=hr.units;have l5:=mk.2;have zl:(mks.map V.str).length<sizeLine:=by rw[List.length_map];exact qaA (by omega)
  refine⟨_,(qae (qaR (PW.pt (qcx (qa6 (qbj (qb3 T.isinstance (by rfl) T.list (by rfl) b_list (pv 0)))) (qbQ (qas op_gt (qaw call_len_seq (by rfl) T.len b_len (qab (pv 0) pa_nil)) (qap (v:=.int 4) (by rfl) g_MOST_MARKS ⟨_,rfl⟩) (qaz _))))) (qai (qat qcJ)) pss_nil)
   (qai (qat (qb4 (qaw (qb0 (by rfl)) (by rfl) T.all b_all (qab (qbc (own:=["mark"]) (by rfl) (CompScope.plain (by rfl) (by decide +kernel) (by decide +kernel) (by decide +kernel)) (qbl (pv 0)) (fun cl C s2 H2 fp=>(qaH (i:=0) (by show(["mark"]:List Str).Nodup;decide +kernel) (by rfl) (by trivial) (by trivial))) (fun cl C s2 H2 fp=>qbr) (fun cl C s2 H2 fp=>(qaE F_is_name hr_is_name (by rfl) qaG (qab (pv 0) pa_nil)))) pa_nil)) (qbL (qaW (qeQ hu) (pv 0) (qaw (qcv (by rfl) (by rfl)) (by rfl) T.sorted b_sorted (qab (qa5 (qcG (by rfl)) (by rfl) T.set b_set (qab (pv 0) pa_nil)) pa_nil)) (qaz _))))))),?_⟩
  refine⟨_,rfl,_,_,_,_,rfl,.lst hm,⟨_,fun u r=>r,k_ll⟩,_,rfl,iteF ?_⟩;refine⟨_,rfl,m,_,rfl,.inl (SqL.of hm),_,_,rfl,rfl,_,rfl,?_⟩
  by_cases l4:mks.length≤4
  rotate_left
  ·rw[decide_eq_true (by rw[List.length_map];omega:(4:Int)<((mks.map V.str).length:Nat))];exact iteT (q false H (Same.refl H) ⟨fun z=>(by cases z),fun z=>absurd z.1 l4⟩)
  rw[decide_eq_false (by rw[List.length_map];omega:¬(4:Int)<((mks.map V.str).length:Nat))];refine iteF ?_;refine⟨_,rfl,m,rfl,⟨_,SqL.of hm⟩,qaZ (fun i ys σ' H'=>Same H H'∧ys=((mks.take i).map qca).map V.bl∧∃z,σ'=[z]) zl ⟨Same.refl H,rfl,none,rfl⟩ ?_ ?_ ?_⟩
  ·rintro i ys σ' H' hi ⟨s1,rfl,_⟩;exact⟨SqL.of (s1 _ _ hm),by simp;omega⟩
  ·rintro i x ys σ' H' hx ⟨s1,rfl,z,rfl⟩;rw[List.getElem?_map]at hx;cases e:mks[i]? with
   | none=>rw[e]at hx;cases hx
   | some nm =>
     rw[e]at hx
     cases hx
     have hn:=mk.1 nm (List.mem_of_getElem? e)
     refine⟨_,rfl,nm,rfl,hn.1,hn.2,fun H2 s2=>⟨s1.trans s2,?_,_,rfl⟩⟩
     rw[List.take_succ,e,Option.toList_some,List.map_append,List.map_append]
     rfl
  ·rintro ys σ' H' ⟨s1,rfl,_⟩ D hD;rw[List.length_map,List.take_length]at *;have s2:=s1.trans (qaf hD (.lst ((mks.map qca).map V.bl)));refine⟨D,_,rfl,SqL.of qad,_,rfl,?_⟩
   by_cases al:(mks.map qca).all id=true
   rotate_left
   ·rw[Bool.eq_false_iff.mpr al];refine iteF (q false _ s2 ⟨fun z=>(by cases z),fun z=>absurd ?_ al⟩);rw[List.all_eq_true];intro b hb;obtain⟨x,hx,rfl⟩:=List.mem_map.mp hb;exact qbZ (z.2.1 x hx)
   rw[al];refine iteT ?_;have ok:∀x∈mks,Name x:=fun x hx=>nameB_iff.mp (List.all_eq_true.mp al _ (List.mem_map.mpr ⟨x,hx,rfl⟩))
   refine⟨_,rfl,_,rfl,m,mks,rfl,SqL.of (s2 _ _ hm),by unfold scanBound;omega,fun d hd=>?_⟩;have s3:=s2.trans (qaf hd (setS w d (once mks)));have l6:=qe2 mks;refine⟨d,once mks,rfl,qad,by omega,fun D2 ss hD2 pm so=>?_⟩;have s4:=s3.trans (qaf hD2 (.lst (ss.map V.str)));have ri:=qfc so (pm.symm.nodup (qd7 mks));refine⟨_,_,.lst (s4 _ _ hm) (qfb mks),.lst qad (qfb ss),qd2 ok,qd2 (fun x hx=>ok x ((qeF mks x).mp (pm.subset hx))),fun e=>q true _ s4 ⟨fun _=>?_,fun _=>rfl⟩,fun z=>q false _ s4 ⟨fun z=>(by cases z),fun z2=>absurd ?_ z⟩⟩
   ·injection e with e
    have e2:mks=ss:=qd1 (fun a b h=>by injection h) e;rw[←e2]at ri;exact⟨l4,ok,ri⟩
   ·have nd:mks.Nodup:=z2.2.2.imp fun h e=>by subst e;exact absurd h (List.lt_irrefl _)
    rw[once_self nd]at pm;rw[rise_eq pm ri z2.2.2]
theorem scFormFault:FnScope ["node"] ["node"] (qan sFormFault):=⟨rfl,rfl,rfl,by decide +kernel,rfl,by decide +kernel,by decide +kernel⟩
theorem ok_form_fault{f a_KINDS:Addr}{fd:FuncData}(F:Fun K "form_fault" "form_fault" sFormFault f fd)(T:Bn mg)(U:Glob mg)(N:Nums mg)(g_KINDS:mg "KINDS" = some (.ref a_KINDS))(KP:KTup K a_KINDS kindsAll)(F_is_whole:Fx P w K mg base CX0 1 "is_whole" ["value", "low", "high"] spWhole)(F_is_name:Fx P w K mg base CX0 1 "is_name" ["value"] spNameB)(F_are_marks:Fx P w K mg base CX0 2 "are_marks" ["marks"] spMarksX)(F_is_stuff:Fx P w K mg base CX0 5 "is_stuff" ["kind", "stuff"] spStuffX):FnOk P w K mg base CX0 6 f fd ["node"] spFormX:=by
 refine F.ok scFormFault (fun vs H Q E h=>?_) (fun cdv A outer s H vs Q E hr h=>?_)
 ·obtain⟨a,d,N',rfl,_⟩:=h;rfl
 ·obtain⟨a,d,N',rfl,nad,raw,q⟩:=h;obtain⟨na,m,sf,ha,nm,hm,st⟩:=nad;obtain⟨_,g_ELDER⟩:=N.elder;obtain⟨_,g_KIND⟩:=N.kind;obtain⟨_,g_NAME⟩:=N.name;obtain⟨_,g_MARKS⟩:=N.marks;obtain⟨_,g_STUFF⟩:=N.stuff;obtain⟨_,g_MOST_NODES⟩:=U.nodes;have hr_is_whole:Room 1 _:=hr.mono (by decide);have hr_is_name:Room 1 _:=hr.mono (by decide);have hr_are_marks:Room 2 _:=hr.mono (by decide);have hr_is_stuff:=hr;refine⟨_,(qae (qaR (PW.pt (qcx (qa6 (qbj (qb3 T.isinstance (by rfl) T.tuple (by rfl) b_tuple (pv 0)))) (qbQ (qas op_ne (qaw call_len_seq (by rfl) T.len b_len (qab (pv 0) pa_nil)) qak (qaz _))))) (qai (qat qao)) pss_nil)
   (qae (qaR (qa6 (qbj (qaE F_is_whole hr_is_whole (by rfl) qaG (qab (qaF ix_tup (pv 0) (qap (v:=.int 0) (by rfl) g_ELDER ⟨_,rfl⟩) (fun _ _=>rfl)) (qab (qeJ un_neg qak) (qab (qap (v:=.int 60) (by rfl) g_MOST_NODES ⟨_,rfl⟩) pa_nil)))))) (qai (qat qao)) pss_nil)
   (qae (qaR (qas op_notIn_seq (qaF ix_tup (pv 0) (qap (v:=.int 1) (by rfl) g_KIND ⟨_,rfl⟩) (fun _ _=>rfl)) (qap (v:=.ref a_KINDS) (by rfl) g_KINDS rfl) (by with_unfolding_all rfl)) (qai (qat qao)) pss_nil)
   (qae (qaR (PW.pt (qbP (qas op_ne (qaF ix_tup (pv 0) (qap (v:=.int 2) (by rfl) g_NAME ⟨_,rfl⟩) (fun _ _=>rfl)) qao (qaz _)) (qby (qa6 (qbj (qaE F_is_name hr_is_name (by rfl) qaG (qab (qaF ix_tup (pv 0) (qap (v:=.int 2) (by rfl) g_NAME ⟨_,rfl⟩) (fun _ _=>rfl)) pa_nil))))))) (qai (qat qao)) pss_nil)
   (qae (qaR (qa6 (qbj (qaE F_are_marks hr_are_marks (by rfl) qaG (qab (qaF ix_tup (pv 0) (qap (v:=.int 3) (by rfl) g_MARKS ⟨_,rfl⟩) (fun _ _=>rfl)) pa_nil)))) (qai (qat qao)) pss_nil)
   (qae (qaR (qa6 (qbj (qaE F_is_stuff hr_is_stuff (by rfl) qaG (qab (qaF ix_tup (pv 0) (qap (v:=.int 1) (by rfl) g_KIND ⟨_,rfl⟩) (fun _ _=>rfl)) (qab (qaF ix_tup (pv 0) (qap (v:=.int 4) (by rfl) g_STUFF ⟨_,rfl⟩) (fun _ _=>rfl)) pa_nil))))) (qai (qat qao)) pss_nil)
   (qai (qat qao)))))))),?_⟩
  have no:∀(t:Str) (H':Hp),Same H H'→t.length≤200→t≠noName→¬qd4 d→Q (.str t) H':=fun t H' s l e n=>q t H' s l ⟨fun z=>absurd z e,fun z=>absurd z n⟩
  refine⟨_,rfl,_,_,_,_,rfl,.tup ha,⟨_,fun u r=>r,k_tt⟩,_,rfl,iteF ?_⟩;refine⟨_,rfl,a,_,rfl,.inr (SqT.of ha),rfl,_,rfl,iteF ?_⟩;refine⟨_,rfl,a,_,_,_,rfl,rfl,SqT.of ha,rfl,_,rfl,d.e,-1,60,rfl,_,rfl,?_⟩
  by_cases e1:-1≤d.e∧d.e≤60
  rotate_left
  ·rw[decide_eq_false e1];exact iteT (no _ H (Same.refl H) (by decide +kernel) (by decide +kernel) fun z=>e1 ⟨z.1,z.2.1⟩)
  rw[decide_eq_true e1];refine iteF ?_;refine⟨_,rfl,a,_,_,_,rfl,rfl,SqT.of ha,rfl,a_KINDS,_,rfl,.inr (KP H),rfl,qbk _,_,rfl,?_⟩;rw[if_pos rfl,qbx]
  by_cases hk:d.k∈kindsAll
  rotate_left
  ·rw[decide_eq_false hk];exact iteT (no _ H (Same.refl H) (by decide +kernel) (by decide +kernel) fun z=>hk z.2.2.1)
  rw[decide_eq_true hk];refine iteF ?_;dsimp only[tNext];refine qa3 (fun σ' H'=>σ'=[some (.ref a)]∧Same H H'∧(d.nm=noName∨Name d.nm)) (fun N0 k=>?_) ?_
  ·refine⟨_,rfl,a,_,_,_,rfl,rfl,SqT.of ha,rfl,rfl,_,rfl,?_⟩;rw[show decide (V.str d.nm=V.str (Str.ofString ""))=decide (d.nm=noName)from nmt d.nm]
   by_cases hn:d.nm=noName
   ·rw[decide_eq_true hn];exact iteF (iteF (k _ _ ⟨rfl,Same.refl H,.inl hn⟩))
   ·rw[decide_eq_false hn];refine iteT ⟨_,rfl,a,_,_,_,rfl,rfl,SqT.of ha,rfl,d.nm,rfl,raw.nm.1,raw.nm.2,fun H2 s2=>⟨_,rfl,?_⟩⟩
    by_cases hN:Name d.nm
    ·rw[qbZ hN];exact iteF (k _ _ ⟨rfl,s2,.inr hN⟩)
    ·rw[Bool.eq_false_iff.mpr fun z=>hN (nameB_iff.mp z)];exact iteT (no _ _ s2 (by decide +kernel) (by decide +kernel) fun z=>z.2.2.2.nm.elim hn hN)
  rintro σ1 H1 ⟨rfl,s1,hn⟩;refine⟨_,rfl,a,_,_,_,rfl,rfl,SqT.of (s1 _ _ ha),rfl,m,d.mks,rfl,s1 _ _ hm,raw.mks,fun b H2 s2 ib=>⟨_,rfl,?_⟩⟩;have s12:=s1.trans s2;cases b with
  | false=>exact iteT (no _ _ s12 (by decide +kernel) (by decide +kernel) fun z=>absurd (ib.mpr z.2.2.2.mks) (by decide))
  | true =>
    refine iteF ?_
    refine⟨_,rfl,a,_,_,_,rfl,rfl,SqT.of (s12 _ _ ha),rfl,_,rfl,a,_,_,_,rfl,rfl,SqT.of (s12 _ _ ha),rfl,d.k,sf,d.st,N',rfl,st.keep s12.keep fun _ n _=>n,raw.st,fun c H3 s3 ic=>⟨_,rfl,?_⟩⟩
    cases c with
    | false=>exact iteT (no _ _ (s12.trans s3) (by decide +kernel) (by decide +kernel) fun z=>absurd (ic.mpr z.2.2.2.st) (by decide))
    | true=>exact iteF (q _ _ (s12.trans s3) (by decide +kernel) ⟨fun _=>⟨e1.1,e1.2,hk,hn,ib.mp rfl,ic.mp rfl⟩,fun _=>rfl⟩)
end
end K05
namespace L2
open PySem PySem.Spec PyProof.Rows
section
variable{P:Program}{w:World}{K:PySem.W.Frag}{mg:Str→Option Value}{base:Heap}{N:List Str}{qual:Str}{scope:Scope}{f:Addr}{cd:Value}{A:Around}{outer:List Env}{s0:Shared}{H0:Hp}{E:XK}
theorem pass1:qdf (CX1 P w) (cxOf (CX1 P w) P w K mg base N qual scope f cd A outer s0 H0 E) E:=fun pins σ H s e s' I h=>by
 obtain⟨ea,C,a0,H',B,rfl,os',bare',un,hok',fly,kB,hea,hsea,hE⟩:=h;show wpAny (model P w) (A.deeper (envOfC qual scope s0.heap.objs.size f cd)) (leaving (envOfC qual scope s0.heap.objs.size f cd) (.ref ea)) (fun _ s''=>CX1 P w outer H0 s0 E (.ref ea) s'') (fun e' s''=>CX1 P w outer H0 s0 E e' s'') s';have old:∀b o,s0.heap.get? b=some o→b∉frs outer→b∉frs (envOfC qual scope s0.heap.objs.size f cd::outer):=fun b o q nb z=>by
  rcases List.mem_cons.mp (show b∈s0.heap.objs.size::frs outer from z)with e1 | e1
  ·rw[e1]at q;exact absurd (Heap.lt_size q) (Nat.lt_irrefl _)
  ·exact nb e1
 have fin:∀b,b∈frs (envOfC qual scope s0.heap.objs.size f cd::outer)→∃o,s.heap.get? b=some o:=fun b hb=>by
  rcases List.mem_cons.mp (show b∈s0.heap.objs.size::frs outer from hb)with e1 | e1
  ·obtain⟨m,⟨o',es,ep,ho',hd',_⟩,_⟩:=I.loc;exact⟨o',by rw[e1];exact ho'⟩
  ·obtain⟨_,o',ho',_⟩:=I.funs.mem e1;exact⟨o',ho'⟩
 have trk:∀b,H' b≠none→b∉frs (envOfC qual scope s0.heap.objs.size f cd::outer):=fun b q z=>by
  obtain⟨o,ho⟩:=fin b z;exact q (un.free b o ho (I.stkFree b z) (by simp))
 refine wpAny_leaves_onW (I.ok.frames) rfl fly fun h2 f2 up=>?_
 have kB2:∀b o,s'.heap.get? b=some o→(H' b≠none∨∃o0,s.heap.get? b=some o0)→b∉frs (envOfC qual scope s0.heap.objs.size f cd::outer)→h2.get? b=some o:=fun b o q r nb=>f2.1 b o (kB b o q r nb)
 refine⟨ea,C,a0,H',B,rfl,os'.trans I.os,bare',⟨fun b o q n nb _=>?_,fun b o q n hb _=>?_,fun b o q n _=>?_,fun b o q _=>?_,fun b xs q=>un.tups b xs (I.base.tups b xs q),fun b o u q=>un.frzs b o u (I.base.frzs b o u q),fun b ps q=>?_⟩,fun a o q=>?_,f2,fun b o q hq nb=>?_,hea,?_,hE⟩
 ·have e1:=I.base.keep b o q n nb (by simp[cxOf]);have e2:=un.keep b o e1 (I.base.free b o q n (by simp[cxOf])) (old b o q nb) (by simp);exact kB2 b o e2 (.inr ⟨o,e1⟩) (old b o q nb)
 ·obtain⟨sl,e1⟩:=I.base.slot b o q n hb (by simp[cxOf]);obtain⟨sl',e2⟩:=un.slot b _ e1 (I.base.free b o q n (by simp[cxOf])) (List.mem_cons_of_mem _ hb) (by simp);obtain⟨_,o',ho',hnf⟩:=I.funs.mem hb;rw[e1]at ho';cases ho';obtain⟨sl2,e3⟩:=up b _ e2 hnf;exact⟨sl2,e3⟩
 ·obtain⟨o',e1⟩:=I.base.there b o q (by simp[cxOf]);exact un.free b o' e1 (I.base.free b o q n (by simp[cxOf])) (by simp)
 ·obtain⟨o1,e1⟩:=I.base.there b o q (by simp[cxOf]);obtain⟨o2,e2⟩:=un.there b o1 e1 (by simp)
  by_cases hb:b∈frs outer
  ·obtain⟨_,o',ho',hnf⟩:=I.funs.mem hb;obtain⟨sl',e3⟩:=un.slot b _ ho' (I.stkFree b (List.mem_cons_of_mem _ hb)) (List.mem_cons_of_mem _ hb) (by simp);obtain⟨sl2,e4⟩:=up b _ e3 hnf;exact⟨_,e4⟩
  ·exact⟨o2,kB2 b o2 e2 (.inr ⟨o1,e1⟩) (old b o q hb)⟩
 ·obtain⟨m1,e1⟩:=I.base.tbls b ps q;obtain⟨m2,e2⟩:=un.tbls b _ e1;exact⟨m1++m2,by rw[e2,Array.append_assoc]⟩
 ·refine(hok' a o q).stay (fun b u hb z=>?_) (fun _ z=>z) fun _ _ z=>z
  have nn:H' b≠none:=by
   rcases hb with z' | z'
   ·rw[z',q];exact fun z=>by cases z
   ·rw[z'];exact fun z=>by cases z
  exact kB2 b u z (.inl nn) (trk b nn)
 ·have g:∃o',s'.heap.get? b=some o'∧(H' b≠none∨∃o0,s.heap.get? b=some o0)∧b∉frs (envOfC qual scope s0.heap.objs.size f cd::outer):=by
   rcases hq with z | ⟨o0,z⟩
   ·cases e1:H' b with
    | none=>exact absurd e1 z
    | some u =>
      obtain⟨o',e2⟩:=(hok' b u e1).at
      exact⟨o',e2,.inl (fun z=>by cases z),trk b z⟩
   ·obtain⟨o1,e1⟩:=I.base.there b o0 z (by simp[cxOf]);obtain⟨o2,e2⟩:=un.there b o1 e1 (by simp);exact⟨o2,e2,.inr ⟨o1,e1⟩,old b o0 z nb⟩
  obtain⟨o',e1,r,nb'⟩:=g;have e2:=kB2 b o' e1 r nb';rw[q]at e2;cases e2;exact kB b o e1 r nb'
 ·cases e1:s0.heap.get? ea with
  | none=>rfl
  | some o =>
    obtain⟨o',e2⟩:=I.base.there ea o e1 (by simp[cxOf])
    rw[hsea]at e2
    cases e2
end
end L2
namespace K05
open PySem L2 Bk Gen
abbrev sHangsRight:Stmt:=top 50
abbrev sLevel_of:Stmt:=top 51
abbrev sElders:Stmt:=top 52
abbrev sTreeFault:Stmt:=top 49
abbrev sMayHold:Stmt:=top 54
section
variable{P:Program}{w:World}{K:PySem.W.Frag}{mg:Str→Option Value}{base:Heap}
theorem scRefuseFault:FnScope ["number", "fault"] ["number", "fault"] (qan sRefuseFault):=⟨rfl,rfl,rfl,by decide +kernel,rfl,by decide +kernel,by decide +kernel⟩
theorem ok_refuse_fault{f C:Addr}{fd:FuncData}{bm:List Value}{B newId initId:String}(F:FunD K "refuse_fault" "refuse_fault" sRefuseFault f fd)(O_NoBook:PyProof.Rows.OwnCls "NoBook" C bm newId mg base)(FB:ExcBaseFacts B newId initId bm):FnOk P w K mg base (CX1 P w) 1 f fd ["number", "fault"] (qdX C):=by
 refine F.ok scRefuseFault (fun vs H Q E h=>?_) (fun cdv A outer s H vs Q E hr h=>?_)
 ·obtain⟨n,t,rfl,_⟩:=h;rfl
 ·obtain⟨n,t,rfl,nb,tl,q⟩:=h;refine⟨_,(qai (qaR (qas op_ne (pv 1) qao (qaz _)) (qai (qcz O_NoBook FB (show A.handled=none from hr.hd) (by rfl) (qab (qcc (qbs qao (qbs (qeT (pv 0)) (qbs qao (qbs (qeh (pv 1)) pj_nil))))) pa_nil))) pss_nil)),?_⟩;refine⟨_,rfl,rfl,_,rfl,?_⟩;rw[nmt t];rcases q with⟨e,q⟩ | ⟨e,q⟩
  ·rw[decide_eq_true e];exact iteF q
  ·rw[decide_eq_false e];refine iteT ?_;refine⟨_,rfl,by decide +kernel,_,rfl,n,rfl,Nat.lt_of_lt_of_le (show n.natAbs<1000 from nb) (by decide +kernel),fun hl=>?_⟩;have sz:sizeLine=16777216:=by decide
   have l0:(Str.empty++Str.ofString "node ").length=5:=by decide +kernel
   have l2:(Str.ofString ": ").length=2:=by decide +kernel
   exact⟨_,rfl,by rw[qaK];omega,_,rfl,by rw[qaK,qaK];omega,_,rfl,t,rfl,by omega,_,rfl,by rw[qaK,qaK,qaK];omega,by rw[qaK,qaK,qaK];omega,by show 1≤sizeLine;decide,q⟩
theorem scCopiedNode:FnScope ["node"] ["node"] (qan sCopiedNode):=⟨rfl,rfl,rfl,by decide +kernel,rfl,by decide +kernel,by decide +kernel⟩
theorem ok_copied_node{f:Addr}{fd:FuncData}(F:Fun K "copied_node" "copied_node" sCopiedNode f fd)(T:Bn mg)(N:Nums mg):FnOk P w K mg base CX0 1 f fd ["node"] spCopied:=by
 refine F.ok scCopiedNode (fun vs H Q E h=>?_) (fun cdv A outer s H vs Q E hr h=>?_)
 ·obtain⟨a,d,N',rfl,_⟩:=h;rfl
 ·obtain⟨a,d,N',rfl,⟨na,m,sf,ha,nm,hm,nsf,vs,hsf,its⟩,q⟩:=h;obtain⟨_,g_ELDER⟩:=N.elder;obtain⟨_,g_KIND⟩:=N.kind;obtain⟨_,g_NAME⟩:=N.name;obtain⟨_,g_MARKS⟩:=N.marks;obtain⟨_,g_STUFF⟩:=N.stuff;refine⟨_,(qai (qat (qbB (qab (qaF ix_tup (pv 0) (qap (v:=.int 0) (by rfl) g_ELDER ⟨_,rfl⟩) (fun _ _=>rfl)) (qab (qaF ix_tup (pv 0) (qap (v:=.int 1) (by rfl) g_KIND ⟨_,rfl⟩) (fun _ _=>rfl)) (qab (qaF ix_tup (pv 0) (qap (v:=.int 2) (by rfl) g_NAME ⟨_,rfl⟩) (fun _ _=>rfl)) (qab (qa5 call_list_of (by rfl) T.list b_list (qab (qaF ix_tup (pv 0) (qap (v:=.int 3) (by rfl) g_MARKS ⟨_,rfl⟩) (fun _ _=>rfl)) pa_nil)) (qab (qa5 call_list_of (by rfl) T.list b_list (qab (qaF ix_tup (pv 0) (qap (v:=.int 4) (by rfl) g_STUFF ⟨_,rfl⟩) (fun _ _=>rfl)) pa_nil)) pa_nil)))))))),?_⟩;refine⟨_,rfl,a,_,_,_,rfl,rfl,SqT.of ha,rfl,_,rfl,a,_,_,_,rfl,rfl,SqT.of ha,rfl,_,rfl,a,_,_,_,rfl,rfl,SqT.of ha,rfl,_,rfl,a,_,_,_,rfl,rfl,SqT.of ha,rfl,m,_,rfl,.inl (SqL.of hm),fun l hl=>?_⟩;have s2:=qaf hl (.lst (d.mks.map V.str));refine⟨_,rfl,a,_,_,_,rfl,rfl,SqT.of (s2 _ _ ha),rfl,sf,_,rfl,.inl (SqL.of (s2 _ _ hsf)),fun l' hl'=>?_⟩;have s3:=qaf hl' (.lst vs);refine⟨by show 5≤sizeLine;decide,fun t ht=>?_⟩;have s4:=qaf ht (.tup [.int d.e,.str d.k.s,.str d.nm,.ref l,.ref l']);exact q t _ ⟨(s2.trans s3).free ht,l,l',qad,hl,(s3.trans s4) _ _ qad,s2.free hl',vs,s4 _ _ qad,its.mono fun v x y=>y.keep ((s2.trans s3).trans s4).keep fun b n _=>n⟩ ((s2.trans s3).trans s4)
theorem scAreUnlike:FnScope ["texts"] ["texts"] (qan sAreUnlike):=⟨rfl,rfl,rfl,by decide +kernel,rfl,by decide +kernel,by decide +kernel⟩
theorem ok_are_unlike{f:Addr}{fd:FuncData}(F:Fun K "are_unlike" "are_unlike" sAreUnlike f fd)(T:Bn mg):FnOk P w K mg base CX0 1 f fd ["texts"] spUnlikeX:=by
 refine F.ok scAreUnlike (fun vs H Q E h=>?_) (fun cdv A outer s H vs Q E hr h=>?_)
 ·obtain⟨l,ks,rfl,_⟩:=h;rfl
 ·obtain⟨l,ks,rfl,hl,le,q⟩:=h;refine⟨_,(qai (qat (qaW op_eq (qaw call_lenSetS (by rfl) T.len b_len (qab (qa5 (qcG (by rfl)) (by rfl) T.set b_set (qab (pv 0) pa_nil)) pa_nil)) (qaw call_len_seq (by rfl) T.len b_len (qab (pv 0) pa_nil)) (qaz _)))),?_⟩;refine⟨_,rfl,l,ks,rfl,SqL.of hl,by unfold scanBound;omega,fun d hd=>?_⟩;have s2:=qaf hd (setS w d (once ks));refine⟨d,once ks,rfl,qad,_,rfl,l,_,rfl,.inl (SqL.of (s2 _ _ hl)),rfl,?_⟩;refine q _ _ s2 ?_;rw[decide_eq_true_iff,List.length_map];exact⟨fun z=>once_nodup (by have:=V.int.inj z;omega),fun z=>by rw[once_self z]⟩
theorem scNoteNumbers:FnScope ["stuff"] ["stuff"] (qan sNoteNumbers):=⟨rfl,rfl,rfl,by decide +kernel,rfl,by decide +kernel,by decide +kernel⟩
theorem ok_note_numbers{f:Addr}{fd:FuncData}(F:Fun K "note_numbers" "note_numbers" sNoteNumbers f fd)(N:Nums mg):FnOk P w K mg base CX0 1 f fd ["stuff"] spNotesA:=by
 refine F.ok scNoteNumbers (fun vs H Q E h=>?_) (fun cdv A outer s H vs Q E hr h=>?_)
 ·obtain⟨sf,st,N',rfl,_⟩:=h;rfl
 ·obtain⟨sf,st,N',rfl,⟨nsf,vs,hs,its⟩,ok,le,q⟩:=h;obtain⟨_,g_SORT⟩:=N.sort;obtain⟨_,g_THING⟩:=N.thing;have lv:vs.length=st.length:=its.length;have zl:vs.length<sizeLine:=qaA (by omega);refine⟨_,(qai (qat (qbc (own:=["piece"]) (by rfl) (CompScope.plain (by rfl) (by decide +kernel) (by decide +kernel) (by decide +kernel)) (qbl (pv 0)) (fun cl C s2 H2 fp=>(qaH (i:=0) (by show(["piece"]:List Str).Nodup;decide +kernel) (by rfl) (by trivial) (by trivial))) (fun cl C s2 H2 fp=>(qcS (qas op_eq (qaF (r:=rIxT K) ix_tup (pv 0) (qap (v:=.int 0) (by rfl) g_SORT ⟨_,rfl⟩) (fun _ _=>rfl)) qao (qaz _)))) (fun cl C s2 H2 fp=>(qaF (r:=rIxT K) ix_tup (pv 0) (qap (v:=.int 1) (by rfl) g_THING ⟨_,rfl⟩) (fun _ _=>rfl)))))),?_⟩;refine⟨_,rfl,sf,rfl,⟨_,SqL.of hs⟩,qaZ (fun i ys σ' H'=>H'=H∧ys=(qaC (st.take i)).map V.int∧∃z,σ'=[z]) zl ⟨rfl,rfl,none,rfl⟩ ?_ ?_ ?_⟩
  ·rintro i ys σ' H' hi ⟨rfl,rfl,_⟩;refine⟨SqL.of hs,?_⟩;rw[List.length_map];unfold qaC;exact Nat.le_trans (List.length_filterMap_le ..) (by rw[List.length_take];exact Nat.min_le_left _ _)
  ·rintro i x ys σ' H' hx ⟨rfl,rfl,z,rfl⟩;obtain⟨th,et,it⟩:=qcZ its hx;have pk:=ok th (List.mem_of_getElem? et);have tk:qaC (st.take (i+1))=qaC (st.take i)++qaC [th]:=by
    rw[List.take_succ,et,Option.toList_some,qbD]
   cases th with
   | int n=>cases pk
   | tri so x t =>
     obtain⟨a,rfl,_,ha⟩:=it
     refine⟨_,rfl,a,_,_,_,rfl,rfl,SqT.of ha,rfl,rfl,_,rfl,?_⟩
     rw[show decide (V.str so.s=V.str (Str.ofString "note"))=decide (so=.note)from sot so .note]
     rw[tk,List.map_append]
     cases so<;>cases x<;>first | (exfalso;exact pk) | skip
     · exact iteF ⟨rfl,by simp[qaC,noteNum],_,rfl⟩
     · exact iteF ⟨rfl,by simp[qaC,noteNum],_,rfl⟩
     · exact iteT ⟨_,rfl,a,_,_,_,rfl,rfl,SqT.of ha,rfl,rfl,by simp[qaC,noteNum,thV],_,rfl⟩
  ·rintro ys σ' H' ⟨rfl,rfl,_⟩ D hD;refine q D _ hD (qaf hD _) ?_;rw[qad,lv,List.take_length]
def MayX(P:Program)(w:World)(K:PySem.W.Frag)(a:Addr):Prop:=∃kvs,KDict P w K a kvs∧∀e∈kindsAll,∃q ks,valueAt kvs (.inr e.s)=some (.ref q)∧KTup K q ks∧∀k,mayHold e k=decide (k∈ks)
theorem scMayHold:FnScope ["elder_kind", "kind"] ["elder_kind", "kind"] (qan sMayHold):=⟨rfl,rfl,rfl,by decide +kernel,rfl,by decide +kernel,by decide +kernel⟩
theorem ok_may_hold{f a_MAY_HOLD:Addr}{fd:FuncData}(F:Fun K "may_hold" "may_hold" sMayHold f fd)(g_MAY_HOLD:mg "MAY_HOLD" = some (.ref a_MAY_HOLD))(MD:MayX P w K a_MAY_HOLD):FnOk P w K mg base CX0 1 f fd ["elder_kind", "kind"] spMayX:=by
 refine F.ok scMayHold (fun vs H Q E h=>?_) (fun cdv A outer s H vs Q E hr h=>?_)
 ·obtain⟨e,k,rfl,_⟩:=h;rfl
 ·obtain⟨e,k,rfl,he,q⟩:=h;obtain⟨kvs,KD,all⟩:=MD;obtain⟨t,ks,hv,kt,hk⟩:=all e he;refine⟨_,(qai (qat (qaW op_in_seq (pv 1) (qaF (r:=rIxD P w K) ix_kdict (qap (v:=.ref a_MAY_HOLD) (by rfl) g_MAY_HOLD rfl) (pv 0) (fun _ _=>rfl)) (by with_unfolding_all rfl)))),?_⟩;refine⟨_,rfl,_,rfl,a_MAY_HOLD,e.s,kvs,.ref t,.ref t,rfl,rfl,KD,hv,rfl,t,_,rfl,.inr (kt H),rfl,qbk _,?_⟩;rw[if_neg Bool.false_ne_true,qbx,←hk k];exact q
theorem up_eld{ds:List Nd}{a b m:Nat}(h:Up ds a b m):∀{l:Nat} {d:Nd},Lev ds a l→ds[a]?=some d→a=b∨(b:Int)∈eldR ds l d.e:=by
 induction h with
 | here=>intro l d _ _;exact .inl rfl
 | @step a b j m d' h1 h2 h3 ih =>
   intro l d lv ed
   rw[h1]at ed
   cases ed
   right
   rcases qbv lv h1 with⟨e,_⟩ | ⟨j',k,e,lj,rfl⟩
   · rw[h2]at e;omega
   · have:j=j':=by omega
     subst this
     obtain⟨dj,ej⟩:=lj.nd
     rw[h2,qcH ej]
     rcases ih lj ej with z | z
     · rw[z];exact List.mem_cons_self
     · exact List.mem_cons_of_mem _ z
theorem eld_up{ds:List Nd}{x:Int}:∀{l a:Nat} {d:Nd},Lev ds a l→ds[a]?=some d→x∈eldR ds l d.e→∃j m:Nat,x=(j:Int)∧j<a∧Up ds a j m:=by
 intro l
 induction l with
 | zero=>intro a d _ _ h;rw[eldR]at h;cases h
 | succ l ih =>
   intro a d lv ed h
   rcases qbv lv ed with⟨_,e⟩ | ⟨j,k,e,lj,e2⟩
   · cases e
   · have:k=l:=by omega
     subst this
     obtain⟨dj,ej⟩:=lj.nd
     rw[e,qcH ej]at h
     have ja:j<a:=by
       cases lv with
       | up e3 h1 h2 h3 =>
         rw[ed]at e3
         cases e3
         omega
     rcases List.mem_cons.mp h with z | z
     · exact⟨j,1,z,ja,.step ed e .here⟩
     · obtain⟨i,m,e4,lt,u⟩:=ih lj ej z
       exact⟨i,m+1,e4,by omega,.step ed e u⟩
theorem inV_iff{x:Int}{l:List Int}:inV (.int x) (l.map V.int)=true↔x∈l:=by
 unfold inV;rw[List.any_eq_true];constructor
 ·rintro⟨v,hv,e⟩;obtain⟨y,hy,rfl⟩:=List.mem_map.mp hv;have e:(y == x)=true:=e;rw[←eq_of_beq e];exact hy
 ·intro h;exact⟨.int x,List.mem_map_of_mem h,by show(x == x)=true;simp⟩
theorem flat_int(l:List Int):(l.map V.int).all flatV=true:=by
 rw[List.all_eq_true];intro v hv;obtain⟨x,_,rfl⟩:=List.mem_map.mp hv;rfl
theorem scElders:FnScope ["book", "node", "elders", "above"] ["book", "node"] (qan sElders):=⟨rfl,rfl,rfl,by decide +kernel,rfl,by decide +kernel,by decide +kernel⟩
theorem ok_elders_of{f:Addr}{fd:FuncData}(F:Fun K "elders_of" "elders_of" sElders f fd)(U:∃t,mg "ELDER" = some (.int 0 t)):FnOk P w K mg base CX0 1 f fd ["book", "node"] spElders:=by
 refine F.ok scElders (fun vs H Q E h=>?_) (fun cdv A outer s H vs Q E hr h=>?_)
 ·obtain⟨p,i,l,d,ds,N,rfl,_⟩:=h;rfl
 ·obtain⟨p,i,l,d,ds,N,rfl,⟨as,hp,nd⟩,ed,lv,ll,q⟩:=h;obtain⟨_,g_ELDER⟩:=U;refine⟨_,(qae (qaD (i:=2) scElders.nd (by rfl) (by trivial) (qaY pa_nil))
   (qae (qaD (i:=3) scElders.nd (by rfl) (by trivial) (qaF ix_tup (qaF ix_list (pv 0) (pv 1) (fun _ _=>rfl)) (qap (v:=.int 0) (by rfl) g_ELDER ⟨_,rfl⟩) (fun _ _=>rfl)))
   (qae (ps_while PassesOwn.never (qas op_ne (pv 3) (qeJ un_neg qak) (qaz _)) (qae (qa8 (qeK PySem.F.plainAttrs_list PySem.F.slot_list_append PySem.F.type_list_append mt_append (pv 2) (qab (pv 3) pa_nil)))
   (qai (qaD (i:=3) scElders.nd (by rfl) (by trivial) (qaF ix_tup (qaF ix_list (pv 0) (pv 3) (fun _ _=>rfl)) (qap (v:=.int 0) (by rfl) g_ELDER ⟨_,rfl⟩) (fun _ _=>rfl))))))
   (qai (qat (pv 2)))))),?_⟩
  refine⟨by show 0≤sizeLine;decide,fun L hL=>?_⟩;have s1:=qaf hL (.lst []);have rm:=qbv lv ed;obtain⟨a,ea,na⟩:=nd.get ed;obtain⟨m',s',ha,_⟩:=na.ex;refine⟨_,rfl,_,rfl,p,_,_,_,rfl,rfl,SqL.of (s1 _ _ hp),qbA ea,a,_,_,_,rfl,rfl,SqT.of (s1 _ _ ha),rfl,?_⟩;refine⟨fun m σ H'=>Same H H'∧∃(pre:List Int) (ab:Int),σ=[some (.ref p),some (.int i),some (.ref L),some (.int ab)]∧H' L=some (.lst (pre.map V.int))∧RemE ds ab m∧pre++eldR ds m ab=eldR ds l d.e,⟨l,s1,[],_,rfl,qad,rm,rfl⟩,?_⟩;rintro m σ H' ⟨s2,pre,ab,rfl,hl,rm,eq⟩;refine⟨_,rfl,_,rfl,rfl,_,rfl,?_⟩;rcases rm with⟨rfl,rfl⟩ | ⟨j,k',rfl,lj,rfl⟩
  ·rw[decide_eq_true (rfl:V.int (-1)=V.int (-1))];refine iteF ⟨_,rfl,?_⟩;rw[eldR,List.append_nil]at eq;subst eq;exact q L H' hL s2 hl
  ·rw[decide_eq_false (fun z=>by have:=V.int.inj z;omega:¬V.int (j:Int)=V.int (-1))];refine iteT ⟨fun σ' H''=>Same H H''∧∃(ab:Int),σ'=[some (.ref p),some (.int i),some (.ref L),some (.int ab)]∧H'' L=some (.lst ((pre++[(j:Int)]).map V.int))∧RemE ds ab k'∧(pre++[(j:Int)])++eldR ds k' ab=eldR ds l d.e,?_,?_⟩
   ·rintro σ' H'' ⟨s3,ab,rfl,h3,rm,eq'⟩;exact⟨k',Nat.lt_succ_self _,s3,pre++[(j:Int)],ab,rfl,h3,rm,eq'⟩
   ·obtain⟨d2,ed2⟩:=lj.nd;have rm2:=qbv lj ed2;obtain⟨a2,ea2,na2⟩:=nd.get ed2;obtain⟨m3,s3,ha2,_⟩:=na2.ex;have pl:pre.length≤999:=by have:=congrArg List.length eq;rw[List.length_append,qcA,qcA]at this;omega
    have s4:Same H (upd H' L (.lst (pre.map V.int++[.int (j:Int)]))):=qet s2 hL;refine⟨_,rfl,.inl ⟨rfl,_,SqL.of hl⟩,_,rfl,L,_,_,rfl,rfl,hl,qaA (by rw[List.length_map];omega),?_⟩;refine⟨_,rfl,_,rfl,p,_,_,_,rfl,rfl,SqL.of (s4 _ _ hp),qbA ea2,a2,_,_,_,rfl,rfl,SqT.of (s4 _ _ ha2),rfl,?_⟩;exact⟨s4,_,rfl,by rw[qad];simp,rm2,by rw[qcH ed2]at eq;rw[←eq];simp⟩
theorem scHangsRight:FnScope ["nodes", "number", "elder"] ["nodes", "number"] (qan sHangsRight):=⟨rfl,rfl,rfl,by decide +kernel,rfl,by decide +kernel,by decide +kernel⟩
theorem ok_hangs_right{f:Addr}{fd:FuncData}(F:Fun K "hangs_right" "hangs_right" sHangsRight f fd)(U:Nums mg)(F_elders_of:Fx P w K mg base CX0 1 "elders_of" ["book", "node"] spElders):FnOk P w K mg base CX0 2 f fd ["nodes", "number"] spHangsX:=by
 refine F.ok scHangsRight (fun vs H Q E h=>?_) (fun cdv A outer s H vs Q E hr h=>?_)
 ·obtain⟨p,n,d,ds,N,rfl,_⟩:=h;rfl
 ·obtain⟨p,n,d,ds,N,rfl,⟨as,hp,nd⟩,ed,lw,q⟩:=h;obtain⟨_,g_ELDER⟩:=U.elder;have hr_elders_of:=hr;refine⟨_,(qae (qaD (i:=2) scHangsRight.nd (by rfl) (by trivial) (qaF ix_tup (qaF ix_list (pv 0) (pv 1) (fun _ _=>rfl)) (qap (v:=.int 0) (by rfl) g_ELDER ⟨_,rfl⟩) (fun _ _=>rfl)))
   (qae (qaR (qas op_eq (pv 1) qak (qaz _)) (qai (qat (qaW op_eq (pv 2) (qeJ un_neg qak) (qaz _)))) pss_nil)
   (qai (qat (qeL (qaW op_eq (pv 2) (qaN op_sub (pv 1) qak) (qaz _)) (qbL (qaW op_in_seq (pv 2) (qaE F_elders_of hr_elders_of (by rfl) qaG (qab (pv 0) (qab (qaN op_sub (pv 1) qak) pa_nil))) (by with_unfolding_all rfl)))))))),?_⟩
  obtain⟨a,ea,na⟩:=nd.get ed;obtain⟨m',s',ha,_⟩:=na.ex;refine⟨_,rfl,_,rfl,p,_,_,_,rfl,rfl,SqL.of hp,qbA ea,a,_,_,_,rfl,rfl,SqT.of ha,rfl,?_⟩;refine⟨_,rfl,rfl,_,rfl,?_⟩
  by_cases n0:n=0
  ·subst n0;rw[show decide (V.int ((0:Nat):Int)=V.int 0)=true from decide_eq_true rfl];refine iteT ⟨_,rfl,_,rfl,rfl,?_⟩;refine q _ H (Same.refl H) ?_;rw[decide_eq_true_iff];exact⟨fun z=>.inl ⟨rfl,V.int.inj z⟩,fun z=>z.elim (fun z=>congrArg V.int z.2) fun z=>absurd z.1 (by decide)⟩
  rw[decide_eq_false (fun z=>by have:=V.int.inj z;omega:¬V.int (n:Int)=V.int 0)];have pos:0<n:=by omega
  have en:((n:Int)-1)=((n-1:Nat):Int):=by omega
  refine iteF ⟨_,rfl,_,rfl,_,_,rfl,rfl,rfl,_,rfl,?_⟩;obtain⟨u,u6,lu⟩:=lw pos
  by_cases e1:d.e=(n:Int)-1
  ·rw[decide_eq_true (congrArg V.int e1)];exact iteT (q true H (Same.refl H) ⟨fun _=>.inr ⟨pos,n-1,0,by omega,by omega,.here⟩,fun _=>rfl⟩)
  rw[decide_eq_false (fun z=>e1 (V.int.inj z))];obtain⟨d1,ed1⟩:=lu.nd;refine iteF ⟨_,rfl,_,rfl,_,rfl,_,_,rfl,rfl,?_⟩;refine⟨p,n-1,u,d1,ds,N,by show[V.ref p,V.int ((n:Int)-1)]=_;rw[en],⟨as,hp,nd⟩,ed1,lu,by omega,fun L H2 hL s2 hl=>?_⟩;refine⟨L,_,rfl,.inl (SqL.of hl),rfl,flat_int _,?_⟩;rw[if_neg Bool.false_ne_true];refine q _ H2 s2 (inV_iff.trans ⟨fun z=>?_,fun z=>?_⟩)
  ·obtain⟨j,m,e,lt,up⟩:=eld_up lu ed1 z;exact .inr ⟨pos,j,m,e,by omega,up⟩
  ·rcases z with⟨z,_⟩ | ⟨_,j,m,e,lt,up⟩
   ·exact absurd z n0
   ·rcases up_eld up lu ed1 with z | z
    ·exact absurd (by omega) e1
    ·rw[e];exact z
end
end K05
namespace K05
open PySem L2 Bk Gen
abbrev sHolds:Stmt:=top 56
abbrev sHeldFault:Stmt:=top 53
section
variable{P:Program}{w:World}{K:PySem.W.Frag}{mg:Str→Option Value}{base:Heap}
theorem scLevel_of:FnScope ["book", "node"] ["book", "node"] (qan sLevel_of):=⟨rfl,rfl,rfl,by decide +kernel,rfl,by decide +kernel,by decide +kernel⟩
theorem ok_level_of{f:Addr}{fd:FuncData}(F:Fun K "level_of" "level_of" sLevel_of f fd)(T:Bn mg)(F_elders_of:Fx P w K mg base CX0 1 "elders_of" ["book", "node"] spElders):FnOk P w K mg base CX0 2 f fd ["book", "node"] spLevelS:=by
 refine F.ok scLevel_of (fun vs H Q E h=>?_) (fun cdv A outer s H vs Q E hr h=>?_)
 ·obtain⟨p,i,l,ds,N,rfl,_⟩:=h;rfl
 ·obtain⟨p,i,l,ds,N,rfl,B,lv,ll,q⟩:=h;have hr_elders_of:=hr;refine⟨_,(qai (qat (qaw call_len_seq (by rfl) T.len b_len (qab (qaE F_elders_of hr_elders_of (by rfl) qaG (qab (pv 0) (qab (pv 1) pa_nil))) pa_nil)))),?_⟩;obtain⟨d,ed⟩:=lv.nd;refine⟨_,rfl,_,rfl,p,i,l,d,ds,N,rfl,B,ed,lv,ll,fun L H' hL s1 h1=>?_⟩;refine⟨L,_,rfl,.inl (SqL.of h1),?_⟩;rw[List.length_map,qcA];exact q H' s1
theorem scHolds:FnScope ["book", "node"] ["book", "node"] (qan sHolds):=⟨rfl,rfl,rfl,by decide +kernel,rfl,by decide +kernel,by decide +kernel⟩
theorem ok_holds{f C:Addr}{fd:FuncData}{bm:List Value}{B newId initId:String}(F:FunD K "holds" "holds" sHolds f fd)(T:Bn mg)(tE:∃t,mg "ELDER" = some (.int 0 t))(O_NoNode:PyProof.Rows.OwnCls "NoNode" C bm newId mg base)(FB:ExcBaseFacts B newId initId bm):FnOk P w K mg base (CX1 P w) 1 f fd ["book", "node"] (qfj C):=by
 refine F.ok scHolds (fun vs H Q E h=>?_) (fun cdv A outer s H vs Q E hr h=>?_)
 ·obtain⟨p,n,ds,N,rfl,_⟩:=h;rfl
 ·obtain⟨p,n,ds,N,rfl,⟨as,hp,nd⟩,le,nb,alt⟩:=h;obtain⟨tE,g_ELDER⟩:=tE;refine⟨_,(qae (qaR (qa6 (qce op_le op_lt qak (pv 1) (qaw call_len_seq (by rfl) T.len b_len (qab (pv 0) pa_nil)))) (qai (qcz O_NoNode FB (show A.handled=none from hr.hd) (by rfl) (qab (qcc (qbs qao (qbs (qeT (pv 1)) pj_nil))) pa_nil))) pss_nil)
   (qai (qat (qbc (own:=["number", "other"]) (by rfl) (ix:=[1]) (frees:=["node"]) (CompScope.frees (by rfl) (by decide +kernel) (by decide +kernel) (by decide +kernel) (by rfl) (by decide +kernel) (by first | exact qfe (by rfl) | exact qfs (by rfl) (by rfl))) (qeb (by rfl) T.enumerate (qab (pv 0) pa_nil)) (fun cl C s2 H2 fp=>(qfn K (n:=2) (by rfl) (by rfl) (qbf (qaH (i:=0) (by show(["number", "other", "node"]:List Str).Nodup;decide +kernel) (by rfl) (by trivial) (by trivial)) (qbf (qaH (i:=1) (by show(["number", "other", "node"]:List Str).Nodup;decide +kernel) (by rfl) (by trivial) (by trivial)) pgs_nil)))) (fun cl C s2 H2 fp=>(qcS (qas op_eq (qaF (r:=rIxT K) ix_tup (pv 1) (qap (v:=.int 0) (by rfl) g_ELDER ⟨_,rfl⟩) (fun _ _=>rfl)) (pv 2) (qaz _)))) (fun cl C s2 H2 fp=>(pv 0)))))),?_⟩
  have lenas:as.length=ds.length:=nd.length;have el:(((as.map V.ref).length:Nat):Int)=ds.length:=by rw[List.length_map,lenas]
  have zl:(as.map V.ref).length<sizeLine:=by rw[List.length_map];exact qaA (by omega)
  have raised:¬(0≤n∧n<ds.length)→qfF (qed (fun σ H Q=>qe6 (tC (V.str (Str.ofString "there is no node "))) (qe6 (fun σ H Q=>tVar 1 σ H fun x H1=>∃i:Int,x=V.int i∧i.natAbs<10 ^ 100∧((Str.ofString (toString i)).length≤1921→Q (V.str (Str.ofString (toString i))) H1)) tJnil) Str.empty σ H Q) tNil) C E {nx:=fun _ _=>False,rt:=Q} [some (.ref p),some (.int n)] H:=fun c=>by
   have bad:∀H',Same H H'→E (.ref C) none H':=by
    rcases alt with a | a
    ·exact a.2
    ·exact absurd a.1 c
   refine⟨_,rfl,by decide +kernel,_,rfl,n,rfl,Nat.lt_trans nb (by decide +kernel),fun hl=>?_⟩;have l1:(Str.empty++Str.ofString "there is no node " ++ Str.ofString (toString n)).length≤sizeLine:=by
    rw[qaK];have e1:(Str.empty++Str.ofString "there is no node ").length=17:=by decide +kernel
    have e2:3000≤sizeLine:=by decide +kernel
    omega
   exact⟨_,rfl,l1,l1,by show 1≤sizeLine;decide,bad H (Same.refl H)⟩
  refine⟨_,rfl,_,_,rfl,rfl,_,rfl,?_⟩;refine ite2 (fun c0=>?_) (fun c0=>?_)
  rotate_left
  ·refine⟨_,rfl,iteT ?_⟩;exact raised fun z=>c0 (decide_eq_true z.1)
  refine⟨_,rfl,p,_,rfl,.inl (SqL.of hp),_,_,rfl,rfl,_,rfl,?_⟩
  by_cases c:0≤n∧n<ds.length
  rotate_left
  ·have e:decide (n<(((as.map V.ref).length:Nat):Int))=false:=decide_eq_false fun z=>c ⟨of_decide_eq_true c0,by rw[el]at z;exact z⟩
   rw[e];exact iteT (raised c)
  ·rcases alt with a | a
   ·exact absurd c a.1
   obtain⟨_,q⟩:=a;have e:decide (n<(((as.map V.ref).length:Nat):Int))=true:=decide_eq_true (by rw[el];exact c.2);rw[e];refine iteF ?_;refine⟨_,rfl,p,rfl,⟨_,SqL.of hp⟩,comp_enum (fun i ys σ' H'=>Same H H'∧ys=(qbi ds n i).map V.int∧∃a b,σ'=[a,b,some (.int n)]) zl ⟨Same.refl H,rfl,none,none,rfl⟩ ?_ ?_ ?_⟩
   ·rintro i ys σ' H' hi ⟨s1,rfl,_⟩;exact⟨SqL.of (s1 _ _ hp),by rw[List.length_map];exact qdD _ _ _⟩
   ·rintro i x ys σ' H' t hx ht ⟨s1,rfl,a,b,rfl⟩;obtain⟨a',ea,rfl⟩:=qcs hx;obtain⟨d,ed,nad⟩:=nd.at ea;obtain⟨m',s',ha',_⟩:=nad.ex;have s2:=s1.trans (qaf ht (.tup [.int (i:Nat),.ref a']));refine⟨t,_,rfl,SqT.of qad,rfl,_,_,rfl,_,_,rfl,rfl,?_⟩;refine⟨_,rfl,a',_,_,_,rfl,rfl,SqT.of (s2 _ _ ha'),rfl,_,rfl,rfl,_,rfl,?_⟩
    by_cases he:d.e=n
    ·rw[decide_eq_true (congrArg V.int he)];refine iteT ⟨_,rfl,s2,?_,_,_,rfl⟩;rw[qde ed he,List.map_append];rfl
    ·rw[decide_eq_false fun z=>he (V.int.inj z)];refine iteF ⟨s2,?_,_,_,rfl⟩;rw[qdL ed he]
   ·rintro ys σ' H' ⟨s1,rfl,_⟩ D hD;refine q D _ (s1.free hD) (s1.trans (qaf hD _)) ?_;rw[qad,List.length_map,lenas]
theorem lev_one{ds:List Nd}:∀{u v n:Nat},Lev ds n u→Lev ds n v→u=v:=by
 intro u
 induction u with
 | zero =>
   intro v n a b
   obtain⟨d,ed⟩:=a.nd
   rcases qbv a ed with⟨e,_⟩ | ⟨_,_,_,_,z⟩
   · rcases qbv b ed with⟨_,e'⟩ | ⟨j,_,e',_,_⟩
     · exact e'.symm
     · omega
   · cases z
 | succ u ih =>
   intro v n a b
   obtain⟨d,ed⟩:=a.nd
   rcases qbv a ed with⟨_,e⟩ | ⟨j,k,e,lj,e2⟩
   · cases e
   · rcases qbv b ed with⟨e',_⟩ | ⟨j',k',e',lj',e2'⟩
     · omega
     · have:j=j':=by omega
       subst this
       have:k=u:=by omega
       subst this
       have:=ih lj lj'
       omega
theorem scTreeFault:FnScope ["nodes", "number"] ["nodes", "number"] (qan sTreeFault):=⟨rfl,rfl,rfl,by decide +kernel,rfl,by decide +kernel,by decide +kernel⟩
theorem ok_tree_fault{f:Addr}{fd:FuncData}(F:Fun K "tree_fault" "tree_fault" sTreeFault f fd)(N:Nums mg)(U:Glob mg)(F_hangs_right:Fx P w K mg base CX0 2 "hangs_right" ["nodes", "number"] spHangsX)(F_level_of:Fx P w K mg base CX0 2 "level_of" ["book", "node"] spLevelS):FnOk P w K mg base CX0 3 f fd ["nodes", "number"] spTreeX:=by
 refine F.ok scTreeFault (fun vs H Q E h=>?_) (fun cdv A outer s H vs Q E hr h=>?_)
 ·obtain⟨p,n,d,ds,N,rfl,_⟩:=h;rfl
 ·obtain⟨p,n,d,ds,N',rfl,⟨as,hp,nd⟩,ed,low,q⟩:=h;obtain⟨_,g_KIND⟩:=N.kind;obtain⟨_,g_GREATEST_LEVEL⟩:=U.level;have hr_hangs_right:=hr;have hr_level_of:=hr;refine⟨_,(qae (qaR (qas op_ne (qaW op_eq (qaF ix_tup (qaF ix_list (pv 0) (pv 1) (fun _ _=>rfl)) (qap (v:=.int 1) (by rfl) g_KIND ⟨_,rfl⟩) (fun _ _=>rfl)) qao (qaz _)) (qaW op_eq (pv 1) qak (qaz _)) (qaz _)) (qai (qat qao)) pss_nil)
   (qae (qaR (qa6 (qbj (qaE F_hangs_right hr_hangs_right (by rfl) qaG (qab (pv 0) (qab (pv 1) pa_nil))))) (qai (qat qao)) pss_nil)
   (qae (qaR (qas op_gt (qaE F_level_of hr_level_of (by rfl) qaG (qab (pv 0) (qab (pv 1) pa_nil))) (qap (v:=.int 6) (by rfl) g_GREATEST_LEVEL ⟨_,rfl⟩) (qaz _)) (qai (qat qao)) pss_nil)
   (qai (qat qao))))),?_⟩
  have no:∀(t:Str) (H':Hp),Same H H'→t.length≤200→t≠noName→¬TreeOk ds n d→Q (.str t) H':=fun t H' s l e n=>q t H' s l ⟨fun z=>absurd z e,fun z=>absurd z n⟩
  obtain⟨a,ea,na⟩:=nd.get ed;obtain⟨m',s',ha,_⟩:=na.ex;have hn:n<ds.length:=(List.getElem?_eq_some_iff.mp ed).1;refine⟨_,rfl,_,rfl,p,_,_,_,rfl,rfl,SqL.of hp,qbA ea,a,_,_,_,rfl,rfl,SqT.of ha,rfl,rfl,_,rfl,rfl,rfl,_,rfl,?_⟩;rw[show decide (V.str d.k.s=V.str (Str.ofString "body"))=decide (d.k=.body)from kdt d.k .body]
  by_cases hb:(d.k=.body↔n=0)
  rotate_left
  ·have e:¬V.bl (decide (d.k=.body))=V.bl (decide (V.int (n:Int)=V.int 0)):=fun z=>hb (by
    injection z with z
    have:=Bool.eq_iff_iff.mp z;rw[decide_eq_true_iff,decide_eq_true_iff]at this;exact this.trans ⟨fun z=>by have:=V.int.inj z;omega,fun z=>by rw[z];rfl⟩)
   rw[decide_eq_false e];exact iteT (no _ H (Same.refl H) (by decide +kernel) (by decide +kernel) fun z=>hb z.body)
  have e:decide (d.k=.body)=decide (V.int (n:Int)=V.int 0):=by
   by_cases hn:n=0
   ·rw[decide_eq_true (hb.mpr hn),decide_eq_true (by rw[hn];rfl)]
   ·rw[decide_eq_false fun z=>hn (hb.mp z),decide_eq_false fun z=>hn (by have:=V.int.inj z;omega)]
  rw[e,decide_eq_true (rfl:V.bl (decide (V.int (n:Int)=V.int 0))=V.bl (decide (V.int (n:Int)=V.int 0)))];refine iteF ?_;have lw:qfD ds n:=fun pos=>by
   have e1:ds[n-1]?=some ds[n-1]:=List.getElem?_eq_getElem (by omega);exact(low (n-1) _ (by omega) e1).lev
  refine⟨_,rfl,_,rfl,p,n,d,ds,N',rfl,⟨as,hp,nd⟩,ed,lw,fun b H1 s1 ib=>⟨_,rfl,?_⟩⟩;cases b with
  | false=>exact iteT (no _ H1 s1 (by decide +kernel) (by decide +kernel) fun z=>absurd (ib.mpr z.up) (by decide))
  | true =>
    have hg:=ib.mp rfl
    have lu:∃u,u≤7∧Lev ds n u:=by
      rcases hg with⟨_,e⟩ | ⟨pos,j,m,ej,lt,_⟩
      · exact⟨0,by decide,.top ed e⟩
      · have e1:ds[j]?=some ds[j]:=List.getElem?_eq_getElem (by omega)
        obtain⟨u,u6,lu⟩:=(low j _ lt e1).lev
        exact⟨u+1,by omega,.up ed ej lt lu⟩
    obtain⟨u,u7,lu⟩:=lu
    refine iteF ?_
    refine⟨_,rfl,_,rfl,p,n,u,ds,N',rfl,⟨as,s1 _ _ hp,nd.keep s1.keep fun _ n _=>n⟩,lu,by omega,fun H2 s2=>⟨_,_,rfl,rfl,_,rfl,?_⟩⟩
    by_cases u6:u≤6
    · rw[decide_eq_false (by omega:¬(6:Int)<(u:Nat))]
      exact iteF (q _ H2 (s1.trans s2) (by decide +kernel) ⟨fun _=>⟨hb,hg,u,u6,lu⟩,fun _=>rfl⟩)
    · rw[decide_eq_true (by omega:(6:Int)<(u:Nat))]
      refine iteT (no _ H2 (s1.trans s2) (by decide +kernel) (by decide +kernel) fun z=>?_)
      obtain⟨v,v6,lv⟩:=z.lev
      exact u6 (by rw[lev_one lu lv];exact v6)
end
end K05
namespace K05
open PySem L2 Bk Gen
section
variable{P:Program}{w:World}{K:PySem.W.Frag}{mg:Str→Option Value}{base:Heap}
theorem b_range:bootBuiltins "range" = some (.type "range"):=by decide +kernel
theorem nexts_at:∀{ks:List Kd} {i:Nat},Nexts ks→ks[i]?=some .aside→ks[i+1]?=some .text
 | [],i,_,h=>by cases h
 | .aside :: .text::r,0,_,_=>rfl
 | .aside :: .text::r,1,_,h=>by cases h
 | .aside :: .text::r,i+2,n,h=>nexts_at (ks:=r) (i:=i) n h
 | k :: r, 0, n, h => by
   cases h
   cases r with
   | nil=>exact n.elim
   | cons c r=>cases c<;>first | rfl | exact n.elim
 | k :: r, i + 1, n, h => by
   have n':Nexts r:=by
     cases k<;>first
       | exact n
       | (cases r with
          | nil=>exact n.elim
          | cons c r=>cases c<;>first | exact n | exact n.elim)
   exact nexts_at (ks:=r) (i:=i) n' h
theorem cut_mid{xs:List V}{i:Nat}{x:V}(h:xs[i+1]?=some x):cutV xs (some ((i:Int)+1)) (some ((i:Int)+2))=[x]:=by
 have hl:i+1<xs.length:=(List.getElem?_eq_some_iff.mp h).1;unfold cutV;rw[show((i:Int)+1)=((i+1:Nat):Int) by omega,show((i:Int)+2)=((i+2:Nat):Int) by omega,HT.sIx_nat,HT.sIx_nat];rw[show min (i+1) xs.length=i+1 by omega,show min (i+2) xs.length=i+2 by omega];have e:xs.drop (i+1)=x::xs.drop (i+2):=by
  rw[List.drop_eq_getElem_cons hl];have:xs[i+1]=x:=by rw[List.getElem?_eq_getElem hl]at h;exact Option.some.inj h
  rw[this]
 rw[e];simp
theorem kid_at{ds:List Nd}{n:Int}{i:Nat}{j:Int}(h:(qbi ds n ds.length)[i]?=some j):∃m d,j=((m:Nat):Int)∧ds[m]?=some d∧(kk ds n)[i]?=some d.k:=by
 have hk:=qd8 ds n ds.length (Nat.le_refl _);rw[List.take_length]at hk;have hi:((qbi ds n ds.length).map (fun(j:Int)=>(ds[j.toNat]?).map (·.k)))[i]?=some ((ds[j.toNat]?).map (·.k)):=by rw[List.getElem?_map,h];rfl
 rw[hk,List.getElem?_map]at hi;have hj:0≤j:=by
  have:=List.mem_of_getElem? h;unfold qbi at this;obtain⟨m,_,rfl⟩:=List.mem_map.mp this;omega
 cases e:(kk ds n)[i]? with
 | none=>rw[e]at hi;cases hi
 | some k =>
   rw[e]at hi
   have hi':some k=(ds[j.toNat]?).map (·.k):=Option.some.inj hi
   cases e2:ds[j.toNat]? with
   | none=>rw[e2]at hi';cases hi'
   | some d =>
     rw[e2]at hi'
     cases hi'
     exact⟨j.toNat,d,by omega,e2,rfl⟩
theorem kids_len(ds:List Nd)(n:Int):(qbi ds n ds.length).length=(kk ds n).length:=by
 have hk:=congrArg List.length (qd8 ds n ds.length (Nat.le_refl _));rw[List.take_length]at hk;simpa using hk
theorem nexts_of:∀{ks:List Kd},(∀i:Nat,ks[i]?=some Kd.aside→ks[i+1]?=some Kd.text)→Nexts ks
 | [],_=>trivial
 | [.aside],h=>by have:=h 0 rfl;cases this
 | .aside :: c :: r, h => by
   have e:=h 0 rfl
   have e:some c=some Kd.text:=e
   cases e
   exact nexts_of (ks:=r) fun i hi=>h (i+2) hi
 | .body::r,h=>nexts_of (ks:=r) fun i hi=>h (i+1) hi
 | .case::r,h=>nexts_of (ks:=r) fun i hi=>h (i+1) hi
 | .shelf::r,h=>nexts_of (ks:=r) fun i hi=>h (i+1) hi
 | .grid::r,h=>nexts_of (ks:=r) fun i hi=>h (i+1) hi
 | .text::r,h=>nexts_of (ks:=r) fun i hi=>h (i+1) hi
 | .head::r,h=>nexts_of (ks:=r) fun i hi=>h (i+1) hi
 | .picture::r,h=>nexts_of (ks:=r) fun i hi=>h (i+1) hi
 | .note::r,h=>nexts_of (ks:=r) fun i hi=>h (i+1) hi
 | .leaf::r,h=>nexts_of (ks:=r) fun i hi=>h (i+1) hi
 | .no::r,h=>nexts_of (ks:=r) fun i hi=>h (i+1) hi
theorem cut_none{xs:List V}{i:Nat}(h:xs[i+1]?=none):cutV xs (some ((i:Int)+1)) (some ((i:Int)+2))=[]:=by
 have hl:xs.length≤i+1:=List.getElem?_eq_none_iff.mp h;unfold cutV;rw[show((i:Int)+1)=((i+1:Nat):Int) by omega,show((i:Int)+2)=((i+2:Nat):Int) by omega,HT.sIx_nat,HT.sIx_nat];rw[show min (i+1) xs.length=xs.length by omega,show min (i+2) xs.length=xs.length by omega];simp
theorem kd_len(k:Kd):k.s.length≤7:=by cases k<;>decide +kernel
theorem qdP{t:Str}(h:0<t.length):t≠noName:=fun e=>by
 rw[e]at h;exact absurd h (by decide +kernel)
theorem scHeldFault:FnScope ["nodes", "number", "kind", "held", "place", "one"] ["nodes", "number"] (qan sHeldFault):=⟨rfl,rfl,rfl,by decide +kernel,rfl,by decide +kernel,by decide +kernel⟩
theorem ok_held_fault{f C a_KINDS_NEVER_EMPTY a_KINDS_OF_PIECES:Addr}{fd:FuncData}(F:Fun K "held_fault" "held_fault" sHeldFault f fd)(T:Bn mg)(N:Nums mg)(g_KINDS_OF_PIECES:mg "KINDS_OF_PIECES" = some (.ref a_KINDS_OF_PIECES))(KP:KTup K a_KINDS_OF_PIECES [.text,.head,.note])(g_KINDS_NEVER_EMPTY:mg "KINDS_NEVER_EMPTY" = some (.ref a_KINDS_NEVER_EMPTY))(KE:KTup K a_KINDS_NEVER_EMPTY [.body,.shelf,.grid,.aside])(F_holds:Fx P w K mg base (CX1 P w) 1 "holds" ["book", "node"] (qfj C))(F_may_hold:Fx P w K mg base CX0 1 "may_hold" ["elder_kind", "kind"] spMayX)(F_note_numbers:Fx P w K mg base CX0 1 "note_numbers" ["stuff"] spNotesA):FnOk P w K mg base CX0 2 f fd ["nodes", "number"] spHeldX:=by
 refine F.ok scHeldFault (fun vs H Q E h=>?_) (fun cdv A outer s H vs Q E hr h=>?_)
 ·obtain⟨p,n,d,ds,N,rfl,_⟩:=h;rfl
 ·obtain⟨p,n,d,ds,N',rfl,⟨as,hp,nd⟩,le,ed,fms,q⟩:=h;obtain⟨_,g_KIND⟩:=N.kind;obtain⟨_,g_STUFF⟩:=N.stuff;have hr_holds:=hr;have hr_may_hold:=hr;have hr_note_numbers:=hr;have hu:=hr.units;refine⟨_,(qae (qaD (i:=2) scHeldFault.nd (by rfl) (by trivial) (qaF ix_tup (qaF ix_list (pv 0) (pv 1) (fun _ _=>rfl)) (qap (v:=.int 1) (by rfl) g_KIND ⟨_,rfl⟩) (fun _ _=>rfl)))
   (qae (qd3 (i:=3) (by rfl) scHeldFault.nd (by rfl) (by trivial) (own:=["one"]) (ix:=[0]) (frees:=["nodes"]) (CompScope.frees (by rfl) (by decide +kernel) (by decide +kernel) (by decide +kernel) (by rfl) (by decide +kernel) (by first | exact qfe (by rfl) | exact qfs (by rfl) (by rfl))) (qbl (qaE F_holds hr_holds (by rfl) qf2 (qab (pv 0) (qab (pv 1) pa_nil)))) (fun cl C s2 H2 fp=>(qaH (i:=0) (by show(["one", "nodes"]:List Str).Nodup;decide +kernel) (by rfl) (by trivial) (by trivial))) (fun cl C s2 H2 fp=>qbr) (fun cl C s2 H2 fp=>(qaF (r:=rIxT K) ix_tup (qaF (r:=rIxL K) ix_list (pv 1) (pv 0) (fun _ _=>rfl)) (qap (v:=.int 1) (by rfl) g_KIND ⟨_,rfl⟩) (fun _ _=>rfl))))
   (qae (qaR (qa6 (qbj (qaw (qb0 (by rfl)) (by rfl) T.all b_all (qab (qbc (own:=["one"]) (by rfl) (ix:=[2]) (frees:=["kind"]) (CompScope.frees (by rfl) (by decide +kernel) (by decide +kernel) (by decide +kernel) (by rfl) (by decide +kernel) (by first | exact qfe (by rfl) | exact qfs (by rfl) (by rfl))) (qbl (pv 3)) (fun cl C s2 H2 fp=>(qaH (i:=0) (by show(["one", "kind"]:List Str).Nodup;decide +kernel) (by rfl) (by trivial) (by trivial))) (fun cl C s2 H2 fp=>qbr) (fun cl C s2 H2 fp=>(qaE F_may_hold hr_may_hold (by rfl) qaG (qab (pv 1) (qab (pv 0) pa_nil))))) pa_nil)))) (qai (qat (qcc (qbs qao (qbs (qeh (pv 2)) (qbs qao pj_nil)))))) pss_nil)
   (qae (qaR (PW.pt (qbP (qas op_in_seq (pv 2) (qap (v:=.ref a_KINDS_NEVER_EMPTY) (by rfl) g_KINDS_NEVER_EMPTY rfl) (by with_unfolding_all rfl)) (qby (qas op_eq (qaw call_len_seq (by rfl) T.len b_len (qab (pv 3) pa_nil)) qak (qaz _))))) (qai (qat (qcc (qbs qao (qbs (qeh (pv 2)) (qbs qao pj_nil)))))) pss_nil)
   (qae (qbN PassesOwn.never (by rfl) (qeb (by rfl) T.enumerate (qab (pv 3) pa_nil)) (qfg (by rfl) (qbf (qaH (i:=4) scHeldFault.nd (by rfl) (by trivial)) (qbf (qaH (i:=5) scHeldFault.nd (by rfl) (by trivial)) pgs_nil)))
   (qai (qaR (PW.pt (qbP (qas op_eq (pv 5) qao (qaz _)) (qby (qas (qep hu) (qbG sl_list (pv 3) (qbM (qaN op_add (pv 4) qak)) (qbM (qaN op_add (pv 4) qak))) (qaY (qab qao pa_nil)) (qaz _))))) (qai (qat qao)) pss_nil)))
   (qae (qaR (PW.pt (qbP (qas op_in_seq (pv 2) (qap (v:=.ref a_KINDS_OF_PIECES) (by rfl) g_KINDS_OF_PIECES rfl) (by with_unfolding_all rfl)) (qby (qas (qep hu) (qaE F_note_numbers hr_note_numbers (by rfl) qaG (qab (qaF ix_tup (qaF ix_list (pv 0) (pv 1) (fun _ _=>rfl)) (qap (v:=.int 4) (by rfl) g_STUFF ⟨_,rfl⟩) (fun _ _=>rfl)) pa_nil)) (qa5 (call_list_rng (by rfl)) (by rfl) T.list b_list (qab (qa5 call_rng1 (by rfl) T.range b_range (qab (qaw call_len_seq (by rfl) T.len b_len (qab (pv 3) pa_nil)) pa_nil)) pa_nil)) (qaz _))))) (qai (qat qao)) pss_nil)
   (qai (qat qao)))))))),?_⟩
  have fx:=fms d (List.mem_of_getElem? ed);have hkk:=fx.2.2.1;have no:∀(t:Str) (H':Hp),Same H H'→t.length≤200→t≠noName→¬Holds d.k (kk ds n) d.st→Q (.str t) H':=fun t H' s l e n=>q t H' s l ⟨fun z=>absurd z e,fun z=>absurd z n⟩
  have kl7:=kd_len d.k;have sz:sizeLine=16777216:=by decide
  obtain⟨a,ea,na⟩:=nd.get ed;obtain⟨m,sf,ha,_,_,st⟩:=na.ex;have hn:n<ds.length:=(List.getElem?_eq_some_iff.mp ed).1;refine⟨_,rfl,_,rfl,p,_,_,_,rfl,rfl,SqL.of hp,qbA ea,a,_,_,_,rfl,rfl,SqT.of ha,rfl,?_⟩;refine⟨_,rfl,_,rfl,p,n,ds,N',rfl,⟨as,hp,nd⟩,by omega,Nat.lt_of_lt_of_le (show((n:Int)).natAbs<1000 by omega) (by decide +kernel),.inr ⟨⟨by omega,by omega⟩,fun l H1 hl s1 el=>?_⟩⟩;have kl:=qdD ds n ds.length;have kn:=kids_len ds n;generalize hks:kk ds n=ks at kn q no;have zl:((qbi ds n ds.length).map V.int).length<sizeLine:=by rw[List.length_map];exact qaA (by omega)
  refine⟨l,rfl,⟨_,SqL.of el⟩,qaZ (fun i ys σ' H'=>H'=H1∧ys=(ks.take i).map (fun k=>V.str k.s)∧∃z,σ'=[z,some (.ref p)]) zl ⟨rfl,rfl,none,rfl⟩ ?_ ?_ ?_⟩
  ·rintro i ys σ' H' hi ⟨rfl,rfl,_⟩;exact⟨SqL.of el,by rw[List.length_map,List.length_take];exact Nat.min_le_left _ _⟩
  ·rintro i x ys σ' H' hx ⟨rfl,rfl,z,rfl⟩;rw[List.getElem?_map]at hx;cases e:(qbi ds n ds.length)[i]? with
   | none=>rw[e]at hx;cases hx
   | some j =>
     rw[e]at hx
     cases hx
     obtain⟨mj,dj,rfl,edj,ekj⟩:=kid_at e
     rw[hks]at ekj
     obtain⟨aj,eaj,naj⟩:=nd.get edj
     obtain⟨m2,s2,haj,_⟩:=naj.ex
     refine⟨_,rfl,_,rfl,p,_,_,_,rfl,rfl,SqL.of (s1 _ _ hp),qbA eaj,aj,_,_,_,rfl,rfl,SqT.of (s1 _ _ haj),rfl,rfl,?_,_,rfl⟩
     rw[qcd (fun k:Kd=>V.str k.s) ekj]
  rintro ys σ' H' ⟨rfl,rfl,_⟩ D hD;have eT:ks.take ((qbi ds n ds.length).map V.int).length=ks:=by rw[List.length_map,kn,List.take_length]
  rw[eT];have s2:=s1.trans (qaf hD (.lst (ks.map fun k=>V.str k.s)));have eD:upd H' D (.lst (ks.map fun k=>V.str k.s)) D=some (.lst (ks.map fun k=>V.str k.s)):=qad;generalize upd H' D (.lst (ks.map fun k=>V.str k.s))=H2 at s2 eD⊢;have zk:(ks.map fun k=>V.str k.s).length<sizeLine:=by rw[List.length_map];exact qaA (by omega)
  refine⟨_,rfl,D,rfl,⟨_,SqL.of eD⟩,qaZ (fun i ys σ' H'=>H'=H2∧ys=((ks.take i).map (mayHold d.k)).map V.bl∧∃z,σ'=[z,some (.str d.k.s)]) zk ⟨rfl,rfl,none,rfl⟩ ?_ ?_ ?_⟩
  ·rintro i ys σ' H' hi ⟨rfl,rfl,_⟩;exact⟨SqL.of eD,by simp;omega⟩
  ·rintro i x ys σ' H' hx ⟨rfl,rfl,z,rfl⟩;rw[List.getElem?_map]at hx;cases e:ks[i]? with
   | none=>rw[e]at hx;cases hx
   | some k =>
     rw[e]at hx
     cases hx
     refine⟨_,rfl,_,rfl,d.k,k,rfl,hkk,rfl,?_,_,rfl⟩
     rw[List.take_succ,e,Option.toList_some,List.map_append,List.map_append]
     rfl
  rintro ys σ' H' ⟨rfl,rfl,_⟩ D2 hD2;rw[List.length_map,List.take_length]at *;have s3:=s2.trans (qaf hD2 (.lst ((ks.map (mayHold d.k)).map V.bl)));have eD3:=qaf hD2 (.lst ((ks.map (mayHold d.k)).map V.bl)) _ _ eD;refine⟨D2,_,rfl,SqL.of qad,_,rfl,?_⟩;generalize upd H' D2 (.lst ((ks.map (mayHold d.k)).map V.bl))=H3 at s3 eD3⊢
  by_cases al:(ks.map (mayHold d.k)).all id=true
  rotate_left
  ·rw[Bool.eq_false_iff.mpr al];have l0:(Str.empty++Str.ofString "a ").length=2:=by decide +kernel
   have l2:(Str.ofString " does not hold this").length=19:=by decide +kernel
   refine iteT ⟨_,rfl,by omega,_,rfl,d.k.s,rfl,by omega,_,rfl,by rw[qaK];omega,_,rfl,by rw[qaK,qaK];omega,by rw[qaK,qaK];omega,?_⟩;refine no (((Str.empty++Str.ofString "a ")++d.k.s)++Str.ofString " does not hold this") _ s3 (by rw[qaK,qaK];omega) (qdP (by rw[qaK,qaK];omega)) fun z=>al ?_
   rw[List.all_eq_true];intro b hb;obtain⟨x,hx,rfl⟩:=List.mem_map.mp hb;exact z.1 x hx
  have h1:∀c∈ks,mayHold d.k c=true:=fun x hx=>List.all_eq_true.mp al _ (List.mem_map.mpr ⟨x,hx,rfl⟩)
  rw[al];refine iteF ?_;dsimp only[tNext];refine qa3 (fun σ' H'=>σ'=[some (.ref p),some (.int n),some (.str d.k.s),some (.ref D),none,none]∧H'=H3∧(neverEmpty d.k=true→ks≠[])) (fun N0 k=>?_) ?_
  ·refine⟨_,rfl,a_KINDS_NEVER_EMPTY,_,rfl,.inr (KE H3),rfl,qbk _,_,rfl,?_⟩;rw[if_neg Bool.false_ne_true,qbx]
   by_cases hne:d.k∈[Kd.body,.shelf,.grid,.aside]
   ·rw[decide_eq_true hne];have nv:neverEmpty d.k=true:=by
     simp only[List.mem_cons,List.not_mem_nil,or_false]at hne;rcases hne with e | e | e | e<;>rw[e]<;>rfl
    refine iteT ⟨_,rfl,D,_,rfl,.inl (SqL.of eD3),rfl,_,rfl,?_⟩
    by_cases ne:ks=[]
    ·rw[decide_eq_true (by rw[ne];rfl:V.int ((ks.map fun k=>V.str k.s).length:Nat)=V.int 0)];have l0:(Str.empty++Str.ofString "a ").length=2:=by decide +kernel
     have l2:(Str.ofString " holds one at least").length=19:=by decide +kernel
     refine iteT ⟨_,rfl,by omega,_,rfl,d.k.s,rfl,by omega,_,rfl,by rw[qaK];omega,_,rfl,by rw[qaK,qaK];omega,by rw[qaK,qaK];omega,?_⟩;exact no (((Str.empty++Str.ofString "a ")++d.k.s)++Str.ofString " holds one at least") _ s3 (by rw[qaK,qaK];omega) (qdP (by rw[qaK,qaK];omega)) fun z=>z.2.1 nv ne
    rw[decide_eq_false (fun z=>ne (by have:=V.int.inj z;rw[List.length_map]at this;exact List.length_eq_zero_iff.mp (by omega)):¬V.int ((ks.map fun k=>V.str k.s).length:Nat)=V.int 0)];exact iteF (k _ _ ⟨rfl,rfl,fun _=>ne⟩)
   ·rw[decide_eq_false hne];exact iteF (iteF (k _ _ ⟨rfl,rfl,fun z=>by cases hq:d.k<;>rw[hq]at z hne<;>first | exact absurd (by decide) hne | cases z⟩))
  rintro σ1 H4 ⟨rfl,rfl,h2⟩;refine qa3 (fun σ' H'=>(∃x y,σ'=[some (.ref p),some (.int n),some (.str d.k.s),some (.ref D),x,y])∧Same H4 H'∧Nexts ks) (fun N0 k=>?_) ?_
  ·refine⟨_,rfl,D,rfl,⟨_,SqL.of eD3⟩,qeA (xs:=ks.map fun k=>V.str k.s) (fun i σ' H'=>(∃x y,σ'=[some (.ref p),some (.int n),some (.str d.k.s),some (.ref D),x,y])∧Same H4 H'∧∀j,j<i→ks[j]?=some .aside→ks[j+1]?=some .text) ⟨⟨none,none,rfl⟩,Same.refl H4,fun j hj=>absurd hj (Nat.not_lt_zero _)⟩ ?_ ?_ ?_⟩
   ·rintro i σ' H' hi ⟨_,s,_⟩;exact SqL.of (s _ _ eD3)
   ·rintro i x σ' H' t hx ht ⟨⟨v1,v2,rfl⟩,s4,pr⟩;rw[List.getElem?_map]at hx;cases e:ks[i]? with
    | none=>rw[e]at hx;cases hx
    | some k1 =>
      rw[e]at hx
      cases hx
      have s5:=s4.trans (qaf ht (.tup [.int (i:Nat),.str k1.s]))
      refine⟨t,_,rfl,SqT.of qad,rfl,_,_,rfl,_,_,rfl,rfl,?_⟩
      refine⟨_,rfl,rfl,_,rfl,?_⟩
      rw[show decide (V.str k1.s=V.str (Str.ofString "aside"))=decide (k1=.aside)from kdt k1 .aside]
      by_cases hk1:k1=.aside
      · rw[decide_eq_true hk1]
        subst hk1
        refine iteT ⟨_,rfl,_,rfl,_,_,rfl,rfl,_,rfl,_,rfl,_,_,rfl,rfl,_,rfl,D,_,rfl,SqL.of (s5 _ _ eD3),fun l1 hl1=>?_⟩
        have s6:=s5.trans (qaf hl1 (.lst (cutV (ks.map fun k=>V.str k.s) (some ((i:Int)+1)) (some ((i:Int)+2)))))
        refine⟨by show 1≤sizeLine;decide,fun l2 hl2=>?_⟩
        have s7:=qaf hl2 (.lst [V.str (Str.ofString "text")])
        have bad:ks[i+1]?≠some .text→¬Holds d.k ks d.st:=fun z h=>z (nexts_at h.2.2.1 e)
        cases en:ks[i+1]? with
        | none =>
          refine⟨.list [],.list [.str (Str.ofString "text")],.lst (s7 _ _ (by rw[qad,cut_none (by rw[List.getElem?_map,en];rfl)])) .nil,.lst qad (.cons (.str _) .nil),by decide +kernel,by decide +kernel,fun z=>(by cases z),fun _=>⟨_,rfl,iteT ?_⟩⟩
          exact no _ _ (s3.trans (s6.trans s7)) (by decide +kernel) (by decide +kernel) (bad (by rw[en];exact fun z=>by cases z))
        | some k2 =>
          refine⟨.list [.str k2.s],.list [.str (Str.ofString "text")],.lst (s7 _ _ (by rw[qad,cut_mid (x:=V.str k2.s) (by rw[List.getElem?_map,en];rfl)])) (.cons (.str _) .nil),.lst qad (.cons (.str _) .nil),by cases k2<;>decide +kernel,by decide +kernel,fun z=>⟨_,rfl,iteF ⟨⟨_,_,rfl⟩,s6.trans s7,fun j hj hja=>?_⟩⟩,fun z=>⟨_,rfl,iteT ?_⟩⟩
          · rcases Nat.lt_succ_iff_lt_or_eq.mp hj with hj | rfl
            · exact pr j hj hja
            · injection z with z
              injection z with z
              injection z with z
              have z2:k2=.text:=(Kd.inj k2 .text).mp z
              rw[en,z2]
          · exact no _ _ (s3.trans (s6.trans s7)) (by decide +kernel) (by decide +kernel) (bad (by rw[en];exact fun z2=>z (by injection z2 with z2;rw[z2];rfl)))
      · rw[decide_eq_false hk1]
        refine iteF (iteF ⟨⟨_,_,rfl⟩,s5,fun j hj hja=>?_⟩)
        rcases Nat.lt_succ_iff_lt_or_eq.mp hj with hj | rfl
        · exact pr j hj hja
        · rw[e]at hja
          injection hja with hja
          exact absurd hja hk1
   ·rintro σ' H' ⟨hσ,s,pr⟩;rw[List.length_map]at pr;exact k _ _ ⟨hσ,s,nexts_of fun i hi=>pr i (List.getElem?_eq_some_iff.mp hi).1 hi⟩
  rintro σ2 H5 ⟨⟨v1,v2,rfl⟩,s5,h3⟩;have s35:=s3.trans s5;have eD5:=s5 _ _ eD3;refine⟨_,rfl,a_KINDS_OF_PIECES,_,rfl,.inr (KP H5),rfl,qbk _,_,rfl,?_⟩;rw[if_neg Bool.false_ne_true,qbx]
  by_cases hpc:d.k∈[Kd.text,.head,.note]
  ·rw[decide_eq_true hpc];have op:ofPieces d.k=true:=by
    simp only[List.mem_cons,List.not_mem_nil,or_false]at hpc;rcases hpc with e | e | e<;>rw[e]<;>rfl
   have ok':(∀x∈d.st,PcOk x)∧d.st.length≤60:=by
    have ok:=fx.2.2.2.st;simp only[List.mem_cons,List.not_mem_nil,or_false]at hpc;rcases hpc with e | e | e<;>rw[e]at ok<;>exact⟨ok.1,ok.2.2⟩
   refine iteT ⟨_,rfl,_,rfl,p,_,_,_,rfl,rfl,SqL.of (s35 _ _ hp),qbA ea,a,_,_,_,rfl,rfl,SqT.of (s35 _ _ ha),rfl,sf,d.st,N',rfl,st.keep s35.keep fun _ n _=>n,ok'.1,ok'.2,fun l1 H6 hl1 s6 el1=>?_⟩;refine⟨_,rfl,D,_,rfl,.inl (SqL.of (s6 _ _ eD5)),ks.length,by show[V.int (((ks.map fun k=>V.str k.s).length:Nat):Int)]=_;rw[List.length_map],by omega,fun r hr'=>?_⟩;have s7:=s6.trans (qaf hr' (.rng 0 (ks.length:Nat)));refine⟨r,ks.length,rfl,by omega,qad,fun l2 hl2=>?_⟩;have s8:=qaf hl2 (.lst ((nums ks.length).map V.int));have s67:=qaf hr' (.rng 0 (ks.length:Nat));refine⟨.list ((qaC d.st).map .int),.list ((nums ks.length).map .int),.lst (s8 _ _ (s67 _ _ el1)) (qfU _),.lst qad (qfU _),qe7 _,qe7 _,fun z=>⟨_,rfl,iteF ?_⟩,fun z=>⟨_,rfl,iteT ?_⟩⟩
   ·injection z with z
    exact q _ _ (s35.trans (s7.trans s8)) (by decide +kernel) ⟨fun _=>⟨h1,h2,h3,fun _=>qd1 (fun a b h=>by injection h) z⟩,fun _=>rfl⟩
   ·exact no _ _ (s35.trans (s7.trans s8)) (by decide +kernel) (by decide +kernel) fun h=>z (by rw[h.2.2.2 op])
  ·rw[decide_eq_false hpc];exact iteF (iteF (q _ _ s35 (by decide +kernel) ⟨fun _=>⟨h1,h2,h3,fun z=>by cases hq:d.k<;>rw[hq]at z hpc<;>first | exact absurd (by decide) hpc | cases z⟩,fun _=>rfl⟩))
end
end K05
namespace K05
open PySem L2 Bk Gen
abbrev sMadeBook:Stmt:=top 40
theorem NdNew.keep{M M' N:Addr→Prop}{H H':Hp}{a:Addr}{d:Nd}(h:NdNew M N H a d)(s:Same H H')(sub:∀b,M b→M' b):NdNew M' N H' a d:=by
 obtain⟨na,m,sf,ha,nm,hm,ns,vs,hs,its⟩:=h;exact⟨sub _ na,m,sf,s _ _ ha,sub _ nm,s _ _ hm,sub _ ns,vs,s _ _ hs,its.mono fun v x y=>y.keep s.keep fun _ n _=>n⟩
def BookNew(M N:Addr→Prop)(H:Hp)(p:Addr)(ds:List Nd):Prop:=∃as,H p=some (.lst (as.map V.ref))∧Paired (NdNew (fun b=>M b∧b≠p) N H) as ds
theorem NdNew.ne{M N:Addr→Prop}{H:Hp}{a D:Addr}{d:Nd}(h:NdNew M N H a d)(hD:H D=none):NdNew (fun b=>M b∧b≠D) N H a d:=by
 obtain⟨na,m,sf,ha,nm,hm,ns,vs,hs,its⟩:=h;exact⟨⟨na,qar ha hD⟩,m,sf,ha,⟨nm,qar hm hD⟩,hm,⟨ns,qar hs hD⟩,vs,hs,its⟩
theorem may_kind{e k:Kd}(h:mayHold e k=true):k∈kindsAll:=by cases e<;>cases k<;>first | decide | cases h
theorem Book.kinds{ds:List Nd}(b:Book ds){n:Nat}{d:Nd}(h:ds[n]?=some d):d.k∈kindsAll:=by
 have no:=Bk.Book.each b h;rcases no.up with⟨rfl,_⟩ | ⟨pos,j,m,ej,lt,_⟩
 ·rw[no.body.mpr rfl];decide
 ·have hn:n<ds.length:=(List.getElem?_eq_some_iff.mp h).1;have ed:ds[j]?=some ds[j]:=List.getElem?_eq_getElem (by omega);have nj:=Bk.Book.each b ed;refine may_kind (nj.kids.1 d.k ?_);unfold kk;exact List.mem_map.mpr ⟨d,List.mem_filter.mpr ⟨List.mem_of_getElem? h,by simp[qef,ej]⟩,rfl⟩
theorem Book.eld{ds:List Nd}(b:Book ds)(le:ds.length≤60){n:Nat}{d:Nd}(h:ds[n]?=some d):-1≤d.e∧d.e≤60:=by
 have no:=Bk.Book.each b h;have hn:n<ds.length:=(List.getElem?_eq_some_iff.mp h).1;rcases no.up with⟨rfl,e⟩ | ⟨pos,j,m,ej,lt,_⟩<;>omega
theorem Book.good{ds:List Nd}(b:Book ds)(le:ds.length≤60):GoodX ds where
 ge:=by obtain⟨d,sub,ks,rfl,_⟩:=b.tree;simp
 le:=le
 form:=fun d hd=>by
  obtain⟨n,hn⟩:=List.getElem?_of_mem hd;have e:=Book.eld b le hn;exact⟨e.1,e.2,Book.kinds b hn,b.form d hd⟩
 tree:=fun n d h=>⟨(Bk.Book.each b h).body,(Bk.Book.each b h).up,(Bk.Book.each b h).lev⟩
 held:=fun n d h=>(Bk.Book.each b h).kids
 names:=b.names
def qdu(C:Addr):Sp:=fun vs H Q E=>∃(p:Addr) (ds:List Nd) (N:Addr→Prop),vs=[.ref p]∧qbh N H p ds∧(∀d∈ds,Raw d)∧ds.length≤500 ∧
 ((GoodX ds∧∀p' H',H p'=none→Same H H'→BookNew (qcN H) N H' p' ds→Q (.ref p') H')∨(¬GoodX ds∧∀H',Same H H'→E (.ref C) none H'))
section
variable{P:Program}{w:World}{K:PySem.W.Frag}{mg:Str→Option Value}{base:Heap}
theorem scMadeBook:FnScope ["nodes", "number", "node"] ["nodes"] (qan sMadeBook):=⟨rfl,rfl,rfl,by decide +kernel,rfl,by decide +kernel,by decide +kernel⟩
theorem ok_made_book{f C:Addr}{fd:FuncData}{bm:List Value}{B newId initId:String}(F:FunD K "made_book" "made_book" sMadeBook f fd)(T:Bn mg)(U:Glob mg)(NU:Nums mg)(O_NoBook:PyProof.Rows.OwnCls "NoBook" C bm newId mg base)(FB:ExcBaseFacts B newId initId bm)(F_refuse_fault:Fx P w K mg base (CX1 P w) 1 "refuse_fault" ["number", "fault"] (qdX C))(F_form_fault:Fx P w K mg base CX0 6 "form_fault" ["node"] spFormX)(F_tree_fault:Fx P w K mg base CX0 3 "tree_fault" ["nodes", "number"] spTreeX)(F_held_fault:Fx P w K mg base CX0 2 "held_fault" ["nodes", "number"] spHeldX)(F_are_unlike:Fx P w K mg base CX0 1 "are_unlike" ["texts"] spUnlikeX)(F_copied_node:Fx P w K mg base CX0 1 "copied_node" ["node"] spCopied):FnOk P w K mg base (CX1 P w) 7 f fd ["nodes"] (qdu C):=by
 refine F.ok scMadeBook (fun vs H Q E h=>?_) (fun cdv A outer s H vs Q E hr h=>?_)
 ·obtain⟨p,ds,N,rfl,_⟩:=h;rfl
 ·obtain⟨p,ds,N,rfl,⟨as,hp,nd⟩,raw,l5,alt⟩:=h;obtain⟨_,g_MOST_NODES⟩:=U.nodes;obtain⟨_,g_NAME⟩:=NU.name;have hr_refuse_fault:Room 1 _:=hr.mono (by decide);have hr_tree_fault:Room 3 _:=hr.mono (by decide);have hr_held_fault:Room 2 _:=hr.mono (by decide);have hr_are_unlike:Room 1 _:=hr.mono (by decide);have hr_copied_node:Room 1 _:=hr.mono (by decide);have hr_form_fault:=hr;have lenas:as.length=ds.length:=nd.length;have el:(((as.map V.ref).length:Nat):Int)=ds.length:=by rw[List.length_map,lenas]
  have zl:(as.map V.ref).length<sizeLine:=by rw[List.length_map];exact qaA (by omega)
  refine⟨_,(qae (qaR (PW.pt (qcx (qa6 (qbj (qb3 T.isinstance (by rfl) T.list (by rfl) b_list (pv 0)))) (qbQ (qa6 (qce op_le op_le qak (qaw call_len_seq (by rfl) T.len b_len (qab (pv 0) pa_nil)) (qap (v:=.int 60) (by rfl) g_MOST_NODES ⟨_,rfl⟩)))))) (qai (qcz O_NoBook FB (show A.handled=none from hr.hd) (by rfl) (qab qao pa_nil))) pss_nil)
   (qae (qbN PassesOwn.leaving (by rfl) (qeb (by rfl) T.enumerate (qab (pv 0) pa_nil)) (qfg (by rfl) (qbf (qaH (i:=1) scMadeBook.nd (by rfl) (by trivial)) (qbf (qaH (i:=2) scMadeBook.nd (by rfl) (by trivial)) pgs_nil)))
   (qai (qa8 (qaE F_refuse_fault hr_refuse_fault (by rfl) pass1 (qab (pv 1) (qab (qaE F_form_fault hr_form_fault (by rfl) qaG (qab (pv 2) pa_nil)) pa_nil))))))
   (qae (qbN PassesOwn.leaving (by rfl) (qbg (by rfl) T.range (qab (qaw call_len_seq (by rfl) T.len b_len (qab (pv 0) pa_nil)) pa_nil)) (qaH (i:=1) scMadeBook.nd (by rfl) (by trivial))
   (qai (qa8 (qaE F_refuse_fault hr_refuse_fault (by rfl) pass1 (qab (pv 1) (qab (qaE F_tree_fault hr_tree_fault (by rfl) qaG (qab (pv 0) (qab (pv 1) pa_nil))) pa_nil))))))
   (qae (qbN PassesOwn.leaving (by rfl) (qbg (by rfl) T.range (qab (qaw call_len_seq (by rfl) T.len b_len (qab (pv 0) pa_nil)) pa_nil)) (qaH (i:=1) scMadeBook.nd (by rfl) (by trivial))
   (qai (qa8 (qaE F_refuse_fault hr_refuse_fault (by rfl) pass1 (qab (pv 1) (qab (qaE F_held_fault hr_held_fault (by rfl) qaG (qab (pv 0) (qab (pv 1) pa_nil))) pa_nil))))))
   (qae (qaR (qa6 (qbj (qaE F_are_unlike hr_are_unlike (by rfl) qaG (qab (qbc (own:=["node"]) (by rfl) (CompScope.plain (by rfl) (by decide +kernel) (by decide +kernel) (by decide +kernel)) (qbl (pv 0)) (fun cl C s2 H2 fp=>(qaH (i:=0) (by show(["node"]:List Str).Nodup;decide +kernel) (by rfl) (by trivial) (by trivial))) (fun cl C s2 H2 fp=>(qcS (qas op_ne (qaF (r:=rIxT K) ix_tup (pv 0) (qap (v:=.int 2) (by rfl) g_NAME ⟨_,rfl⟩) (fun _ _=>rfl)) qao (qaz _)))) (fun cl C s2 H2 fp=>(qaF (r:=rIxT K) ix_tup (pv 0) (qap (v:=.int 2) (by rfl) g_NAME ⟨_,rfl⟩) (fun _ _=>rfl)))) pa_nil)))) (qai (qcz O_NoBook FB (show A.handled=none from hr.hd) (by rfl) (qab qao pa_nil))) pss_nil)
   (qai (qat (qbc (own:=["node"]) (by rfl) (CompScope.plain (by rfl) (by decide +kernel) (by decide +kernel) (by decide +kernel)) (qbl (pv 0)) (fun cl C s2 H2 fp=>(qaH (i:=0) (by show(["node"]:List Str).Nodup;decide +kernel) (by rfl) (by trivial) (by trivial))) (fun cl C s2 H2 fp=>qbr) (fun cl C s2 H2 fp=>(qaE F_copied_node hr_copied_node (by rfl) qaG (qab (pv 0) pa_nil))))))))))),?_⟩
  have bad:¬GoodX ds→∀H',Same H H'→E (.ref C) none H':=fun n=>alt.elim (fun a=>absurd a.1 n) fun a=>a.2
  refine⟨_,rfl,_,_,_,_,rfl,.lst hp,⟨_,fun u r=>r,k_ll⟩,_,rfl,iteF ?_⟩;refine⟨_,rfl,p,_,rfl,.inl (SqL.of hp),_,_,rfl,rfl,_,rfl,?_⟩
  by_cases ge:1≤ds.length
  rotate_left
  ·rw[decide_eq_false (by omega:¬(1:Int)≤(((as.map V.ref).length:Nat):Int))];exact iteF ⟨_,rfl,iteT ⟨by show 1≤sizeLine;decide,bad (fun g=>ge g.ge) H (Same.refl H)⟩⟩
  rw[decide_eq_true (by omega:(1:Int)≤(((as.map V.ref).length:Nat):Int))];refine iteT ⟨_,_,rfl,rfl,_,rfl,?_⟩
  by_cases le:ds.length≤60
  rotate_left
  ·rw[decide_eq_false (by omega:¬(((as.map V.ref).length:Nat):Int)≤60)];exact iteT ⟨by show 1≤sizeLine;decide,bad (fun g=>le g.le) H (Same.refl H)⟩
  rw[decide_eq_true (by omega:(((as.map V.ref).length:Nat):Int)≤60)];refine iteF ?_;dsimp only[tNext];refine qa3 (fun σ' H'=>(∃x y,σ'=[some (.ref p),x,y])∧Same H H'∧∀d∈ds,qd4 d) (fun N0 k=>?_) ?_
  ·refine⟨_,rfl,p,rfl,⟨_,SqL.of hp⟩,qeA (xs:=as.map V.ref) (fun i σ' H'=>(∃x y,σ'=[some (.ref p),x,y])∧Same H H'∧∀d∈ds.take i,qd4 d) ⟨⟨none,none,rfl⟩,Same.refl H,(fun d hd=>nomatch hd)⟩ ?_ ?_ ?_⟩
   ·rintro i σ' H' hi ⟨_,s1,_⟩;exact SqL.of (s1 _ _ hp)
   ·rintro i x σ' H' t hx ht ⟨⟨v1,v2,rfl⟩,s1,fs⟩;obtain⟨a,ea,rfl⟩:=qcs hx;obtain⟨d,ed,nad⟩:=nd.at ea;have s2:=s1.trans (qaf ht (.tup [.int (i:Nat),.ref a]));have hi':i<ds.length:=(List.getElem?_eq_some_iff.mp ed).1;have hd:=List.mem_of_getElem? ed;refine⟨t,_,rfl,SqT.of qad,rfl,_,_,rfl,_,_,rfl,rfl,?_⟩;refine⟨_,rfl,_,rfl,a,d,N,rfl,nad.keep s2.keep fun _ n _=>n,raw d hd,fun ft H3 s3 tl ift=>⟨(i:Int),ft,rfl,by omega,tl,?_⟩⟩
    by_cases hf:ft=noName
    ·refine .inl ⟨hf,⟨_,_,rfl⟩,s2.trans s3,fun y hy=>?_⟩;rw[List.take_succ,ed]at hy;rcases List.mem_append.mp hy with hy | hy
     ·exact fs y hy
     ·have:y=d:=by simpa using hy
      rw[this];exact ift.mp hf
    ·exact .inr ⟨hf,bad (fun g=>hf (ift.mpr (g.form d hd))) _ (s2.trans s3)⟩
   ·rintro σ' H' ⟨hσ,s1,fs⟩;rw[List.length_map,lenas,List.take_length]at fs;exact k _ _ ⟨hσ,s1,fs⟩
  rintro σ1 H1 ⟨⟨v1,v2,rfl⟩,s1,fms⟩;refine qa3 (fun σ' H'=>(∃x y,σ'=[some (.ref p),x,y])∧Same H H'∧∀i c,i<ds.length→ds[i]?=some c→TreeOk ds i c) (fun N0 k=>?_) ?_
  ·refine⟨_,rfl,p,_,rfl,.inl (SqL.of (s1 _ _ hp)),_,rfl,by omega,by omega,qbn (fun i σ' H'=>(∃x y,σ'=[some (.ref p),x,y])∧Same H H'∧∀j c,j<i→ds[j]?=some c→TreeOk ds j c) ⟨⟨_,_,rfl⟩,s1,fun j c hj=>absurd hj (Nat.not_lt_zero _)⟩ ?_ ?_⟩
   ·rintro i σ' H' hi ⟨⟨v1,v2,rfl⟩,s2,pr⟩;have hi':i<ds.length:=by rw[el]at hi;simpa using hi
    have ed:ds[i]?=some ds[i]:=List.getElem?_eq_getElem hi';refine⟨_,rfl,_,rfl,_,rfl,p,i,ds[i],ds,N,by show[V.ref p,V.int (0+(i:Int))]=_;rw[Int.zero_add],⟨as,s2 _ _ hp,nd.keep s2.keep fun _ n _=>n⟩,ed,pr,fun ft H3 s3 tl ift=>⟨(0+(i:Int)),ft,rfl,by omega,tl,?_⟩⟩
    by_cases hf:ft=noName
    ·refine .inl ⟨hf,⟨_,_,rfl⟩,s2.trans s3,fun j c hj hc=>?_⟩;rcases Nat.lt_succ_iff_lt_or_eq.mp hj with hj | rfl
     ·exact pr j c hj hc
     ·rw[ed]at hc;cases hc;exact ift.mp hf
    ·exact .inr ⟨hf,bad (fun g=>hf (ift.mpr (g.tree i _ ed))) _ (s2.trans s3)⟩
   ·rintro σ' H' ⟨hσ,s2,pr⟩;refine k _ _ ⟨hσ,s2,fun i c hi hc=>pr i c ?_ hc⟩;rw[el];simpa using hi
  rintro σ2 H2 ⟨⟨v1,v2,rfl⟩,s2,trs⟩;refine qa3 (fun σ' H'=>(∃x y,σ'=[some (.ref p),x,y])∧Same H H'∧∀(i:Nat) c,i<ds.length→ds[i]?=some c→Holds c.k (kk ds i) c.st) (fun N0 k=>?_) ?_
  ·refine⟨_,rfl,p,_,rfl,.inl (SqL.of (s2 _ _ hp)),_,rfl,by omega,by omega,qbn (fun i σ' H'=>(∃x y,σ'=[some (.ref p),x,y])∧Same H H'∧∀(j:Nat) c,j<i→ds[j]?=some c→Holds c.k (kk ds j) c.st) ⟨⟨_,_,rfl⟩,s2,fun j c hj=>absurd hj (Nat.not_lt_zero _)⟩ ?_ ?_⟩
   ·rintro i σ' H' hi ⟨⟨v1,v2,rfl⟩,s3,pr⟩;have hi':i<ds.length:=by rw[el]at hi;simpa using hi
    have ed:ds[i]?=some ds[i]:=List.getElem?_eq_getElem hi';refine⟨_,rfl,_,rfl,_,rfl,p,i,ds[i],ds,N,by show[V.ref p,V.int (0+(i:Int))]=_;rw[Int.zero_add],⟨as,s3 _ _ hp,nd.keep s3.keep fun _ n _=>n⟩,by omega,ed,fms,fun ft H4 s4 tl ift=>⟨(0+(i:Int)),ft,rfl,by omega,tl,?_⟩⟩
    by_cases hf:ft=noName
    ·refine .inl ⟨hf,⟨_,_,rfl⟩,s3.trans s4,fun j c hj hc=>?_⟩;rcases Nat.lt_succ_iff_lt_or_eq.mp hj with hj | rfl
     ·exact pr j c hj hc
     ·rw[ed]at hc;cases hc;exact ift.mp hf
    ·exact .inr ⟨hf,bad (fun g=>hf (ift.mpr (g.held i _ ed))) _ (s3.trans s4)⟩
   ·rintro σ' H' ⟨hσ,s3,pr⟩;refine k _ _ ⟨hσ,s3,fun i c hi hc=>pr i c ?_ hc⟩;rw[el];simpa using hi
  rintro σ3 H3 ⟨⟨v1,v2,rfl⟩,s3,hls⟩;refine⟨_,rfl,p,rfl,⟨_,SqL.of (s3 _ _ hp)⟩,qaZ (fun i ys σ' H'=>H'=H3∧ys=(((ds.take i).filter fun d=>d.nm≠noName).map (·.nm)).map V.str∧∃z,σ'=[z]) zl ⟨rfl,rfl,none,rfl⟩ ?_ ?_ ?_⟩
  ·rintro i ys σ' H' hi ⟨rfl,rfl,_⟩;refine⟨SqL.of (s3 _ _ hp),?_⟩;rw[List.length_map,List.length_map];exact Nat.le_trans (List.length_filter_le ..) (by rw[List.length_take];exact Nat.min_le_left _ _)
  ·rintro i x ys σ' H' hx ⟨rfl,rfl,z,rfl⟩;obtain⟨a,ea,rfl⟩:=qcs hx;obtain⟨d,ed,nad⟩:=nd.at ea;obtain⟨m,sf,ha,_⟩:=nad.ex;refine⟨_,rfl,a,_,_,_,rfl,rfl,SqT.of (s3 _ _ ha),rfl,rfl,_,rfl,?_⟩;rw[show decide (V.str d.nm=V.str (Str.ofString ""))=decide (d.nm=noName)from nmt d.nm];rw[List.take_succ,ed,Option.toList_some,List.filter_append,List.map_append,List.map_append]
   by_cases hn:d.nm=noName
   ·rw[decide_eq_true hn];exact iteF ⟨rfl,by simp[hn],_,rfl⟩
   ·rw[decide_eq_false hn];exact iteT ⟨_,rfl,a,_,_,_,rfl,rfl,SqT.of (s3 _ _ ha),rfl,rfl,by simp[hn],_,rfl⟩
  rintro ys σ' H' ⟨rfl,rfl,_⟩ D hD;have eT:ds.take (as.map V.ref).length=ds:=by rw[List.length_map,lenas,List.take_length]
  rw[eT];have s4:=s3.trans (qaf hD (.lst ((((ds.filter fun d=>d.nm≠noName).map (·.nm))).map V.str)));refine⟨D,_,rfl,qad,?_,fun b H5 s5 ib=>⟨_,rfl,?_⟩⟩
  ·rw[List.length_map];exact Nat.le_trans (List.length_filter_le ..) (by omega)
  have s45:=s4.trans s5;cases b with
  | false=>exact iteT ⟨by show 1≤sizeLine;decide,bad (fun g=>absurd (ib.mpr g.names) (by decide)) _ s45⟩
  | true =>
  refine iteF ?_;have good:GoodX ds:=⟨ge,le,fms,fun n d h=>trs n d (List.getElem?_eq_some_iff.mp h).1 h,fun n d h=>hls n d (List.getElem?_eq_some_iff.mp h).1 h,ib.mp rfl⟩;have q:=alt.elim (fun a=>a.2) fun a=>absurd good a.1
  refine⟨_,rfl,p,rfl,⟨_,SqL.of (s45 _ _ hp)⟩,qaZ (fun i ys σ' H'=>Same H H'∧(∃z,σ'=[z])∧∃bs,ys=bs.map V.ref∧bs.length≤i∧Paired (NdNew (qcN H) N H') bs (ds.take i)) zl ⟨s45,⟨none,rfl⟩,[],rfl,Nat.zero_le _,.nil⟩ ?_ ?_ ?_⟩
  ·rintro i ys σ' H' hi ⟨s6,_,bs,rfl,lb,_⟩;exact⟨SqL.of (s6 _ _ hp),by rw[List.length_map];exact lb⟩
  ·rintro i x ys σ' H' hx ⟨s6,⟨z,rfl⟩,bs,rfl,lb,nb⟩;obtain⟨a,ea,rfl⟩:=qcs hx;obtain⟨d,ed,nad⟩:=nd.at ea;refine⟨_,rfl,a,d,N,rfl,nad.keep s6.keep fun _ n _=>n,fun a' H7 nn s7=>⟨s6.trans s7,⟨_,rfl⟩,bs++[a'],by rw[List.map_append];rfl,by rw[List.length_append];exact Nat.succ_le_succ lb,?_⟩⟩;rw[List.take_succ,ed,Option.toList_some];exact qbY (nb.mono fun a d h=>NdNew.keep h s7 fun _ n=>n) (.cons (NdNew.keep nn (Same.refl _) fun b n=>s6.free n) .nil)
  ·rintro ys σ' H' ⟨s6,_,bs,rfl,lb,nb⟩ p' hp';rw[eT]at nb;exact q p' _ (s6.free hp') (s6.trans (qaf hp' _)) ⟨bs,qad,nb.mono fun a d h=>NdNew.keep (NdNew.ne h hp') (qaf hp' _) fun _ n=>n⟩
end
end K05
namespace L2
open PySem PySem.Spec PyProof.Rows
open PySem.W (Dat)
theorem PE.weak{X:Cx}{e:Expr}{t t':TE}(h:PE X e t)(k:∀σ H Q,t' σ H Q→t σ H Q):PE X e t':=fun pins s σ H Q I q=>h pins s σ H Q I (k σ H Q q)
theorem PA.weak{X:Cx}{es:List Expr}{t t':TA}(h:PA X es t)(k:∀σ H Q,t' σ H Q→t σ H Q):PA X es t':=fun pos pins s σ H Q I q=>h pos pins s σ H Q I (k σ H Q q)
theorem PT.weak{X:Cx}{e:Expr}{t t':TT}(h:PT X e t)(k:∀σ H Q,t' σ H Q→t σ H Q):PT X e t':=fun pins s σ H Q I q=>h pins s σ H Q I (k σ H Q q)
mutual
theorem DIn.same{H H':Hp}(s:Same H H'):∀{v:V} {d:Dat},DIn H v d→DIn H' v d
 | _,_,.non=>.non
 | _,_,.int i=>.int i
 | _,_,.str x=>.str x
 | _,_,.tup e q=>.tup (s _ _ e) (DAll.same s q)
 | _,_,.lst e q=>.lst (s _ _ e) (DAll.same s q)
theorem DAll.same{H H':Hp}(s:Same H H'):∀{vs:List V} {ds:List Dat},DAll H vs ds→DAll H' vs ds
 | _,_,.nil=>.nil
 | _,_,.cons x q=>.cons (DIn.same s x) (DAll.same s q)
end
theorem DAll.length{H:Hp}:∀{vs:List V} {ds:List Dat},DAll H vs ds→vs.length=ds.length
 | _,_,.nil=>rfl
 | _,_,.cons _ q=>congrArg (·+ 1) q.length
theorem DAll.app{H:Hp}:∀{vs us:List V} {ds es:List Dat},DAll H vs ds→DAll H us es→DAll H (vs++us) (ds++es)
 | _,_,_,_,.nil,h=>h
 | _,_,_,_,.cons x q,h=>.cons x (q.app h)
theorem DAll.at{H:Hp}:∀{vs:List V} {ds:List Dat},DAll H vs ds→∀{i:Nat} {d:Dat},ds[i]?=some d→∃v,vs[i]?=some v∧DIn H v d
 | _,_,.nil,i,d,h=>by cases h
 | _,_,.cons x q,0,d,h=>by cases h;exact⟨_,rfl,x⟩
 | _, _, .cons x q, i + 1, d, h => by
   rw[List.getElem?_cons_succ]at h
   obtain⟨v,e,z⟩:=q.at h
   exact⟨v,by rw[List.getElem?_cons_succ];exact e,z⟩
theorem DAll.drop{H:Hp}:∀{vs:List V} {ds:List Dat},DAll H vs ds→∀n:Nat,DAll H (vs.drop n) (ds.drop n)
 | _,_,.nil,n=>by simp;exact .nil
 | _,_,.cons x q,0=>.cons x q
 | _,_,.cons x q,n+1=>by rw[List.drop_succ_cons,List.drop_succ_cons];exact q.drop n
theorem DAll.take{H:Hp}:∀{vs:List V} {ds:List Dat},DAll H vs ds→∀n:Nat,DAll H (vs.take n) (ds.take n)
 | _,_,.nil,n=>by simp;exact .nil
 | _,_,.cons x q,0=>by rw[List.take_zero,List.take_zero];exact .nil
 | _,_,.cons x q,n+1=>by rw[List.take_succ_cons,List.take_succ_cons];exact .cons x (q.take n)
theorem DAll.rep{H:Hp}{vs:List V}{ds:List Dat}(h:DAll H vs ds):∀n:Nat,DAll H (List.replicate n vs).flatten (List.replicate n ds).flatten
 | 0=>.nil
 | n+1=>by rw[List.replicate_succ,List.replicate_succ,List.flatten_cons,List.flatten_cons];exact h.app (h.rep n)
theorem qbe{H:Hp}{v:V}{ds:List Dat}(h:DIn H v (.list ds)):∃a xs,v=.ref a∧H a=some (.lst xs)∧DAll H xs ds:=by
 cases h with
 | lst e q=>exact⟨_,_,rfl,e,q⟩
theorem qa1{H:Hp}{v:V}{i:Int}(h:DIn H v (.int i)):v=.int i:=by cases h;rfl
theorem qbo{H:Hp}{v:V}{x:Str}(h:DIn H v (.str x)):v=.str x:=by cases h;rfl
def Kn(G:List (Option Dat))(σ:St)(H:Hp):Prop:=σ.length=G.length∧∀(i:Nat) (d:Dat),G[i]?=some (some d)→∃v,σ[i]?=some (some v)∧DIn H v d
theorem Kn.same{G:List (Option Dat)}{σ:St}{H H':Hp}(h:Kn G σ H)(s:Same H H'):Kn G σ H':=⟨h.1,fun i d e=>let⟨v,a,b⟩:=h.2 i d e;⟨v,a,b.same s⟩⟩
theorem Kn.put{G:List (Option Dat)}{σ:St}{H H':Hp}{i:Nat}{v:V}{d:Dat}(h:Kn G σ H)(s:Same H H')(q:DIn H' v d):Kn (G.set i (some d)) (σ.set i (some v)) H':=by
 refine⟨by rw[List.length_set,List.length_set];exact h.1,fun j c e=>?_⟩;rw[List.getElem?_set]at e⊢
 by_cases hj:i=j
 ·rw[if_pos hj]at e⊢
  by_cases hl:i<G.length
  ·rw[if_pos hl]at e;cases e;rw[if_pos (by rw[h.1];exact hl)];exact⟨v,rfl,q⟩
  ·rw[if_neg hl]at e;cases e
 ·rw[if_neg hj]at e⊢;exact(h.same s).2 j c e
theorem Kn.nil{H:Hp}:Kn [] [] H:=⟨rfl,fun i d h=>by cases h⟩
theorem Kn.no{G:List (Option Dat)}{σ:St}{H:Hp}{x:Option V}(k:Kn G σ H):Kn (none::G) (x::σ) H:=⟨congrArg (·+ 1) k.1,fun i d h=>by
 cases i with
 | zero=>cases h
 | succ i=>exact k.2 i d h⟩
theorem Kn.is{G:List (Option Dat)}{σ:St}{H:Hp}{v:V}{d:Dat}(q:DIn H v d)(k:Kn G σ H):Kn (some d::G) (some v::σ) H:=⟨congrArg (·+ 1) k.1,fun i c h=>by
 cases i with
 | zero=>cases h;exact⟨v,rfl,q⟩
 | succ i=>exact k.2 i c h⟩
def tGv(G:List (Option Dat))(d:Dat):TE:=fun σ H Q=>Kn G σ H∧∀v H',Same H H'→DIn H' v d→Q v H'
def tGvs(G:List (Option Dat))(ds:List Dat):TA:=fun σ H Q=>Kn G σ H∧∀vs H',Same H H'→DAll H' vs ds→Q vs H'
def tGb(G:List (Option Dat))(b:Bool):TT:=fun σ H Q=>Kn G σ H∧∀H',Same H H'→Q b H'
structure PD(X:Cx)(G:List (Option Dat))(e:Expr)(d:Dat):Prop where
 h:PE X e (tGv G d)
structure PDs(X:Cx)(G:List (Option Dat))(es:List Expr)(ds:List Dat)(n:Nat):Prop where
 h:PA X es (tGvs G ds)
 l:ds.length=n
section
variable{X:Cx}{G:List (Option Dat)}{e a b:Expr}{es:List Expr}{d:Dat}{ds ds':List Dat}{pos:Pos}
theorem qah{i:Int}{j}:PD X G (.Constant (.int i) j pos) (.int i):=⟨PE.weak qak fun σ H Q k=>k.2 _ H (Same.refl H) (.int i)⟩
theorem qag{x:Str}{j}:PD X G (.Constant (.str x) j pos) (.str x):=⟨PE.weak qao fun σ H Q k=>k.2 _ H (Same.refl H) (.str x)⟩
theorem qam{i:Nat}(h:PE X e (tVar i))(g:G[i]?=some (some d)):PD X G e d:=⟨PE.weak h fun σ H Q k=>let⟨v,x,y⟩:=k.1.2 i d g;⟨v,x,k.2 v H (Same.refl H) y⟩⟩
theorem qav{l:List Expr}{k:Nat}{env:Env}:starEach (.Tuple l k pos::es) env=(false,eval (.Tuple l k pos) env)::starEach es env:=by rfl
theorem qaj{l:List Expr}{env:Env}:starEach (.List l pos::es) env=(false,eval (.List l pos) env)::starEach es env:=by rfl
theorem qac{c:Const}{k:Nat}{env:Env}:starEach (.Constant c k pos::es) env=(false,eval (.Constant c k pos) env)::starEach es env:=by rfl
theorem qaq{x:Str}{env:Env}:starEach (.Name x pos::es) env=(false,eval (.Name x pos) env)::starEach es env:=by rfl
theorem qbb{op:Operator}{env:Env}:starEach (.BinOp a op b pos::es) env=(false,eval (.BinOp a op b pos) env)::starEach es env:=by rfl
theorem qbz{env:Env}:starEach (.Subscript a b pos::es) env=(false,eval (.Subscript a b pos) env)::starEach es env:=by rfl
theorem qaQ{l:List Expr}{kw:List Keyword}{env:Env}:starEach (.Call a l kw pos::es) env=(false,eval (.Call a l kw pos) env)::starEach es env:=by rfl
theorem qbV{op:UnaryOp}{env:Env}:starEach (.UnaryOp op a pos::es) env=(false,eval (.UnaryOp op a pos) env)::starEach es env:=by rfl
theorem qa2{d':Dat}(h:PD X G e d)(q:d=d'):PD X G e d':=q ▸ h
theorem pds_nil:PDs X G [] [] 0:=⟨PA.weak pa_nil fun σ H Q k=>k.2 [] H (Same.refl H) .nil,rfl⟩
theorem qaa{n:Nat}(ha:PD X G e d)(hr:PDs X G es ds n)(hs:starEach (e::es) X.env=(false,eval e X.env)::starEach es X.env):PDs X G (e::es) (d::ds) (n+1) :=
 ⟨PA.weak (qab ha.h hr.h hs) fun σ H Q k=>⟨k.1,fun v H1 s1 dv=>⟨k.1.same s1,fun vs H2 s2 dvs=>k.2 _ _ (s1.trans s2) (.cons (dv.same s2) dvs)⟩⟩,congrArg (·+ 1) hr.l⟩
theorem qaJ{x1}{n:Nat}(h:PDs X G es ds n)(l:n≤sizeLine:=by decide):PD X G (.Tuple es x1 pos) (.tuple ds) :=
 ⟨PE.weak (qbB h.h) fun σ H Q k=>⟨k.1,fun vs H1 s1 da=>⟨by rw[da.length,h.l];exact l,fun p hp=>k.2 _ _ (s1.trans (qaf hp _)) (.tup qad (da.same (qaf hp _)))⟩⟩⟩
theorem qal{n:Nat}(h:PDs X G es ds n)(l:n≤sizeLine:=by decide):PD X G (.List es pos) (.list ds) :=
 ⟨PE.weak (qaY h.h) fun σ H Q k=>⟨k.1,fun vs H1 s1 da=>⟨by rw[da.length,h.l];exact l,fun p hp=>k.2 _ _ (s1.trans (qaf hp _)) (.lst qad (da.same (qaf hp _)))⟩⟩⟩
theorem qaV(ha:PD X G a (.list ds))(hb:PD X G b (.list ds'))(l:ds.length+ds'.length≤sizeLine):PD X G (.BinOp a .Add b pos) (.list (ds++ds')) :=
 ⟨PE.weak (qaN op_cat ha.h hb.h) fun σ H Q k=>⟨k.1,fun v H1 s1 dv=>⟨k.1.same s1,fun u H2 s2 du=>by
  obtain⟨p,xs,rfl,hp,ax⟩:=qbe (dv.same s2);obtain⟨q,ys,rfl,hq,ay⟩:=qbe du;refine⟨p,q,xs,ys,rfl,rfl,hp,hq,by rw[ax.length,ay.length];exact l,fun r hr=>?_⟩;exact k.2 _ _ ((s1.trans s2).trans (qaf hr _)) (.lst qad ((ax.app ay).same (qaf hr _)))⟩⟩⟩
theorem qeO{n:Int}(ha:PD X G a (.list ds))(hb:PD X G b (.int n))(h0:-(2 ^ 63)≤n)(h1:n<2 ^ 63)(l:ds.length*n.toNat≤sizeLine):PD X G (.BinOp a .Mult b pos) (.list (List.replicate n.toNat ds).flatten) :=
 ⟨PE.weak (qaN op_rep ha.h hb.h) fun σ H Q k=>⟨k.1,fun v H1 s1 dv=>⟨k.1.same s1,fun u H2 s2 du=>by
  obtain⟨p,xs,rfl,hp,ax⟩:=qbe (dv.same s2);cases qa1 du;refine⟨p,n,xs,rfl,rfl,hp,h0,h1,by rw[ax.length];exact l,fun r hr=>?_⟩;exact k.2 _ _ ((s1.trans s2).trans (qaf hr _)) (.lst qad ((ax.rep _).same (qaf hr _)))⟩⟩⟩
theorem qb2{α:Type}(f:α→Dat)(xs:List α)(z:α)(n:Nat){i:Int}(ha:PD X G a (.list (xs.map f)))(hb:PD X G b (.int i))(ei:i=(n:Int))(l:n<xs.length)(hs:qd5 b:=by exact fun _ _=>rfl):PD X G (.Subscript a b pos) (f (xs.getD n z)) :=
 ⟨PE.weak (qaF ix_list ha.h hb.h hs) fun σ H Q k=>⟨k.1,fun v H1 s1 dv=>⟨k.1.same s1,fun u H2 s2 du=>by
  obtain⟨p,ys,rfl,hp,ax⟩:=qbe (dv.same s2);cases qa1 du;have e:(xs.map f)[n]?=some (f (xs.getD n z)):=by
   rw[List.getElem?_map,List.getD_eq_getElem?_getD,List.getElem?_eq_getElem l];rfl
  obtain⟨w,e1,dw⟩:=ax.at e;exact⟨p,ys,i,w,rfl,rfl,SqL.of hp,by rw[ei];exact qcj e1,k.2 _ _ (s1.trans s2) dw⟩⟩⟩⟩
theorem qdk{p2:Pos}(ha:PD X G a (.list ds))(l:1≤ds.length){c:Pos}{k0}:PD X G (.Subscript a (.Slice (some (.Constant (.int 1) k0 c)) none none p2) pos) (.list (ds.drop 1)) :=
 ⟨PE.weak (qbG sl_list ha.h (qbM qak) po_none) fun σ H Q k=>⟨k.1,fun v H1 s1 dv=>by
  obtain⟨p,xs,rfl,hp,ax⟩:=qbe dv;refine⟨1,rfl,p,xs,rfl,SqL.of hp,fun r hr=>?_⟩;rw[Bk.cut_from1 (by rw[ax.length];exact l)];exact k.2 _ _ (s1.trans (qaf hr _)) (.lst qad ((ax.drop 1).same (qaf hr _)))⟩⟩
theorem pd_to1{p2:Pos}(ha:PD X G a (.list ds))(l:1≤ds.length){c:Pos}{k0}:PD X G (.Subscript a (.Slice none (some (.Constant (.int 1) k0 c)) none p2) pos) (.list (ds.take 1)) :=
 ⟨PE.weak (qbG sl_list ha.h po_none (qbM qak)) fun σ H Q k=>⟨k.1,fun v H1 s1 dv=>by
  obtain⟨p,xs,rfl,hp,ax⟩:=qbe dv;refine⟨1,rfl,p,xs,rfl,SqL.of hp,fun r hr=>?_⟩;rw[Bk.cut_to1 (by rw[ax.length];exact l)];exact k.2 _ _ (s1.trans (qaf hr _)) (.lst qad ((ax.take 1).same (qaf hr _)))⟩⟩
theorem qfz{op:Operator}{g:Int→Int→V}{g':Int→Int→Int}{i j:Int}(ho:OpR X (binaryOp op) (rI0 g))(ha:PD X G a (.int i))(hb:PD X G b (.int j))(hg:g i j=.int (g' i j)):PD X G (.BinOp a op b pos) (.int (g' i j)) :=
 ⟨PE.weak (qaN ho ha.h hb.h) fun σ H Q k=>⟨k.1,fun v H1 s1 dv=>⟨k.1.same s1,fun u H2 s2 du=>by
  cases qa1 dv;cases qa1 du;exact⟨i,j,rfl,rfl,by rw[hg];exact k.2 _ _ (s1.trans s2) (.int _)⟩⟩⟩⟩
theorem qdj{i j:Int}(ha:PD X G a (.int i))(hb:PD X G b (.int j)):PD X G (.BinOp a .Add b pos) (.int (i+j)):=qfz (g':=(·+ ·)) op_add ha hb rfl
theorem qeW{i j:Int}(ha:PD X G a (.int i))(hb:PD X G b (.int j)):PD X G (.BinOp a .Sub b pos) (.int (i-j)):=qfz (g':=(·- ·)) op_sub ha hb rfl
theorem qbd{i j:Int}(ha:PD X G a (.int i))(hb:PD X G b (.int j))(hj:0<j):PD X G (.BinOp a .Mod b pos) (.int (i % j)) :=
 ⟨PE.weak (qaN op_mod ha.h hb.h) fun σ H Q k=>⟨k.1,fun v H1 s1 dv=>⟨k.1.same s1,fun u H2 s2 du=>by
  cases qa1 dv;cases qa1 du;exact⟨i,j,rfl,rfl,hj,k.2 _ _ (s1.trans s2) (.int _)⟩⟩⟩⟩
theorem qdK{i j:Int}(ha:PD X G a (.int i))(hb:PD X G b (.int j))(hj:0<j)(hj2:j<1073741824):PD X G (.BinOp a .FloorDiv b pos) (.int (i / j)) :=
 ⟨PE.weak (qaN op_fdiv ha.h hb.h) fun σ H Q k=>⟨k.1,fun v H1 s1 dv=>⟨k.1.same s1,fun u H2 s2 du=>by
  cases qa1 dv;cases qa1 du;exact⟨i,j,rfl,rfl,⟨hj,hj2⟩,k.2 _ _ (s1.trans s2) (.int _)⟩⟩⟩⟩
theorem qcw{i:Int}(ha:PD X G a (.int i)):PD X G (.UnaryOp .USub a pos) (.int (-i)) :=
 ⟨PE.weak (qeJ un_neg ha.h) fun σ H Q k=>⟨k.1,fun v H1 s1 dv=>by
  cases qa1 dv;exact⟨i,rfl,k.2 _ _ s1 (.int _)⟩⟩⟩
theorem pd_catS{x y:Str}(ha:PD X G a (.str x))(hb:PD X G b (.str y))(l:x.length+y.length≤sizeLine):PD X G (.BinOp a .Add b pos) (.str (x++y)) :=
 ⟨PE.weak (qaN op_add_str ha.h hb.h) fun σ H Q k=>⟨k.1,fun v H1 s1 dv=>⟨k.1.same s1,fun u H2 s2 du=>by
  cases qbo dv;cases qbo du;exact⟨x,y,rfl,rfl,l,k.2 _ _ (s1.trans s2) (.str _)⟩⟩⟩⟩
theorem pd_repS{x:Str}{n:Nat}{i:Int}(ha:PD X G a (.str x))(hb:PD X G b (.int i))(ei:i=(n:Int))(l:x.length=1)(l2:n≤1000):PD X G (.BinOp a .Mult b pos) (.str (repS x n)) :=
 ⟨PE.weak (qaN op_mulS ha.h hb.h) fun σ H Q k=>⟨k.1,fun v H1 s1 dv=>⟨k.1.same s1,fun u H2 s2 du=>by
  cases qbo dv;cases qa1 du;exact⟨x,n,rfl,by rw[ei],l,l2,k.2 _ _ (s1.trans s2) (.str _)⟩⟩⟩⟩
theorem pd_ixS{x:Str}{c n:Nat}{i:Int}(ha:PD X G a (.str x))(hb:PD X G b (.int i))(ei:i=(n:Int))(l:x.length≤sizeLine)(hc:x.cps.toList[n]?=some c)(hs:qd5 b:=by exact fun _ _=>rfl):PD X G (.Subscript a b pos) (.str ⟨#[c]⟩) :=
 ⟨PE.weak (qaF ix_str ha.h hb.h hs) fun σ H Q k=>⟨k.1,fun v H1 s1 dv=>⟨k.1.same s1,fun u H2 s2 du=>by
  cases qbo dv;cases qa1 du;exact⟨x,i,c,rfl,rfl,l,by rw[ei];exact qcj hc,k.2 _ _ (s1.trans s2) (.str _)⟩⟩⟩⟩
theorem qfm{i j:Int}(ha:PD X G a (.int i))(hb:PD X G b (.int j))(hm:behindInMarks .Eq b=false):PT X (.Compare a [.Eq] [b] pos) (tGb G (decide (i=j))) :=
 PT.weak (qas op_eq ha.h hb.h hm) fun σ H Q k=>⟨k.1,fun v H1 s1 dv=>⟨k.1.same s1,fun u H2 s2 du=>by
  cases qa1 dv;cases qa1 du;refine⟨rfl,_,rfl,?_⟩;have e:decide (V.int i=V.int j)=decide (i=j):=by
   rw[Bool.eq_iff_iff,decide_eq_true_iff,decide_eq_true_iff];exact⟨V.int.inj,fun z=>by rw[z]⟩
  rw[e];exact k.2 _ (s1.trans s2)⟩⟩
structure QS(X:Cx)(st:Stmt)(t:TS):Prop where
 h:PS X st t
structure QSs(X:Cx)(ss:List Stmt)(t:TS):Prop where
 h:PSs X ss t
theorem qa4(h:PD X G e d):QS X (.Return (some e) pos) (tRet (tGv G d)):=⟨qat h.h⟩
theorem qba{i:Nat}{x:Str}{pos':Pos}(hN:X.N.Nodup)(hi:X.N[i]?=some x)(hx:Loc X.env.scope x)(h:PD X G e d)(hs:swapsWith e (some (.Name x pos')) pos.line X.env=pure false:=by rfl)(hf:X.fn x=true∨X.env.scope.names.lookup x=some .local:=by first | exact .inl rfl | exact .inr rfl | assumption):QS X (.Assign [.Name x pos'] e pos) (tAsg (tGv G d) (qeI i)):=⟨qaD hN hi hx h.h hs hf⟩
theorem qbT{i j:Int}{pos':Pos}{p q:List Stmt}{t u:TS}(ha:PD X G a (.int i))(hb:PD X G b (.int j))(hp:QSs X p t)(hq:QSs X q u):QS X (.If (.Compare a [.Eq] [b] pos) p q pos') (tIfS (tGb G (decide (i=j))) t u):=⟨qaR (qfm ha hb (qaz _)) hp.h hq.h⟩
theorem qs_if2{a' b':Expr}{i j i' j':Int}{p1 p2 p3 pos':Pos}{p q:List Stmt}{t u:TS}(ha:PD X G a (.int i))(hb:PD X G b (.int j))(ha':PD X G a' (.int i'))(hb':PD X G b' (.int j'))(hp:QSs X p t)(hq:QSs X q u) :
  QS X (.If (.BoolOp .And [.Compare a [.Eq] [b] p1,.Compare a' [.Eq] [b'] p2] p3) p q pos') (tIfS (tAnd (tGb G (decide (i=j))) (tGb G (decide (i'=j')))) t u):=⟨qaR (PW.pt (qbP (qfm ha hb (qaz _)) (qby (qfm ha' hb' (qaz _))))) hp.h hq.h⟩
theorem qss_nil:QSs X [] tNext:=⟨pss_nil⟩
theorem qaU{st:Stmt}{t:TS}(h:QS X st t):QSs X [st] t:=⟨qai h.h⟩
theorem qau{st:Stmt}{rest:List Stmt}{t u:TS}(h:QS X st t)(r:QSs X rest u):QSs X (st::rest) (tSeq t u):=⟨qae h.h r.h⟩
theorem qcY{ss:List Stmt}{t:TS}{W:TS→Prop}(h:QSs X ss t)(k:W t):∃t,PSs X ss t∧W t:=⟨t,h.h,k⟩
def spD(R:List Dat→Dat→Prop):Sp:=fun vs H Q _=>∃ds d,DAll H vs ds∧R ds d∧∀v H',Same H H'→DIn H' v d→Q v H'
theorem qbq{R:List Dat→Dat→Prop}{k:Nat}{ps:List Str}{x:Str}{p:Pos}{n:Nat}(F:Fx X.prog X.w X.K X.mg X.base CX0 k x ps (spD R))(hr:Room k X.A)(hg:Gl X x)(ha:PDs X G (e::es) ds n)(hR:R ds d)(hdb:(x == ("__debug__" : Str))=false:=by decide)(he:starEach (e::es) X.env=(false,eval e X.env)::starEach es X.env:=by rfl)(hpl:(backTo pos (starEach es X.env)).any (·.1)=false:=by rfl):PD X G (.Call (.Name x p) (e::es) [] pos) d :=
 ⟨PE.weak (qaE F hr hg qaG ha.h hdb he hpl) fun σ H Q k=>⟨k.1,fun vs H1 s1 da=>⟨ds,d,by rw[List.append_nil];exact da,hR,fun v H2 s2 dv=>k.2 _ _ (s1.trans s2) dv⟩⟩⟩
theorem qe0{x:Str}{p:Pos}{n:Nat}(hg:Gl X x)(hm:X.mg x=none)(hv:bootBuiltins x=some (.builtin "len"))(ha:PDs X G (e::es) [.list ds] n)(hn:x ≠ "__name__":=by decide)(hdb:(x == ("__debug__" : Str))=false:=by decide)(he:starEach (e::es) X.env=(false,eval e X.env)::starEach es X.env:=by rfl)(hpl:(backTo pos (starEach es X.env)).any (·.1)=false:=by rfl):PD X G (.Call (.Name x p) (e::es) [] pos) (.int (ds.length:Nat)) :=
 ⟨PE.weak (qaw call_len_seq hg hm hv ha.h hn hdb he hpl) fun σ H Q k=>⟨k.1,fun vs H1 s1 da=>by
  cases da with
  | cons x q =>
    cases q
    obtain⟨a,xs,rfl,ha,ax⟩:=qbe x
    exact⟨a,xs,rfl,.inl (SqL.of ha),by rw[ax.length];exact k.2 _ _ s1 (.int _)⟩⟩⟩
end
end L2
namespace Bk
open PySem L2 Gen
open PySem.W (Dat)
abbrev kd(k:Kd):Dat:=.str k.s
def soW:Th:=.tri .word (.inl (Str.ofString "so")) 0
def nodeSt:Kd→List Th
 | .text | .head | .note=>[soW]
 | .picture=>[.int 3,.int 4]
 | _=>[]
def qay(e:Int)(k:Kd):Nd:=⟨e,k,noName,[],nodeSt k⟩
def qaX(a:Int):Int→Nat→List Kd→List Nd
 | _,_,[]=>[]
 | e,i,k::ks=>qay e k::qaX a (a+i) (i+1) ks
theorem qaB(a:Int):∀(ks:List Kd) (e:Int) (i:Nat),(qaX a e i ks).length=ks.length
 | [],_,_=>rfl
 | k::ks,e,i=>by rw[qaX,List.length_cons,List.length_cons,qaB a ks]
def qft(ds:List Dat)(d:Dat):Prop:=∃e k,ds=[.int e,kd k]∧d=ndD (qay e k)
def qfM(ds:List Dat)(d:Dat):Prop:=∃a ks,ds=[.int a,.list (ks.map kd)]∧ks.length≤10∧d=.list ((qaX a 0 0 ks).map ndD)
abbrev fL(l:List Th):Dat:=.list (l.map thD)
def oddS(far:Nat):Str:=[Str.ofString "*a",Str.ofString "a{",Str.ofString "a|b",Str.ofString "a>",Str.ofString "#a",Str.ofString "_"].getD (far % 6) noName
def repW:List Th:=List.replicate 61 soW
theorem rep61:Dat.list (List.replicate (61:Int).toNat [thD soW]).flatten=fL repW:=rfl
def qbK(far:Nat):List (List Th):=[[],repW,[.tri .word (.inl (Str.ofString "")) 0],[.tri .word (.inl (repS (Str.ofString "a") 21)) 0],[.tri .word (.inl (Str.ofString "a b")) 0],[.tri .word (.inl (Str.ofString "so")) (-1)],
 [.tri .word (.inl (Str.ofString "so")) (4+(far:Int))],[.tri .page (.inl (Str.ofString "")) 0],[.tri .page (.inl (Str.ofString "Ab")) 0],[.tri .page (.inl (Str.ofString "abcdefghi")) 0],
 [.tri .page (.inl (Str.ofString "a")) 4],[.tri .sign (.inl (Str.ofString "so")) 0],[soW,.tri .word (.inl (oddS far)) 1],[soW,.tri .note (.inr 0) 0],[.tri .word (.inl (Str.ofString "so")) (-1-(far:Int)),soW]]
def qct(far:Nat):List Th:=(qbK far).getD (far % 15) []
def wrongNs:List (List Th):=[[soW],[.tri .note (.inr 0) 0,soW],[soW,.tri .note (.inr 1) 0],[soW,.tri .note (.inr 0) 1],[soW,.tri .note (.inr (-1)) 0],[soW,.tri .note (.inr 0) 0,.tri .note (.inr 1) 0],[soW,.tri .note (.inr 0) 0,.tri .note (.inr 0) 0]]
def qcV(far:Nat):List Th:=wrongNs.getD (far % 7) []
def RPw(ds:List Dat)(d:Dat):Prop:=∃far:Nat,ds=[.int far]∧d=fL (qct far)
def RNw(ds:List Dat)(d:Dat):Prop:=∃far:Nat,ds=[.int far]∧d=fL (qcV far)
theorem th_of{H:Hp}{v:V}{x:Th}(h:DIn H v (thD x)):ItAt (fun _=>True) H v x:=by
 cases x with
 | int n=>exact qa1 h
 | tri s x t =>
   cases h with
   | tup e q =>
     cases q with
     | cons a q =>
       cases q with
       | cons b q =>
         cases q with
         | cons c q =>
           cases q
           cases qbo a
           cases qa1 c
           cases x with
           | inl y=>cases qbo b;exact⟨_,rfl,trivial,e⟩
           | inr y=>cases qa1 b;exact⟨_,rfl,trivial,e⟩
theorem qfE{H:Hp}:∀{l:List Th} {vs:List V},DAll H vs (l.map thD)→Paired (ItAt (fun _=>True) H) vs l
 | [],_,h=>by cases h;exact .nil
 | x :: l, _, h => by
   cases h with
   | cons a q=>exact .cons (th_of a) (qfE q)
theorem strs_of{H:Hp}:∀{l:List Str} {vs:List V},DAll H vs (l.map Dat.str)→vs=l.map V.str
 | [],_,h=>by cases h;rfl
 | x :: l, _, h => by
   cases h with
   | cons a q=>rw[qbo a,strs_of q];rfl
theorem nd_of{H:Hp}{v:V}{d:Nd}(h:DIn H v (ndD d)):∃a,v=.ref a∧NdAt (fun _=>True) H a d:=by
 cases h with
 | tup e q =>
   cases q with
   | cons a q =>
     cases q with
     | cons b q =>
       cases q with
       | cons c q =>
         cases q with
         | cons m q =>
           cases q with
           | cons s q =>
             cases q
             cases qa1 a
             cases qbo b
             cases qbo c
             obtain⟨pm,xs,rfl,hm,am⟩:=qbe m
             obtain⟨ps,ys,rfl,hs,as⟩:=qbe s
             exact⟨_,rfl,trivial,pm,ps,e,trivial,by rw[hm,strs_of am],trivial,ys,hs,qfE as⟩
theorem qfC{H:Hp}:∀{l:List Nd} {vs:List V},DAll H vs (l.map ndD)→∃as,vs=as.map V.ref∧NdsAt (fun _=>True) H as l
 | [],_,h=>by cases h;exact⟨[],rfl,.nil⟩
 | x :: l, _, h => by
   cases h with
   | cons a q =>
     obtain⟨b,rfl,n⟩:=nd_of a
     obtain⟨as,rfl,ns⟩:=qfC q
     exact⟨b::as,rfl,.cons n ns⟩
theorem qfT{H:Hp}{p:Addr}{ds:List Nd}(h:DIn H (.ref p) (bkD ds)):qbh (fun _=>True) H p ds:=by
 obtain⟨a,xs,e,hp,ax⟩:=qbe h;cases e;obtain⟨as,rfl,ns⟩:=qfC ax;exact⟨as,hp,ns⟩
end Bk
namespace Gen
open PySem L2 Bk
def spNoBook:Sp:=fun vs H Q _=>∃(p:Addr) (ds:List Nd) (N:Addr→Prop),vs=[.ref p]∧qbh N H p ds∧(∀d∈ds,Raw d)∧ds.length≤500∧¬GoodX ds∧∀H',Same H H'→Q (.bl true) H'
def spTrees:Sp:=fun vs H Q _=>∃(p:Addr) (ds:List Nd) (kind far:Nat),vs=[.ref p,.int kind,.int far]∧DIn H (.ref p) (bkD ds)∧Book ds∧ds.length≤50∧kind<18 ∧
 ∀ws a H',Same H H'→DIn H' (.ref a) (bkD ws)→(∀d∈ws,Raw d)→ws.length≤500→(kind≤10→¬GoodX ws)→Q (.ref a) H'
def spStuffs:Sp:=fun vs H Q _=>∃(p:Addr) (ds:List Nd) (kind far:Nat),vs=[.ref p,.int kind,.int far]∧DIn H (.ref p) (bkD ds)∧Book ds∧ds.length≤50∧11≤kind∧kind<18 ∧
 ∀ws a H',Same H H'→DIn H' (.ref a) (bkD ws)→(∀d∈ws,Raw d)→ws.length≤500→¬GoodX ws→Q (.ref a) H'
end Gen
namespace K05
open PySem L2 Bk Gen
open PySem.W (Dat)
abbrev sRefused:Stmt:=top 69
abbrev sByName:Stmt:=top 70
abbrev sNode:Stmt:=top 71
abbrev sChain:Stmt:=top 72
section
variable{P:Program}{w:World}{K:PySem.W.Frag}{mg:Str→Option Value}{base:Heap}
structure Cls9(K:PySem.W.Frag)(mg:Str→Option Value)(C Pc c1 c2 c3 c4 c5 c6 c7:Addr):Prop where
 mC:mg "NoBook" = some (.ref C)
 mP:mg "PressError" = some (.ref Pc)
 m1:mg "NoDrawing" = some (.ref c1)
 m2:mg "NoFace" = some (.ref c2)
 m3:mg "NoLeaf" = some (.ref c3)
 m4:mg "NoNode" = some (.ref c4)
 m5:mg "NoPart" = some (.ref c5)
 m6:mg "NoRule" = some (.ref c6)
 m7:mg "NoSheet" = some (.ref c7)
 X:XCls K C
 v:PySem.W.kitOne K (.ref C) (.type "ValueError")=some true
 a1:PySem.W.kitAny K (.ref C) [.ref c1,.ref c2,.ref c3,.ref c4]=some false
 a2:PySem.W.kitAny K (.ref C) [.ref c5,.ref c6,.ref c7]=some false
 x1:PySem.W.exmOne K (.ref C) (.ref Pc)=some true
 x2:PySem.W.exmOne K (.ref C) (.ref C)=some true
theorem scRefused:FnScope ["_law_nodes", "e", "_law_mine"] ["_law_nodes"] (qan sRefused):=⟨rfl,rfl,rfl,by decide +kernel,rfl,by decide +kernel,by decide +kernel⟩
theorem ok_refused{f c_NoBook c_PressError c_NoDrawing c_NoFace c_NoLeaf c_NoNode c_NoPart c_NoRule c_NoSheet:Addr}{fd:FuncData}(F:Fun K "_law_refused" "_law_refused" sRefused f fd)(T:Bn mg)(Z:Cls9 K mg c_NoBook c_PressError c_NoDrawing c_NoFace c_NoLeaf c_NoNode c_NoPart c_NoRule c_NoSheet)(F_made_book:Fx P w K mg base (CX1 P w) 7 "made_book" ["nodes"] (qdu c_NoBook)):FnOk P w K mg base CX0 8 f fd ["_law_nodes"] spNoBook:=by
 refine F.ok scRefused (fun vs H Q E h=>?_) (fun cdv A outer s H vs Q E hr h=>?_)
 ·obtain⟨p,ds,N,rfl,_⟩:=h;rfl
 ·obtain⟨p,ds,N,rfl,B,raw,le,ng,q⟩:=h;have hr_made_book:=hr;have m_NoBook:=Z.mC;have m_PressError:=Z.mP;have m_NoDrawing:=Z.m1;have m_NoFace:=Z.m2;have m_NoLeaf:=Z.m3;have m_NoNode:=Z.m4;have m_NoPart:=Z.m5;have m_NoRule:=Z.m6;have m_NoSheet:=Z.m7;refine⟨_,(qae (ps_tryFx (i:=1) (Y:=c_PressError) (by rfl) (by rfl) F_made_book hr_made_book (by rfl) (qab (pv 0) pa_nil) (by rfl) m_PressError scRefused.nd (by rfl) (by rfl) (fun ea=>(qae (qaD (i:=2) scRefused.nd (by rfl) (by trivial) (qb4 (qaw (r:=qfV K) qdz (by rfl) T.isinstance b_isinstance (qab (pv 1) (qab (qap (v:=.ref c_NoBook) (by rfl) m_NoBook rfl) pa_nil))) (qbL (qaw (r:=qfV K) qdz (by rfl) T.isinstance b_isinstance (qab (pv 1) (qab (qe5 (v:=.ty "ValueError") (by rfl) T.ver b_verr rfl) pa_nil))))))
   (qae (qaD (i:=2) scRefused.nd (by rfl) (by trivial) (qb4 (pv 2) (qbL (qfh (qaw (r:=qfl K) qdd (by rfl) T.isinstance b_isinstance (qab (pv 1) (qab (qbB (qab (qap (v:=.ref c_NoDrawing) (by rfl) m_NoDrawing rfl) (qab (qap (v:=.ref c_NoFace) (by rfl) m_NoFace rfl) (qab (qap (v:=.ref c_NoLeaf) (by rfl) m_NoLeaf rfl) (qab (qap (v:=.ref c_NoNode) (by rfl) m_NoNode rfl) pa_nil))))) pa_nil)))))))
   (qai (qat (qb4 (pv 2) (qbL (qfh (qaw (r:=qfl K) qdd (by rfl) T.isinstance b_isinstance (qab (pv 1) (qab (qbB (qab (qap (v:=.ref c_NoPart) (by rfl) m_NoPart rfl) (qab (qap (v:=.ref c_NoRule) (by rfl) m_NoRule rfl) (qab (qap (v:=.ref c_NoSheet) (by rfl) m_NoSheet rfl) pa_nil)))) pa_nil))))))))))))
   (qai (qat qcJ))),?_⟩
  refine⟨_,rfl,p,ds,N,rfl,B,raw,le,.inr ⟨ng,fun H1 s1=>⟨c_NoBook,rfl,Z.x1,fun ea hea=>?_⟩⟩⟩;have s2:Same H (upd H1 ea (excO ea c_NoBook)):=s1.trans (qaf hea _);have e2:upd H1 ea (excO ea c_NoBook) ea=some (excO ea c_NoBook):=qad;generalize upd H1 ea (excO ea c_NoBook)=H2 at s2 e2⊢;refine⟨_,rfl,ea,c_NoBook,_,_,rfl,e2,Z.X,⟨_,fun u r=>r,k_self⟩,_,rfl,iteT ?_⟩;refine⟨_,rfl,ea,c_NoBook,_,_,rfl,e2,Z.X,⟨_,fun u r=>r,Z.v⟩,?_⟩;refine⟨_,rfl,_,rfl,iteT ?_⟩;refine⟨_,rfl,(by show 4≤sizeLine;decide),fun t ht=>?_⟩;have s3:=qaf ht (.tup [.ref c_NoDrawing,.ref c_NoFace,.ref c_NoLeaf,.ref c_NoNode]);refine⟨ea,c_NoBook,t,[c_NoDrawing,c_NoFace,c_NoLeaf,c_NoNode],_,rfl,s3 _ _ e2,Z.X,qad,Z.a1,_,rfl,?_⟩;generalize upd H2 t (.tup [.ref c_NoDrawing,.ref c_NoFace,.ref c_NoLeaf,.ref c_NoNode])=H3 at s3⊢;refine⟨_,rfl,_,rfl,iteT ?_⟩;refine⟨_,rfl,(by show 3≤sizeLine;decide),fun t' ht'=>?_⟩;have s4:=qaf ht' (.tup [.ref c_NoPart,.ref c_NoRule,.ref c_NoSheet]);refine⟨ea,c_NoBook,t',[c_NoPart,c_NoRule,c_NoSheet],_,rfl,s4 _ _ (s3 _ _ e2),Z.X,qad,Z.a2,_,rfl,?_⟩;exact q _ (s2.trans (s3.trans s4))
theorem scByName:FnScope ["_law_nodes"] ["_law_nodes"] (qan sByName):=⟨rfl,rfl,rfl,by decide +kernel,rfl,by decide +kernel,by decide +kernel⟩
theorem ok_by_name{f c_NoBook c_PressError c_NoDrawing c_NoFace c_NoLeaf c_NoNode c_NoPart c_NoRule c_NoSheet:Addr}{fd:FuncData}(F:Fun K "_law_by_name" "_law_by_name" sByName f fd)(T:Bn mg)(Z:Cls9 K mg c_NoBook c_PressError c_NoDrawing c_NoFace c_NoLeaf c_NoNode c_NoPart c_NoRule c_NoSheet)(F_made_book:Fx P w K mg base (CX1 P w) 7 "made_book" ["nodes"] (qdu c_NoBook)):FnOk P w K mg base CX0 8 f fd ["_law_nodes"] spNoBook:=by
 refine F.ok scByName (fun vs H Q E h=>?_) (fun cdv A outer s H vs Q E hr h=>?_)
 ·obtain⟨p,ds,N,rfl,_⟩:=h;rfl
 ·obtain⟨p,ds,N,rfl,B,raw,le,ng,q⟩:=h;have hr_made_book:=hr;have m_NoBook:=Z.mC;refine⟨_,(qae (ps_try0Fx (Y:=c_NoBook) (by rfl) (by rfl) F_made_book hr_made_book (by rfl) (qab (pv 0) pa_nil) (by rfl) m_NoBook (fun ea=>(qai (qat qcJ))))
   (qai (qat qcJ))),?_⟩
  refine⟨_,rfl,p,ds,N,rfl,B,raw,le,.inr ⟨ng,fun H1 s1=>⟨c_NoBook,rfl,Z.x2,fun ea hea=>?_⟩⟩⟩;exact q _ (s1.trans (qaf hea _))
section
variable{X:Cx}{G:List (Option Dat)}{a b:Expr}{pos:Pos}
theorem pt_inK{k:Kd}{ks:List Kd}(ha:PD X G a (kd k))(hb:PD X G b (.list (ks.map kd)))(hm:behindInMarks .In b=false):PT X (.Compare a [.In] [b] pos) (tGb G (decide (k∈ks))) :=
 PT.weak (qas op_in_seq ha.h hb.h hm) fun σ H Q h=>⟨h.1,fun v H1 s1 dv=>⟨h.1.same s1,fun u H2 s2 du=>by
  cases qbo dv;obtain⟨p,xs,rfl,hp,ax⟩:=qbe du;have ex:xs=ks.map fun k=>V.str k.s:=by
   have:=strs_of (l:=ks.map Kd.s) (by rw[List.map_map];exact ax);rw[this,List.map_map];rfl
  rw[ex]at hp;refine⟨p,_,rfl,.inl (SqL.of hp),rfl,qbk _,_,rfl,?_⟩;rw[if_neg Bool.false_ne_true,qbx];exact h.2 _ (s1.trans s2)⟩⟩
theorem pt_eqK{k k':Kd}(ha:PD X G a (kd k))(hb:PD X G b (kd k'))(hm:behindInMarks .Eq b=false):PT X (.Compare a [.Eq] [b] pos) (tGb G (decide (k=k'))) :=
 PT.weak (qas op_eq ha.h hb.h hm) fun σ H Q h=>⟨h.1,fun v H1 s1 dv=>⟨h.1.same s1,fun u H2 s2 du=>by
  cases qbo dv;cases qbo du;refine⟨rfl,_,rfl,?_⟩;rw[kdt];exact h.2 _ (s1.trans s2)⟩⟩
end
theorem scNode:FnScope ["_law_elder", "_law_kind", "_law_stuff"] ["_law_elder", "_law_kind"] (qan sNode):=⟨rfl,rfl,rfl,by decide +kernel,rfl,by decide +kernel,by decide +kernel⟩
theorem ok_node{f:Addr}{fd:FuncData}(F:Fun K "_law_node" "_law_node" sNode f fd):FnOk P w K mg base CX0 1 f fd ["_law_elder", "_law_kind"] (spD qft):=by
 refine F.ok scNode (fun vs H Q E h=>?_) (fun cdv A outer s H vs Q E hr h=>?_)
 ·obtain⟨ds,d,da,⟨e,k,rfl,rfl⟩,q⟩:=h;exact da.length
 ·obtain⟨ds,d,da,⟨e,k,rfl,rfl⟩,q⟩:=h;refine⟨_,(qae (qaD (i:=2) scNode.nd (by rfl) (by trivial) (qal (G:=[some (.int e),some (kd k),none]) pds_nil).h)
   (qae (qaR (pt_inK (G:=[some (.int e),some (kd k),some (.list [])]) (ks:=[.text,.head,.note]) (qam (pv 1) rfl) (qal (qaa qag (qaa qag (qaa qag pds_nil qac) qac) qac)) (by with_unfolding_all rfl)) (qai (qaD (i:=2) scNode.nd (by rfl) (by trivial) (qal (G:=[some (.int e),some (kd k),some (.list [])]) (qaa (qaJ (qaa qag (qaa qag (qaa qah pds_nil qac) qac) qac)) pds_nil qav)).h)) pss_nil)
   (qae (qaR (pt_eqK (G:=[some (.int e),some (kd k),none]) (k':=.picture) (qam (pv 1) rfl) qag (qaz _)) (qai (qaD (i:=2) scNode.nd (by rfl) (by trivial) (qal (G:=[some (.int e),some (kd k),none]) (qaa qah (qaa qah pds_nil qac) qac)).h)) pss_nil)
   (qai (qat (qaJ (G:=[some (.int e),some (kd k),some (.list ((nodeSt k).map thD))]) (qaa (qam (pv 0) rfl) (qaa (qam (pv 1) rfl) (qaa qag (qaa (qal pds_nil) (qaa (qam (pv 2) rfl) pds_nil qaq) qaj) qac) qaq) qaq)).h))))),?_⟩
  have kn:Kn [some (.int e),some (kd k),none] (qc2 ["_law_elder", "_law_kind", "_law_stuff"] vs) H:=by
   cases da with
   | cons a da =>
     cases da with
     | cons b da =>
       cases da
       exact .is a (.is b (.no .nil))
  refine⟨kn,fun v0 H0 s0 d0=>?_⟩;have kn0:=Kn.put (i:=2) kn s0 d0;dsimp only[tNext];refine qa3 (fun σ' H'=>Kn [some (.int e),some (kd k),some (.list (if k∈[Kd.text,.head,.note]then[thD soW]else[]))] σ' H'∧Same H H') (fun N0 go=>⟨kn0,fun H1 s1=>?_⟩) ?_
  ·by_cases hk:k∈[Kd.text,.head,.note]
   ·rw[decide_eq_true hk];refine iteT ⟨kn0.same s1,fun v2 H2 s2 d2=>go _ _ ⟨?_,s0.trans (s1.trans s2)⟩⟩;rw[if_pos hk];exact Kn.put (i:=2) (kn0.same s1) s2 d2
   ·rw[decide_eq_false hk];refine iteF (go _ _ ⟨?_,s0.trans s1⟩);rw[if_neg hk];exact kn0.same s1
  rintro σ1 H1 ⟨kn1,s1⟩;have kn1':Kn [some (.int e),some (kd k),none] σ1 H1:=⟨kn1.1,fun i d h=>kn1.2 i d (by
   match i,h with
   | 0,h=>exact h
   | 1,h=>exact h
   | 2,h=>cases h
   | n+3,h=>cases h)⟩
  refine qa3 (fun σ' H'=>Kn [some (.int e),some (kd k),some (.list ((nodeSt k).map thD))] σ' H'∧Same H H') (fun N0 go=>⟨kn1',fun H2 s2=>?_⟩) ?_
  ·by_cases hk:k=.picture
   ·rw[decide_eq_true hk];refine iteT ⟨kn1'.same s2,fun v3 H3 s3 d3=>go _ _ ⟨?_,s1.trans (s2.trans s3)⟩⟩;rw[hk]at kn1'⊢;exact Kn.put (i:=2) (kn1'.same s2) s3 d3
   ·rw[decide_eq_false hk];refine iteF (go _ _ ⟨?_,s1.trans s2⟩);have e2:(if k∈[Kd.text,.head,.note]then[thD soW]else[])=(nodeSt k).map thD:=by
     cases k<;>first | rfl | exact absurd rfl hk
    rw[←e2];exact kn1.same s2
  rintro σ2 H2 ⟨kn2,s2⟩;exact⟨kn2,fun v H3 s3 d3=>q v H3 (s2.trans s3) d3⟩
def spNode2:Sp:=fun vs H Q _=>∃e k,vs=[.int e,.str (Kd.s k)]∧∀t H',Same H H'→NdAt (qcN H) H' t (qay e k)→Q (.ref t) H'
theorem ok_node2{f:Addr}{fd:FuncData}(F:Fun K "_law_node" "_law_node" sNode f fd):FnOk P w K mg base CX0 1 f fd ["_law_elder", "_law_kind"] spNode2:=by
 refine F.ok scNode (fun vs H Q E h=>?_) (fun cdv A outer s H vs Q E hr h=>?_)
 ·obtain⟨e,k,rfl,q⟩:=h;rfl
 ·obtain⟨e,k,rfl,q⟩:=h;refine⟨_,(qae (qaD (i:=2) scNode.nd (by rfl) (by trivial) (qaY pa_nil))
   (qae (qaR (qas op_in_seq (pv 1) (qaY (qab qao (qab qao (qab qao pa_nil)))) (by with_unfolding_all rfl)) (qai (qaD (i:=2) scNode.nd (by rfl) (by trivial) (qaY (qab (qbB (qab qao (qab qao (qab qak pa_nil)))) pa_nil)))) pss_nil)
   (qae (qaR (qas op_eq (pv 1) qao (qaz _)) (qai (qaD (i:=2) scNode.nd (by rfl) (by trivial) (qaY (qab qak (qab qak pa_nil))))) pss_nil)
   (qai (qat (qbB (qab (pv 0) (qab (pv 1) (qab qao (qab (qaY pa_nil) (qab (pv 2) pa_nil))))))))))),?_⟩
  refine⟨by show 0≤sizeLine;decide,fun l0 h0=>?_⟩;have s0:=qaf h0 (.lst []);have e0:upd H l0 (.lst []) l0=some (.lst []):=qad;generalize upd H l0 (.lst [])=H0 at s0 e0⊢;dsimp only[tNext];refine qa3 (fun σ' H'=>∃sf,σ'=[some (.int e),some (.str k.s),some (.ref sf)]∧Same H H'∧StAt (qcN H) H' sf (if k∈[Kd.text,.head,.note]then[soW]else[])) (fun N0 go=>?_) ?_
  ·refine⟨_,rfl,by show 3≤sizeLine;decide,fun l1 h1=>?_⟩;have s1:=qaf h1 (.lst [.str (Str.ofString "text"),.str (Str.ofString "head"),.str (Str.ofString "note")]);have e1:upd H0 l1 (.lst [.str (Str.ofString "text"),.str (Str.ofString "head"),.str (Str.ofString "note")]) l1=some (.lst ([Kd.text,.head,.note].map fun k=>V.str k.s)):=qad;generalize upd H0 l1 (.lst [.str (Str.ofString "text"),.str (Str.ofString "head"),.str (Str.ofString "note")])=H1 at s1 e1⊢;refine⟨l1,_,rfl,.inl (SqL.of e1),rfl,qbk _,_,rfl,?_⟩;rw[if_neg Bool.false_ne_true,qbx]
   by_cases hk:k∈[Kd.text,.head,.note]
   ·rw[decide_eq_true hk];refine iteT ⟨by show 3≤sizeLine;decide,fun t ht=>⟨by show 1≤sizeLine;decide,fun l2 h2=>?_⟩⟩;have s2:=qaf ht (.tup [.str (Str.ofString "word"),.str (Str.ofString "so"),.int 0]);have s3:=qaf h2 (.lst [.ref t]);have s01:=s0.trans s1;refine go _ _ ⟨l2,rfl,s01.trans (s2.trans s3),?_⟩;rw[if_pos hk];exact⟨(s01.trans s2).free h2,_,qad,.cons ⟨t,rfl,s01.free ht,s3 _ _ qad⟩ .nil⟩
   ·rw[decide_eq_false hk];refine iteF (go _ _ ⟨l0,rfl,s0.trans s1,?_⟩);rw[if_neg hk];exact⟨h0,_,s1 _ _ e0,.nil⟩
  rintro σ1 H1 ⟨sf,rfl,s1,st1⟩;refine qa3 (fun σ' H'=>∃sf,σ'=[some (.int e),some (.str k.s),some (.ref sf)]∧Same H H'∧StAt (qcN H) H' sf (nodeSt k)) (fun N0 go=>?_) ?_
  ·refine⟨_,rfl,rfl,_,rfl,?_⟩;rw[show decide (V.str k.s=V.str (Str.ofString "picture"))=decide (k=.picture)from kdt k .picture]
   by_cases hk:k=.picture
   ·rw[decide_eq_true hk];refine iteT ⟨by show 2≤sizeLine;decide,fun l2 h2=>?_⟩;refine go _ _ ⟨l2,rfl,s1.trans (qaf h2 _),?_⟩;rw[hk];exact⟨s1.free h2,_,qad,.cons rfl (.cons rfl .nil)⟩
   ·rw[decide_eq_false hk];refine iteF (go _ _ ⟨sf,rfl,s1,?_⟩);have e2:(if k∈[Kd.text,.head,.note]then[soW]else[])=nodeSt k:=by
     cases k<;>first | rfl | exact absurd rfl hk
    rw[←e2];exact st1
  rintro σ2 H2 ⟨sf2,rfl,s2,st2⟩;refine⟨_,rfl,_,rfl,by show 0≤sizeLine;decide,fun l3 h3=>?_⟩;have s3:=qaf h3 (.lst []);refine⟨_,rfl,by show 5≤sizeLine;decide,fun t ht=>?_⟩;have s4:=qaf ht (.tup [.int e,.str k.s,.str (Str.ofString ""),.ref l3,.ref sf2]);exact q t _ (s2.trans (s3.trans s4)) ⟨(s2.trans s3).free ht,l3,sf2,qad,s2.free h3,s4 _ _ qad,st2.keep (s3.trans s4).keep fun _ n _=>n⟩
theorem qcE{H:Hp}{b L:Addr}{o:HO}(h:H b=none)(e:H L=some o):b≠L:=fun z=>by rw[z,e]at h;cases h
theorem qc9(a:Int):∀(ks:List Kd) (e:Int) (i:Nat) (k:Kd),qaX a e i (ks++[k])=qaX a e i ks++[qay (if ks=[]then e else a+((i+ks.length:Nat):Int)-1) k]
 | [],e,i,k=>rfl
 | c :: ks, e, i, k => by
   have e2:(if ks=[]then a+(i:Int)else a+((i+1+ks.length:Nat):Int)-1)=(if c::ks=[]then e else a+((i+(c::ks).length:Nat):Int)-1):=by
     rw[if_neg (List.cons_ne_nil c ks),List.length_cons]
     by_cases hk:ks=[]
     · rw[if_pos hk,hk,List.length_nil];omega
     · rw[if_neg hk];omega
   rw[List.cons_append,qaX,qc9 a ks (a+i) (i+1) k,e2,qaX,List.cons_append]
theorem scChain:FnScope ["_law_at", "_law_kinds", "_law_found", "_law_elder", "_law_kind"] ["_law_at", "_law_kinds"] (qan sChain):=⟨rfl,rfl,rfl,by decide +kernel,rfl,by decide +kernel,by decide +kernel⟩
theorem ok_chain{f:Addr}{fd:FuncData}(F:Fun K "_law_chain" "_law_chain" sChain f fd)(T:Bn mg)(F__law_node:Fx P w K mg base CX0 1 "_law_node" ["_law_elder", "_law_kind"] spNode2):FnOk P w K mg base CX0 2 f fd ["_law_at", "_law_kinds"] (spD qfM):=by
 refine F.ok scChain (fun vs H Q E h=>?_) (fun cdv A outer s H vs Q E hr h=>?_)
 ·obtain⟨ds,d,da,⟨a,ks,rfl,_,rfl⟩,q⟩:=h;exact da.length
 ·obtain⟨ds,d,da,⟨a,ks,rfl,lk,rfl⟩,q⟩:=h;have hr_node:=hr;have F_node:=F__law_node;cases da with
  | cons a1 da =>
  cases da with
  | cons a2 da =>
  cases da;cases qa1 a1;obtain⟨p,xs,rfl,hp,ax⟩:=qbe a2;have ex:xs=ks.map fun k=>V.str k.s:=by
   have:=strs_of (l:=ks.map Kd.s) (by rw[List.map_map];exact ax);rw[this,List.map_map];rfl
  rw[ex]at hp;refine⟨_,(qae (qaD (i:=2) scChain.nd (by rfl) (by trivial) (qaY pa_nil))
   (qae (qaD (i:=3) scChain.nd (by rfl) (by trivial) qak)
   (qae (qbN PassesOwn.never (by rfl) (qbl (pv 1)) (qaH (i:=4) scChain.nd (by rfl) (by trivial))
   (qae (qa8 (qeK PySem.F.plainAttrs_list PySem.F.slot_list_append PySem.F.type_list_append mt_append (pv 2) (qab (qaE F_node hr_node (by rfl) qaG (qab (pv 3) (qab (pv 4) pa_nil))) pa_nil)))
   (qai (qaD (i:=3) scChain.nd (by rfl) (by trivial) (qaN op_sub (qaN op_add (pv 0) (qaw call_len_seq (by rfl) T.len b_len (qab (pv 2) pa_nil))) qak)))))
   (qai (qat (pv 2)))))),?_⟩
  refine⟨by show 0≤sizeLine;decide,fun L hL=>?_⟩;have s0:=qaf hL (.lst []);have e0:upd H L (.lst []) L=some (.lst []):=qad;generalize upd H L (.lst [])=H0 at s0 e0⊢;have np:p≠L:=qar hp hL;refine⟨_,rfl,p,rfl,⟨_,SqL.of (s0 _ _ hp)⟩,for_list (xs:=ks.map fun k=>V.str k.s) (fun i σ' H'=>(∃z,σ'=[some (.int a),some (.ref p),some (.ref L),some (.int (if i=0 then 0 else a+(i:Int)-1)),z])∧Same H H'∧∃as,H' L=some (.lst (as.map V.ref))∧as.length=i∧NdsAt (fun b=>b≠L) H' as (qaX a 0 0 (ks.take i))) ⟨⟨none,rfl⟩,s0,[],e0,rfl,.nil⟩ ?_ ?_ ?_⟩
  ·rintro i σ' H' hi ⟨_,s1,_⟩;exact SqL.of (s1 _ _ hp)
  ·rintro i x σ' H' hx ⟨⟨z,rfl⟩,s1,as,hl,la,na⟩;rw[List.getElem?_map]at hx;cases e:ks[i]? with
   | none=>rw[e]at hx;cases hx
   | some k =>
     rw[e]at hx
     cases hx
     have hik:i<ks.length:=(List.getElem?_eq_some_iff.mp e).1
     refine⟨_,rfl,.inl ⟨rfl,_,SqL.of hl⟩,_,rfl,_,rfl,(if i=0 then 0 else a+(i:Int)-1),k,rfl,fun t H2 s2 nt=>?_⟩
     have hl2:=s2 _ _ hl
     refine⟨L,_,_,rfl,rfl,hl2,qaA (by rw[List.length_map];omega),?_⟩
     have s3:Same H (upd H2 L (.lst (as.map V.ref++[.ref t]))):=qet (s1.trans s2) hL
     have e3:upd H2 L (.lst (as.map V.ref++[.ref t])) L=some (.lst ((as++[t]).map V.ref)):=by rw[qad,List.map_append];rfl
     have k3:KeepN (fun b=>b≠L) H2 (upd H2 L (.lst (as.map V.ref++[.ref t]))):=fun b o n h=>by rw[qax n];exact h
     generalize upd H2 L (.lst (as.map V.ref++[.ref t]))=H3 at s3 e3 k3⊢
     refine⟨_,rfl,_,rfl,L,_,rfl,.inl (SqL.of e3),_,_,rfl,rfl,_,_,rfl,rfl,?_⟩
     have ee:(if ks.take i=[]then(0:Int)else a+((0+(ks.take i).length:Nat):Int)-1)=if i=0 then 0 else a+(i:Int)-1:=by
       by_cases hi:i=0
       · rw[if_pos hi,if_pos (by rw[hi,List.take_zero])]
       · rw[if_neg hi,if_neg (fun z=>hi (by have:=congrArg List.length z;rw[List.length_take,List.length_nil]at this;omega)),List.length_take]
         omega
     refine⟨⟨some (.str k.s),?_⟩,s3,as++[t],e3,by rw[List.length_append,la];rfl,?_⟩
     · rw[if_neg (Nat.succ_ne_zero i),List.length_map,List.length_append,la]
       rfl
     · rw[List.take_succ,e,Option.toList_some,qc9,ee]
       refine NdsAt.append (na.keep (fun b o n h=>k3 b o n (s2 _ _ h)) fun _ n _=>n) (.cons (nt.keep (fun b o n h=>k3 b o (qcE n hl) h) fun b n _=>qcE n hl) .nil)
  ·rintro σ' H' ⟨⟨z,rfl⟩,s1,as,hl,la,na⟩;rw[List.length_map,List.take_length]at na;refine⟨_,rfl,q _ _ s1 (.lst hl (qeX na))⟩
end
end K05
namespace K05
open PySem L2 Bk Gen
open PySem.W (Dat)
abbrev sPw:Stmt:=top 74
abbrev sNw:Stmt:=top 75
section
variable{P:Program}{w:World}{K:PySem.W.Frag}{mg:Str→Option Value}{base:Heap}
theorem scPw:FnScope ["_law_far", "_law_word_here", "_law_some", "_law_odd"] ["_law_far"] (qan sPw):=⟨rfl,rfl,rfl,by decide +kernel,rfl,by decide +kernel,by decide +kernel⟩
theorem ok_pieces_wrong{f:Addr}{fd:FuncData}(F:Fun K "_law_pieces_wrong" "_law_pieces_wrong" sPw f fd):FnOk P w K mg base CX0 1 f fd ["_law_far"] (spD RPw):=by
 refine F.ok scPw (fun vs H Q E h=>?_) (fun cdv A outer s H vs Q E hr h=>?_)
 ·obtain⟨ds,d,da,⟨far,rfl,rfl⟩,q⟩:=h;exact da.length
 ·obtain⟨ds,d,da,⟨far,rfl,rfl⟩,q⟩:=h;have sz:sizeLine=16777216:=by decide
  cases da with
  | cons a1 da =>
  cases da;refine qcY (qau (qba (i:=1) (G:=[some (.int (far:Int)),none,none,none]) scPw.nd (by rfl) (by trivial) (qa2 (qaJ (qaa qag (qaa qag (qaa qah pds_nil qac) qac) qac)) (by rfl:_=thD soW)))
   (qau (qba (i:=2) (G:=[some (.int (far:Int)),some (thD soW),none,none]) scPw.nd (by rfl) (by trivial) (qa2 (qal (qaa (qal pds_nil) (qaa (qa2 (qeO (qal (qaa (qam (pv 1) rfl) pds_nil qaq)) qah (by decide) (by decide) (by decide)) rep61) (qaa (qal (qaa (qaJ (qaa qag (qaa qag (qaa qah pds_nil qac) qac) qac)) pds_nil qav)) (qaa (qal (qaa (qaJ (qaa qag (qaa (pd_repS (n:=21) qag qah rfl (by decide +kernel) (by decide)) (qaa qah pds_nil qac) qbb) qac)) pds_nil qav)) (qaa (qal (qaa (qaJ (qaa qag (qaa qag (qaa qah pds_nil qac) qac) qac)) pds_nil qav)) (qaa (qal (qaa (qaJ (qaa qag (qaa qag (qaa (qcw qah) pds_nil qbV) qac) qac)) pds_nil qav)) pds_nil qaj) qaj) qaj) qaj) qbb) qaj)) (by rfl:_=Dat.list (((qbK far).take 6).map fL))))
   (qau (qba (i:=2) (G:=[some (.int (far:Int)),some (thD soW),some (.list (((qbK far).take 6).map fL)),none]) scPw.nd (by rfl) (by trivial) (qa2 (qaV (qam (pv 2) rfl) (qal (qaa (qal (qaa (qaJ (qaa qag (qaa qag (qaa (qdj qah (qam (pv 0) rfl)) pds_nil qbb) qac) qac)) pds_nil qav)) (qaa (qal (qaa (qaJ (qaa qag (qaa qag (qaa qah pds_nil qac) qac) qac)) pds_nil qav)) (qaa (qal (qaa (qaJ (qaa qag (qaa qag (qaa qah pds_nil qac) qac) qac)) pds_nil qav)) (qaa (qal (qaa (qaJ (qaa qag (qaa qag (qaa qah pds_nil qac) qac) qac)) pds_nil qav)) pds_nil qaj) qaj) qaj) qaj)) (Nat.le_of_ble_eq_true rfl)) (by rfl:_=Dat.list (((qbK far).take 10).map fL))))
   (qau (qba (i:=3) (G:=[some (.int (far:Int)),some (thD soW),some (.list (((qbK far).take 10).map fL)),none]) scPw.nd (by rfl) (by trivial) (qa2 (qb2 Dat.str [Str.ofString "*a",Str.ofString "a{",Str.ofString "a|b",Str.ofString "a>",Str.ofString "#a",Str.ofString "_"] noName (far % 6) (qa2 (qal (qaa qag (qaa qag (qaa qag (qaa qag (qaa qag (qaa qag pds_nil qac) qac) qac) qac) qac) qac)) (by rfl)) (qbd (qam (pv 0) rfl) qah (by decide)) (by omega) (Nat.mod_lt far (by decide))) (by rfl:_=Dat.str (oddS far))))
   (qau (qba (i:=2) (G:=[some (.int (far:Int)),some (thD soW),some (.list (((qbK far).take 10).map fL)),some (.str (oddS far))]) scPw.nd (by rfl) (by trivial) (qa2 (qaV (qam (pv 2) rfl) (qal (qaa (qal (qaa (qaJ (qaa qag (qaa qag (qaa qah pds_nil qac) qac) qac)) pds_nil qav)) (qaa (qal (qaa (qaJ (qaa qag (qaa qag (qaa qah pds_nil qac) qac) qac)) pds_nil qav)) (qaa (qal (qaa (qam (pv 1) rfl) (qaa (qaJ (qaa qag (qaa (qam (pv 3) rfl) (qaa qah pds_nil qac) qaq) qac)) pds_nil qav) qaq)) pds_nil qaj) qaj) qaj)) (Nat.le_of_ble_eq_true rfl)) (by rfl:_=Dat.list (((qbK far).take 13).map fL))))
   (qaU (qa4 (G:=[some (.int (far:Int)),some (thD soW),some (.list (((qbK far).take 13).map fL)),some (.str (oddS far))]) (qb2 fL (qbK far) [] (far % 15) (qa2 (qaV (qam (pv 2) rfl) (qal (qaa (qal (qaa (qam (pv 1) rfl) (qaa (qaJ (qaa qag (qaa qah (qaa qah pds_nil qac) qac) qac)) pds_nil qav) qaq)) (qaa (qal (qaa (qaJ (qaa qag (qaa qag (qaa (qeW (qcw qah) (qam (pv 0) rfl)) pds_nil qbb) qac) qac)) (qaa (qam (pv 1) rfl) pds_nil qaq) qav)) pds_nil qaj) qaj)) (Nat.le_of_ble_eq_true rfl)) (by rfl)) (qbd (qam (pv 0) rfl) qah (by decide)) (by omega) (Nat.mod_lt far (by decide)))))))))) ?_
  have kn:Kn [some (.int (far:Int)),none,none,none] [_,none,none,none] H:=.is a1 (.no (.no (.no .nil)));refine⟨kn,fun v1 H1 s1 d1=>?_⟩;have kn1:=Kn.put (i:=1) kn s1 d1;refine⟨kn1,fun v2 H2 s2 d2=>?_⟩;have kn2:=Kn.put (i:=2) kn1 s2 d2;refine⟨kn2,fun v3 H3 s3 d3=>?_⟩;have kn3:=Kn.put (i:=2) kn2 s3 d3;refine⟨kn3,fun v4 H4 s4 d4=>?_⟩;have kn4:=Kn.put (i:=3) kn3 s4 d4;refine⟨kn4,fun v5 H5 s5 d5=>?_⟩;have kn5:=Kn.put (i:=2) kn4 s5 d5;exact⟨kn5,fun v6 H6 s6 d6=>q v6 H6 (s1.trans (s2.trans (s3.trans (s4.trans (s5.trans s6))))) d6⟩
theorem scNw:FnScope ["_law_far", "_law_word_here", "_law_some"] ["_law_far"] (qan sNw):=⟨rfl,rfl,rfl,by decide +kernel,rfl,by decide +kernel,by decide +kernel⟩
theorem ok_notes_wrong{f:Addr}{fd:FuncData}(F:Fun K "_law_notes_wrong" "_law_notes_wrong" sNw f fd):FnOk P w K mg base CX0 1 f fd ["_law_far"] (spD RNw):=by
 refine F.ok scNw (fun vs H Q E h=>?_) (fun cdv A outer s H vs Q E hr h=>?_)
 ·obtain⟨ds,d,da,⟨far,rfl,rfl⟩,q⟩:=h;exact da.length
 ·obtain⟨ds,d,da,⟨far,rfl,rfl⟩,q⟩:=h;have sz:sizeLine=16777216:=by decide
  cases da with
  | cons a1 da =>
  cases da;refine qcY (qau (qba (i:=1) (G:=[some (.int (far:Int)),none,none]) scNw.nd (by rfl) (by trivial) (qa2 (qaJ (qaa qag (qaa qag (qaa qah pds_nil qac) qac) qac)) (by rfl:_=thD soW)))
   (qau (qba (i:=2) (G:=[some (.int (far:Int)),some (thD soW),none]) scNw.nd (by rfl) (by trivial) (qa2 (qal (qaa (qal (qaa (qam (pv 1) rfl) pds_nil qaq)) (qaa (qal (qaa (qaJ (qaa qag (qaa qah (qaa qah pds_nil qac) qac) qac)) (qaa (qam (pv 1) rfl) pds_nil qaq) qav)) (qaa (qal (qaa (qam (pv 1) rfl) (qaa (qaJ (qaa qag (qaa qah (qaa qah pds_nil qac) qac) qac)) pds_nil qav) qaq)) (qaa (qal (qaa (qam (pv 1) rfl) (qaa (qaJ (qaa qag (qaa qah (qaa qah pds_nil qac) qac) qac)) pds_nil qav) qaq)) (qaa (qal (qaa (qam (pv 1) rfl) (qaa (qaJ (qaa qag (qaa (qcw qah) (qaa qah pds_nil qac) qbV) qac)) pds_nil qav) qaq)) pds_nil qaj) qaj) qaj) qaj) qaj)) (by rfl:_=Dat.list ((wrongNs.take 5).map fL))))
   (qaU (qa4 (G:=[some (.int (far:Int)),some (thD soW),some (.list ((wrongNs.take 5).map fL))]) (qb2 fL wrongNs [] (far % 7) (qa2 (qaV (qam (pv 2) rfl) (qal (qaa (qal (qaa (qam (pv 1) rfl) (qaa (qaJ (qaa qag (qaa qah (qaa qah pds_nil qac) qac) qac)) (qaa (qaJ (qaa qag (qaa qah (qaa qah pds_nil qac) qac) qac)) pds_nil qav) qav) qaq)) (qaa (qal (qaa (qam (pv 1) rfl) (qaa (qaJ (qaa qag (qaa qah (qaa qah pds_nil qac) qac) qac)) (qaa (qaJ (qaa qag (qaa qah (qaa qah pds_nil qac) qac) qac)) pds_nil qav) qav) qaq)) pds_nil qaj) qaj)) (Nat.le_of_ble_eq_true rfl)) (by rfl)) (qbd (qam (pv 0) rfl) qah (by decide)) (by omega) (Nat.mod_lt far (by decide))))))) ?_
  have kn:Kn [some (.int (far:Int)),none,none] [_,none,none] H:=.is a1 (.no (.no .nil));refine⟨kn,fun v1 H1 s1 d1=>?_⟩;have kn1:=Kn.put (i:=1) kn s1 d1;refine⟨kn1,fun v2 H2 s2 d2=>?_⟩;have kn2:=Kn.put (i:=2) kn1 s2 d2;exact⟨kn2,fun v6 H6 s6 d6=>q v6 H6 (s1.trans (s2.trans s6)) d6⟩
end
end K05
namespace Bk
open PySem L2 Gen
structure Bef(ds:List Nd):Prop where
 ge:1≤ds.length
 top:∃d r,ds=d::r∧d.e=-1∧d.k=.body
 el:∀(n:Nat) (d:Nd),ds[n]?=some d→d.e<(n:Int)
theorem Book.bef{ds:List Nd}(b:Book ds):Bef ds:=by
 obtain⟨d,sub,ks,rfl,h1,h2,f,hh⟩:=b.tree;refine⟨by simp,⟨d,sub,rfl,h1,h2⟩,fun n c h=>?_⟩;rcases(Book.each b h).up with⟨rfl,e⟩ | ⟨_,j,m,e,lt,_⟩<;>omega
theorem Bef.lt{ds:List Nd}(b:Bef ds){d:Nd}(h:d∈ds):d.e<(ds.length:Int):=by
 obtain⟨n,hn⟩:=List.getElem?_of_mem h;have:=b.el n d hn;have:=(List.getElem?_eq_some_iff.mp hn).1;omega
theorem Bef.kk{ds:List Nd}(b:Bef ds){n:Int}(h:(ds.length:Int)≤n):kk ds n=[]:=qbF fun d hd=>by have:=b.lt hd;omega
theorem qc6{ds es:List Nd}{i:Nat}:(ds++es)[ds.length+i]?=es[i]?:=by
 rw[List.getElem?_append_right (by omega)]
 congr 1
 omega
theorem qb5{ds es:List Nd}:(ds++es)[ds.length]?=es[0]?:=qc6 (i:=0)
theorem Bef.at0{ds es:List Nd}(b:Bef ds):∃d,(ds++es)[0]?=some d∧d.e=-1∧d.k=.body:=by
 obtain⟨d,r,rfl,h1,h2⟩:=b.top;exact⟨d,rfl,h1,h2⟩
theorem qd9{ws:List Nd}{d:Nd}(h:d∈ws)(n:¬qd4 d):¬GoodX ws:=fun g=>n (g.form d h)
theorem qcB{ws:List Nd}{d:Nd}(h:d∈ws)(n:¬Stuff d.k d.st):¬GoodX ws:=qd9 h fun f=>n f.2.2.2.st
theorem qcl{ws:List Nd}{n:Nat}{d:Nd}(h:ws[n]?=some d)(c:¬Holds d.k (kk ws n) d.st):¬GoodX ws:=fun g=>c (g.held n d h)
theorem qck{ws:List Nd}{n:Nat}{d:Nd}(h:ws[n]?=some d)(c:¬TreeOk ws n d):¬GoodX ws:=fun g=>c (g.tree n d h)
theorem qfA{ws:List Nd}{n:Nat}{d c:Nd}(h:ws[n]?=some d)(hc:c∈ws)(e:c.e=(n:Int))(m:mayHold d.k c.k=false):¬GoodX ws:=qcl h fun z=>by
 have:c.k∈kk ws n:=List.mem_map.mpr ⟨c,List.mem_filter.mpr ⟨hc,decide_eq_true e⟩,rfl⟩;rw[z.1 c.k this]at m;cases m
theorem qfI{ws:List Nd}{i j u:Nat}{d:Nd}(h:ws[i]?=some d)(e:d.e=(j:Int))(l:Lev ws i u):∃v,u=v+1∧Lev ws j v:=by
 rcases qbv l h with⟨z,_⟩ | ⟨j',k,z,lk,rfl⟩
 ·omega
 ·have:j=j':=by omega
  subst this;exact⟨k,rfl,lk⟩
theorem wr1{ds:List Nd}(b:Bef ds){d:Nd}(h:d.k=.body):¬GoodX (ds++[d]):=qck (n:=ds.length) (d:=d) qb5 fun z=>by
 have:=z.body.mp h;have:=b.ge;omega
theorem wr1k{ds:List Nd}{d:Nd}(h:d.k∉kindsAll):¬GoodX (ds++[d]):=qd9 (d:=d) (by simp) fun f=>h f.2.2.1
theorem up_no{ws:List Nd}{d0 d1:Nd}{i j m:Nat}(h0:ws[0]?=some d0)(e0:d0.e=-1)(h1:ws[i]?=some d1)(e1:d1.e=0)(ne:i≠j)(n0:j≠0)(u:Up ws i j m):False:=by
 cases u with
 | here=>exact ne rfl
 | step a1 a2 a3 =>
   rw[h1]at a1
   cases a1
   rw[e1]at a2
   cases a3 with
   | here=>omega
   | step c1 c2 c3 =>
     obtain rfl:=Int.ofNat.inj a2
     rw[h0]at c1
     cases c1
     omega
theorem wr2{ds:List Nd}(b:Bef ds):¬GoodX (ds++[qay 0 .case]++[qay 0 .case,qay (ds.length:Int) .picture]):=by
 rw[List.append_assoc];refine qck (n:=ds.length+2) (d:=qay (ds.length:Int) .picture) qc6 fun z=>?_
 have ge:=b.ge;rcases z.up with⟨z,_⟩ | ⟨_,j,m,e,lt,u⟩
 ·omega
 ·have e:(ds.length:Int)=(j:Int):=e;obtain⟨d0,h0,e0,_⟩:=b.at0 (es:=[qay 0 .case]++[qay 0 .case,qay (ds.length:Int) .picture]);exact up_no (i:=ds.length+1) (d1:=qay 0 .case) h0 e0 qc6 rfl (by omega) (by omega) u
theorem wr3{ds:List Nd}(b:Bef ds){x:Int}(h:(ds.length:Int)≤x∨x<0):¬GoodX (ds++[qay x .picture]):=qck (n:=ds.length) (d:=qay x .picture) qb5 fun z=>by
 have ge:=b.ge;rcases z.up with⟨z,_⟩ | ⟨_,j,m,e,lt,u⟩
 ·omega
 ·have e:x=(j:Int):=e;omega
theorem wr4{ds:List Nd}(b:Bef ds){k k':Kd}(h:mayHold k k'=false):¬GoodX (ds++qaX (ds.length:Int) 0 0 [k,k']++[qay 0 .text]):=by
 rw[List.append_assoc];have e:qaX (ds.length:Int) 0 0 [k,k']=[qay 0 k,qay (ds.length+((0:Nat):Int)) k']:=rfl;rw[e];exact qfA (n:=ds.length) (d:=qay 0 k) (c:=qay (ds.length+((0:Nat):Int)) k') qb5 (by simp) (by show(ds.length:Int)+((0:Nat):Int)=_;omega) h
theorem wr5{ds:List Nd}(b:Bef ds):¬GoodX (ds++qaX (ds.length:Int) 0 0 [.case,.case,.case,.case,.case,.case,.picture]):=by
 have g:∀i:Nat,i<6→∃d,(ds++qaX (ds.length:Int) 0 0 [.case,.case,.case,.case,.case,.case,.picture])[ds.length+(i+1)]?=some d∧d.e=((ds.length+i:Nat):Int):=fun i hi=>by
  rw[qc6]
  match i,hi with
  | 0,_=>exact⟨_,rfl,by show(ds.length:Int)+((0:Nat):Int)=_;omega⟩
  | 1,_=>exact⟨_,rfl,by show(ds.length:Int)+((1:Nat):Int)=_;omega⟩
  | 2,_=>exact⟨_,rfl,by show(ds.length:Int)+((2:Nat):Int)=_;omega⟩
  | 3,_=>exact⟨_,rfl,by show(ds.length:Int)+((3:Nat):Int)=_;omega⟩
  | 4,_=>exact⟨_,rfl,by show(ds.length:Int)+((4:Nat):Int)=_;omega⟩
  | 5,_=>exact⟨_,rfl,by show(ds.length:Int)+((5:Nat):Int)=_;omega⟩
 obtain⟨d6,h6,e6⟩:=g 5 (by decide);refine qck (n:=ds.length+6) h6 fun z=>?_
 obtain⟨u,u6,l⟩:=z.lev;have step:∀i:Nat,i<6→∀u,Lev _ (ds.length+(i+1)) u→∃v,u=v+1∧Lev _ (ds.length+i) v:=fun i hi u l=>by
  obtain⟨d,h,e⟩:=g i hi;exact qfI h e l
 obtain⟨v5,q5,l5⟩:=step 5 (by decide) _ l;obtain⟨v4,q4,l4⟩:=step 4 (by decide) _ l5;obtain⟨v3,q3,l3⟩:=step 3 (by decide) _ l4;obtain⟨v2,q2,l2⟩:=step 2 (by decide) _ l3;obtain⟨v1,q1,l1⟩:=step 1 (by decide) _ l2;obtain⟨v0,q0,l0⟩:=step 0 (by decide) _ l1;obtain⟨v,q,_⟩:=qfI (j:=0) (d:=qay 0 .case) qb5 rfl l0;omega
theorem wr6{ws:List Nd}(h:61≤ws.length):¬GoodX ws:=fun g=>by have:=g.le;omega
theorem wr7{ds:List Nd}(b:Bef ds){k:Kd}(h:neverEmpty k=true):¬GoodX (ds++[qay 0 k,qay 0 .text]):=by
 have ge:=b.ge;refine qcl (n:=ds.length) (d:=qay 0 k) qb5 fun z=>z.2.1 h ?_
 rw[qcu,b.kk (Int.le_refl _),qbF]
 ·rfl
 ·intro d hd;have:d.e=0:=by
   simp only[List.mem_cons,List.not_mem_nil,or_false]at hd;rcases hd with rfl | rfl<;>rfl
  omega
theorem wr8{ds es:List Nd}(b:Bef ds)(h:(kk es 0)[0]?≠some .text)(nx:∀{ks:List Kd} {i:Nat},Nexts ks→ks[i]?=some .aside→ks[i+1]?=some .text):¬GoodX (ds++qaX (ds.length:Int) 0 0 [.aside,.picture]++es):=by
 rw[List.append_assoc];have e:qaX (ds.length:Int) 0 0 [.aside,.picture]=[qay 0 .aside,qay (ds.length+((0:Nat):Int)) .picture]:=rfl;rw[e];have ge:=b.ge;obtain⟨d0,h0,e0,k0⟩:=b.at0 (es:=[qay 0 .aside,qay (ds.length+((0:Nat):Int)) .picture]++es);refine qcl h0 fun z=>h ?_
 have n:=z.2.2.1;rw[show((0:Nat):Int)=0 from rfl,qcu,List.cons_append,qb6,if_pos (show(qay 0 Kd.aside).e=(0:Int)from rfl),List.cons_append,List.nil_append,List.cons_append,qb6,if_neg (by show¬(ds.length:Int)+((0:Nat):Int)=0;omega),List.nil_append,List.nil_append]at n;have i1:(kk ds 0++([(qay 0 .aside).k]++kk es 0))[(kk ds 0).length]?=some .aside:=by rw[List.getElem?_append_right (Nat.le_refl _),Nat.sub_self];rfl
 have i2:=nx n i1;rw[List.getElem?_append_right (by omega),show(kk ds 0).length+1-(kk ds 0).length=1 by omega]at i2;exact i2
theorem wr9{ds:List Nd}(b:Bef ds):¬GoodX (ds.take 1):=by
 obtain⟨d,r,rfl,h1,h2⟩:=b.top;refine qcl (n:=0) (d:=d) rfl fun z=>z.2.1 (by rw[h2];rfl) ?_
 refine qbF fun c hc=>?_
 have:c=d:=by simpa using hc
 rw[this,h1];decide
theorem wr10{ds:List Nd}{d:Nd}:¬GoodX (ds++[d,qay (ds.length:Int) .note,qay ((ds.length:Int)+1) .note]) :=
 qfA (n:=ds.length+1) (d:=qay (ds.length:Int) .note) (c:=qay ((ds.length:Int)+1) .note) qc6 (by simp) (by show(ds.length:Int)+1=_;omega) rfl
theorem notes0{ws:List Nd}{n:Nat}{d:Nd}(h:ws[n]?=some d)(hk:ofPieces d.k=true)(e:kk ws n=[])(c:qaC d.st≠[]):¬GoodX ws:=qcl h fun z=>c (by rw[z.2.2.2 hk,e];rfl)
theorem raw_nm:Low noName∧noName.length≤1000:=⟨by unfold Low;decide +kernel,by decide +kernel⟩
theorem raw_mk0:qfr []:=⟨(fun m h=>nomatch h),by decide⟩
theorem raw_so:PcForm soW:=⟨by unfold Low;decide +kernel,by decide +kernel⟩
theorem ok0:∀x∈([]:List Th),PySem.W.kqdOk 6 (thD x)=true:=fun x h=>nomatch h
theorem qaM(e:Int)(k:Kd):Raw (qay e k):=⟨raw_nm,raw_mk0,(fun x hx=>by
 have hx:x∈nodeSt k:=hx;cases k<;>first | (cases hx;done) | (have:x=soW:=(by simpa[nodeSt]using hx);rw[this];exact qdy raw_so) | (have hx:x∈[Th.int 3,Th.int 4]:=hx;simp only[List.mem_cons,List.not_mem_nil,or_false]at hx;rcases hx with rfl | rfl<;>rfl)),by
 refine⟨fun h x hx=>?_,fun h x hx=>?_,?_⟩
 ·cases k<;>first | cases h | skip
  all_goals
   have:x=soW:=by simpa[qay,nodeSt]using hx
   rw[this];exact raw_so
 ·have h:k=.picture:=h;subst h;have hx:x∈[Th.int 3,Th.int 4]:=hx;simp only[List.mem_cons,List.not_mem_nil,or_false]at hx;rcases hx with rfl | rfl<;>exact⟨_,rfl⟩
 ·show(nodeSt k).length≤500;cases k<;>decide⟩
theorem raw_form{d:Nd}(h:Form d):Raw d:=by
 refine⟨?_,⟨fun m hm=>⟨(h.mks.2.1 m hm).low,by have:=(h.mks.2.1 m hm).2.1;omega⟩,by have:=h.mks.1;omega⟩,qeH h.st,?_⟩
 ·rcases h.nm with e | n
  ·rw[e];exact raw_nm
  ·exact⟨n.low,by have:=n.2.1;omega⟩
 ·have st:=h.st;cases hk:d.k<;>rw[hk]at st
  case text=>exact⟨fun _ x hx=>qcU (st.1 x hx),(fun z=>by cases z),by have:=st.2.2;omega⟩
  case head=>exact⟨fun _ x hx=>qcU (st.1 x hx),(fun z=>by cases z),by have:=st.2.2;omega⟩
  case note=>exact⟨fun _ x hx=>qcU (st.1 x hx),(fun z=>by cases z),by have:=st.2.2;omega⟩
  case picture =>
   obtain⟨a,b,e,_⟩:=st;rw[e];refine⟨fun z=>(by cases z),fun _ x hx=>?_,by show 2≤500;decide⟩;simp only[List.mem_cons,List.not_mem_nil,or_false]at hx;rcases hx with rfl | rfl<;>exact⟨_,rfl⟩
  all_goals
   have st:d.st=[]:=st;rw[st];exact⟨(fun z=>by cases z),(fun z=>by cases z),by decide⟩
theorem qaL{ds es:List Nd}(a:∀d∈ds,Raw d)(b:∀d∈es,Raw d):∀d∈ds++es,Raw d:=fun d h=>(List.mem_append.mp h).elim (a d) (b d)
theorem qei{ds:List Nd}(b:Book ds):∀d∈ds,Raw d:=fun d h=>raw_form (b.form d h)
theorem qaT{d:Nd}(h:Raw d):∀c∈[d],Raw c:=fun c hc=>by rw[show c=d by simpa using hc];exact h
theorem qb7{d e:Nd}(h:Raw d)(g:Raw e):∀c∈[d,e],Raw c:=qaL (ds:=[d]) (qaT h) (qaT g)
theorem qcg(a:Int):∀(ks:List Kd) (e:Int) (i:Nat),∀d∈qaX a e i ks,Raw d
 | [],_,_,d,h=>by cases h
 | k :: ks, e, i, d, h => by
   rw[qaX]at h
   rcases List.mem_cons.mp h with rfl | h
   · exact qaM e k
   · exact qcg a ks _ _ d h
theorem qff{ds es:List Nd}(a:∀d∈ds,Raw d)(s:∀d∈es,d∈ds):∀d∈es,Raw d:=fun d h=>a d (s d h)
def heldPs:List (List Kd):=[[.shelf,.head],[.grid,.head],[.case,.note],[.picture,.picture],[.text,.text],[.aside,.aside],[.shelf,.aside],[.head,.picture],[.picture,.note]]
abbrev fK(ks:List Kd):PySem.W.Dat:=.list (ks.map kd)
def behs:List (List Nd):=[[],[qay 0 .picture],[qay 0 .case],[qay 0 .head]]
theorem qe8(n:Nat)(h:n<9):∃k k',heldPs.getD n []=[k,k']∧mayHold k k'=false:=by
 match n,h with
 | 0,_=>exact⟨_,_,rfl,rfl⟩
 | 1,_=>exact⟨_,_,rfl,rfl⟩
 | 2,_=>exact⟨_,_,rfl,rfl⟩
 | 3,_=>exact⟨_,_,rfl,rfl⟩
 | 4,_=>exact⟨_,_,rfl,rfl⟩
 | 5,_=>exact⟨_,_,rfl,rfl⟩
 | 6,_=>exact⟨_,_,rfl,rfl⟩
 | 7,_=>exact⟨_,_,rfl,rfl⟩
 | 8,_=>exact⟨_,_,rfl,rfl⟩
theorem qfv(n:Nat)(h:n<4):(behs.getD n []).length≤1∧(∀d∈behs.getD n [],Raw d)∧(kk (behs.getD n []) 0)[0]?≠some .text:=by
 match n,h with
 | 0,_=>exact⟨by decide,(fun d h=>nomatch h),fun z=>by cases z⟩
 | 1,_=>exact⟨by decide,qaT (qaM _ _),fun z=>by cases z⟩
 | 2,_=>exact⟨by decide,qaT (qaM _ _),fun z=>by cases z⟩
 | 3,_=>exact⟨by decide,qaT (qaM _ _),fun z=>by cases z⟩
theorem rep_one{α β:Type}{f:α→β}(n:Nat)(x:α):(List.replicate n [f x]).flatten=(List.replicate n x).map f:=by
 induction n with
 | zero=>rfl
 | succ n ih=>rw[List.replicate_succ,List.replicate_succ,List.flatten_cons,ih,List.map_cons];rfl
theorem raw_noted:Raw ⟨0,.text,noName,[],[soW,.tri .note (.inr 0) 0]⟩:=⟨raw_nm,raw_mk0,(fun x hx=>by
  simp only[List.mem_cons,List.not_mem_nil,or_false]at hx;rcases hx with rfl | rfl
  ·exact qdy raw_so
  ·exact qdy (x:=.tri .note (.inr 0) 0) trivial),(fun _ x hx=>by
  simp only[List.mem_cons,List.not_mem_nil,or_false]at hx;rcases hx with rfl | rfl
  ·exact raw_so
  ·trivial),(fun z=>by cases z),by show 2≤500;decide⟩
end Bk
namespace K05
open PySem L2 Bk Gen
open PySem.W (Dat)
abbrev sTrees:Stmt:=top 73
section
variable{P:Program}{w:World}{K:PySem.W.Frag}{mg:Str→Option Value}{base:Heap}
theorem scTrees:FnScope ["_law_nodes", "_law_kind", "_law_far", "_law_at", "_law_picture", "_law_held", "_law_behind", "_law_noted"] ["_law_nodes", "_law_kind", "_law_far"] (qan sTrees):=⟨rfl,rfl,rfl,by decide +kernel,rfl,by decide +kernel,by decide +kernel⟩
theorem ok_trees{f:Addr}{fd:FuncData}(F:Fun K "_law_trees" "_law_trees" sTrees f fd)(T:Bn mg)(F_node:Fx P w K mg base CX0 1 "_law_node" ["_law_elder", "_law_kind"] (spD qft))(F_chain:Fx P w K mg base CX0 2 "_law_chain" ["_law_at", "_law_kinds"] (spD qfM)):FnOk P w K mg base CX0 3 f fd ["_law_nodes", "_law_kind", "_law_far"] spTrees:=by
 refine F.ok scTrees (fun vs H Q E h=>?_) (fun cdv A outer s H vs Q E hr h=>?_)
 ·obtain⟨p,ds,kind,far,rfl,_⟩:=h;rfl
 ·obtain⟨p,ds,kind,far,rfl,dp,bk,le,k18,q⟩:=h;have sz:sizeLine=16777216:=by decide
  have b:=Book.bef bk;have ge:=b.ge;have rw0:=qei bk;have hr_node:Room 1 _:=hr.mono (by decide);have hr_chain:=hr;have hb1:=(qfv (far % 4) (Nat.mod_lt far (by decide))).1;have hl9:(heldPs.getD (far % 9) []).length≤10:=by
   obtain⟨k,k',e,_⟩:=qe8 (far % 9) (Nat.mod_lt far (by decide));rw[e];exact(by decide:2≤10)
  have fin:∀ws v H',Same H H'→DIn H' v (bkD ws)→(∀d∈ws,Raw d)→ws.length≤500→(kind≤10→¬GoodX ws)→Q v H':=fun ws v H' s d r l g=>by
   obtain⟨a,xs,rfl,_⟩:=qbe d;exact q ws a H' s d r l g
  refine qcY (qau (qba (i:=3) (G:=[some (.list (ds.map ndD)),some (.int (kind:Int)),some (.int (far:Int)),none,none,none,none,none]) scTrees.nd (by rfl) (by trivial) (qa2 (qe0 (by rfl) T.len b_len (qaa (qam (pv 0) rfl) pds_nil qaq)) (by rw[List.length_map]:_=Dat.int (ds.length:Int))))
   (qau (qba (i:=4) (G:=[some (.list (ds.map ndD)),some (.int (kind:Int)),some (.int (far:Int)),some (.int (ds.length:Int)),none,none,none,none]) scTrees.nd (by rfl) (by trivial) (qbq F_node hr_node (by rfl) (qaa qah (qaa qag pds_nil qac) qac) ⟨_,.picture,rfl,rfl⟩))
   (qau (qbT (G:=[some (.list (ds.map ndD)),some (.int (kind:Int)),some (.int (far:Int)),some (.int (ds.length:Int)),some (ndD (qay 0 .picture)),none,none,none]) (qam (pv 1) rfl) qah (qaU (qa4 (G:=[some (.list (ds.map ndD)),some (.int (kind:Int)),some (.int (far:Int)),some (.int (ds.length:Int)),some (ndD (qay 0 .picture)),none,none,none]) (qb2 Dat.list [[],[ndD (⟨0,.body,noName,[],[]⟩:Nd)]++(ds.map ndD).drop 1,[ndD (⟨-1,.case,noName,[],[]⟩:Nd)]++(ds.map ndD).drop 1] [] (far % 3) (qa2 (qal (qaa (qal pds_nil) (qaa (qaV (qal (qaa (qaJ (qaa qah (qaa qag (qaa qag (qaa (qal pds_nil) (qaa (qal pds_nil) pds_nil qaj) qaj) qac) qac) qac)) pds_nil qav)) (qdk (qam (pv 0) rfl) (by rw[List.length_map];exact ge)) (by simp only[List.length_append,List.length_cons,List.length_nil,List.length_map,List.length_drop,qaB];omega)) (qaa (qaV (qal (qaa (qaJ (qaa (qcw qah) (qaa qag (qaa qag (qaa (qal pds_nil) (qaa (qal pds_nil) pds_nil qaj) qaj) qac) qac) qbV)) pds_nil qav)) (qdk (qam (pv 0) rfl) (by rw[List.length_map];exact ge)) (by simp only[List.length_append,List.length_cons,List.length_nil,List.length_map,List.length_drop,qaB];omega)) pds_nil qbb) qbb) qaj)) (by rfl)) (qbd (qam (pv 2) rfl) qah (by decide)) (by omega) (Nat.mod_lt far (by decide))))) qss_nil)
   (qau (qbT (G:=[some (.list (ds.map ndD)),some (.int (kind:Int)),some (.int (far:Int)),some (.int (ds.length:Int)),some (ndD (qay 0 .picture)),none,none,none]) (qam (pv 1) rfl) qah (qaU (qa4 (G:=[some (.list (ds.map ndD)),some (.int (kind:Int)),some (.int (far:Int)),some (.int (ds.length:Int)),some (ndD (qay 0 .picture)),none,none,none]) (qaV (qam (pv 0) rfl) (qal (qaa (qb2 (fun k=>ndD (qay 0 k)) [Kd.body,.leaf,.no] .no (far % 3) (qa2 (qal (qaa (qbq F_node hr_node (by rfl) (qaa qah (qaa qag pds_nil qac) qac) ⟨_,.body,rfl,rfl⟩) (qaa (qbq F_node hr_node (by rfl) (qaa qah (qaa qag pds_nil qac) qac) ⟨_,.leaf,rfl,rfl⟩) (qaa (qbq F_node hr_node (by rfl) (qaa qah (qaa qag pds_nil qac) qac) ⟨_,.no,rfl,rfl⟩) pds_nil qaQ) qaQ) qaQ)) (by rfl)) (qbd (qam (pv 2) rfl) qah (by decide)) (by omega) (Nat.mod_lt far (by decide))) pds_nil qbz)) (by simp only[List.length_append,List.length_cons,List.length_nil,List.length_map,List.length_drop,qaB];omega)))) qss_nil)
   (qau (qbT (G:=[some (.list (ds.map ndD)),some (.int (kind:Int)),some (.int (far:Int)),some (.int (ds.length:Int)),some (ndD (qay 0 .picture)),none,none,none]) (qam (pv 1) rfl) qah (qaU (qa4 (G:=[some (.list (ds.map ndD)),some (.int (kind:Int)),some (.int (far:Int)),some (.int (ds.length:Int)),some (ndD (qay 0 .picture)),none,none,none]) (qaV (qaV (qam (pv 0) rfl) (qbq F_chain hr_chain (by rfl) (qaa (qam (pv 3) rfl) (qaa (qal (qaa qag pds_nil qac)) pds_nil qaj) qaq) ⟨_,[.case],rfl,by decide,rfl⟩) (by simp only[List.length_append,List.length_cons,List.length_nil,List.length_map,List.length_drop,qaB];omega)) (qal (qaa (qbq F_node hr_node (by rfl) (qaa qah (qaa qag pds_nil qac) qac) ⟨_,.case,rfl,rfl⟩) (qaa (qbq F_node hr_node (by rfl) (qaa (qam (pv 3) rfl) (qaa qag pds_nil qac) qaq) ⟨_,.picture,rfl,rfl⟩) pds_nil qaQ) qaQ)) (by simp only[List.length_append,List.length_cons,List.length_nil,List.length_map,List.length_drop,qaB];omega)))) qss_nil)
   (qau (qbT (G:=[some (.list (ds.map ndD)),some (.int (kind:Int)),some (.int (far:Int)),some (.int (ds.length:Int)),some (ndD (qay 0 .picture)),none,none,none]) (qam (pv 1) rfl) qah (qaU (qa4 (G:=[some (.list (ds.map ndD)),some (.int (kind:Int)),some (.int (far:Int)),some (.int (ds.length:Int)),some (ndD (qay 0 .picture)),none,none,none]) (qaV (qam (pv 0) rfl) (qal (qaa (qbq F_node hr_node (by rfl) (qaa (qb2 Dat.int [(ds.length:Int),(ds.length:Int)+1+(far:Int),-1,-2-(far:Int)] 0 (far % 4) (qa2 (qal (qaa (qam (pv 3) rfl) (qaa (qdj (qdj (qam (pv 3) rfl) qah) (qam (pv 2) rfl)) (qaa (qcw qah) (qaa (qeW (qcw qah) (qam (pv 2) rfl)) pds_nil qbb) qbV) qbb) qaq)) (by rfl)) (qbd (qam (pv 2) rfl) qah (by decide)) (by omega) (Nat.mod_lt far (by decide))) (qaa qag pds_nil qac) qbz) ⟨_,.picture,rfl,rfl⟩) pds_nil qaQ)) (by simp only[List.length_append,List.length_cons,List.length_nil,List.length_map,List.length_drop,qaB];omega)))) qss_nil)
   (qau (qbT (G:=[some (.list (ds.map ndD)),some (.int (kind:Int)),some (.int (far:Int)),some (.int (ds.length:Int)),some (ndD (qay 0 .picture)),none,none,none]) (qam (pv 1) rfl) qah (qau (qba (i:=5) (G:=[some (.list (ds.map ndD)),some (.int (kind:Int)),some (.int (far:Int)),some (.int (ds.length:Int)),some (ndD (qay 0 .picture)),none,none,none]) scTrees.nd (by rfl) (by trivial) (qa2 (qal (qaa (qal (qaa qag (qaa qag pds_nil qac) qac)) (qaa (qal (qaa qag (qaa qag pds_nil qac) qac)) (qaa (qal (qaa qag (qaa qag pds_nil qac) qac)) (qaa (qal (qaa qag (qaa qag pds_nil qac) qac)) (qaa (qal (qaa qag (qaa qag pds_nil qac) qac)) pds_nil qaj) qaj) qaj) qaj) qaj)) (by rfl:_=Dat.list ((heldPs.take 5).map fK))))
   (qau (qba (i:=5) (G:=[some (.list (ds.map ndD)),some (.int (kind:Int)),some (.int (far:Int)),some (.int (ds.length:Int)),some (ndD (qay 0 .picture)),some (.list ((heldPs.take 5).map fK)),none,none]) scTrees.nd (by rfl) (by trivial) (qa2 (qaV (qam (pv 5) rfl) (qal (qaa (qal (qaa qag (qaa qag pds_nil qac) qac)) (qaa (qal (qaa qag (qaa qag pds_nil qac) qac)) (qaa (qal (qaa qag (qaa qag pds_nil qac) qac)) (qaa (qal (qaa qag (qaa qag pds_nil qac) qac)) pds_nil qaj) qaj) qaj) qaj)) (Nat.le_of_ble_eq_true rfl)) (by rfl:_=Dat.list (heldPs.map fK))))
   (qaU (qa4 (G:=[some (.list (ds.map ndD)),some (.int (kind:Int)),some (.int (far:Int)),some (.int (ds.length:Int)),some (ndD (qay 0 .picture)),some (.list (heldPs.map fK)),none,none]) (qaV (qaV (qam (pv 0) rfl) (qbq F_chain hr_chain (by rfl) (qaa (qam (pv 3) rfl) (qaa (qb2 fK heldPs [] (far % 9) (qa2 (qam (pv 5) rfl) (by rfl)) (qbd (qam (pv 2) rfl) qah (by decide)) (by omega) (Nat.mod_lt far (by decide))) pds_nil qbz) qaq) ⟨_,heldPs.getD (far % 9) [],rfl,hl9,rfl⟩) (by simp only[List.length_append,List.length_cons,List.length_nil,List.length_map,List.length_drop,qaB];omega)) (qal (qaa (qbq F_node hr_node (by rfl) (qaa qah (qaa qag pds_nil qac) qac) ⟨_,.text,rfl,rfl⟩) pds_nil qaQ)) (by simp only[List.length_append,List.length_cons,List.length_nil,List.length_map,List.length_drop,qaB];omega)))))) qss_nil)
   (qau (qbT (G:=[some (.list (ds.map ndD)),some (.int (kind:Int)),some (.int (far:Int)),some (.int (ds.length:Int)),some (ndD (qay 0 .picture)),none,none,none]) (qam (pv 1) rfl) qah (qaU (qa4 (G:=[some (.list (ds.map ndD)),some (.int (kind:Int)),some (.int (far:Int)),some (.int (ds.length:Int)),some (ndD (qay 0 .picture)),none,none,none]) (qaV (qam (pv 0) rfl) (qbq F_chain hr_chain (by rfl) (qaa (qam (pv 3) rfl) (qaa (qaV (qeO (qal (qaa qag pds_nil qac)) qah (by decide) (by decide) (by decide)) (qal (qaa qag pds_nil qac)) (Nat.le_of_ble_eq_true rfl)) pds_nil qbb) qaq) ⟨_,[.case,.case,.case,.case,.case,.case,.picture],rfl,by decide,rfl⟩) (by simp only[List.length_append,List.length_cons,List.length_nil,List.length_map,List.length_drop,qaB];omega)))) qss_nil)
   (qau (qbT (G:=[some (.list (ds.map ndD)),some (.int (kind:Int)),some (.int (far:Int)),some (.int (ds.length:Int)),some (ndD (qay 0 .picture)),none,none,none]) (qam (pv 1) rfl) qah (qaU (qa4 (G:=[some (.list (ds.map ndD)),some (.int (kind:Int)),some (.int (far:Int)),some (.int (ds.length:Int)),some (ndD (qay 0 .picture)),none,none,none]) (qaV (qam (pv 0) rfl) (qeO (qal (qaa (qam (pv 4) rfl) pds_nil qaq)) (qdj (qeW qah (qam (pv 3) rfl)) (qbd (qam (pv 2) rfl) qah (by decide))) (by omega) (by omega) (by simp only[List.length_cons,List.length_nil];omega)) (by rw[qeS,List.length_map,List.length_cons,List.length_nil];omega)))) qss_nil)
   (qau (qbT (G:=[some (.list (ds.map ndD)),some (.int (kind:Int)),some (.int (far:Int)),some (.int (ds.length:Int)),some (ndD (qay 0 .picture)),none,none,none]) (qam (pv 1) rfl) qah (qaU (qa4 (G:=[some (.list (ds.map ndD)),some (.int (kind:Int)),some (.int (far:Int)),some (.int (ds.length:Int)),some (ndD (qay 0 .picture)),none,none,none]) (qaV (qam (pv 0) rfl) (qal (qaa (qbq F_node hr_node (by rfl) (qaa qah (qaa (qb2 kd [Kd.shelf,.grid,.aside] .no (far % 3) (qa2 (qal (qaa qag (qaa qag (qaa qag pds_nil qac) qac) qac)) (by rfl)) (qbd (qam (pv 2) rfl) qah (by decide)) (by omega) (Nat.mod_lt far (by decide))) pds_nil qbz) qac) ⟨_,([Kd.shelf,.grid,.aside].getD (far % 3) .no),rfl,rfl⟩) (qaa (qbq F_node hr_node (by rfl) (qaa qah (qaa qag pds_nil qac) qac) ⟨_,.text,rfl,rfl⟩) pds_nil qaQ) qaQ)) (by simp only[List.length_append,List.length_cons,List.length_nil,List.length_map,List.length_drop,qaB];omega)))) qss_nil)
   (qau (qbT (G:=[some (.list (ds.map ndD)),some (.int (kind:Int)),some (.int (far:Int)),some (.int (ds.length:Int)),some (ndD (qay 0 .picture)),none,none,none]) (qam (pv 1) rfl) qah (qau (qba (i:=6) (G:=[some (.list (ds.map ndD)),some (.int (kind:Int)),some (.int (far:Int)),some (.int (ds.length:Int)),some (ndD (qay 0 .picture)),none,none,none]) scTrees.nd (by rfl) (by trivial) (qa2 (qb2 bkD behs [] (far % 4) (qa2 (qal (qaa (qal pds_nil) (qaa (qal (qaa (qam (pv 4) rfl) pds_nil qaq)) (qaa (qal (qaa (qbq F_node hr_node (by rfl) (qaa qah (qaa qag pds_nil qac) qac) ⟨_,.case,rfl,rfl⟩) pds_nil qaQ)) (qaa (qal (qaa (qbq F_node hr_node (by rfl) (qaa qah (qaa qag pds_nil qac) qac) ⟨_,.head,rfl,rfl⟩) pds_nil qaQ)) pds_nil qaj) qaj) qaj) qaj)) (by rfl)) (qbd (qam (pv 2) rfl) qah (by decide)) (by omega) (Nat.mod_lt far (by decide))) (by rfl:_=Dat.list ((behs.getD (far % 4) []).map ndD))))
   (qaU (qa4 (G:=[some (.list (ds.map ndD)),some (.int (kind:Int)),some (.int (far:Int)),some (.int (ds.length:Int)),some (ndD (qay 0 .picture)),none,some (.list ((behs.getD (far % 4) []).map ndD)),none]) (qaV (qaV (qam (pv 0) rfl) (qbq F_chain hr_chain (by rfl) (qaa (qam (pv 3) rfl) (qaa (qal (qaa qag (qaa qag pds_nil qac) qac)) pds_nil qaj) qaq) ⟨_,[.aside,.picture],rfl,by decide,rfl⟩) (by simp only[List.length_append,List.length_cons,List.length_nil,List.length_map,List.length_drop,qaB];omega)) (qam (pv 6) rfl) (by simp only[List.length_append,List.length_cons,List.length_nil,List.length_map,qaB];omega))))) qss_nil)
   (qau (qbT (G:=[some (.list (ds.map ndD)),some (.int (kind:Int)),some (.int (far:Int)),some (.int (ds.length:Int)),some (ndD (qay 0 .picture)),none,none,none]) (qam (pv 1) rfl) qah (qaU (qa4 (G:=[some (.list (ds.map ndD)),some (.int (kind:Int)),some (.int (far:Int)),some (.int (ds.length:Int)),some (ndD (qay 0 .picture)),none,none,none]) (pd_to1 (qam (pv 0) rfl) (by rw[List.length_map];exact ge)))) qss_nil)
   (qau (qba (i:=7) (G:=[some (.list (ds.map ndD)),some (.int (kind:Int)),some (.int (far:Int)),some (.int (ds.length:Int)),some (ndD (qay 0 .picture)),none,none,none]) scTrees.nd (by rfl) (by trivial) (qa2 (qaJ (qaa qah (qaa qag (qaa qag (qaa (qal pds_nil) (qaa (qal (qaa (qaJ (qaa qag (qaa qag (qaa qah pds_nil qac) qac) qac)) (qaa (qaJ (qaa qag (qaa qah (qaa qah pds_nil qac) qac) qac)) pds_nil qav) qav)) pds_nil qaj) qaj) qac) qac) qac)) (by rfl:_=ndD (⟨0,.text,noName,[],[soW,.tri .note (.inr 0) 0]⟩:Nd))))
   (qaU (qa4 (G:=[some (.list (ds.map ndD)),some (.int (kind:Int)),some (.int (far:Int)),some (.int (ds.length:Int)),some (ndD (qay 0 .picture)),none,none,some (ndD (⟨0,.text,noName,[],[soW,.tri .note (.inr 0) 0]⟩:Nd))]) (qaV (qam (pv 0) rfl) (qal (qaa (qam (pv 7) rfl) (qaa (qbq F_node hr_node (by rfl) (qaa (qam (pv 3) rfl) (qaa qag pds_nil qac) qaq) ⟨_,.note,rfl,rfl⟩) (qaa (qbq F_node hr_node (by rfl) (qaa (qdj (qam (pv 3) rfl) qah) (qaa qag pds_nil qac) qbb) ⟨_,.note,rfl,rfl⟩) pds_nil qaQ) qaQ) qaq)) (by simp only[List.length_append,List.length_cons,List.length_nil,List.length_map,List.length_drop,qaB];omega))))))))))))))))) ?_
  have kn:Kn [some (.list (ds.map ndD)),some (.int (kind:Int)),some (.int (far:Int)),none,none,none,none,none] [some (.ref p),some (.int kind),some (.int far),none,none,none,none,none] H:=.is dp (.is (.int _) (.is (.int _) (.no (.no (.no (.no (.no .nil)))))));refine⟨kn,fun v1 H1 s1 d1=>?_⟩;have kn1:=Kn.put (i:=3) kn s1 d1;refine⟨kn1,fun v2 H2 s2 d2=>?_⟩;have kn2:=Kn.put (i:=4) kn1 s2 d2;have S:=s1.trans s2;clear kn kn1 d1 d2;have ap:∀es:List Nd,Dat.list (ds.map ndD++es.map ndD)=bkD (ds++es):=fun es=>by rw[bkD,List.map_append]
  have ap2:∀es fs:List Nd,Dat.list (ds.map ndD++es.map ndD++fs.map ndD)=bkD (ds++es++fs):=fun es fs=>by rw[bkD,List.map_append,List.map_append]
  refine⟨kn2,fun H3 z3=>?_⟩
  by_cases k0:kind=0
  ·rw[decide_eq_true (by omega:(kind:Int)=0)];have S':=S.trans z3;have kn3:=kn2.same z3;refine iteT ⟨kn3,fun v Hv sv dv=>?_⟩;have SV:=S'.trans sv;obtain⟨d0,r,e0,t1,t2⟩:=b.top;have rr:∀d∈r,Raw d:=fun d h=>rw0 d (by rw[e0];exact List.mem_cons_of_mem _ h)
   have lr:r.length≤49:=by rw[e0,List.length_cons]at le;omega
   have et:(ds.map ndD).drop 1=r.map ndD:=by rw[e0];rfl
   rw[et]at dv;have h3:far % 3=0∨far % 3=1∨far % 3=2:=by omega
   rcases h3 with e | e | e<;>rw[e]at dv
   ·exact fin [] v Hv SV dv (fun d h=>nomatch h) (by decide) fun _ g=>absurd g.ge (by decide)
   ·exact fin (⟨0,.body,noName,[],[]⟩::r) v Hv SV dv (qaL (ds:=[_]) (qaT ⟨raw_nm,raw_mk0,ok0,(fun z=>by cases z),(fun z=>by cases z),by decide⟩) rr) (by rw[List.length_cons];omega) fun _=>qck (n:=0) rfl fun z=>by
     rcases z.up with⟨_,z⟩ | ⟨z,_⟩
     ·exact absurd z (by decide)
     ·exact absurd z (by decide)
   ·exact fin (⟨-1,.case,noName,[],[]⟩::r) v Hv SV dv (qaL (ds:=[_]) (qaT ⟨raw_nm,raw_mk0,ok0,(fun z=>by cases z),(fun z=>by cases z),by decide⟩) rr) (by rw[List.length_cons];omega) fun _=>qck (n:=0) rfl fun z=>by
     have:=z.body.mpr rfl;cases this
  rw[decide_eq_false (by omega:¬(kind:Int)=0)];refine iteF ?_;replace S:=S.trans z3;replace kn2:=kn2.same z3;refine⟨kn2,fun H4 z4=>?_⟩
  by_cases k1:kind=1
  ·rw[decide_eq_true (by omega:(kind:Int)=1)];have S':=S.trans z4;have kn3:=kn2.same z4;refine iteT ⟨kn3,fun v Hv sv dv=>?_⟩;have SV:=S'.trans sv;have h3:far % 3=0∨far % 3=1∨far % 3=2:=by omega
   rcases h3 with e | e | e<;>rw[e]at dv
   ·exact fin (ds++[qay 0 .body]) v Hv SV (by rw[←ap];exact dv) (qaL rw0 (qaT (qaM _ _))) (by simp;omega) fun _=>wr1 b rfl
   ·exact fin (ds++[qay 0 .leaf]) v Hv SV (by rw[←ap];exact dv) (qaL rw0 (qaT (qaM _ _))) (by simp;omega) fun _=>wr1k (by decide)
   ·exact fin (ds++[qay 0 .no]) v Hv SV (by rw[←ap];exact dv) (qaL rw0 (qaT (qaM _ _))) (by simp;omega) fun _=>wr1k (by decide)
  rw[decide_eq_false (by omega:¬(kind:Int)=1)];refine iteF ?_;replace S:=S.trans z4;replace kn2:=kn2.same z4;refine⟨kn2,fun H5 z5=>?_⟩
  by_cases k2:kind=2
  ·rw[decide_eq_true (by omega:(kind:Int)=2)];have S':=S.trans z5;have kn3:=kn2.same z5;refine iteT ⟨kn3,fun v Hv sv dv=>?_⟩;have SV:=S'.trans sv;exact fin (ds++[qay 0 .case]++[qay 0 .case,qay (ds.length:Int) .picture]) v Hv SV (by rw[←ap2];exact dv) (qaL (qaL rw0 (qaT (qaM _ _))) (qb7 (qaM _ _) (qaM _ _))) (by simp;omega) fun _=>wr2 b
  rw[decide_eq_false (by omega:¬(kind:Int)=2)];refine iteF ?_;replace S:=S.trans z5;replace kn2:=kn2.same z5;refine⟨kn2,fun H6 z6=>?_⟩
  by_cases k3:kind=3
  ·rw[decide_eq_true (by omega:(kind:Int)=3)];have S':=S.trans z6;have kn3:=kn2.same z6;refine iteT ⟨kn3,fun v Hv sv dv=>?_⟩;have SV:=S'.trans sv;have h4:far % 4=0∨far % 4=1∨far % 4=2∨far % 4=3:=by omega
   rcases h4 with e | e | e | e<;>rw[e]at dv
   ·exact fin (ds++[qay (ds.length:Int) .picture]) v Hv SV (by rw[←ap];exact dv) (qaL rw0 (qaT (qaM _ _))) (by simp;omega) fun _=>wr3 b (by omega)
   ·exact fin (ds++[qay ((ds.length:Int)+1+(far:Int)) .picture]) v Hv SV (by rw[←ap];exact dv) (qaL rw0 (qaT (qaM _ _))) (by simp;omega) fun _=>wr3 b (by omega)
   ·exact fin (ds++[qay (-1) .picture]) v Hv SV (by rw[←ap];exact dv) (qaL rw0 (qaT (qaM _ _))) (by simp;omega) fun _=>wr3 b (by omega)
   ·exact fin (ds++[qay (-2-(far:Int)) .picture]) v Hv SV (by rw[←ap];exact dv) (qaL rw0 (qaT (qaM _ _))) (by simp;omega) fun _=>wr3 b (by omega)
  rw[decide_eq_false (by omega:¬(kind:Int)=3)];refine iteF ?_;replace S:=S.trans z6;replace kn2:=kn2.same z6;refine⟨kn2,fun H7 z7=>?_⟩
  by_cases k4:kind=4
  ·rw[decide_eq_true (by omega:(kind:Int)=4)];have S':=S.trans z7;have kn3:=kn2.same z7;refine iteT ⟨kn3,fun v4 H4 s4 d4=>?_⟩;have kn4:=Kn.put (i:=5) kn3 s4 d4;refine⟨kn4,fun v5 H5 s5 d5=>?_⟩;have kn5:=Kn.put (i:=5) kn4 s5 d5;refine⟨kn5,fun v Hv sv dv=>?_⟩;have SV:=S'.trans (s4.trans (s5.trans sv));obtain⟨x,y,e,m⟩:=qe8 (far % 9) (Nat.mod_lt far (by decide));rw[e]at dv;exact fin (ds++qaX (ds.length:Int) 0 0 [x,y]++[qay 0 .text]) v Hv SV (by rw[←ap2];exact dv) (qaL (qaL rw0 (qcg _ _ _ _)) (qaT (qaM _ _))) (by rw[List.length_append,List.length_append,qaB];simp;omega) fun _=>wr4 b m
  rw[decide_eq_false (by omega:¬(kind:Int)=4)];refine iteF ?_;replace S:=S.trans z7;replace kn2:=kn2.same z7;refine⟨kn2,fun H8 z8=>?_⟩
  by_cases k5:kind=5
  ·rw[decide_eq_true (by omega:(kind:Int)=5)];have S':=S.trans z8;have kn3:=kn2.same z8;refine iteT ⟨kn3,fun v Hv sv dv=>?_⟩;have SV:=S'.trans sv;exact fin (ds++qaX (ds.length:Int) 0 0 [.case,.case,.case,.case,.case,.case,.picture]) v Hv SV (by rw[←ap];exact dv) (qaL rw0 (qcg _ _ _ _)) (by rw[List.length_append,qaB];simp;omega) fun _=>wr5 b
  rw[decide_eq_false (by omega:¬(kind:Int)=5)];refine iteF ?_;replace S:=S.trans z8;replace kn2:=kn2.same z8;refine⟨kn2,fun H9 z9=>?_⟩
  by_cases k6:kind=6
  ·rw[decide_eq_true (by omega:(kind:Int)=6)];have S':=S.trans z9;have kn3:=kn2.same z9;refine iteT ⟨kn3,fun v Hv sv dv=>?_⟩;have SV:=S'.trans sv;have en:(List.replicate (61-(ds.length:Int)+(far:Int) % 3).toNat [ndD (qay 0 .picture)]).flatten=(List.replicate (61-(ds.length:Int)+(far:Int) % 3).toNat (qay 0 .picture)).map ndD:=rep_one _ _;rw[en]at dv;exact fin (ds++List.replicate (61-(ds.length:Int)+(far:Int) % 3).toNat (qay 0 .picture)) v Hv SV (by rw[←ap];exact dv) (qaL rw0 fun d h=>by rw[List.eq_of_mem_replicate h];exact qaM _ _) (by rw[List.length_append,List.length_replicate];omega) fun _=>wr6 (by rw[List.length_append,List.length_replicate];omega)
  rw[decide_eq_false (by omega:¬(kind:Int)=6)];refine iteF ?_;replace S:=S.trans z9;replace kn2:=kn2.same z9;refine⟨kn2,fun H10 z10=>?_⟩
  by_cases k7:kind=7
  ·rw[decide_eq_true (by omega:(kind:Int)=7)];have S':=S.trans z10;have kn3:=kn2.same z10;refine iteT ⟨kn3,fun v Hv sv dv=>?_⟩;have SV:=S'.trans sv;have h3:far % 3=0∨far % 3=1∨far % 3=2:=by omega
   have ne:neverEmpty ([Kd.shelf,.grid,.aside].getD (far % 3) .no)=true:=by rcases h3 with e | e | e<;>rw[e]<;>rfl
   exact fin (ds++[qay 0 ([Kd.shelf,.grid,.aside].getD (far % 3) .no),qay 0 .text]) v Hv SV (by rw[←ap];exact dv) (qaL rw0 (qb7 (qaM _ _) (qaM _ _))) (by simp;omega) fun _=>wr7 b ne
  rw[decide_eq_false (by omega:¬(kind:Int)=7)];refine iteF ?_;replace S:=S.trans z10;replace kn2:=kn2.same z10;refine⟨kn2,fun H11 z11=>?_⟩
  by_cases k8:kind=8
  ·rw[decide_eq_true (by omega:(kind:Int)=8)];have S':=S.trans z11;have kn3:=kn2.same z11;refine iteT ⟨kn3,fun v4 H4 s4 d4=>?_⟩;have kn4:=Kn.put (i:=6) kn3 s4 d4;have kn5:Kn [some (.list (ds.map ndD)),some (.int (kind:Int)),some (.int (far:Int)),some (.int (ds.length:Int)),some (ndD (qay 0 .picture)),none,some (.list ((behs.getD (far % 4) []).map ndD)),none] _ _:=kn4;refine⟨kn5,fun v Hv sv dv=>?_⟩;have SV:=S'.trans (s4.trans sv);obtain⟨b1,b2,b3⟩:=qfv (far % 4) (Nat.mod_lt far (by decide));exact fin (ds++qaX (ds.length:Int) 0 0 [.aside,.picture]++behs.getD (far % 4) []) v Hv SV (by rw[←ap2];exact dv) (qaL (qaL rw0 (qcg _ _ _ _)) b2) (by rw[List.length_append,List.length_append,qaB];simp only[List.length_cons,List.length_nil];omega) fun _=>wr8 b b3 nexts_at
  rw[decide_eq_false (by omega:¬(kind:Int)=8)];refine iteF ?_;replace S:=S.trans z11;replace kn2:=kn2.same z11;refine⟨kn2,fun H12 z12=>?_⟩
  by_cases k9:kind=9
  ·rw[decide_eq_true (by omega:(kind:Int)=9)];have S':=S.trans z12;have kn3:=kn2.same z12;refine iteT ⟨kn3,fun v Hv sv dv=>?_⟩;have SV:=S'.trans sv;exact fin (ds.take 1) v Hv SV (by rw[bkD,List.map_take];exact dv) (qff rw0 fun d h=>List.mem_of_mem_take h) (by rw[List.length_take];omega) fun _=>wr9 b
  rw[decide_eq_false (by omega:¬(kind:Int)=9)];refine iteF ?_;replace S:=S.trans z12;replace kn2:=kn2.same z12;refine⟨kn2,fun v4 H4 s4 d4=>?_⟩;have kn4:=Kn.put (i:=7) kn2 s4 d4;refine⟨kn4,fun v Hv sv dv=>?_⟩;have SV:=S.trans (s4.trans sv);exact fin (ds++[⟨0,.text,noName,[],[soW,.tri .note (.inr 0) 0]⟩,qay (ds.length:Int) .note,qay ((ds.length:Int)+1) .note]) v Hv SV (by rw[←ap];exact dv) (qaL rw0 (qaL (ds:=[_]) (qaT raw_noted) (qb7 (qaM _ _) (qaM _ _)))) (by simp;omega) fun _=>wr10
end
end K05
namespace Bk
open PySem L2 Gen
open PySem.W (Dat)
theorem qeV(far:Nat):Low (oddS far)∧(oddS far).length≤1000∧qcL (oddS far)=false:=by
 have h:far % 6=0∨far % 6=1∨far % 6=2∨far % 6=3∨far % 6=4∨far % 6=5:=by omega
 unfold oddS Low;rcases h with e | e | e | e | e | e<;>rw[e]<;>exact⟨by decide +kernel,by decide +kernel,by decide +kernel⟩
theorem lw{x:Str}(a:x.cps.all (·< 128)=true)(b:x.length≤1000):Low x∧x.length≤1000:=⟨a,b⟩
theorem qdE{x y:Th}(h:x∈[y]):x=y:=by simpa using h
theorem pc1{x:Th}(h:PcForm x):∀y∈[x],PcForm y:=fun y hy=>by rw[qdE hy];exact h
theorem pc2{x y:Th}(h:PcForm x)(g:PcForm y):∀z∈[x,y],PcForm z:=fun z hz=>by
 rcases List.mem_cons.mp hz with rfl | hz
 ·exact h
 ·rw[qdE hz];exact g
theorem bad1{x:Th}{r:List Th}(h:pieceB x=false):¬qbt (x::r):=fun z=>by
 have:=qc0 (z.1 x List.mem_cons_self);rw[h]at this;cases this
theorem wp_at(far:Nat):(∀x∈qct far,PcForm x)∧(qct far).length≤500∧(¬qbt (qct far)∨qaC (qct far)≠[]):=by
 have h:far % 15<15:=Nat.mod_lt far (by decide);unfold qct;generalize far % 15=n at h
 match n,h with
 | 0,_=>exact⟨(fun x h=>nomatch h),by show 0≤500;decide,.inl fun z=>by obtain⟨_,⟨x,r,e,_⟩,_⟩:=z;cases e⟩
 | 1,_=>exact⟨fun x hx=>by rw[List.eq_of_mem_replicate hx];exact raw_so,by show 61≤500;decide,.inl fun z=>absurd z.2.2 (by show¬61≤60;decide)⟩
 | 2,_=>exact⟨pc1 (lw (by decide +kernel) (by decide +kernel)),by show 1≤500;decide,.inl (bad1 (by decide +kernel))⟩
 | 3,_=>exact⟨pc1 (lw (by decide +kernel) (by decide +kernel)),by show 1≤500;decide,.inl (bad1 (by decide +kernel))⟩
 | 4,_=>exact⟨pc1 (lw (by decide +kernel) (by decide +kernel)),by show 1≤500;decide,.inl (bad1 (by decide +kernel))⟩
 | 5,_=>exact⟨pc1 (lw (by decide +kernel) (by decide +kernel)),by show 1≤500;decide,.inl (bad1 (by decide +kernel))⟩
 | 6,_=>exact⟨pc1 (lw (by decide +kernel) (by decide +kernel)),by show 1≤500;decide,.inl fun z=>by have:=(z.1 _ List.mem_cons_self).2.2;omega⟩
 | 7,_=>exact⟨pc1 (lw (by decide +kernel) (by decide +kernel)),by show 1≤500;decide,.inl (bad1 (by decide +kernel))⟩
 | 8,_=>exact⟨pc1 (lw (by decide +kernel) (by decide +kernel)),by show 1≤500;decide,.inl (bad1 (by decide +kernel))⟩
 | 9,_=>exact⟨pc1 (lw (by decide +kernel) (by decide +kernel)),by show 1≤500;decide,.inl (bad1 (by decide +kernel))⟩
 | 10,_=>exact⟨pc1 (lw (by decide +kernel) (by decide +kernel)),by show 1≤500;decide,.inl (bad1 (by decide +kernel))⟩
 | 11,_=>exact⟨pc1 (lw (by decide +kernel) (by decide +kernel)),by show 1≤500;decide,.inl (bad1 (by decide +kernel))⟩
 | 12,_=>exact⟨pc2 raw_so ⟨(qeV far).1,(qeV far).2.1⟩,by show 2≤500;decide,.inl fun z=>by
   have:=(z.1 (.tri .word (.inl (oddS far)) 1) (List.mem_cons_of_mem _ List.mem_cons_self)).1;rw[←qdN,(qeV far).2.2]at this;cases this⟩
 | 13,_=>exact⟨pc2 raw_so trivial,by show 2≤500;decide,.inr fun z=>by cases z⟩
 | 14,_=>exact⟨pc2 (lw (by decide +kernel) (by decide +kernel)) raw_so,by show 2≤500;decide,.inl fun z=>by have:=(z.1 _ List.mem_cons_self).2.1;omega⟩
theorem wn_at(far:Nat):(∀x∈qcV far,PcForm x)∧(qcV far).length≤500∧(¬qbt (qcV far)∨qaC (qcV far)≠[0]):=by
 have h:far % 7<7:=Nat.mod_lt far (by decide);unfold qcV;generalize far % 7=n at h;have t:∀{a b:Int},PcForm (.tri .note (.inr a) b):=fun {a b}=>trivial
 match n,h with
 | 0,_=>exact⟨pc1 raw_so,by show 1≤500;decide,.inr fun z=>by cases z⟩
 | 1,_=>exact⟨pc2 t raw_so,by show 2≤500;decide,.inl fun z=>by obtain⟨_,⟨x,r,e,nn⟩,_⟩:=z;cases e;cases nn⟩
 | 2,_=>exact⟨pc2 raw_so t,by show 2≤500;decide,.inr fun z=>by cases z⟩
 | 3,_=>exact⟨pc2 raw_so t,by show 2≤500;decide,.inl fun z=>absurd (z.1 (.tri .note (.inr 0) 1) (List.mem_cons_of_mem _ List.mem_cons_self)).2.2 (by decide)⟩
 | 4,_=>exact⟨pc2 raw_so t,by show 2≤500;decide,.inl fun z=>absurd (z.1 (.tri .note (.inr (-1)) 0) (List.mem_cons_of_mem _ List.mem_cons_self)).1 (by decide)⟩
 | 5,_=>exact⟨fun x hx=>(List.mem_cons.mp hx).elim (fun e=>e ▸ raw_so) (pc2 t t x),by show 3≤500;decide,.inr fun z=>by cases z⟩
 | 6,_=>exact⟨fun x hx=>(List.mem_cons.mp hx).elim (fun e=>e ▸ raw_so) (pc2 t t x),by show 3≤500;decide,.inr fun z=>by cases z⟩
theorem qcp{e:Int}{k:Kd}{st:List Th}(a:∀x∈st,PcForm x)(l:st.length≤500)(hk:k≠.picture):Raw ⟨e,k,noName,[],st⟩:=⟨raw_nm,raw_mk0,fun x hx=>qdy (a x hx),fun _=>a,fun z=>absurd z hk,l⟩
theorem wr11{ds es:List Nd}(b:Bef ds)(n:Nat){e:Int}{k:Kd}{st:List Th}(hk:k∈[Kd.text,.head,.note])(h:(ds++es)[n]?=some ⟨e,k,noName,[],st⟩)(kn:kk (ds++es) n=[])(w:¬qbt st∨qaC st≠[]):¬GoodX (ds++es):=by
 rcases w with w | w
 ·exact qcB (List.mem_of_getElem? h) fun z=>w ((qbO hk).mpr z)
 ·refine notes0 h ?_ kn w;rcases List.mem_cons.mp hk with rfl | hk
  ·rfl
  rcases List.mem_cons.mp hk with rfl | hk
  ·rfl
  ·rw[show k=.note by simpa using hk];rfl
theorem wr11a{ds:List Nd}(b:Bef ds){d:Nd}(hd:d.e=0){st:List Th}(w:¬qbt st∨qaC st≠[]):¬GoodX (ds++[d,⟨(ds.length:Int),.note,noName,[],st⟩]):=by
 have ge:=b.ge;refine wr11 b (ds.length+1) (by decide) qc6 ?_ w;rw[qcu,b.kk (by omega),qbF]
 ·rfl
 ·intro c hc;rcases List.mem_cons.mp hc with rfl | hc
  ·omega
  ·rw[show c=_ by simpa using hc];show¬(ds.length:Int)=_;omega
theorem wr11b{ds:List Nd}(b:Bef ds){k:Kd}{st:List Th}(hk:k∈[Kd.text,.head,.note])(w:¬qbt st∨qaC st≠[]):¬GoodX (ds++[⟨0,k,noName,[],st⟩]):=by
 have ge:=b.ge;refine wr11 b ds.length hk qb5 ?_ w;rw[qcu,b.kk (Int.le_refl _),qbF]
 ·rfl
 ·intro c hc;rw[show c=_ by simpa using hc];show¬(0:Int)=_;omega
theorem wr12{ds:List Nd}(b:Bef ds){k:Kd}{st:List Th}(hk:k∈[Kd.text,.head])(w:¬qbt st∨qaC st≠[0]):¬GoodX (ds++[⟨0,k,noName,[],st⟩,qay (ds.length:Int) .note]):=by
 have ge:=b.ge;have h:(ds++[⟨0,k,noName,[],st⟩,qay (ds.length:Int) .note])[ds.length]?=some (⟨0,k,noName,[],st⟩:Nd):=qb5;have hp:ofPieces k=true∧k∈[Kd.text,.head,.note]:=by
  rcases List.mem_cons.mp hk with rfl | hk
  ·exact⟨rfl,by decide⟩
  ·rw[show k=.head by simpa using hk];exact⟨rfl,by decide⟩
 rcases w with w | w
 ·exact qcB (List.mem_of_getElem? h) fun z=>w ((qbO hp.2).mpr z)
 ·refine qcl h fun z=>w ?_
  have:=z.2.2.2 hp.1;rw[qcu,b.kk (Int.le_refl _),List.nil_append,qb6,if_neg (by show¬(0:Int)=_;omega),qb6,if_pos (show(qay (ds.length:Int) Kd.note).e=((ds.length:Nat):Int)from rfl)]at this;exact this
def qcK(far:Nat):List (List Th):=[[.int 0,.int 4],[.int 4,.int 0],[.int (2001+(far:Int)),.int 4],[.int 4,.int 2001],[.int 4],[.int 4,.int 5,.int 6],[],[.int (-1),.int 4]]
theorem sides_at(far:Nat):(∀x∈(qcK far).getD (far % 8) [],∃n,x=Th.int n)∧((qcK far).getD (far % 8) []).length≤500∧¬Stuff .picture ((qcK far).getD (far % 8) []):=by
 have h:far % 8<8:=Nat.mod_lt far (by decide);generalize far % 8=n at h;have i1:∀{a:Int},∀x∈[Th.int a],∃n,x=Th.int n:=fun {a} x hx=>⟨a,qdE hx⟩
 have ic:∀{a:Int} {r:List Th},(∀x∈r,∃n,x=Th.int n)→∀x∈Th.int a::r,∃n,x=Th.int n:=fun {a r} hr x hx=>(List.mem_cons.mp hx).elim (fun e=>⟨a,e⟩) (hr x)
 match n,h with
 | 0,_=>exact⟨ic i1,by show 2≤500;decide,fun z=>by obtain⟨a,b,e,h1,h2,h3,h4⟩:=z;cases e;omega⟩
 | 1,_=>exact⟨ic i1,by show 2≤500;decide,fun z=>by obtain⟨a,b,e,h1,h2,h3,h4⟩:=z;cases e;omega⟩
 | 2,_=>exact⟨ic i1,by show 2≤500;decide,fun z=>by obtain⟨a,b,e,h1,h2,h3,h4⟩:=z;cases e;omega⟩
 | 3,_=>exact⟨ic i1,by show 2≤500;decide,fun z=>by obtain⟨a,b,e,h1,h2,h3,h4⟩:=z;cases e;omega⟩
 | 4,_=>exact⟨i1,by show 1≤500;decide,fun z=>by obtain⟨a,b,e,_⟩:=z;cases e⟩
 | 5,_=>exact⟨ic (ic i1),by show 3≤500;decide,fun z=>by obtain⟨a,b,e,_⟩:=z;cases e⟩
 | 6,_=>exact⟨(fun x h=>nomatch h),by show 0≤500;decide,fun z=>by obtain⟨a,b,e,_⟩:=z;cases e⟩
 | 7,_=>exact⟨ic i1,by show 2≤500;decide,fun z=>by obtain⟨a,b,e,h1,h2,h3,h4⟩:=z;cases e;omega⟩
theorem qd6{ds:List Nd}{d:Nd}(h:¬Form d):¬GoodX (ds++[d]):=qd9 (d:=d) (by simp) fun f=>h f.2.2.2
def qbI(ns:List Nd)(st:List Th)(way:Nat):List Nd:=if way=4 then⟨-1,.body,noName,[],st⟩::ns.drop 1 else ns++[⟨0,[Kd.case,.shelf,.grid,.aside].getD way .no,noName,[],st⟩,qay (ns.length:Int) .picture]++[qay 0 .text]
def qeB(ds:List Dat)(d:Dat):Prop:=∃(ns:List Nd) (st:List Th) (way:Nat),ds=[.list (ns.map ndD),fL st,.int way]∧way<5∧1≤ns.length∧ns.length≤50∧d=bkD (qbI ns st way)
def stuffL:List (List Th):=[[.int 3,.int 4],[soW],[.int 0]]
theorem qdZ{n:Int}:PySem.W.kqdOk 6 (thD (.int n))=true:=rfl
theorem ok1{x:Th}(h:PySem.W.kqdOk 6 (thD x)=true):∀y∈[x],PySem.W.kqdOk 6 (thD y)=true:=fun y hy=>by rw[qdE hy];exact h
theorem stuff_at(n:Nat)(h:n<3):stuffL.getD n []≠[]∧(stuffL.getD n []).length≤2∧∀x∈stuffL.getD n [],PySem.W.kqdOk 6 (thD x)=true:=by
 match n,h with
 | 0,_=>exact⟨(fun z=>by cases z),by decide,fun x hx=>(List.mem_cons.mp hx).elim (fun e=>e ▸ qdZ) (ok1 qdZ x)⟩
 | 1,_=>exact⟨(fun z=>by cases z),by decide,ok1 (qdy raw_so)⟩
 | 2,_=>exact⟨(fun z=>by cases z),by decide,ok1 qdZ⟩
theorem qfo{e:Int}{k:Kd}{st:List Th}(o:∀x∈st,PySem.W.kqdOk 6 (thD x)=true)(h:ofPieces k=false)(hp:k≠.picture)(l:st.length≤500):Raw ⟨e,k,noName,[],st⟩:=⟨raw_nm,raw_mk0,o,(fun z=>by rw[show ofPieces k=false from h]at z;cases z),fun z=>absurd z hp,l⟩
theorem box_at(n:Nat)(h:n<4):ofPieces ([Kd.case,.shelf,.grid,.aside].getD n .no)=false∧[Kd.case,.shelf,.grid,.aside].getD n .no≠.picture∧∀st,Stuff ([Kd.case,.shelf,.grid,.aside].getD n .no) st→st=[]:=by
 match n,h with
 | 0,_=>exact⟨rfl,by decide,fun st h=>h⟩
 | 1,_=>exact⟨rfl,by decide,fun st h=>h⟩
 | 2,_=>exact⟨rfl,by decide,fun st h=>h⟩
 | 3,_=>exact⟨rfl,by decide,fun st h=>h⟩
theorem wr14{ds:List Nd}{st:List Th}{way:Nat}(hr:∀d∈ds,Raw d)(le:ds.length≤50)(ne:st≠[])(o:∀x∈st,PySem.W.kqdOk 6 (thD x)=true)(l:st.length≤500)(hw:way<5):(∀d∈qbI ds st way,Raw d)∧(qbI ds st way).length≤500∧¬GoodX (qbI ds st way):=by
 unfold qbI
 by_cases h4:way=4
 ·rw[if_pos h4];exact⟨qaL (ds:=[_]) (qaT (qfo o rfl (by decide) l)) (qff hr fun d h=>List.mem_of_mem_drop h),by rw[List.length_cons,List.length_drop];omega,qcB (d:=⟨-1,.body,noName,[],st⟩) List.mem_cons_self fun z=>ne z⟩
 ·rw[if_neg h4];obtain⟨b1,b2,b3⟩:=box_at way (by omega);refine⟨qaL (qaL hr (qb7 (qfo o b1 b2 l) (qaM _ _))) (qaT (qaM _ _)),by simp;omega,qcB (d:=⟨0,[Kd.case,.shelf,.grid,.aside].getD way .no,noName,[],st⟩) (by simp) fun z=>ne (b3 st z)⟩
def namesL:List Str:=[Str.ofString "A",Str.ofString "a1",Str.ofString "abcdefghi",Str.ofString "a b",Str.ofString "a-",Str.ofString " a",Str.ofString "{"]
def qbE(far:Nat):Str:=namesL.getD (far % 7) noName
theorem qcT(far:Nat):(Low (qbE far)∧(qbE far).length≤1000)∧qbE far≠noName∧qca (qbE far)=false:=by
 have h:far % 7<7:=Nat.mod_lt far (by decide);unfold qbE Low;generalize far % 7=n at h
 match n,h with
 | 0,_=>exact⟨⟨by decide +kernel,by decide +kernel⟩,by decide +kernel,by decide +kernel⟩
 | 1,_=>exact⟨⟨by decide +kernel,by decide +kernel⟩,by decide +kernel,by decide +kernel⟩
 | 2,_=>exact⟨⟨by decide +kernel,by decide +kernel⟩,by decide +kernel,by decide +kernel⟩
 | 3,_=>exact⟨⟨by decide +kernel,by decide +kernel⟩,by decide +kernel,by decide +kernel⟩
 | 4,_=>exact⟨⟨by decide +kernel,by decide +kernel⟩,by decide +kernel,by decide +kernel⟩
 | 5,_=>exact⟨⟨by decide +kernel,by decide +kernel⟩,by decide +kernel,by decide +kernel⟩
 | 6,_=>exact⟨⟨by decide +kernel,by decide +kernel⟩,by decide +kernel,by decide +kernel⟩
theorem qea(far:Nat):¬Name (qbE far):=fun z=>by have:=qbZ z;rw[(qcT far).2.2]at this;cases this
def qcy(nm:Str):Nd:=⟨0,.picture,nm,[],[.int 3,.int 4]⟩
theorem qeg{nm:Str}(h:Low nm∧nm.length≤1000):Raw (qcy nm):=⟨h,raw_mk0,(fun x hx=>(List.mem_cons.mp hx).elim (fun e=>e ▸ qdZ) (ok1 qdZ x)),(fun z=>by cases z),(fun _ x hx=>by
 rcases List.mem_cons.mp hx with rfl | hx
 ·exact⟨_,rfl⟩
 ·exact⟨_,qdE hx⟩),by show 2≤500;decide⟩
theorem wr15{ds:List Nd}(far:Nat):¬GoodX (ds++[qcy (qbE far)]):=qd6 fun f=>f.nm.elim (qcT far).2.1 (qea far)
def qdR(far:Nat):Str:=Str.ofString "zz" ++ ⟨#[if far % 2=0 then 113 else 120]⟩
theorem both_at(far:Nat):(Low (qdR far)∧(qdR far).length≤1000)∧qdR far≠noName:=by
 unfold qdR Low;have h:far % 2=0∨far % 2=1:=by omega
 rcases h with e | e<;>rw[e]<;>exact⟨⟨by decide +kernel,by decide +kernel⟩,by decide +kernel⟩
theorem wr16{ds:List Nd}{nm:Str}(h:nm≠noName):¬GoodX (ds++[qcy nm,qcy nm]):=fun g=>by
 have n:=g.names;unfold Names at n;rw[List.filter_append,List.map_append,List.nodup_append]at n;have:=n.2.1;rw[show([qcy nm,qcy nm].filter fun d=>d.nm≠noName)=[qcy nm,qcy nm]from List.filter_eq_self.mpr fun d hd=>by
  rcases List.mem_cons.mp hd with rfl | hd
  ·exact decide_eq_true h
  ·rw[show d=qcy nm by simpa using hd];exact decide_eq_true h]at this
 exact absurd this (by simp)
def qdb(far:Nat):List (List Str):=[[Str.ofString "b",Str.ofString "a"],[Str.ofString "a",Str.ofString "a"],[Str.ofString "a",Str.ofString "b",Str.ofString "c",Str.ofString "d",Str.ofString "e"],[Str.ofString ""],[qbE far],[Str.ofString "a",qbE far]]
theorem marks_at(far n:Nat)(h:n<6):qfr ((qdb far).getD n [])∧¬qcm ((qdb far).getD n []):=by
 have c:∀{x:Str} {r:List Str},(Low x∧x.length≤1000)→(∀m∈r,Low m∧m.length≤1000)→∀m∈x::r,Low m∧m.length≤1000:=fun {x r} a b m hm=>(List.mem_cons.mp hm).elim (fun e=>e ▸ a) (b m)
 have z:∀m∈([]:List Str),Low m∧m.length≤1000:=fun m h=>nomatch h
 match n,h with
 | 0,_=>exact⟨⟨c (lw (by decide +kernel) (by decide +kernel)) (c (lw (by decide +kernel) (by decide +kernel)) z),by show 2≤500;decide⟩,fun m=>absurd ((List.pairwise_cons.mp m.2.2).1 _ List.mem_cons_self) (by decide +kernel)⟩
 | 1,_=>exact⟨⟨c (lw (by decide +kernel) (by decide +kernel)) (c (lw (by decide +kernel) (by decide +kernel)) z),by show 2≤500;decide⟩,fun m=>absurd ((List.pairwise_cons.mp m.2.2).1 _ List.mem_cons_self) (by decide +kernel)⟩
 | 2,_=>exact⟨⟨c (lw (by decide +kernel) (by decide +kernel)) (c (lw (by decide +kernel) (by decide +kernel)) (c (lw (by decide +kernel) (by decide +kernel)) (c (lw (by decide +kernel) (by decide +kernel)) (c (lw (by decide +kernel) (by decide +kernel)) z)))),by show 5≤500;decide⟩,fun m=>absurd m.1 (by show¬5≤4;decide)⟩
 | 3,_=>exact⟨⟨c (lw (by decide +kernel) (by decide +kernel)) z,by show 1≤500;decide⟩,fun m=>absurd (qbZ (m.2.1 _ List.mem_cons_self)) (by decide +kernel)⟩
 | 4,_=>exact⟨⟨c (qcT far).1 z,by show 1≤500;decide⟩,fun m=>qea far (m.2.1 _ List.mem_cons_self)⟩
 | 5,_=>exact⟨⟨c (lw (by decide +kernel) (by decide +kernel)) (c (qcT far).1 z),by show 2≤500;decide⟩,fun m=>qea far (m.2.1 _ (List.mem_cons_of_mem _ List.mem_cons_self))⟩
theorem wr17{ds:List Nd}{mks:List Str}(h:¬qcm mks):¬GoodX (ds++[⟨0,.case,noName,mks,[]⟩]):=qd6 fun f=>h f.mks
end Bk
namespace K05
open PySem L2 Bk Gen
open PySem.W (Dat)
abbrev sStuffed:Stmt:=top 76
abbrev sStuffs:Stmt:=top 77
section
variable{P:Program}{w:World}{K:PySem.W.Frag}{mg:Str→Option Value}{base:Heap}
theorem scStuffed:FnScope ["_law_nodes", "_law_stuff", "_law_way", "_law_at", "_law_found"] ["_law_nodes", "_law_stuff", "_law_way"] (qan sStuffed):=⟨rfl,rfl,rfl,by decide +kernel,rfl,by decide +kernel,by decide +kernel⟩
theorem ok_stuffed{f:Addr}{fd:FuncData}(F:Fun K "_law_stuffed" "_law_stuffed" sStuffed f fd)(T:Bn mg)(F_node:Fx P w K mg base CX0 1 "_law_node" ["_law_elder", "_law_kind"] (spD qft)):FnOk P w K mg base CX0 2 f fd ["_law_nodes", "_law_stuff", "_law_way"] (spD qeB):=by
 refine F.ok scStuffed (fun vs H Q E h=>?_) (fun cdv A outer s H vs Q E hr h=>?_)
 ·obtain⟨ds,d,da,⟨ns,st,way,rfl,_⟩,q⟩:=h;exact da.length
 ·obtain⟨ds,d,da,⟨ns,st,way,rfl,w5,ge,le,rfl⟩,q⟩:=h;have sz:sizeLine=16777216:=by decide
  have hr_node:=hr;have wb4:(if way=4 then 0 else way)<4:=by split<;>omega
  cases da with
  | cons a1 da =>
  cases da with
  | cons a2 da =>
  cases da with
  | cons a3 da =>
  cases da;refine qcY (qau (qba (i:=3) (G:=[some (.list (ns.map ndD)),some (fL st),some (.int (way:Int)),none,none]) scStuffed.nd (by rfl) (by trivial) (qa2 (qe0 (by rfl) T.len b_len (qaa (qam (pv 0) rfl) pds_nil qaq)) (by rw[List.length_map]:_=Dat.int (ns.length:Int))))
   (qau (qbT (G:=[some (.list (ns.map ndD)),some (fL st),some (.int (way:Int)),some (.int (ns.length:Int)),none]) (qam (pv 2) rfl) qah (qaU (qa4 (G:=[some (.list (ns.map ndD)),some (fL st),some (.int (way:Int)),some (.int (ns.length:Int)),none]) (qaV (qal (qaa (qaJ (qaa (qcw qah) (qaa qag (qaa qag (qaa (qal pds_nil) (qaa (qam (pv 1) rfl) pds_nil qaq) qaj) qac) qac) qbV)) pds_nil qav)) (qdk (qam (pv 0) rfl) (by rw[List.length_map];exact ge)) (by simp only[List.length_append,List.length_cons,List.length_nil,List.length_map,List.length_drop,qaB];omega)))) qss_nil)
   (qau (qba (i:=4) (G:=[some (.list (ns.map ndD)),some (fL st),some (.int (((if way=4 then 0 else way):Nat):Int)),some (.int (ns.length:Int)),none]) scStuffed.nd (by rfl) (by trivial) (qa2 (qaV (qam (pv 0) rfl) (qal (qaa (qaJ (qaa qah (qaa (qb2 kd [Kd.case,.shelf,.grid,.aside] .no (if way=4 then 0 else way) (qa2 (qal (qaa qag (qaa qag (qaa qag (qaa qag pds_nil qac) qac) qac) qac)) (by rfl)) (qam (pv 2) rfl) rfl wb4) (qaa qag (qaa (qal pds_nil) (qaa (qam (pv 1) rfl) pds_nil qaq) qaj) qac) qbz) qac)) (qaa (qbq F_node hr_node (by rfl) (qaa (qam (pv 3) rfl) (qaa qag pds_nil qac) qaq) ⟨_,.picture,rfl,rfl⟩) pds_nil qaQ) qav)) (by simp only[List.length_append,List.length_cons,List.length_nil,List.length_map,List.length_drop,qaB];omega)) (by rw[List.map_append];rfl:_=Dat.list ((ns++[(⟨0,[Kd.case,.shelf,.grid,.aside].getD (if way=4 then 0 else way) .no,noName,[],st⟩:Nd),qay (ns.length:Int) .picture]).map ndD))))
   (qaU (qa4 (G:=[some (.list (ns.map ndD)),some (fL st),some (.int (way:Int)),some (.int (ns.length:Int)),some (.list ((ns++[(⟨0,[Kd.case,.shelf,.grid,.aside].getD (if way=4 then 0 else way) .no,noName,[],st⟩:Nd),qay (ns.length:Int) .picture]).map ndD))]) (qaV (qam (pv 4) rfl) (qal (qaa (qbq F_node hr_node (by rfl) (qaa qah (qaa qag pds_nil qac) qac) ⟨_,.text,rfl,rfl⟩) pds_nil qaQ)) (by simp only[List.length_append,List.length_cons,List.length_nil,List.length_map,List.length_drop,qaB];omega))))))) ?_
  have kn:Kn [some (.list (ns.map ndD)),some (fL st),some (.int (way:Int)),none,none] [_,_,_,none,none] H:=.is a1 (.is a2 (.is a3 (.no (.no .nil))));refine⟨kn,fun v1 H1 s1 d1=>?_⟩;have kn1:=Kn.put (i:=3) kn s1 d1;refine⟨kn1,fun H2 s2=>?_⟩
  by_cases h4:way=4
  ·rw[decide_eq_true (by omega:(way:Int)=4)];refine iteT ⟨kn1.same s2,fun v Hv sv dv=>q v Hv (s1.trans (s2.trans sv)) ?_⟩;rw[bkD,qbI,if_pos h4,List.map_cons,List.map_drop];exact dv
  rw[decide_eq_false (by omega:¬(way:Int)=4)];refine iteF ?_;have eb:(if way=4 then 0 else way)=way:=if_neg h4;refine⟨by rw[eb];exact kn1.same s2,fun v3 H3 s3 d3=>?_⟩;have kn3:=Kn.put (i:=4) (kn1.same s2) s3 d3;refine⟨kn3,fun v Hv sv dv=>q v Hv (s1.trans (s2.trans (s3.trans sv))) ?_⟩;rw[bkD,qbI,if_neg h4,List.map_append];rw[eb]at dv;exact dv
theorem scStuffs:FnScope ["_law_nodes", "_law_kind", "_law_far", "_law_at", "_law_noted", "_law_sides", "_law_name_here", "_law_both", "_law_marks"] ["_law_nodes", "_law_kind", "_law_far"] (qan sStuffs):=⟨rfl,rfl,rfl,by decide +kernel,rfl,by decide +kernel,by decide +kernel⟩
theorem ok_stuffs{f:Addr}{fd:FuncData}(F:Fun K "_law_stuffs" "_law_stuffs" sStuffs f fd)(T:Bn mg)(F_node:Fx P w K mg base CX0 1 "_law_node" ["_law_elder", "_law_kind"] (spD qft))(F_pieces_wrong:Fx P w K mg base CX0 1 "_law_pieces_wrong" ["_law_far"] (spD RPw))(F_notes_wrong:Fx P w K mg base CX0 1 "_law_notes_wrong" ["_law_far"] (spD RNw))(F_stuffed:Fx P w K mg base CX0 2 "_law_stuffed" ["_law_nodes", "_law_stuff", "_law_way"] (spD qeB)):FnOk P w K mg base CX0 3 f fd ["_law_nodes", "_law_kind", "_law_far"] spStuffs:=by
 refine F.ok scStuffs (fun vs H Q E h=>?_) (fun cdv A outer s H vs Q E hr h=>?_)
 ·obtain⟨p,ds,kind,far,rfl,_⟩:=h;rfl
 ·obtain⟨p,ds,kind,far,rfl,dp,bk,le,k11,k18,q⟩:=h;have sz:sizeLine=16777216:=by decide
  have b:=Book.bef bk;have ge:=b.ge;have rw0:=qei bk;have hr_node:Room 1 _:=hr.mono (by decide);have hr_pieces_wrong:Room 1 _:=hr.mono (by decide);have hr_notes_wrong:Room 1 _:=hr.mono (by decide);have hr_stuffed:=hr;have fb2:(if far / 15 % 3=2 then 0 else far) / 15 % 3<2:=by split<;>omega
  have h01:far % 2=0∨far % 2=1:=by omega
  have qx:(Str.ofString "qx").cps.toList[far % 2]?=some (if far % 2=0 then 113 else 120):=by rcases h01 with e | e<;>rw[e]<;>decide +kernel
  have bl2:(Str.ofString "zz").length+(⟨#[if far % 2=0 then 113 else 120]⟩:Str).length≤sizeLine:=by rcases h01 with e | e<;>rw[e]<;>decide +kernel
  have fin:∀ws v H',Same H H'→DIn H' v (bkD ws)→(∀d∈ws,Raw d)→ws.length≤500→¬GoodX ws→Q v H':=fun ws v H' s d r l g=>by
   obtain⟨a,xs,rfl,_⟩:=qbe d;exact q ws a H' s d r l g
  refine qcY (qau (qba (i:=3) (G:=[some (.list (ds.map ndD)),some (.int (kind:Int)),some (.int (far:Int)),none,none,none,none,none,none]) scStuffs.nd (by rfl) (by trivial) (qa2 (qe0 (by rfl) T.len b_len (qaa (qam (pv 0) rfl) pds_nil qaq)) (by rw[List.length_map]:_=Dat.int (ds.length:Int))))
   (qau (qs_if2 (G:=[some (.list (ds.map ndD)),some (.int (kind:Int)),some (.int (far:Int)),some (.int (ds.length:Int)),none,none,none,none,none]) (qam (pv 1) rfl) qah (qbd (qdK (qam (pv 2) rfl) qah (by decide) (by decide)) qah (by decide)) qah (qau (qba (i:=4) (G:=[some (.list (ds.map ndD)),some (.int (kind:Int)),some (.int (far:Int)),some (.int (ds.length:Int)),none,none,none,none,none]) scStuffs.nd (by rfl) (by trivial) (qa2 (qaJ (qaa qah (qaa qag (qaa qag (qaa (qal pds_nil) (qaa (qal (qaa (qaJ (qaa qag (qaa qag (qaa qah pds_nil qac) qac) qac)) (qaa (qaJ (qaa qag (qaa qah (qaa qah pds_nil qac) qac) qac)) pds_nil qav) qav)) pds_nil qaj) qaj) qac) qac) qac)) (by rfl:_=ndD (⟨0,.text,noName,[],[soW,.tri .note (.inr 0) 0]⟩:Nd))))
   (qaU (qa4 (G:=[some (.list (ds.map ndD)),some (.int (kind:Int)),some (.int (far:Int)),some (.int (ds.length:Int)),some (ndD (⟨0,.text,noName,[],[soW,.tri .note (.inr 0) 0]⟩:Nd)),none,none,none,none]) (qaV (qam (pv 0) rfl) (qal (qaa (qam (pv 4) rfl) (qaa (qaJ (qaa (qam (pv 3) rfl) (qaa qag (qaa qag (qaa (qal pds_nil) (qaa (qbq F_pieces_wrong hr_pieces_wrong (by rfl) (qaa (qam (pv 2) rfl) pds_nil qaq) ⟨_,rfl,rfl⟩) pds_nil qaQ) qaj) qac) qac) qaq)) pds_nil qav) qaq)) (by simp only[List.length_append,List.length_cons,List.length_nil,List.length_map,List.length_drop,qaB];omega))))) qss_nil)
   (qau (qbT (G:=[some (.list (ds.map ndD)),some (.int (kind:Int)),some (.int (far:Int)),some (.int (ds.length:Int)),none,none,none,none,none]) (qam (pv 1) rfl) qah (qaU (qa4 (G:=[some (.list (ds.map ndD)),some (.int (kind:Int)),some (.int (((if far / 15 % 3=2 then 0 else far):Nat):Int)),some (.int (ds.length:Int)),none,none,none,none,none]) (qaV (qam (pv 0) rfl) (qal (qaa (qaJ (qaa qah (qaa (qb2 kd [Kd.text,.head] .no ((if far / 15 % 3=2 then 0 else far) / 15 % 3) (qa2 (qal (qaa qag (qaa qag pds_nil qac) qac)) (by rfl)) (qbd (qdK (qam (pv 2) rfl) qah (by decide) (by decide)) qah (by decide)) (by omega) fb2) (qaa qag (qaa (qal pds_nil) (qaa (qbq F_pieces_wrong hr_pieces_wrong (by rfl) (qaa (qam (pv 2) rfl) pds_nil qaq) ⟨_,rfl,rfl⟩) pds_nil qaQ) qaj) qac) qbz) qac)) pds_nil qav)) (by simp only[List.length_append,List.length_cons,List.length_nil,List.length_map,List.length_drop,qaB];omega)))) qss_nil)
   (qau (qbT (G:=[some (.list (ds.map ndD)),some (.int (kind:Int)),some (.int (far:Int)),some (.int (ds.length:Int)),none,none,none,none,none]) (qam (pv 1) rfl) qah (qaU (qa4 (G:=[some (.list (ds.map ndD)),some (.int (kind:Int)),some (.int (far:Int)),some (.int (ds.length:Int)),none,none,none,none,none]) (qaV (qam (pv 0) rfl) (qal (qaa (qaJ (qaa qah (qaa (qb2 kd [Kd.text,.head] .no (far / 7 % 2) (qa2 (qal (qaa qag (qaa qag pds_nil qac) qac)) (by rfl)) (qbd (qdK (qam (pv 2) rfl) qah (by decide) (by decide)) qah (by decide)) (by omega) (Nat.mod_lt _ (by decide))) (qaa qag (qaa (qal pds_nil) (qaa (qbq F_notes_wrong hr_notes_wrong (by rfl) (qaa (qam (pv 2) rfl) pds_nil qaq) ⟨_,rfl,rfl⟩) pds_nil qaQ) qaj) qac) qbz) qac)) (qaa (qbq F_node hr_node (by rfl) (qaa (qam (pv 3) rfl) (qaa qag pds_nil qac) qaq) ⟨_,.note,rfl,rfl⟩) pds_nil qaQ) qav)) (by simp only[List.length_append,List.length_cons,List.length_nil,List.length_map,List.length_drop,qaB];omega)))) qss_nil)
   (qau (qbT (G:=[some (.list (ds.map ndD)),some (.int (kind:Int)),some (.int (far:Int)),some (.int (ds.length:Int)),none,none,none,none,none]) (qam (pv 1) rfl) qah (qau (qba (i:=5) (G:=[some (.list (ds.map ndD)),some (.int (kind:Int)),some (.int (far:Int)),some (.int (ds.length:Int)),none,none,none,none,none]) scStuffs.nd (by rfl) (by trivial) (qa2 (qb2 fL (qcK far) [] (far % 8) (qa2 (qal (qaa (qal (qaa qah (qaa qah pds_nil qac) qac)) (qaa (qal (qaa qah (qaa qah pds_nil qac) qac)) (qaa (qal (qaa (qdj qah (qam (pv 2) rfl)) (qaa qah pds_nil qac) qbb)) (qaa (qal (qaa qah (qaa qah pds_nil qac) qac)) (qaa (qal (qaa qah pds_nil qac)) (qaa (qal (qaa qah (qaa qah (qaa qah pds_nil qac) qac) qac)) (qaa (qal pds_nil) (qaa (qal (qaa (qcw qah) (qaa qah pds_nil qac) qbV)) pds_nil qaj) qaj) qaj) qaj) qaj) qaj) qaj) qaj)) (by rfl)) (qbd (qam (pv 2) rfl) qah (by decide)) (by omega) (Nat.mod_lt far (by decide))) (by rfl:_=fL ((qcK far).getD (far % 8) []))))
   (qaU (qa4 (G:=[some (.list (ds.map ndD)),some (.int (kind:Int)),some (.int (far:Int)),some (.int (ds.length:Int)),none,some (fL ((qcK far).getD (far % 8) [])),none,none,none]) (qaV (qam (pv 0) rfl) (qal (qaa (qaJ (qaa qah (qaa qag (qaa qag (qaa (qal pds_nil) (qaa (qam (pv 5) rfl) pds_nil qaq) qaj) qac) qac) qac)) pds_nil qav)) (by simp only[List.length_append,List.length_cons,List.length_nil,List.length_map,List.length_drop,qaB];omega))))) qss_nil)
   (qau (qbT (G:=[some (.list (ds.map ndD)),some (.int (kind:Int)),some (.int (far:Int)),some (.int (ds.length:Int)),none,none,none,none,none]) (qam (pv 1) rfl) qah (qaU (qa4 (G:=[some (.list (ds.map ndD)),some (.int (kind:Int)),some (.int (far:Int)),some (.int (ds.length:Int)),none,none,none,none,none]) (qbq F_stuffed hr_stuffed (by rfl) (qaa (qam (pv 0) rfl) (qaa (qb2 fL stuffL [] (far % 3) (qa2 (qal (qaa (qal (qaa qah (qaa qah pds_nil qac) qac)) (qaa (qal (qaa (qaJ (qaa qag (qaa qag (qaa qah pds_nil qac) qac) qac)) pds_nil qav)) (qaa (qal (qaa qah pds_nil qac)) pds_nil qaj) qaj) qaj)) (by rfl)) (qbd (qam (pv 2) rfl) qah (by decide)) (by omega) (Nat.mod_lt far (by decide))) (qaa (qbd (qdK (qam (pv 2) rfl) qah (by decide) (by decide)) qah (by decide)) pds_nil qbb) qbz) qaq) ⟨ds,stuffL.getD (far % 3) [],far / 3 % 5,by rw[show((far:Int) / 3 % 5)=((far / 3 % 5:Nat):Int) by omega],Nat.mod_lt _ (by decide),ge,le,rfl⟩))) qss_nil)
   (qau (qba (i:=6) (G:=[some (.list (ds.map ndD)),some (.int (kind:Int)),some (.int (far:Int)),some (.int (ds.length:Int)),none,none,none,none,none]) scStuffs.nd (by rfl) (by trivial) (qa2 (qb2 Dat.str namesL noName (far % 7) (qa2 (qal (qaa qag (qaa qag (qaa qag (qaa qag (qaa qag (qaa qag (qaa qag pds_nil qac) qac) qac) qac) qac) qac) qac)) (by rfl)) (qbd (qam (pv 2) rfl) qah (by decide)) (by omega) (Nat.mod_lt far (by decide))) (by rfl:_=Dat.str (qbE far))))
   (qau (qbT (G:=[some (.list (ds.map ndD)),some (.int (kind:Int)),some (.int (far:Int)),some (.int (ds.length:Int)),none,none,some (.str (qbE far)),none,none]) (qam (pv 1) rfl) qah (qaU (qa4 (G:=[some (.list (ds.map ndD)),some (.int (kind:Int)),some (.int (far:Int)),some (.int (ds.length:Int)),none,none,some (.str (qbE far)),none,none]) (qaV (qam (pv 0) rfl) (qal (qaa (qaJ (qaa qah (qaa qag (qaa (qam (pv 6) rfl) (qaa (qal pds_nil) (qaa (qal (qaa qah (qaa qah pds_nil qac) qac)) pds_nil qaj) qaj) qaq) qac) qac)) pds_nil qav)) (by simp only[List.length_append,List.length_cons,List.length_nil,List.length_map,List.length_drop,qaB];omega)))) qss_nil)
   (qau (qbT (G:=[some (.list (ds.map ndD)),some (.int (kind:Int)),some (.int (far:Int)),some (.int (ds.length:Int)),none,none,some (.str (qbE far)),none,none]) (qam (pv 1) rfl) qah (qau (qba (i:=7) (G:=[some (.list (ds.map ndD)),some (.int (kind:Int)),some (.int (far:Int)),some (.int (ds.length:Int)),none,none,some (.str (qbE far)),none,none]) scStuffs.nd (by rfl) (by trivial) (qa2 (pd_catS qag (pd_ixS qag (qbd (qam (pv 2) rfl) qah (by decide)) (n:=far % 2) (c:=if far % 2=0 then 113 else 120) (by omega) (by decide +kernel) qx) bl2) (by rfl:_=Dat.str (qdR far))))
   (qaU (qa4 (G:=[some (.list (ds.map ndD)),some (.int (kind:Int)),some (.int (far:Int)),some (.int (ds.length:Int)),none,none,some (.str (qbE far)),some (.str (qdR far)),none]) (qaV (qam (pv 0) rfl) (qal (qaa (qaJ (qaa qah (qaa qag (qaa (qam (pv 7) rfl) (qaa (qal pds_nil) (qaa (qal (qaa qah (qaa qah pds_nil qac) qac)) pds_nil qaj) qaj) qaq) qac) qac)) (qaa (qaJ (qaa qah (qaa qag (qaa (qam (pv 7) rfl) (qaa (qal pds_nil) (qaa (qal (qaa qah (qaa qah pds_nil qac) qac)) pds_nil qaj) qaj) qaq) qac) qac)) pds_nil qav) qav)) (by simp only[List.length_append,List.length_cons,List.length_nil,List.length_map,List.length_drop,qaB];omega))))) qss_nil)
   (qau (qba (i:=8) (G:=[some (.list (ds.map ndD)),some (.int (kind:Int)),some (.int (far:Int)),some (.int (ds.length:Int)),none,none,some (.str (qbE far)),none,none]) scStuffs.nd (by rfl) (by trivial) (qa2 (qb2 (fun l=>Dat.list (l.map Dat.str)) (qdb far) [] (far / 7 % 6) (qa2 (qal (qaa (qal (qaa qag (qaa qag pds_nil qac) qac)) (qaa (qal (qaa qag (qaa qag pds_nil qac) qac)) (qaa (qal (qaa qag (qaa qag (qaa qag (qaa qag (qaa qag pds_nil qac) qac) qac) qac) qac)) (qaa (qal (qaa qag pds_nil qac)) (qaa (qal (qaa (qam (pv 6) rfl) pds_nil qaq)) (qaa (qal (qaa qag (qaa (qam (pv 6) rfl) pds_nil qaq) qac)) pds_nil qaj) qaj) qaj) qaj) qaj) qaj)) (by rfl)) (qbd (qdK (qam (pv 2) rfl) qah (by decide) (by decide)) qah (by decide)) (by omega) (Nat.mod_lt _ (by decide))) (by rfl:_=Dat.list (((qdb far).getD (far / 7 % 6) []).map Dat.str))))
   (qaU (qa4 (G:=[some (.list (ds.map ndD)),some (.int (kind:Int)),some (.int (far:Int)),some (.int (ds.length:Int)),none,none,some (.str (qbE far)),none,some (.list (((qdb far).getD (far / 7 % 6) []).map Dat.str))]) (qaV (qam (pv 0) rfl) (qal (qaa (qaJ (qaa qah (qaa qag (qaa qag (qaa (qam (pv 8) rfl) (qaa (qal pds_nil) pds_nil qaj) qaq) qac) qac) qac)) pds_nil qav)) (by simp only[List.length_append,List.length_cons,List.length_nil,List.length_map,List.length_drop,qaB];omega)))))))))))))) ?_
  have kn:Kn [some (.list (ds.map ndD)),some (.int (kind:Int)),some (.int (far:Int)),none,none,none,none,none,none] [some (.ref p),some (.int kind),some (.int far),none,none,none,none,none,none] H:=.is dp (.is (.int _) (.is (.int _) (.no (.no (.no (.no (.no (.no .nil))))))));refine⟨kn,fun v1 H1 s1 d1=>?_⟩;have kn2:=Kn.put (i:=3) kn s1 d1;have S:=s1;clear kn d1;have ap:∀es:List Nd,Dat.list (ds.map ndD++es.map ndD)=bkD (ds++es):=fun es=>by rw[bkD,List.map_append]
  refine⟨kn2,fun H2 z2=>?_⟩;have kn3:=kn2.same z2;have S3:=S.trans z2;dsimp only[tNext]
  by_cases k11':kind=11
  ·rw[decide_eq_true (by omega:(kind:Int)=11)];refine iteT ⟨kn3,fun H3 z3=>?_⟩;have S4:=S3.trans z3;have kn4:=kn3.same z3;obtain⟨p1,p2,p3⟩:=wp_at far
   by_cases h2:far / 15 % 3=2
   ·rw[decide_eq_true (by omega:(far:Int) / 15 % 3=2)];refine iteT ⟨kn4,fun v5 H5 s5 d5=>?_⟩;have kn5:=Kn.put (i:=4) kn4 s5 d5;refine⟨kn5,fun v Hv sv dv=>?_⟩;exact fin (ds++[⟨0,.text,noName,[],[soW,.tri .note (.inr 0) 0]⟩,⟨(ds.length:Int),.note,noName,[],qct far⟩]) v Hv (S4.trans (s5.trans sv)) (by rw[←ap];exact dv) (qaL rw0 (qb7 raw_noted (qcp p1 p2 (by decide)))) (by simp;omega) (wr11a b rfl p3)
   ·rw[decide_eq_false (by omega:¬(far:Int) / 15 % 3=2)];refine iteF ⟨kn4,fun H5 z5=>?_⟩;dsimp only;have eb:(if far / 15 % 3=2 then 0 else far)=far:=if_neg h2;refine iteT ⟨by rw[eb];exact kn4.same z5,fun v Hv sv dv=>?_⟩;rw[eb]at dv fb2;have h3:far / 15 % 3=0∨far / 15 % 3=1:=by omega
    have hk:[Kd.text,.head].getD (far / 15 % 3) .no∈[Kd.text,.head,.note]:=by rcases h3 with e | e<;>rw[e]<;>decide
    have hk2:[Kd.text,.head].getD (far / 15 % 3) .no≠.picture:=by rcases h3 with e | e<;>rw[e]<;>decide
    exact fin (ds++[⟨0,[Kd.text,.head].getD (far / 15 % 3) .no,noName,[],qct far⟩]) v Hv (S4.trans (z5.trans sv)) (by rw[←ap];exact dv) (qaL rw0 (qaT (qcp p1 p2 hk2))) (by simp;omega) (wr11b b hk p3)
  rw[decide_eq_false (by omega:¬(kind:Int)=11)];refine iteF (iteF ⟨kn3,fun H4 z4=>?_⟩);dsimp only;refine iteF ?_;replace kn2:=kn3.same z4;replace S:=S3.trans z4;clear kn3 S3;refine⟨kn2,fun H15 z15=>?_⟩
  by_cases k12:kind=12
  ·rw[decide_eq_true (by omega:(kind:Int)=12)];have S':=S.trans z15;have kn3:=kn2.same z15;refine iteT ⟨kn3,fun v Hv sv dv=>?_⟩;have SV:=S'.trans sv;obtain⟨p1,p2,p3⟩:=wn_at far;have h3:far / 7 % 2=0∨far / 7 % 2=1:=by omega
   have hk:[Kd.text,.head].getD (far / 7 % 2) .no∈[Kd.text,.head]:=by rcases h3 with e | e<;>rw[e]<;>decide
   have hk2:[Kd.text,.head].getD (far / 7 % 2) .no≠.picture:=by rcases h3 with e | e<;>rw[e]<;>decide
   exact fin (ds++[⟨0,[Kd.text,.head].getD (far / 7 % 2) .no,noName,[],qcV far⟩,qay (ds.length:Int) .note]) v Hv SV (by rw[←ap];exact dv) (qaL rw0 (qb7 (qcp p1 p2 hk2) (qaM _ _))) (by simp;omega) (wr12 b hk p3)
  rw[decide_eq_false (by omega:¬(kind:Int)=12)];refine iteF ?_;replace S:=S.trans z15;replace kn2:=kn2.same z15;refine⟨kn2,fun H16 z16=>?_⟩
  by_cases k13:kind=13
  ·rw[decide_eq_true (by omega:(kind:Int)=13)];have S':=S.trans z16;have kn3:=kn2.same z16;refine iteT ⟨kn3,fun v4 H4 s4 d4=>?_⟩;have kn4:=Kn.put (i:=5) kn3 s4 d4;refine⟨kn4,fun v Hv sv dv=>?_⟩;obtain⟨p1,p2,p3⟩:=sides_at far;exact fin (ds++[⟨0,.picture,noName,[],(qcK far).getD (far % 8) []⟩]) v Hv (S'.trans (s4.trans sv)) (by rw[←ap];exact dv) (qaL rw0 (qaT ⟨raw_nm,raw_mk0,(fun x hx=>by obtain⟨n,e⟩:=p1 x hx;rw[e];rfl),(fun z=>by cases z),fun _=>p1,p2⟩)) (by simp;omega) (qd6 fun f=>p3 f.st)
  rw[decide_eq_false (by omega:¬(kind:Int)=13)];refine iteF ?_;replace S:=S.trans z16;replace kn2:=kn2.same z16;refine⟨kn2,fun H17 z17=>?_⟩
  by_cases k14:kind=14
  ·rw[decide_eq_true (by omega:(kind:Int)=14)];have S':=S.trans z17;have kn3:=kn2.same z17;refine iteT ⟨kn3,fun v Hv sv dv=>?_⟩;have SV:=S'.trans sv;obtain⟨n1,n2,n3⟩:=stuff_at (far % 3) (Nat.mod_lt far (by decide));obtain⟨r1,r2,r3⟩:=wr14 (ds:=ds) (way:=far / 3 % 5) rw0 le n1 n3 (by omega) (Nat.mod_lt _ (by decide));exact fin _ v Hv SV dv r1 r2 r3
  rw[decide_eq_false (by omega:¬(kind:Int)=14)];refine iteF ?_;replace S:=S.trans z17;replace kn2:=kn2.same z17;refine⟨kn2,fun v4 H4 s4 d4=>?_⟩;have kn5:=Kn.put (i:=6) kn2 s4 d4;replace S:=S.trans s4;clear kn2;have kn2:Kn [some (.list (ds.map ndD)),some (.int (kind:Int)),some (.int (far:Int)),some (.int (ds.length:Int)),none,none,some (.str (qbE far)),none,none] _ _:=kn5;clear kn5;refine⟨kn2,fun H18 z18=>?_⟩
  by_cases k15:kind=15
  ·rw[decide_eq_true (by omega:(kind:Int)=15)];have S':=S.trans z18;have kn3:=kn2.same z18;refine iteT ⟨kn3,fun v Hv sv dv=>?_⟩;have SV:=S'.trans sv;exact fin (ds++[qcy (qbE far)]) v Hv SV (by rw[←ap];exact dv) (qaL rw0 (qaT (qeg (qcT far).1))) (by simp;omega) (wr15 far)
  rw[decide_eq_false (by omega:¬(kind:Int)=15)];refine iteF ?_;replace S:=S.trans z18;replace kn2:=kn2.same z18;refine⟨kn2,fun H19 z19=>?_⟩
  by_cases k16:kind=16
  ·rw[decide_eq_true (by omega:(kind:Int)=16)];have S':=S.trans z19;have kn3:=kn2.same z19;refine iteT ⟨kn3,fun v4 H4 s4 d4=>?_⟩;have kn4:=Kn.put (i:=7) kn3 s4 d4;refine⟨kn4,fun v Hv sv dv=>?_⟩;obtain⟨p1,p2⟩:=both_at far;exact fin (ds++[qcy (qdR far),qcy (qdR far)]) v Hv (S'.trans (s4.trans sv)) (by rw[←ap];exact dv) (qaL rw0 (qb7 (qeg p1) (qeg p1))) (by simp;omega) (wr16 p2)
  rw[decide_eq_false (by omega:¬(kind:Int)=16)];refine iteF ?_;replace S:=S.trans z19;replace kn2:=kn2.same z19;refine⟨kn2,fun v4 H4 s4 d4=>?_⟩;have kn4:=Kn.put (i:=8) kn2 s4 d4;refine⟨kn4,fun v Hv sv dv=>?_⟩;obtain⟨p1,p2⟩:=marks_at far (far / 7 % 6) (Nat.mod_lt _ (by decide));exact fin (ds++[⟨0,.case,noName,(qdb far).getD (far / 7 % 6) [],[]⟩]) v Hv (S.trans (s4.trans sv)) (by rw[←ap];exact dv) (qaL rw0 (qaT ⟨raw_nm,p1,ok0,(fun z=>by cases z),(fun z=>by cases z),by show 0≤500;decide⟩)) (by simp;omega) (wr17 p2)
end
end K05
namespace K05
open PySem L2 Bk Gen
abbrev sCopy:Stmt:=top 78
abbrev sLaw:Stmt:=top 79
theorem NdNew.at{M N:Addr→Prop}{H:Hp}{a:Addr}{d:Nd}(h:NdNew M N H a d):NdAt (fun b=>M b∨N b) H a d:=by
 obtain⟨na,m,sf,ha,nm,hm,ns,vs,hs,its⟩:=h;exact⟨.inl na,m,sf,ha,.inl nm,hm,.inl ns,vs,hs,its.mono fun v x y=>y.keep KeepN.refl fun _ n _=>.inr n⟩
theorem BookNew.at{M N:Addr→Prop}{H:Hp}{p:Addr}{ds:List Nd}(h:BookNew M N H p ds):qbh (fun b=>M b∨N b) H p ds:=by
 obtain⟨as,hp,nd⟩:=h;exact⟨as,hp,nd.mono fun a d x=>(NdNew.at x).keep KeepN.refl fun _ n _=>n.imp And.left id⟩
def spCopyN:Sp:=fun vs H Q _=>∃(p:Addr) (ds:List Nd) (N:Addr→Prop),vs=[.ref p]∧qbh N H p ds∧ds.length≤1000∧∀p' H',H p'=none→BookNew (qcN H) N H' p' ds→Same H H'→Q (.ref p') H'
section
variable{P:Program}{w:World}{K:PySem.W.Frag}{mg:Str→Option Value}{base:Heap}
theorem scCopy:FnScope ["_law_book_here"] ["_law_book_here"] (qan sCopy):=⟨rfl,rfl,rfl,by decide +kernel,rfl,by decide +kernel,by decide +kernel⟩
theorem ok_copy{f:Addr}{fd:FuncData}(F:Fun K "_law_copy" "_law_copy" sCopy f fd)(T:Bn mg):FnOk P w K mg base CX0 1 f fd ["_law_book_here"] spCopyN:=by
 refine F.ok scCopy (fun vs H Q E h=>?_) (fun cdv A outer s H vs Q E hr h=>?_)
 ·obtain⟨p,ds,N,rfl,_⟩:=h;rfl
 ·obtain⟨p,ds,N,rfl,⟨as,hp,nd⟩,le,q⟩:=h;have lenas:as.length=ds.length:=nd.length;have zl:(as.map V.ref).length<sizeLine:=by rw[List.length_map];exact qaA (by omega)
  refine⟨_,(qai (qat (qbc (own:=["_law_elder", "_law_kind", "_law_name_here", "_law_marks", "_law_stuff"]) (by rfl) (CompScope.plain (by rfl) (by decide +kernel) (by decide +kernel) (by decide +kernel)) (qbl (pv 0)) (fun cl C s2 H2 fp=>(qfn K (n:=5) (by rfl) (by rfl) (qbf (qaH (i:=0) (by show(["_law_elder", "_law_kind", "_law_name_here", "_law_marks", "_law_stuff"]:List Str).Nodup;decide +kernel) (by rfl) (by trivial) (by trivial)) (qbf (qaH (i:=1) (by show(["_law_elder", "_law_kind", "_law_name_here", "_law_marks", "_law_stuff"]:List Str).Nodup;decide +kernel) (by rfl) (by trivial) (by trivial)) (qbf (qaH (i:=2) (by show(["_law_elder", "_law_kind", "_law_name_here", "_law_marks", "_law_stuff"]:List Str).Nodup;decide +kernel) (by rfl) (by trivial) (by trivial)) (qbf (qaH (i:=3) (by show(["_law_elder", "_law_kind", "_law_name_here", "_law_marks", "_law_stuff"]:List Str).Nodup;decide +kernel) (by rfl) (by trivial) (by trivial)) (qbf (qaH (i:=4) (by show(["_law_elder", "_law_kind", "_law_name_here", "_law_marks", "_law_stuff"]:List Str).Nodup;decide +kernel) (by rfl) (by trivial) (by trivial)) pgs_nil))))))) (fun cl C s2 H2 fp=>qbr) (fun cl C s2 H2 fp=>(qbB (qab (pv 0) (qab (pv 1) (qab (pv 2) (qab (qa5 (qdh K (by rfl)) (by rfl) T.list b_list (qab (pv 3) pa_nil)) (qab (qa5 (qdh K (by rfl)) (by rfl) T.list b_list (qab (pv 4) pa_nil)) pa_nil)))))))))),?_⟩;refine⟨_,rfl,p,rfl,⟨_,SqL.of hp⟩,qaZ (fun i ys σ' H'=>Same H H'∧(∃a b c d e,σ'=[a,b,c,d,e])∧∃bs,ys=bs.map V.ref∧bs.length≤i∧Paired (NdNew (qcN H) N H') bs (ds.take i)) zl ⟨Same.refl H,⟨none,none,none,none,none,rfl⟩,[],rfl,Nat.zero_le _,.nil⟩ ?_ ?_ ?_⟩
  ·rintro i ys σ' H' hi ⟨s1,_,bs,rfl,lb,_⟩;exact⟨SqL.of (s1 _ _ hp),by rw[List.length_map];exact lb⟩
  ·rintro i x ys σ' H' hx ⟨s1,⟨a1,a2,a3,a4,a5,rfl⟩,bs,rfl,lb,nb⟩;obtain⟨a,ea,rfl⟩:=qcs hx;obtain⟨d,ed,nad⟩:=nd.at ea;obtain⟨na,m,sf,ha,nm,hm,nsf,vs,hsf,its⟩:=nad;refine⟨a,_,rfl,SqT.of (s1 _ _ ha),rfl,_,_,rfl,_,_,rfl,_,_,rfl,_,_,rfl,_,_,rfl,rfl,?_⟩;refine⟨_,rfl,_,rfl,_,rfl,_,rfl,m,_,rfl,.inl (SqL.of (s1 _ _ hm)),fun l hl=>?_⟩;have s2:=qaf hl (.lst (d.mks.map V.str));refine⟨_,rfl,sf,_,rfl,.inl (SqL.of ((s1.trans s2) _ _ hsf)),fun l' hl'=>?_⟩;have s3:=qaf hl' (.lst vs);refine⟨by show 5≤sizeLine;decide,fun t ht=>?_⟩;have s4:=qaf ht (.tup [.int d.e,.str d.k.s,.str d.nm,.ref l,.ref l']);have s34:=s3.trans s4;have s24:=s2.trans s34;refine⟨s1.trans s24,⟨_,_,_,_,_,rfl⟩,bs++[t],by rw[List.map_append];rfl,by rw[List.length_append];exact Nat.succ_le_succ lb,?_⟩;rw[List.take_succ,ed];exact qbY (nb.mono fun a d h=>NdNew.keep h s24 fun _ n=>n) (.cons ⟨(s1.trans (s2.trans s3)).free ht,l,l',qad,s1.free hl,s34 _ _ qad,(s1.trans s2).free hl',vs,s4 _ _ qad,its.mono fun v x y=>y.keep (s1.trans s24).keep fun b n _=>n⟩ .nil)
  ·rintro ys σ' H' ⟨s1,_,bs,rfl,lb,nb⟩ D hD;have s2:=qaf hD (.lst (bs.map V.ref));have e:ds.take (as.map V.ref).length=ds:=by rw[List.length_map,lenas,List.take_length]
   rw[e]at nb;exact q D _ (s1.free hD) ⟨bs,qad,nb.mono fun a d h=>NdNew.keep (NdNew.ne h hD) s2 fun _ n=>n⟩ (s1.trans s2)
def qfu(K:PySem.W.Frag):Sp:=fun vs H Q _=>∃(a:Addr) (ns:List Int),vs=[.ref a]∧SqL K H a (ns.map V.int)∧ns.length≤63∧∀H',Q (.bl true) H'
theorem SqL.keepAt{K:PySem.W.Frag}{H H':Hp}{a:Addr}{xs:List V}(h:SqL K H a xs)(k:∀o,H a=some o→H' a=some o):SqL K H' a xs:=by
 rcases h with(h | ⟨o,h⟩) | h
 ·exact .inl (.inl (k _ h))
 ·exact .inl (.inr ⟨o,k _ h⟩)
 ·exact .inr h
theorem qeE{N:Addr→Prop}{H:Hp}{p:Addr}{ds:List Nd}(h:qbh N H p ds):qbh (fun _=>True) H p ds:=by
 obtain⟨as,e,nd⟩:=h;exact⟨as,e,nd.keep KeepN.refl fun _ _ _=>trivial⟩
theorem scLaw:FnScope ["_law_script", "_law_stream_here", "_law_nodes", "_law_other", "_law_kind", "_law_far", "_law_wrong", "_law_handed", "_law_found"] ["_law_script"] (qan sLaw):=⟨rfl,rfl,rfl,by decide +kernel,rfl,by decide +kernel,by decide +kernel⟩
theorem ok_law{f C:Addr}{fd:FuncData}(F:Fun K "law" "law" sLaw f fd)(T:Bn mg)(F_stream:Fx P w K mg base CX0 1 "_law_stream" ["_law_script", "_law_k"] (qes K))(F_take:Fx P w K mg base CX0 1 "_law_take" ["_law_stream_here", "_law_most"] spTake)(F_book:Fx P w K mg base CX0 11 "_law_book" ["_law_stream_here", "_law_many", "_law_room"] spBook)(F_trees:Fx P w K mg base CX0 3 "_law_trees" ["_law_nodes", "_law_kind", "_law_far"] spTrees)(F_stuffs:Fx P w K mg base CX0 3 "_law_stuffs" ["_law_nodes", "_law_kind", "_law_far"] spStuffs)(F_copy:Fx P w K mg base CX0 1 "_law_copy" ["_law_book_here"] spCopyN)(F_refused:Fx P w K mg base CX0 8 "_law_refused" ["_law_nodes"] spNoBook)(F_by_name:Fx P w K mg base CX0 8 "_law_by_name" ["_law_nodes"] spNoBook)(F_made_book:Fx P w K mg base (CX1 P w) 7 "made_book" ["nodes"] (qdu C)):FnOk P w K mg base CX0 12 f fd ["_law_script"] (qfu K):=by
 refine F.ok scLaw (fun vs H Q E h=>?_) (fun cdv A outer s H vs Q E hr h=>?_)
 ·obtain⟨a,ns,rfl,_⟩:=h;rfl
 ·obtain⟨a,ns,rfl,hS,h63,q⟩:=h;have hr_stream:Room 1 _:=hr.mono (by decide);have hr_take:Room 1 _:=hr.mono (by decide);have hr_copy:Room 1 _:=hr.mono (by decide);have hr_trees:Room 3 _:=hr.mono (by decide);have hr_stuffs:Room 3 _:=hr.mono (by decide);have hr_refused:Room 8 _:=hr.mono (by decide);have hr_by_name:Room 8 _:=hr.mono (by decide);have hr_made_book:Room 7 _:=hr.mono (by decide);have hr_book:=hr;have hu:=hr.units;refine⟨_,(qae (qaD (i:=1) scLaw.nd (by rfl) (by trivial) (qaE F_stream hr_stream (by rfl) qaG (qab (pv 0) (qab qak pa_nil))))
   (qae (qaD (i:=2) scLaw.nd (by rfl) (by trivial) (qaE F_book hr_book (by rfl) qaG (qab (pv 1) (qab (qaN op_add qak (qaE F_take hr_take (by rfl) qaG (qab (pv 1) (qab qak pa_nil)))) (qab qak pa_nil)))))
   (qae (qaD (i:=3) scLaw.nd (by rfl) (by trivial) (qaE F_stream hr_stream (by rfl) qaG (qab (pv 0) (qab qak pa_nil))))
   (qae (qaD (i:=4) scLaw.nd (by rfl) (by trivial) (qaE F_take hr_take (by rfl) qaG (qab (pv 3) (qab qak pa_nil))))
   (qae (qaD (i:=5) scLaw.nd (by rfl) (by trivial) (qaE F_take hr_take (by rfl) qaG (qab (pv 3) (qab qak pa_nil))))
   (qae (qaD (i:=6) scLaw.nd (by rfl) (by trivial) (qaE F_trees hr_trees (by rfl) qaG (qab (pv 2) (qab (pv 4) (qab (pv 5) pa_nil)))))
   (qae (qaR (qas op_gt (pv 4) qak (qaz _)) (qai (qaD (i:=6) scLaw.nd (by rfl) (by trivial) (qaE F_stuffs hr_stuffs (by rfl) qaG (qab (pv 2) (qab (pv 4) (qab (pv 5) pa_nil)))))) pss_nil)
   (qae (qaD (i:=7) scLaw.nd (by rfl) (by trivial) (qaE F_copy hr_copy (by rfl) qaG (qab (pv 6) pa_nil)))
   (qae (qaR (PW.pt (qcx (qa6 (qbj (qaE F_refused hr_refused (by rfl) qaG (qab (pv 7) pa_nil)))) (qcx (qa6 (qbj (qaE F_by_name hr_by_name (by rfl) qaG (qab (pv 7) pa_nil)))) (qbQ (qas (qep hu) (pv 7) (pv 6) (qaz _)))))) (qai (qat qcJ)) pss_nil)
   (qae (qaD (i:=8) scLaw.nd (by rfl) (by trivial) (qaE F_made_book hr_made_book (by rfl) qf2 (qab (pv 2) pa_nil)))
   (qai (qat (qb4 (qb3 T.isinstance (by rfl) T.list (by rfl) b_list (pv 8)) (qbL (qaW (qeQ hu) (pv 8) (pv 2) (qaz _)))))))))))))))),?_⟩
  refine⟨_,rfl,a,ns,0,rfl,hS,by decide,by decide,fun st H1 hst S1 s1=>?_⟩;refine⟨_,rfl,_,rfl,st,3,rfl,S1,by decide,by decide,fun r H2 r0 r1 S2 K2=>?_⟩;refine⟨_,_,rfl,rfl,?_⟩;obtain⟨m,em⟩:∃m:Nat,(1:Int)+r=m:=⟨(1+r).toNat,by omega⟩;refine⟨st,m,8,by show[V.ref st,V.int (1+r),V.int 8]=_;rw[em];rfl,S2,by omega,by omega,by decide,by decide,fun p ds H3 bk le hp0 B3 S3 K3=>?_⟩;have hS3:SqL K H3 a (ns.map V.int):=SqL.keepAt hS fun o e=>K3 _ _ (qar e hst) (K2 _ _ (qar e hst) (s1 _ _ e))
  refine⟨_,rfl,a,ns,1,rfl,hS3,by decide,by decide,fun st2 H4 hst2 S4 s4=>?_⟩;have not2:∀{H':Hp},Keep1 st2 H4 H'→qbh (fun _=>True) H' p ds:=fun k=>by
   obtain⟨as,e,nd⟩:=B3;have ne:∀{b:Addr} {o:HO},H3 b=some o→b≠st2:=fun e=>qar e hst2
   refine⟨as,k _ _ (ne e) (s4 _ _ e),?_⟩;refine(nd.keep (N':=fun b=>(H3 b).isSome=true) KeepN.refl fun b _ z=>z).keep (fun b o n e=>?_) fun _ _ _=>trivial
   exact k _ _ (ne e) (s4 _ _ e)
  clear S1 S2 S3 K2 K3 hS3 s1;refine⟨_,rfl,st2,18,rfl,S4,by decide,by decide,fun r2 H5 r20 r21 S5 K5=>?_⟩;refine⟨_,rfl,st2,1000003,rfl,S5,by decide,by decide,fun r3 H6 r30 r31 S6 K6=>?_⟩;have B6:=not2 (K5.trans K6);clear not2 S4 S5 S6 K5 K6 B3;obtain⟨kind,rfl⟩:∃m:Nat,r2=m:=⟨r2.toNat,by omega⟩;obtain⟨far,rfl⟩:∃m:Nat,r3=m:=⟨r3.toNat,by omega⟩;refine⟨_,rfl,_,rfl,_,rfl,p,ds,kind,far,rfl,qfq B6,bk,(by omega),by omega,fun ws w1 H7 s7 d7 raw7 l7 g7=>?_⟩;have B7:DIn H7 (.ref p) (bkD ds):=(qfq B6).same s7;dsimp only[tNext];refine qa3 (fun σ' H'=>∃w2 ws,σ'=[some (.ref a),some (.ref st),some (.ref p),some (.ref st2),some (.int kind),some (.int far),some (.ref w2),none,none]∧DIn H' (.ref p) (bkD ds)∧DIn H' (.ref w2) (bkD ws)∧(∀d∈ws,Raw d)∧ws.length≤500∧¬GoodX ws) (fun N0 go=>?_) ?_
  ·refine⟨_,rfl,_,_,rfl,rfl,_,rfl,?_⟩
   by_cases hk:10<kind
   ·rw[decide_eq_true (by omega:(10:Int)<(kind:Nat))];refine iteT ⟨_,rfl,_,rfl,_,rfl,p,ds,kind,far,rfl,B7,bk,(by omega),by omega,by omega,fun ws2 w2 H8 s8 d8 raw8 l8 g8=>?_⟩;exact go _ _ ⟨w2,ws2,rfl,B7.same s8,d8,raw8,l8,g8⟩
   ·rw[decide_eq_false (by omega:¬(10:Int)<(kind:Nat))];exact iteF (go _ _ ⟨w1,ws,rfl,B7,d7,raw7,l7,g7 (by omega)⟩)
  rintro σ1 H8 ⟨w2,ws2,rfl,B8,d8,raw8,l8,g8⟩;clear d7 raw7 l7 g7;refine⟨_,rfl,w2,ws2,_,rfl,qfT d8,by omega,fun h2 H9 hh2 bn s9=>?_⟩;have Bh:=qeE (BookNew.at bn);refine⟨_,rfl,h2,ws2,_,rfl,Bh,raw8,l8,g8,fun H10 s10=>⟨_,rfl,iteF ?_⟩⟩;have Bh10:DIn H10 (.ref h2) (bkD ws2):=(qfq Bh).same s10;refine⟨_,rfl,h2,ws2,_,rfl,qfT Bh10,raw8,l8,g8,fun H11 s11=>⟨_,rfl,iteF ?_⟩⟩;have s911:=s9.trans (s10.trans s11);refine⟨_,rfl,_,rfl,bkD ws2,bkD ws2,Bh10.same s11,d8.same s911,qfi raw8,qfi raw8,fun _=>⟨_,rfl,iteF ?_⟩,fun z=>absurd rfl z⟩;have B11:=B8.same s911;refine⟨_,rfl,p,ds,_,rfl,qfT B11,qei bk,by omega,.inl ⟨Book.good bk (by omega),fun f2 H12 hf2 s12 bn2=>?_⟩⟩;have bn3:=bn2;obtain⟨fs,hfs,_⟩:=bn3;refine⟨_,rfl,_,_,_,_,rfl,.lst hfs,⟨_,fun u r=>r,k_ll⟩,_,rfl,iteT ?_⟩;refine⟨_,rfl,_,rfl,bkD ds,bkD ds,qfq (qeE (BookNew.at bn2)),B11.same s12,qfQ bk.form,qfQ bk.form,fun _=>q _,fun z=>absurd rfl z⟩
end
end K05
namespace K05
open PySem L2 Bk Gen
theorem qbp{K:PySem.W.Frag}{a:Addr}{od:Option Addr}{its:Array Value}{n:Nat}{sl:Array (Option Value)}{H:Hp}{ks:List Kd}(l:K.lookup a=some ⟨.type "tuple",od,.seq its n,sl⟩)(z:its.size≤sizeLine)(v:Vals (ks.map fun k=>V.str k.s) its.toList):SqT K H a (ks.map fun k=>V.str k.s) :=
 .inr ⟨_,its,n,l,rfl,rfl,z,v⟩
theorem qbJ{k:Key}{v:Value}{r:List (Key×Value)}:valueAt ((k,v)::r) k=some v:=by simp[valueAt]
theorem qbu{k k':Key}{v:Value}{r:List (Key×Value)}(h:k'≠k):valueAt ((k',v)::r) k=valueAt r k:=by simp[valueAt,h]
theorem keys9{P:Program}{w:World}{x1 x2 x3 x4 x5 x6 x7 x8 x9:Str}{t1 t2 t3 t4 t5 t6 t7 t8 t9:Tok}{v1 v2 v3 v4 v5 v6 v7 v8 v9:Value}{e:DictEntry}(h:e∈#[⟨PyData.keyHash w.params x1,.str x1 t1,v1⟩,⟨PyData.keyHash w.params x2,.str x2 t2,v2⟩,⟨PyData.keyHash w.params x3,.str x3 t3,v3⟩,⟨PyData.keyHash w.params x4,.str x4 t4,v4⟩,⟨PyData.keyHash w.params x5,.str x5 t5,v5⟩,⟨PyData.keyHash w.params x6,.str x6 t6,v6⟩,⟨PyData.keyHash w.params x7,.str x7 t7,v7⟩,⟨PyData.keyHash w.params x8,.str x8 t8,v8⟩,⟨PyData.keyHash w.params x9,.str x9 t9,v9⟩]) :
  ∃k,(qbH P w).is k e.key=true∧e.hash=(qbH P w).hash k:=by
 simp only[List.mem_toArray,List.mem_cons,List.not_mem_nil,or_false]at h;rcases h with rfl | rfl | rfl | rfl | rfl | rfl | rfl | rfl | rfl<;>exact⟨.inr _,qaO _ _ _ _,rfl⟩
open PySem.W
structure At(K:Frag)(n:Str)(st:Stmt)(f:Addr)(fd:FuncData):Prop where
 a:nsIn K mainGlobals n=some (some (.ref f))
 d:FunD K n n st f fd
 f:Fun K n n st f fd
theorem at_mk{K:Frag}{n:Str}{st:Stmt}{f:Addr}{oc:Value}{od an:Option Addr}{sl:Array (Option Value)}{kV dc pm cd ct:Value}(a:nsIn K mainGlobals n=some (some (.ref f)))(l:K.lookup f=some ⟨oc,od,.func (fnOf n n (qa9 st) (qa0 st) (qan st) .none kV dc pm an cd ct),sl⟩)(e:codeIn K cd n=true)(k:keepIn K (.ref f)=true):At K n st f (fnOf n n (qa9 st) (qa0 st) (qan st) .none kV dc pm an cd ct):=⟨a,fund_mk l e k,fun_mk l e k⟩
def Bo(n:Str)(st:Stmt)(ps:List Str):Prop:=∀(kV doc pm:Value) (an:Option Addr) (cdv ct:Value) (us:List Value),us.length=ps.length→bindArgs (fnOf n n (qa9 st) (qa0 st) (qan st) .none kV doc pm an cdv ct) ⟨us,[]⟩=pure (ps.zip us)
theorem us_s{n:Nat}{us:List Value}(h:us.length=n+1):∃u r,us=u::r∧r.length=n:=by
 cases us with
 | nil=>cases h
 | cons u r=>exact⟨u,r,rfl,Nat.succ.inj h⟩
theorem bo1{n:Str}{st:Stmt}{p0:Str}(h:∀(kV doc pm:Value) (an:Option Addr) (cdv ct u0:Value),bindArgs (fnOf n n (qa9 st) (qa0 st) (qan st) .none kV doc pm an cdv ct) ⟨[u0],[]⟩=pure [(p0,u0)]):Bo n st [p0]:=fun kV doc pm an cdv ct us hl=>by
 obtain⟨u0,r0,rfl,h0⟩:=us_s hl;obtain rfl:=List.eq_nil_of_length_eq_zero h0;exact h _ _ _ _ _ _ _
theorem bo2{n:Str}{st:Stmt}{p0 p1:Str}(h:∀(kV doc pm:Value) (an:Option Addr) (cdv ct u0 u1:Value),bindArgs (fnOf n n (qa9 st) (qa0 st) (qan st) .none kV doc pm an cdv ct) ⟨[u0,u1],[]⟩=pure [(p0,u0),(p1,u1)]):Bo n st [p0,p1]:=fun kV doc pm an cdv ct us hl=>by
 obtain⟨u0,r0,rfl,h0⟩:=us_s hl;obtain⟨u1,r1,rfl,h1⟩:=us_s h0;obtain rfl:=List.eq_nil_of_length_eq_zero h1;exact h _ _ _ _ _ _ _ _
theorem bo3{n:Str}{st:Stmt}{p0 p1 p2:Str}(h:∀(kV doc pm:Value) (an:Option Addr) (cdv ct u0 u1 u2:Value),bindArgs (fnOf n n (qa9 st) (qa0 st) (qan st) .none kV doc pm an cdv ct) ⟨[u0,u1,u2],[]⟩=pure [(p0,u0),(p1,u1),(p2,u2)]):Bo n st [p0,p1,p2]:=fun kV doc pm an cdv ct us hl=>by
 obtain⟨u0,r0,rfl,h0⟩:=us_s hl;obtain⟨u1,r1,rfl,h1⟩:=us_s h0;obtain⟨u2,r2,rfl,h2⟩:=us_s h1;obtain rfl:=List.eq_nil_of_length_eq_zero h2;exact h _ _ _ _ _ _ _ _ _
theorem bo4{n:Str}{st:Stmt}{p0 p1 p2 p3:Str}(h:∀(kV doc pm:Value) (an:Option Addr) (cdv ct u0 u1 u2 u3:Value),bindArgs (fnOf n n (qa9 st) (qa0 st) (qan st) .none kV doc pm an cdv ct) ⟨[u0,u1,u2,u3],[]⟩=pure [(p0,u0),(p1,u1),(p2,u2),(p3,u3)]):Bo n st [p0,p1,p2,p3]:=fun kV doc pm an cdv ct us hl=>by
 obtain⟨u0,r0,rfl,h0⟩:=us_s hl;obtain⟨u1,r1,rfl,h1⟩:=us_s h0;obtain⟨u2,r2,rfl,h2⟩:=us_s h1;obtain⟨u3,r3,rfl,h3⟩:=us_s h2;obtain rfl:=List.eq_nil_of_length_eq_zero h3;exact h _ _ _ _ _ _ _ _ _ _
theorem bo5{n:Str}{st:Stmt}{p0 p1 p2 p3 p4:Str}(h:∀(kV doc pm:Value) (an:Option Addr) (cdv ct u0 u1 u2 u3 u4:Value),bindArgs (fnOf n n (qa9 st) (qa0 st) (qan st) .none kV doc pm an cdv ct) ⟨[u0,u1,u2,u3,u4],[]⟩=pure [(p0,u0),(p1,u1),(p2,u2),(p3,u3),(p4,u4)]):Bo n st [p0,p1,p2,p3,p4]:=fun kV doc pm an cdv ct us hl=>by
 obtain⟨u0,r0,rfl,h0⟩:=us_s hl;obtain⟨u1,r1,rfl,h1⟩:=us_s h0;obtain⟨u2,r2,rfl,h2⟩:=us_s h1;obtain⟨u3,r3,rfl,h3⟩:=us_s h2;obtain⟨u4,r4,rfl,h4⟩:=us_s h3;obtain rfl:=List.eq_nil_of_length_eq_zero h4;exact h _ _ _ _ _ _ _ _ _ _ _
theorem fx_mk{P:Program}{w:World}{K:Frag}{mg:Str→Option Value}{base h:Heap}(X:K.In h)(G:h.Ns mainGlobals mg){n:Str}{st:Stmt}{f:Addr}{fd:FuncData}{CX:CXT}{k:Nat}{ps:List Str}{sp:Sp}(A:At K n st f fd)(o:FnOk P w K mg base CX k f fd ps sp)(b:Bo n st ps:=by first | exact bo1 (by intros;rfl) | exact bo2 (by intros;rfl) | exact bo3 (by intros;rfl) | exact bo4 (by intros;rfl) | exact bo5 (by intros;rfl)):Fx P w K mg base CX k n ps sp:=⟨_,_,o,A.f.binds b,A.f.kp,mg_of X G A.a⟩
theorem fx_no{P:Program}{w:World}{K:Frag}{mg:Str→Option Value}{base h:Heap}(X:K.In h)(G:h.Ns mainGlobals mg){n:Str}{st:Stmt}{f:Addr}{fd:FuncData}{CX:CXT}{k:Nat}{ps:List Str}{sp:Sp}(A:At K n st f fd)(no:∀vs H Q E,¬sp vs H Q E)(b:Bo n st ps:=by first | exact bo1 (by intros;rfl) | exact bo2 (by intros;rfl) | exact bo3 (by intros;rfl) | exact bo4 (by intros;rfl) | exact bo5 (by intros;rfl)):Fx P w K mg base CX k n ps sp:=.none (A.f.binds b) A.f.kp (mg_of X G A.a) no
theorem all_mk{l:OpenLaw}{w:World}{K:Frag}{h:Heap}{mg:Str→Option Value}{fa f1 f2 f3 f4 f5 f6 f7 f8 f9 f10 f11 f12 f13 f14 f15 f16 f17 f18 f19 f20 f21 f22 f23 f24 f25 f26 f27 f28 f29 f30 f31 f32 f33 f34 f35 f36 f37 f38 f39 f40 f41 f42 C Pc q1 q2 q3 CN q5 q6 q7:Addr}{d1 d2 d3 d4 d5 d6 d7 d8 d9 d10 d11 d12 d13 d14 d15 d16 d17 d18 d19 d20 d21 d22 d23 d24 d25 d26 d27 d28 d29 d30 d31 d32 d33 d34 d35 d36 d37 d38 d39 d40 d41 d42:FuncData}(X:K.In h)(G:h.Ns mainGlobals mg)(hfa:mg "law" = some (.ref fa)){t_ELDER t_KIND t_NAME t_MARKS t_STUFF t_SORT t_THING t_TONE t_MOST_WORD_SIGNS t_MOST_NAME_SIGNS t_MOST_NODES t_MOST_MARKS t_MOST_PIECES t_GREATEST_LEVEL t_GREATEST_TONE t_GREATEST_PICTURE:Tok}{cdt:ClassData}{q_KINDS q_KINDS_OF_PIECES q_KINDS_NEVER_EMPTY q_MAY q_m_body q_m_case q_m_shelf q_m_grid q_m_text q_m_head q_m_picture q_m_aside q_m_note:Addr}{tk_KINDS_0 tk_KINDS_1 tk_KINDS_2 tk_KINDS_3 tk_KINDS_4 tk_KINDS_5 tk_KINDS_6 tk_KINDS_7 tk_KINDS_8 tk_KINDS_OF_PIECES_0 tk_KINDS_OF_PIECES_1 tk_KINDS_OF_PIECES_2 tk_KINDS_NEVER_EMPTY_0 tk_KINDS_NEVER_EMPTY_1 tk_KINDS_NEVER_EMPTY_2 tk_KINDS_NEVER_EMPTY_3 tk_key_body tk_key_case tk_key_shelf tk_key_grid tk_key_text tk_key_head tk_key_picture tk_key_aside tk_key_note tk_m_body_0 tk_m_body_1 tk_m_body_2 tk_m_body_3 tk_m_body_4 tk_m_body_5 tk_m_body_6 tk_m_case_0 tk_m_case_1 tk_m_case_2 tk_m_case_3 tk_m_case_4 tk_m_case_5 tk_m_case_6 tk_m_shelf_0 tk_m_shelf_1 tk_m_shelf_2 tk_m_shelf_3 tk_m_shelf_4 tk_m_grid_0 tk_m_grid_1 tk_m_grid_2 tk_m_grid_3 tk_m_grid_4 tk_m_text_0 tk_m_head_0 tk_m_aside_0 tk_m_aside_1 tk_m_aside_2 tk_m_aside_3 tk_m_aside_4 tk_m_aside_5 tt_SMALL_LETTERS tt_GREAT_LETTERS tt_FIGURES tt_WORD_POINTS:Tok}{n_KINDS_ n_KINDS_OF_PIECES_ n_KINDS_NEVER_EMPTY_ n_MAY n_m_body_ n_m_case_ n_m_shelf_ n_m_grid_ n_m_text_ n_m_head_ n_m_picture_ n_m_aside_ n_m_note_:Nat}{od_KINDS od_KINDS_OF_PIECES od_KINDS_NEVER_EMPTY od_m_body od_m_case od_m_shelf od_m_grid od_m_text od_m_head od_m_picture od_m_aside od_m_note:Option Addr}{sl_KINDS sl_KINDS_OF_PIECES sl_KINDS_NEVER_EMPTY sl_m_body sl_m_case sl_m_shelf sl_m_grid sl_m_text sl_m_head sl_m_picture sl_m_aside sl_m_note:Array (Option Value)}(A1:At K "is_whole" sIsWhole f1 d1)(A2:At K "is_word_sign" sIsWordSign f2 d2)(A3:At K "is_word" sIsWord f3 d3)(A4:At K "is_name" sIsName f4 d4)(A5:At K "made_book" sMadeBook f5 d5)(A6:At K "copied_node" sCopiedNode f6 d6)(A7:At K "refuse_fault" sRefuseFault f7 d7)(A8:At K "are_unlike" sAreUnlike f8 d8)(A9:At K "form_fault" sFormFault f9 d9)(A10:At K "are_marks" sAreMarks f10 d10)(A11:At K "is_stuff" sIsStuff f11 d11)(A12:At K "are_pieces" sArePieces f12 d12)(A13:At K "is_piece" sIsPiece f13 d13)(A14:At K "tree_fault" sTreeFault f14 d14)(A15:At K "hangs_right" sHangsRight f15 d15)(A16:At K "level_of" sLevel_of f16 d16)(A17:At K "elders_of" sElders f17 d17)(A18:At K "held_fault" sHeldFault f18 d18)(A19:At K "may_hold" sMayHold f19 d19)(A20:At K "note_numbers" sNoteNumbers f20 d20)(A21:At K "holds" sHolds f21 d21)(A22:At K "_law_stream" sStream f22 d22)(A23:At K "_law_take" sTake f23 d23)(A24:At K "_law_word" sWord f24 d24)(A25:At K "_law_name" sName f25 d25)(A26:At K "_law_pieces" sPieces f26 d26)(A27:At K "_law_own" sOwn f27 d27)(A28:At K "_law_add" sAdd f28 d28)(A29:At K "_law_text" sText f29 d29)(A30:At K "_law_item" sItem f30 d30)(A31:At K "_law_book" sBook f31 d31)(A32:At K "_law_refused" sRefused f32 d32)(A33:At K "_law_by_name" sByName f33 d33)(A34:At K "_law_node" sNode f34 d34)(A35:At K "_law_chain" sChain f35 d35)(A36:At K "_law_trees" sTrees f36 d36)(A37:At K "_law_pieces_wrong" sPw f37 d37)(A38:At K "_law_notes_wrong" sNw f38 d38)(A39:At K "_law_stuffed" sStuffed f39 d39)(A40:At K "_law_stuffs" sStuffs f40 d40)(A41:At K "_law_copy" sCopy f41 d41)(A42:At K "law" sLaw f42 d42)(c_C:nsIn K mainGlobals "NoBook" = some (some (.ref C)))(c_Pc:nsIn K mainGlobals "PressError" = some (some (.ref Pc)))(c_q1:nsIn K mainGlobals "NoDrawing" = some (some (.ref q1)))(c_q2:nsIn K mainGlobals "NoFace" = some (some (.ref q2)))(c_q3:nsIn K mainGlobals "NoLeaf" = some (some (.ref q3)))(c_CN:nsIn K mainGlobals "NoNode" = some (some (.ref CN)))(c_q5:nsIn K mainGlobals "NoPart" = some (some (.ref q5)))(c_q6:nsIn K mainGlobals "NoRule" = some (some (.ref q6)))(c_q7:nsIn K mainGlobals "NoSheet" = some (some (.ref q7)))(xc:excIn K C [.type "ValueError",.type "Exception",.type "BaseException",.type "object"] "ValueError.__new__" = true)(xga:findIn K (.ref C) "__getattribute__" = some (some (.builtin "BaseException.__getattribute__")))(xgh:findIn K (.ref C) "__getattr__" = some none)(xcl:findIn K (.ref C) "__class__" = some (some (.builtin "object.__class__")))(xsb:subIn K (.ref C) (.type "BaseException")=some true)(xso:subIn K (.ref C) (.type "object")=some true)(xty:clsIn K C=some cdt)(xv:kitOne K (.ref C) (.type "ValueError")=some true)(xa1:kitAny K (.ref C) [.ref q1,.ref q2,.ref q3,.ref CN]=some false)(xa2:kitAny K (.ref C) [.ref q5,.ref q6,.ref q7]=some false)(xx1:exmOne K (.ref C) (.ref Pc)=some true)(xx2:exmOne K (.ref C) (.ref C)=some true)(xcN:excIn K CN [.type "ValueError",.type "Exception",.type "BaseException",.type "object"] "ValueError.__new__" = true)(x_KINDS:nsIn K mainGlobals "KINDS" = some (some (.ref q_KINDS)))(l_KINDS:K.lookup q_KINDS=some ⟨.type "tuple",od_KINDS,.seq #[.str (Str.ofString "body") tk_KINDS_0,.str (Str.ofString "case") tk_KINDS_1,.str (Str.ofString "shelf") tk_KINDS_2,.str (Str.ofString "grid") tk_KINDS_3,.str (Str.ofString "text") tk_KINDS_4,.str (Str.ofString "head") tk_KINDS_5,.str (Str.ofString "picture") tk_KINDS_6,.str (Str.ofString "aside") tk_KINDS_7,.str (Str.ofString "note") tk_KINDS_8] n_KINDS_,sl_KINDS⟩)(x_KINDS_OF_PIECES:nsIn K mainGlobals "KINDS_OF_PIECES" = some (some (.ref q_KINDS_OF_PIECES)))(l_KINDS_OF_PIECES:K.lookup q_KINDS_OF_PIECES=some ⟨.type "tuple",od_KINDS_OF_PIECES,.seq #[.str (Str.ofString "text") tk_KINDS_OF_PIECES_0,.str (Str.ofString "head") tk_KINDS_OF_PIECES_1,.str (Str.ofString "note") tk_KINDS_OF_PIECES_2] n_KINDS_OF_PIECES_,sl_KINDS_OF_PIECES⟩)(x_KINDS_NEVER_EMPTY:nsIn K mainGlobals "KINDS_NEVER_EMPTY" = some (some (.ref q_KINDS_NEVER_EMPTY)))(l_KINDS_NEVER_EMPTY:K.lookup q_KINDS_NEVER_EMPTY=some ⟨.type "tuple",od_KINDS_NEVER_EMPTY,.seq #[.str (Str.ofString "body") tk_KINDS_NEVER_EMPTY_0,.str (Str.ofString "shelf") tk_KINDS_NEVER_EMPTY_1,.str (Str.ofString "grid") tk_KINDS_NEVER_EMPTY_2,.str (Str.ofString "aside") tk_KINDS_NEVER_EMPTY_3] n_KINDS_NEVER_EMPTY_,sl_KINDS_NEVER_EMPTY⟩)(x_MAY:nsIn K mainGlobals "MAY_HOLD" = some (some (.ref q_MAY)))(l_MAY:K.lookup q_MAY=some ⟨.type "dict",none,.dict #[⟨PyData.keyHash w.params (Str.ofString "body"),.str (Str.ofString "body") tk_key_body,.ref q_m_body⟩,⟨PyData.keyHash w.params (Str.ofString "case"),.str (Str.ofString "case") tk_key_case,.ref q_m_case⟩,⟨PyData.keyHash w.params (Str.ofString "shelf"),.str (Str.ofString "shelf") tk_key_shelf,.ref q_m_shelf⟩,⟨PyData.keyHash w.params (Str.ofString "grid"),.str (Str.ofString "grid") tk_key_grid,.ref q_m_grid⟩,⟨PyData.keyHash w.params (Str.ofString "text"),.str (Str.ofString "text") tk_key_text,.ref q_m_text⟩,⟨PyData.keyHash w.params (Str.ofString "head"),.str (Str.ofString "head") tk_key_head,.ref q_m_head⟩,⟨PyData.keyHash w.params (Str.ofString "picture"),.str (Str.ofString "picture") tk_key_picture,.ref q_m_picture⟩,⟨PyData.keyHash w.params (Str.ofString "aside"),.str (Str.ofString "aside") tk_key_aside,.ref q_m_aside⟩,⟨PyData.keyHash w.params (Str.ofString "note"),.str (Str.ofString "note") tk_key_note,.ref q_m_note⟩] n_MAY,#[]⟩)(l_m_body:K.lookup q_m_body=some ⟨.type "tuple",od_m_body,.seq #[.str (Str.ofString "case") tk_m_body_0,.str (Str.ofString "shelf") tk_m_body_1,.str (Str.ofString "grid") tk_m_body_2,.str (Str.ofString "text") tk_m_body_3,.str (Str.ofString "head") tk_m_body_4,.str (Str.ofString "picture") tk_m_body_5,.str (Str.ofString "aside") tk_m_body_6] n_m_body_,sl_m_body⟩)(l_m_case:K.lookup q_m_case=some ⟨.type "tuple",od_m_case,.seq #[.str (Str.ofString "case") tk_m_case_0,.str (Str.ofString "shelf") tk_m_case_1,.str (Str.ofString "grid") tk_m_case_2,.str (Str.ofString "text") tk_m_case_3,.str (Str.ofString "head") tk_m_case_4,.str (Str.ofString "picture") tk_m_case_5,.str (Str.ofString "aside") tk_m_case_6] n_m_case_,sl_m_case⟩)(l_m_shelf:K.lookup q_m_shelf=some ⟨.type "tuple",od_m_shelf,.seq #[.str (Str.ofString "case") tk_m_shelf_0,.str (Str.ofString "shelf") tk_m_shelf_1,.str (Str.ofString "grid") tk_m_shelf_2,.str (Str.ofString "text") tk_m_shelf_3,.str (Str.ofString "picture") tk_m_shelf_4] n_m_shelf_,sl_m_shelf⟩)(l_m_grid:K.lookup q_m_grid=some ⟨.type "tuple",od_m_grid,.seq #[.str (Str.ofString "case") tk_m_grid_0,.str (Str.ofString "shelf") tk_m_grid_1,.str (Str.ofString "grid") tk_m_grid_2,.str (Str.ofString "text") tk_m_grid_3,.str (Str.ofString "picture") tk_m_grid_4] n_m_grid_,sl_m_grid⟩)(l_m_text:K.lookup q_m_text=some ⟨.type "tuple",od_m_text,.seq #[.str (Str.ofString "note") tk_m_text_0] n_m_text_,sl_m_text⟩)(l_m_head:K.lookup q_m_head=some ⟨.type "tuple",od_m_head,.seq #[.str (Str.ofString "note") tk_m_head_0] n_m_head_,sl_m_head⟩)(l_m_picture:K.lookup q_m_picture=some ⟨.type "tuple",od_m_picture,.seq #[] n_m_picture_,sl_m_picture⟩)(l_m_aside:K.lookup q_m_aside=some ⟨.type "tuple",od_m_aside,.seq #[.str (Str.ofString "case") tk_m_aside_0,.str (Str.ofString "shelf") tk_m_aside_1,.str (Str.ofString "grid") tk_m_aside_2,.str (Str.ofString "text") tk_m_aside_3,.str (Str.ofString "head") tk_m_aside_4,.str (Str.ofString "picture") tk_m_aside_5] n_m_aside_,sl_m_aside⟩)(l_m_note:K.lookup q_m_note=some ⟨.type "tuple",od_m_note,.seq #[] n_m_note_,sl_m_note⟩)(g_SMALL_LETTERS:nsIn K mainGlobals "SMALL_LETTERS" = some (some (.str (Str.ofString "abcdefghijklmnopqrstuvwxyz") tt_SMALL_LETTERS)))(g_GREAT_LETTERS:nsIn K mainGlobals "GREAT_LETTERS" = some (some (.str (Str.ofString "ABCDEFGHIJKLMNOPQRSTUVWXYZ") tt_GREAT_LETTERS)))(g_FIGURES:nsIn K mainGlobals "FIGURES" = some (some (.str (Str.ofString "0123456789") tt_FIGURES)))(g_WORD_POINTS:nsIn K mainGlobals "WORD_POINTS" = some (some (.str (Str.ofString ".,-;:'()!?") tt_WORD_POINTS)))(n_isinstance:nsIn K mainGlobals "isinstance" = some none)(n_len:nsIn K mainGlobals "len" = some none)(n_range:nsIn K mainGlobals "range" = some none)(n_sorted:nsIn K mainGlobals "sorted" = some none)(n_int:nsIn K mainGlobals "int" = some none)(n_bool:nsIn K mainGlobals "bool" = some none)(n_list:nsIn K mainGlobals "list" = some none)(n_tuple:nsIn K mainGlobals "tuple" = some none)(n_str:nsIn K mainGlobals "str" = some none)(n_set:nsIn K mainGlobals "set" = some none)(n_enumerate:nsIn K mainGlobals "enumerate" = some none)(n_all:nsIn K mainGlobals "all" = some none)(n_ValueError:nsIn K mainGlobals "ValueError" = some none)(i_ELDER:nsIn K mainGlobals "ELDER" = some (some (.int 0 t_ELDER)))(i_KIND:nsIn K mainGlobals "KIND" = some (some (.int 1 t_KIND)))(i_NAME:nsIn K mainGlobals "NAME" = some (some (.int 2 t_NAME)))(i_MARKS:nsIn K mainGlobals "MARKS" = some (some (.int 3 t_MARKS)))(i_STUFF:nsIn K mainGlobals "STUFF" = some (some (.int 4 t_STUFF)))(i_SORT:nsIn K mainGlobals "SORT" = some (some (.int 0 t_SORT)))(i_THING:nsIn K mainGlobals "THING" = some (some (.int 1 t_THING)))(i_TONE:nsIn K mainGlobals "TONE" = some (some (.int 2 t_TONE)))(i_MOST_WORD_SIGNS:nsIn K mainGlobals "MOST_WORD_SIGNS" = some (some (.int 20 t_MOST_WORD_SIGNS)))(i_MOST_NAME_SIGNS:nsIn K mainGlobals "MOST_NAME_SIGNS" = some (some (.int 8 t_MOST_NAME_SIGNS)))(i_MOST_NODES:nsIn K mainGlobals "MOST_NODES" = some (some (.int 60 t_MOST_NODES)))(i_MOST_MARKS:nsIn K mainGlobals "MOST_MARKS" = some (some (.int 4 t_MOST_MARKS)))(i_MOST_PIECES:nsIn K mainGlobals "MOST_PIECES" = some (some (.int 60 t_MOST_PIECES)))(i_GREATEST_LEVEL:nsIn K mainGlobals "GREATEST_LEVEL" = some (some (.int 6 t_GREATEST_LEVEL)))(i_GREATEST_TONE:nsIn K mainGlobals "GREATEST_TONE" = some (some (.int 3 t_GREATEST_TONE)))(i_GREATEST_PICTURE:nsIn K mainGlobals "GREATEST_PICTURE" = some (some (.int 2000 t_GREATEST_PICTURE))): ∃fd:FuncData,(∀(s:Shared) (v:Value),BindsTo s fd ⟨[v],[]⟩ [("_law_script",v)])∧∀base:Heap,K.In base→base.Ns mainGlobals mg→FnOk l.prog w K mg base CX0 12 fa fd ["_law_script"] (qfu K):=by
 have e0:=hfa.symm.trans (mg_of X G A42.a);cases e0;have m_C:=mg_of X G c_C;have m_Pc:=mg_of X G c_Pc;have m_q1:=mg_of X G c_q1;have m_q2:=mg_of X G c_q2;have m_q3:=mg_of X G c_q3;have m_CN:=mg_of X G c_CN;have m_q5:=mg_of X G c_q5;have m_q6:=mg_of X G c_q6;have m_q7:=mg_of X G c_q7;have z_isinstance:=mg_none_of X G n_isinstance;have z_len:=mg_none_of X G n_len;have z_range:=mg_none_of X G n_range;have z_sorted:=mg_none_of X G n_sorted;have z_int:=mg_none_of X G n_int;have z_bool:=mg_none_of X G n_bool;have z_list:=mg_none_of X G n_list;have z_tuple:=mg_none_of X G n_tuple;have z_str:=mg_none_of X G n_str;have z_set:=mg_none_of X G n_set;have z_enumerate:=mg_none_of X G n_enumerate;have z_all:=mg_none_of X G n_all;have z_ValueError:=mg_none_of X G n_ValueError;have j_ELDER:=mg_of X G i_ELDER;have j_KIND:=mg_of X G i_KIND;have j_NAME:=mg_of X G i_NAME;have j_MARKS:=mg_of X G i_MARKS;have j_STUFF:=mg_of X G i_STUFF;have j_SORT:=mg_of X G i_SORT;have j_THING:=mg_of X G i_THING;have j_TONE:=mg_of X G i_TONE;have j_MOST_WORD_SIGNS:=mg_of X G i_MOST_WORD_SIGNS;have j_MOST_NAME_SIGNS:=mg_of X G i_MOST_NAME_SIGNS;have j_MOST_NODES:=mg_of X G i_MOST_NODES;have j_MOST_MARKS:=mg_of X G i_MOST_MARKS;have j_MOST_PIECES:=mg_of X G i_MOST_PIECES;have j_GREATEST_LEVEL:=mg_of X G i_GREATEST_LEVEL;have j_GREATEST_TONE:=mg_of X G i_GREATEST_TONE;have j_GREATEST_PICTURE:=mg_of X G i_GREATEST_PICTURE;have T:Bn mg:=⟨z_isinstance,z_len,z_range,z_sorted,z_int,z_bool,z_list,z_tuple,z_str,z_set,z_enumerate,z_all,z_ValueError⟩;have U:Nums mg:=⟨⟨_,j_ELDER⟩,⟨_,j_KIND⟩,⟨_,j_NAME⟩,⟨_,j_MARKS⟩,⟨_,j_STUFF⟩,⟨_,j_SORT⟩,⟨_,j_THING⟩,⟨_,j_TONE⟩⟩;have GL:Glob mg:=⟨⟨_,mg_of X G g_SMALL_LETTERS⟩,⟨_,mg_of X G g_GREAT_LETTERS⟩,⟨_,mg_of X G g_FIGURES⟩,⟨_,mg_of X G g_WORD_POINTS⟩,⟨_,j_MOST_WORD_SIGNS⟩,⟨_,j_MOST_NAME_SIGNS⟩,⟨_,j_MOST_NODES⟩,⟨_,j_MOST_MARKS⟩,⟨_,j_MOST_PIECES⟩,⟨_,j_GREATEST_LEVEL⟩,⟨_,j_GREATEST_TONE⟩,⟨_,j_GREATEST_PICTURE⟩⟩;have kt_KINDS:KTup K q_KINDS [.body,.case,.shelf,.grid,.text,.head,.picture,.aside,.note]:=fun H=>qbp (ks:=[.body,.case,.shelf,.grid,.text,.head,.picture,.aside,.note]) l_KINDS (by show 9≤sizeLine;decide) (.cons ⟨_,rfl⟩ ( .cons ⟨_,rfl⟩ ( .cons ⟨_,rfl⟩ ( .cons ⟨_,rfl⟩ ( .cons ⟨_,rfl⟩ ( .cons ⟨_,rfl⟩ ( .cons ⟨_,rfl⟩ ( .cons ⟨_,rfl⟩ ( .cons ⟨_,rfl⟩ (.nil))))))))))
 have mg_KINDS:=mg_of X G x_KINDS;have kt_KINDS_OF_PIECES:KTup K q_KINDS_OF_PIECES [.text,.head,.note]:=fun H=>qbp (ks:=[.text,.head,.note]) l_KINDS_OF_PIECES (by show 3≤sizeLine;decide) (.cons ⟨_,rfl⟩ ( .cons ⟨_,rfl⟩ ( .cons ⟨_,rfl⟩ (.nil))))
 have mg_KINDS_OF_PIECES:=mg_of X G x_KINDS_OF_PIECES;have kt_KINDS_NEVER_EMPTY:KTup K q_KINDS_NEVER_EMPTY [.body,.shelf,.grid,.aside]:=fun H=>qbp (ks:=[.body,.shelf,.grid,.aside]) l_KINDS_NEVER_EMPTY (by show 4≤sizeLine;decide) (.cons ⟨_,rfl⟩ ( .cons ⟨_,rfl⟩ ( .cons ⟨_,rfl⟩ ( .cons ⟨_,rfl⟩ (.nil)))))
 have mg_KINDS_NEVER_EMPTY:=mg_of X G x_KINDS_NEVER_EMPTY;have kt_m_body:KTup K q_m_body [.case,.shelf,.grid,.text,.head,.picture,.aside]:=fun H=>qbp (ks:=[.case,.shelf,.grid,.text,.head,.picture,.aside]) l_m_body (by show 7≤sizeLine;decide) (.cons ⟨_,rfl⟩ ( .cons ⟨_,rfl⟩ ( .cons ⟨_,rfl⟩ ( .cons ⟨_,rfl⟩ ( .cons ⟨_,rfl⟩ ( .cons ⟨_,rfl⟩ ( .cons ⟨_,rfl⟩ (.nil))))))))
 have kt_m_case:KTup K q_m_case [.case,.shelf,.grid,.text,.head,.picture,.aside]:=fun H=>qbp (ks:=[.case,.shelf,.grid,.text,.head,.picture,.aside]) l_m_case (by show 7≤sizeLine;decide) (.cons ⟨_,rfl⟩ ( .cons ⟨_,rfl⟩ ( .cons ⟨_,rfl⟩ ( .cons ⟨_,rfl⟩ ( .cons ⟨_,rfl⟩ ( .cons ⟨_,rfl⟩ ( .cons ⟨_,rfl⟩ (.nil))))))))
 have kt_m_shelf:KTup K q_m_shelf [.case,.shelf,.grid,.text,.picture]:=fun H=>qbp (ks:=[.case,.shelf,.grid,.text,.picture]) l_m_shelf (by show 5≤sizeLine;decide) (.cons ⟨_,rfl⟩ ( .cons ⟨_,rfl⟩ ( .cons ⟨_,rfl⟩ ( .cons ⟨_,rfl⟩ ( .cons ⟨_,rfl⟩ (.nil))))))
 have kt_m_grid:KTup K q_m_grid [.case,.shelf,.grid,.text,.picture]:=fun H=>qbp (ks:=[.case,.shelf,.grid,.text,.picture]) l_m_grid (by show 5≤sizeLine;decide) (.cons ⟨_,rfl⟩ ( .cons ⟨_,rfl⟩ ( .cons ⟨_,rfl⟩ ( .cons ⟨_,rfl⟩ ( .cons ⟨_,rfl⟩ (.nil))))))
 have kt_m_text:KTup K q_m_text [.note]:=fun H=>qbp (ks:=[.note]) l_m_text (by show 1≤sizeLine;decide) (.cons ⟨_,rfl⟩ (.nil))
 have kt_m_head:KTup K q_m_head [.note]:=fun H=>qbp (ks:=[.note]) l_m_head (by show 1≤sizeLine;decide) (.cons ⟨_,rfl⟩ (.nil))
 have kt_m_picture:KTup K q_m_picture []:=fun H=>qbp (ks:=[]) l_m_picture (by show 0≤sizeLine;decide) (.nil)
 have kt_m_aside:KTup K q_m_aside [.case,.shelf,.grid,.text,.head,.picture]:=fun H=>qbp (ks:=[.case,.shelf,.grid,.text,.head,.picture]) l_m_aside (by show 6≤sizeLine;decide) (.cons ⟨_,rfl⟩ ( .cons ⟨_,rfl⟩ ( .cons ⟨_,rfl⟩ ( .cons ⟨_,rfl⟩ ( .cons ⟨_,rfl⟩ ( .cons ⟨_,rfl⟩ (.nil)))))))
 have kt_m_note:KTup K q_m_note []:=fun H=>qbp (ks:=[]) l_m_note (by show 0≤sizeLine;decide) (.nil)
 have mg_MAY:=mg_of X G x_MAY;have MD:MayX l.prog w K q_MAY:=by
  refine⟨[(.inr Kd.body.s,.ref q_m_body),(.inr Kd.case.s,.ref q_m_case),(.inr Kd.shelf.s,.ref q_m_shelf),(.inr Kd.grid.s,.ref q_m_grid),(.inr Kd.text.s,.ref q_m_text),(.inr Kd.head.s,.ref q_m_head),(.inr Kd.picture.s,.ref q_m_picture),(.inr Kd.aside.s,.ref q_m_aside),(.inr Kd.note.s,.ref q_m_note)],⟨_,_,_,l_MAY,⟨rfl,rfl,rfl⟩,rfl,fun e he=>keys9 he,(.cons (qaO _ _ _ _) rfl ( .cons (qaO _ _ _ _) rfl ( .cons (qaO _ _ _ _) rfl ( .cons (qaO _ _ _ _) rfl ( .cons (qaO _ _ _ _) rfl ( .cons (qaO _ _ _ _) rfl ( .cons (qaO _ _ _ _) rfl ( .cons (qaO _ _ _ _) rfl ( .cons (qaO _ _ _ _) rfl (.nil)))))))))),(by show([.inr Kd.body.s,.inr Kd.case.s,.inr Kd.shelf.s,.inr Kd.grid.s,.inr Kd.text.s,.inr Kd.head.s,.inr Kd.picture.s,.inr Kd.aside.s,.inr Kd.note.s]:List Key).Nodup;decide +kernel)⟩,fun e he=>?_⟩;have he':e=.body∨e=.case∨e=.shelf∨e=.grid∨e=.text∨e=.head∨e=.picture∨e=.aside∨e=.note:=by simpa[kindsAll]using he
  rcases he' with rfl | rfl | rfl | rfl | rfl | rfl | rfl | rfl | rfl
  ·exact⟨q_m_body,_,by(repeat (first | exact qbJ | rw[qbu (by decide +kernel)])),kt_m_body,fun k=>by cases k<;>rfl⟩
  ·exact⟨q_m_case,_,by(repeat (first | exact qbJ | rw[qbu (by decide +kernel)])),kt_m_case,fun k=>by cases k<;>rfl⟩
  ·exact⟨q_m_shelf,_,by(repeat (first | exact qbJ | rw[qbu (by decide +kernel)])),kt_m_shelf,fun k=>by cases k<;>rfl⟩
  ·exact⟨q_m_grid,_,by(repeat (first | exact qbJ | rw[qbu (by decide +kernel)])),kt_m_grid,fun k=>by cases k<;>rfl⟩
  ·exact⟨q_m_text,_,by(repeat (first | exact qbJ | rw[qbu (by decide +kernel)])),kt_m_text,fun k=>by cases k<;>rfl⟩
  ·exact⟨q_m_head,_,by(repeat (first | exact qbJ | rw[qbu (by decide +kernel)])),kt_m_head,fun k=>by cases k<;>rfl⟩
  ·exact⟨q_m_picture,_,by(repeat (first | exact qbJ | rw[qbu (by decide +kernel)])),kt_m_picture,fun k=>by cases k<;>rfl⟩
  ·exact⟨q_m_aside,_,by(repeat (first | exact qbJ | rw[qbu (by decide +kernel)])),kt_m_aside,fun k=>by cases k<;>rfl⟩
  ·exact⟨q_m_note,_,by(repeat (first | exact qbJ | rw[qbu (by decide +kernel)])),kt_m_note,fun k=>by cases k<;>rfl⟩
 have Z:Cls9 K mg C Pc q1 q2 q3 CN q5 q6 q7:=⟨m_C,m_Pc,m_q1,m_q2,m_q3,m_CN,m_q5,m_q6,m_q7,⟨xga,xgh,xcl,xsb,xso,by rw[xty];rfl⟩,xv,xa1,xa2,xx1,xx2⟩;obtain⟨_,_,_,_,_,_,_,_,_,e,_⟩:=A42.f.ex;refine⟨d42,fun s v=>by rw[e];exact .of_eq rfl,fun base KB GB=>?_⟩;have fx:=@fx_mk l.prog w K mg base h X G;have OB:=qfG KB GB c_C xc;have ON:=qfG KB GB c_CN xcN;have x22:=fx A22 (ok_stream A22.f T);have x23:=fx A23 (ok_take A23.f);have x24:=fx A24 (ok_word A24.f T x23);have x25:=fx A25 (ok_name A25.f T x23);have x26:=fx A26 (ok_pieces A26.f T x23 x24);have x27:=fx A27 (ok_own A27.f T x23 x25);have x28:=fx A28 (ok_add A28.f T x27);have x29:=fx A29 (ok_text A29.f T x23 x26 x28);have X_item0:Fx l.prog w K mg base CX0 (6+0) "_law_item" ["_law_nodes", "_law_elder", "_law_level", "_law_room", "_law_stream_here"] (qcb 0):=fx_no X G A30 item_none;have X_item1:Fx l.prog w K mg base CX0 (6+1) "_law_item" ["_law_nodes", "_law_elder", "_law_level", "_law_room", "_law_stream_here"] (qcb 1):=fx A30 (qds A30.f T x23 x28 x29 X_item0);have X_item2:Fx l.prog w K mg base CX0 (6+2) "_law_item" ["_law_nodes", "_law_elder", "_law_level", "_law_room", "_law_stream_here"] (qcb 2):=fx A30 (qds A30.f T x23 x28 x29 X_item1);have X_item3:Fx l.prog w K mg base CX0 (6+3) "_law_item" ["_law_nodes", "_law_elder", "_law_level", "_law_room", "_law_stream_here"] (qcb 3):=fx A30 (qds A30.f T x23 x28 x29 X_item2);have X_item4:Fx l.prog w K mg base CX0 (6+4) "_law_item" ["_law_nodes", "_law_elder", "_law_level", "_law_room", "_law_stream_here"] (qcb 4):=fx A30 (qds A30.f T x23 x28 x29 X_item3);have x31:=fx A31 (ok_book A31.f T x29 X_item4);have x1:=fx A1 (ok_is_whole A1.f T);have x2:=fx A2 (ok_is_word_sign A2.f GL);have x3:=fx A3 (ok_is_word A3.f T GL x2);have x4:=fx A4 (ok_is_name A4.f T GL);have x13:=fx A13 (ok_is_piece A13.f T GL U x1 x3 x4);have x12:=fx A12 (ok_are_pieces A12.f T GL U x13);have x11:=fx A11 (ok_is_stuff A11.f T GL mg_KINDS_OF_PIECES kt_KINDS_OF_PIECES x1 x12);have x10:=fx A10 (ok_are_marks A10.f T GL x4);have x9:=fx A9 (ok_form_fault A9.f T GL U mg_KINDS kt_KINDS x1 x4 x10 x11);have x7:=fx A7 (ok_refuse_fault A7.d OB PySem.F.excBase_ValueError);have x6:=fx A6 (ok_copied_node A6.f T U);have x8:=fx A8 (ok_are_unlike A8.f T);have x20:=fx A20 (ok_note_numbers A20.f U);have x19:=fx A19 (ok_may_hold A19.f mg_MAY MD);have x17:=fx A17 (ok_elders_of A17.f U.elder);have x15:=fx A15 (ok_hangs_right A15.f U x17);have x16:=fx A16 (ok_level_of A16.f T x17);have x14:=fx A14 (ok_tree_fault A14.f U GL x15 x16);have x21:=fx A21 (ok_holds A21.d T ⟨_,j_ELDER⟩ ON PySem.F.excBase_ValueError);have x18:=fx A18 (ok_held_fault A18.f T U mg_KINDS_OF_PIECES kt_KINDS_OF_PIECES mg_KINDS_NEVER_EMPTY kt_KINDS_NEVER_EMPTY x21 x19 x20);have x5:=fx A5 (ok_made_book A5.d T GL U OB PySem.F.excBase_ValueError x7 x9 x14 x18 x8 x6);have x32:=fx A32 (ok_refused A32.f T Z x5);have x33:=fx A33 (ok_by_name A33.f T Z x5);have x34:=fx A34 (ok_node A34.f);have x34b:=fx A34 (ok_node2 A34.f);have x35:=fx A35 (ok_chain A35.f T x34b);have x36:=fx A36 (ok_trees A36.f T x34 x35);have x37:=fx A37 (ok_pieces_wrong A37.f);have x38:=fx A38 (ok_notes_wrong A38.f);have x39:=fx A39 (ok_stuffed A39.f T x34);have x40:=fx A40 (ok_stuffs A40.f T x34 x37 x38 x39);have x41:=fx A41 (ok_copy A41.f T);exact ok_law A42.f T x22 x23 x31 x36 x40 x41 x32 x33 x5
theorem walk{l:OpenLaw}{q:Program}{loose:List Str}{XP:(Str→Option Value)→Heap→Prop}{YP:World→Heap→Prop}{d:DefRec}{K:Params→Frag}(hn:l.most=some 63)(hdf:d.params.defaults=[])(hY:∀(w:World) (h:Heap),YP w h→(K w.params).In h)(F:∀(w:World) (mg:Str→Option Value) (fa:Addr) (h:Heap),(K w.params).In h→h.Ns mainGlobals mg→mg d.name=some (.ref fa) →
   ∃fd:FuncData,(∀(s:Shared) (u:Value),BindsTo s fd ⟨[u],[]⟩ [("_law_script",u)])∧∀base:Heap,(K w.params).In base→base.Ns mainGlobals mg→FnOk l.prog w (K w.params) mg base CX0 12 fa fd ["_law_script"] (qfu (K w.params))) :
  WalkO q loose XP YP l.row.toRowW d [] (fun f vs=>PySem.call f vs) :=
 L2.walk_of (n:=63) (k:=12) (x := "_law_script") (CX:=fun _=>CX0) (sp:=fun w=>qfu (K w.params)) hn (by decide) hdf ⟨rfl,by decide,by decide⟩ hY F (fun _ _ a ns hl _ hS=>⟨a,ns,rfl,hS,hl,fun _=>rfl⟩) fun _ _ _ _ _ z=>z
end K05
namespace PySem.W.Fast
theorem te7211158684009502638:True:=trivial
def tw7211158684009502638:Unit:=()
def tw6916125498968738340:PySem.Program:=PySem.Challenge.pw_leafpress_k05_books_refused
theorem te6916125498968738340:PySem.Challenge.pw_leafpress_k05_books_refused=tw6916125498968738340:=rfl
def tw7350626923461895643:=()
def tw17073840945309679187:=()
def tw9173603631339292779:=()
def tw4756044755899763482:=()
def tw17660299554901818965:=()
def tw8752593192883277741:=()
def tw9684910898414260765:=()
def tw14231458288594538841:=()
def tw12535648225767295574:=()
def tw12156526801719600279:=()
def tw7173984811750212232:=()
def tw7950568513240128071:=()
def tw15267390225680645694:=()
def tw18204764963604065284:=()
def tw4149166385471867944:=()
def tw17576131925598637645:=()
def tw7167282911303901797:=()
def tw9738186480316660816:=()
def tw623330081722561475:=()
def tw12904899582239797663:=()
def tw11971593718655179789:=()
def tw13584364634362009088:=()
def tw7837100366896227701:=()
def tw14502361694291563823:=()
def tw12648128097646930787:=()
def tw5615412899735613405:=()
def tw4017113895436892533:=()
def tw8766186152969140626:=()
def tw5020683614274336521:=()
def tw886526756373730474:=()
def tw13805987787720067172:=()
def tw17718879724149058496:=()
def tw4112779784584481265:=()
def tw6056530910818702028:=()
def tw9977013041482102888:=()
def tw2241968981379239179:=()
def tw16472300328023300291:=()
def tw3305565085496790351:=()
def tw5800430703237141586:=()
def tw15312084539484240916:=()
def tw14078903282624972725:=()
def tw3503871083063881606:=()
def tw2396883811153811791:=()
def tw7920063651215932101:=()
def tw14059096328612803760:=()
def tw3275865527120919774:=()
def tw4719945973347358613:=()
def tw4634049502423453467:=()
def tw1814672681111778691:=()
def tw9165519510556798839:=()
def tw195726877232821490:=()
def tw16716252391104034572:=()
def tw2748207158721089587:=()
def tw13283645284514359697:=()
def tw4587511308344562261:=()
def tw2561851349778232272:=()
def tw8990981070366389594:=()
def tw14336984575153841140:=()
def tw4420131948997283066:=()
def tw3788610181848140741:=()
def tw16756456319432892865:=()
def tw10809876350422313640:=()
def tw17120179890407933983:=()
def tw12757999924771229359:=()
def tw18057872512233661676:=()
def tw10388670960509662484:=()
def tw12806968031885079110:=()
def tw12693151796499749715:=()
def tw7103198788681619377:=()
def tw5289270248614599567:=()
def tw16405638860656664848:=()
def tw7297203377983940284:=()
def tw12697500893924161868:=()
def tw746379405282013512:=()
def tw8157667328270443931:=()
def tw12223616924148019780:=()
def tw5398015929358442639:=()
def tw4086403967477907280:=()
def tw1069760663829716684:=()
def tw13173413545712137310:=()
def tw12173661520473008278:=()
def tw11877056008046933835:=()
def tw14839214520844774001:=()
def tw8446236426196669772:=()
def tw14614299707858566063:=()
def tw1202887909842497387:=()
def tw9739688350071195438:=()
def tw18036782703709554627:=()
def tw7983165830834890031:=()
def tw13470344856797727541:=()
def tw9442249383440354201:=()
def tw2188704356630604355:=()
def tw3866717806633358873:=()
def tw3605158961248700085:=()
def tw14029510434051387387:=()
def tw1804788388332355632:=()
def tw15747430391334846707:=()
def tw4257420981230115954:=()
def tw1733989412591324818:=()
def tw3077749157597999874:=()
def tw10123174059244352514:=()
def tw18073919548055441802:=()
def tw16528132071392940166:=()
def tw838086461465784618:=()
def tw17781213591537451362:=()
def tw10137622989352800321:=()
def tw6043361145653518190:=()
def tw12358224408824394177:=()
def tw8769931193241761705:=()
def tw8216838637976608766:=()
def tw12059465423941359566:=()
def tw14272266780563318228:=()
def tw9214399646130256264:=()
def tw6201386697815963937:=()
def tw10091663918764736490:=()
def tw2778067895152694105:=()
def tw513904191629767352:=()
def tw13542131803405030162:=()
def tw5097930683735793971:=()
def tw14381117900873178324:=()
def tw3418857937793090059:=()
def tw12930436537076228725:=()
def tw2471527402473259395:=()
def tw7723308912025289192:=()
def tw11284423939572323371:=()
def tw8938858960298167152:=()
def tw145552139644994522:=()
def tw13921227943594872026:=()
def tw12972235004264180586:=()
def tw14070887336498048150:=()
def tw9899255955745754683:=()
def tw12758861432258709886:=()
def tw10407863990757331209:=()
def tw4630169866536598344:=()
def tw14270187422994365329:=()
def tw15741527875107960025:=()
def tw5479552408432961154:=()
def tw10853528994243106626:=()
def tw13533839607276619454:=()
def tw17433645521253689845:=()
def tw5363569190097493477:=()
def tw7667204232911056732:=()
def tw5243644715536183420:=()
def tw16487466871168417428:=()
def tw1847554098493192245:=()
def tw2683347649541175139:=()
def tw1792138599040007749:=()
def tw9114012577559190006:=()
def tw8355900026174568955:=()
def tw506750973808504265:=()
def tw16951501049782019381:=()
def tw17643460817894950928:=()
def tw14303411509104412259:=()
def tw4303479480761466391:=()
def tw8804598927360359943:=()
def tw18417404337350744051:=()
def tw11521858940038756515:=()
def tw9776079483876767896:=()
def tw11076614228189898718:=()
def tw12450180870028999327:=()
def tw3197607670175236755:=()
def tw16300013229652675461:=()
def tw2235172001981160019:=()
def tw7752301258691716418:=()
def tw17528269048244939796:=()
def tw2808740695972577218:=()
def tw10622295534856516079:=()
def tw3870801737863334788:=()
def tw10476216022839524294:=()
def tw11285789622795872091:=()
def tw13831639679436476405:=()
def tw10857135375491521671:=()
def tw6645036967156181421:=()
def tw788068489248450558:=()
def tw12295479106147118997:=()
def tw1283720287634365220:=()
end PySem.W.Fast
open PySem PySem.W PyProof.Rows
local macro_rules | `(tactic| trivial)=>`(tactic| (refine' K05.at_mk ?a ?l ?e ?k;(case a=>k_is);(case l=>k_is);(case e=>k_is);(case k=>k_is)))
set_option maxRecDepth 100000 in
set_option maxHeartbeats 0 in
theorem PySem.Challenge.cw_leafpress_k05_books_refused_holds : PySem.Challenge.rw_leafpress_k05_books_refused.Holds := by
 w_on;o_law;k_head;(case hw=>w_witness2)
 k_fill
 refine K05.walk (l:=PySem.Challenge.rw_leafpress_k05_books_refused) rfl rfl (fun w h Y=>PySem.W.kIn_of Y) ?F
 case F =>
  intro w mg fa h KX G hmg;refine' K05.all_mk KX G hmg ?A1 ?A2 ?A3 ?A4 ?A5 ?A6 ?A7 ?A8 ?A9 ?A10 ?A11 ?A12 ?A13 ?A14 ?A15 ?A16 ?A17 ?A18 ?A19 ?A20 ?A21 ?A22 ?A23 ?A24 ?A25 ?A26 ?A27 ?A28 ?A29 ?A30 ?A31 ?A32 ?A33 ?A34 ?A35 ?A36 ?A37 ?A38 ?A39 ?A40 ?A41 ?A42 ?c_C ?c_Pc ?c_q1 ?c_q2 ?c_q3 ?c_CN ?c_q5 ?c_q6 ?c_q7 ?xc ?xga ?xgh ?xcl ?xsb ?xso ?xty ?xv ?xa1 ?xa2 ?xx1 ?xx2 ?xcN ?x_KINDS ?l_KINDS ?x_KINDS_OF_PIECES ?l_KINDS_OF_PIECES ?x_KINDS_NEVER_EMPTY ?l_KINDS_NEVER_EMPTY ?x_MAY ?l_MAY ?l_m_body ?l_m_case ?l_m_shelf ?l_m_grid ?l_m_text ?l_m_head ?l_m_picture ?l_m_aside ?l_m_note ?g_SMALL_LETTERS ?g_GREAT_LETTERS ?g_FIGURES ?g_WORD_POINTS ?n_isinstance ?n_len ?n_range ?n_sorted ?n_int ?n_bool ?n_list ?n_tuple ?n_str ?n_set ?n_enumerate ?n_all ?n_ValueError ?i_ELDER ?i_KIND ?i_NAME ?i_MARKS ?i_STUFF ?i_SORT ?i_THING ?i_TONE ?i_MOST_WORD_SIGNS ?i_MOST_NAME_SIGNS ?i_MOST_NODES ?i_MOST_MARKS ?i_MOST_PIECES ?i_GREATEST_LEVEL ?i_GREATEST_TONE ?i_GREATEST_PICTURE
  (case A1=>trivial)
  (case A2=>trivial)
  (case A3=>trivial)
  (case A4=>trivial)
  (case A5=>trivial)
  (case A6=>trivial)
  (case A7=>trivial)
  (case A8=>trivial)
  (case A9=>trivial)
  (case A10=>trivial)
  (case A11=>trivial)
  (case A12=>trivial)
  (case A13=>trivial)
  (case A14=>trivial)
  (case A15=>trivial)
  (case A16=>trivial)
  (case A17=>trivial)
  (case A18=>trivial)
  (case A19=>trivial)
  (case A20=>trivial)
  (case A21=>trivial)
  (case A22=>trivial)
  (case A23=>trivial)
  (case A24=>trivial)
  (case A25=>trivial)
  (case A26=>trivial)
  (case A27=>trivial)
  (case A28=>trivial)
  (case A29=>trivial)
  (case A30=>trivial)
  (case A31=>trivial)
  (case A32=>trivial)
  (case A33=>trivial)
  (case A34=>trivial)
  (case A35=>trivial)
  (case A36=>trivial)
  (case A37=>trivial)
  (case A38=>trivial)
  (case A39=>trivial)
  (case A40=>trivial)
  (case A41=>trivial)
  (case A42=>trivial)
  (case c_C=>k_is)
  (case c_Pc=>k_is)
  (case c_q1=>k_is)
  (case c_q2=>k_is)
  (case c_q3=>k_is)
  (case c_CN=>k_is)
  (case c_q5=>k_is)
  (case c_q6=>k_is)
  (case c_q7=>k_is)
  (case xc=>k_exc)
  (case xga=>k_is)
  (case xgh=>k_is)
  (case xcl=>k_is)
  (case xsb=>k_is)
  (case xso=>k_is)
  (case xty=>k_is)
  (case xv=>kit_is)
  (case xa1=>kit_is)
  (case xa2=>kit_is)
  (case xx1=>kts_exm)
  (case xx2=>kts_exm)
  (case xcN=>k_exc)
  (case x_KINDS=>k_is)
  (case l_KINDS=>k_is)
  (case x_KINDS_OF_PIECES=>k_is)
  (case l_KINDS_OF_PIECES=>k_is)
  (case x_KINDS_NEVER_EMPTY=>k_is)
  (case l_KINDS_NEVER_EMPTY=>k_is)
  (case x_MAY=>k_is)
  (case l_MAY=>k_is)
  (case l_m_body=>k_is)
  (case l_m_case=>k_is)
  (case l_m_shelf=>k_is)
  (case l_m_grid=>k_is)
  (case l_m_text=>k_is)
  (case l_m_head=>k_is)
  (case l_m_picture=>k_is)
  (case l_m_aside=>k_is)
  (case l_m_note=>k_is)
  (case g_SMALL_LETTERS=>k_is)
  (case g_GREAT_LETTERS=>k_is)
  (case g_FIGURES=>k_is)
  (case g_WORD_POINTS=>k_is)
  (case n_isinstance=>k_is)
  (case n_len=>k_is)
  (case n_range=>k_is)
  (case n_sorted=>k_is)
  (case n_int=>k_is)
  (case n_bool=>k_is)
  (case n_list=>k_is)
  (case n_tuple=>k_is)
  (case n_str=>k_is)
  (case n_set=>k_is)
  (case n_enumerate=>k_is)
  (case n_all=>k_is)
  (case n_ValueError=>k_is)
  (case i_ELDER=>k_is)
  (case i_KIND=>k_is)
  (case i_NAME=>k_is)
  (case i_MARKS=>k_is)
  (case i_STUFF=>k_is)
  (case i_SORT=>k_is)
  (case i_THING=>k_is)
  (case i_TONE=>k_is)
  (case i_MOST_WORD_SIGNS=>k_is)
  (case i_MOST_NAME_SIGNS=>k_is)
  (case i_MOST_NODES=>k_is)
  (case i_MOST_MARKS=>k_is)
  (case i_MOST_PIECES=>k_is)
  (case i_GREATEST_LEVEL=>k_is)
  (case i_GREATEST_TONE=>k_is)
  (case i_GREATEST_PICTURE=>k_is)
