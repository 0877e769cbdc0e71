import PyProof.Rows.All
import Wide.All
import OpenK.AllK
import Wide.FinOn
import Lean
import PyProof.EqAt
import PyProof.EqKinds
import PyProof.TupleCall
import KE.KEqDat
import PyProof.CompMap
import PyProof.WalksEnum
import PyProof.EnumMake
import PyProof.Draws
import PyProof.Rows.SetFrom
import PyProof.SetKind
import PyProof.WalksS
import PyProof.CollectWalk
import PyProof.FactsAll.set_1
import PyProof.DictIter
import PyProof.TupleIter
import PyProof.FactsAll.set_2
import PyProof.Rows.SortStr
import PyProof.StrBlockH
import PyProof.Rows.StrClose
import PyProof.FitsInt
import PyProof.Rows.FStr
import PyProof.StrLoop
import PyProof.StrWalks
import PyProof.StrLawsIn
import PyProof.ListRange
import PyProof.ZipIter
import PyProof.DictRoads
import PyProof.DictList
import PyProof.StrOps2
import PyProof.StrCalls2
import PyProof.Rows.StrJoin2
import PyProof.StrLaws
import PyProof.SeqI3
import PyProof.WalkInts
import PyProof.Rows.CallKwBuiltin
import PyProof.FactsAll.tuple_2
import PyProof.FactsAll.tuple_3
import PyProof.TupleKey
import PyProof.FactsAll.tuple_0
import PyProof.Rows.Range3
import PyProof.SumAny
import KE.KUnpack
import PyProof.StrLawsChain
import PyProof.Conv_int
import PyProof.FactsAll.str
import PyProof.StrLawsNeg
import KE.KRevIter
import PyProof.P3Eq
import PySem.Challenge.RW_leafpress_k08_forms_of_rows
local macro_rules | `(tactic| omega) => `(tactic| lia)
local macro_rules | `(tactic| trivial) => `(tactic| first | exact Or.inl (by rfl) | exact Or.inr (by rfl))
noncomputable section
set_option Elab.async false
set_option linter.all false
set_option maxRecDepth 100000
namespace L2
open PySem PySem.Spec PyProof.Rows
abbrev Key:=Sum Int Str
def keyIs:Key→Value→Bool
 | .inl k,v=>Value.isInt k v
 | .inr x,v=>Value.isStrOf x v
def keyH(w:World):Key→Int
 | .inl k=>hashInt k
 | .inr x=>hashStr w x
theorem keyIs_shape:∀{k:Key} {v:Value},keyIs k v=true→(∃i t,k=Sum.inl i∧v=Value.int i t)∨(∃x t,k=Sum.inr x∧v=Value.str x t)
 | .inl i, v, h => by
   obtain⟨t,e⟩:=Value.isInt_shape (k:=i) (v:=v) h
   exact .inl ⟨i,t,rfl,e⟩
 | .inr x, v, h => by
   obtain⟨t,e⟩:=Value.isStrOf_shape (x:=x) (v:=v) h
   exact .inr ⟨x,t,rfl,e⟩
theorem keyIs_int(i:Int)(t:Tok):keyIs (.inl i) (.int i t)=true:=by simp[keyIs,Value.isInt]
theorem keyIs_str(x:Str)(t:Tok):keyIs (.inr x) (.str x t)=true:=by simp[keyIs,Value.isStrOf]
theorem key_ll(a b:Int):decide ((Sum.inl a:Key)=Sum.inl b)=(a == b):=by
 by_cases e:a=b
 ·subst e;simp
 ·have h:¬(Sum.inl a:Key)=Sum.inl b:=fun q=>e (Sum.inl.inj q)
  rw[decide_eq_false h];exact(beq_eq_false_iff_ne.mpr e).symm
theorem key_rr(a b:Str):decide ((Sum.inr a:Key)=Sum.inr b)=decide (a=b):=by
 by_cases e:a=b
 ·subst e;simp
 ·have h:¬(Sum.inr a:Key)=Sum.inr b:=fun q=>e (Sum.inr.inj q)
  rw[decide_eq_false h,decide_eq_false e]
theorem key_lr(a:Int)(b:Str):decide ((Sum.inl a:Key)=Sum.inr b)=false:=decide_eq_false (fun q=>nomatch q)
theorem key_rl(a:Str)(b:Int):decide ((Sum.inr a:Key)=Sum.inl b)=false:=decide_eq_false (fun q=>nomatch q)
def qa2(prog:Program)(w:World):PySem.KeyKind prog w Key where
 is:=keyIs
 hash:=keyH w
 inj:=fun v a b ha hb=>by
  rcases keyIs_shape ha with⟨i,t,rfl,rfl⟩ | ⟨x,t,rfl,rfl⟩
  ·rcases keyIs_shape hb with⟨j,u,rfl,e⟩ | ⟨y,u,rfl,e⟩
   ·injection e with e1 _;rw[e1]
   ·exact nomatch e
  ·rcases keyIs_shape hb with⟨j,u,rfl,e⟩ | ⟨y,u,rfl,e⟩
   ·exact nomatch e
   ·injection e with e1 _;rw[e1]
 byValue:=fun k v h=>by
  rcases keyIs_shape h with⟨i,t,rfl,rfl⟩ | ⟨x,t,rfl,rfl⟩<;>rfl
 pyHash:=fun hv h=>by
  rcases keyIs_shape hv with⟨i,t,rfl,rfl⟩ | ⟨x,t,rfl,rfl⟩
  ·exact wpAny_pyHash_int h
  ·exact wpAny_pyHash_str h
 eqBool:=fun hu hv h=>by
  rcases keyIs_shape hu with⟨i,t,rfl,rfl⟩ | ⟨x,t,rfl,rfl⟩
  ·rcases keyIs_shape hv with⟨j,u,rfl,rfl⟩ | ⟨y,u,rfl,rfl⟩
   ·rw[key_ll]at h;exact wpAny_eqBool_int h
   ·rw[key_lr]at h;exact SeqAt.EqAt.int_str i t y u _ _ _ _ h
  ·rcases keyIs_shape hv with⟨j,u,rfl,rfl⟩ | ⟨y,u,rfl,rfl⟩
   ·rw[key_rl]at h;exact SeqAt.EqAt.str_int x t j u _ _ _ _ h
   ·rw[key_rr]at h;exact wpAny_eqBool_str h
 «strs»:=fun k x t v h=>by
  rcases keyIs_shape h with⟨i,u,rfl,e⟩ | ⟨y,u,rfl,e⟩
  ·exact nomatch e
  ·injection e with e1 _
   subst e1;cases v<;>rfl
theorem mixKind_int(prog:Program)(w:World)(i:Int)(t:Tok):(qa2 prog w).is (.inl i) (.int i t)=true:=keyIs_int i t
theorem qaO(prog:Program)(w:World)(x:Str)(t:Tok):(qa2 prog w).is (.inr x) (.str x t)=true:=keyIs_str x t
end L2
namespace L2
open PySem PySem.Spec PyProof.Rows
inductive V where
 | non | bl (b:Bool) | int (i:Int) | str (x:Str) | byt (b:Array UInt8) | flt (b:UInt64) | ref (a:Addr) | ty (n:String)
 deriving DecidableEq
def RelV:V→Value→Prop
 | .non,u=>u=Value.none
 | .bl b,u=>u=Value.bool b
 | .int i,u=>∃t,u=Value.int i t
 | .str x,u=>∃t,u=Value.str x t
 | .byt b,u=>∃t,u=Value.bytes b t
 | .flt b,u=>∃t,u=Value.float b t
 | .ref a,u=>u=Value.ref a
 | .ty n,u=>u=Value.type n
abbrev Vals:List V→List Value→Prop:=Paired RelV
theorem Vals.length{xs:List V}{us:List Value}(r:Vals xs us):xs.length=us.length:=Paired.length r
theorem Vals.get:∀{xs:List V} {us:List Value} {i:Nat} {x:V},Vals xs us→xs[i]?=some x→∃u,us[i]?=some u∧RelV x u
 | _,_,_,_,.nil,e=>by simp at e
 | _,_,0,_,.cons r _,e=>by simp at e;subst e;exact⟨_,rfl,r⟩
 | _, _, i + 1, x, .cons _ t, e => by
   obtain⟨u,h1,h2⟩:=Vals.get (i:=i) (x:=x) t (by simpa using e)
   exact⟨u,by simpa using h1,h2⟩
theorem Vals.set{x:V}{u:Value}(r:RelV x u):∀{xs:List V} {us:List Value} (i:Nat),Vals xs us→Vals (xs.set i x) (us.set i u)
 | _,_,_,.nil=>.nil
 | _,_,0,.cons _ t=>.cons r t
 | _,_,i+1,.cons q t=>.cons q (Vals.set r i t)
theorem Vals.append:∀{xs ys:List V} {us ws:List Value},Vals xs us→Vals ys ws→Vals (xs++ys) (us++ws)
 | _,_,_,_,.nil,s=>s
 | _,_,_,_,.cons r t,s=>.cons r (Vals.append t s)
theorem Vals.take:∀{xs:List V} {us:List Value} (n:Nat),Vals xs us→Vals (xs.take n) (us.take n)
 | _,_,0,_=>.nil
 | _,_,_+1,.nil=>.nil
 | _,_,n+1,.cons r t=>.cons r (Vals.take n t)
theorem Vals.drop:∀{xs:List V} {us:List Value} (n:Nat),Vals xs us→Vals (xs.drop n) (us.drop n)
 | _,_,0,r=>r
 | _,_,_+1,.nil=>.nil
 | _,_,n+1,.cons _ t=>Vals.drop n t
def RelO:Option V→Option Value→Prop
 | some v,some u=>RelV v u
 | none,none=>True
 | _,_=>False
def KV{κ:Type}:List (κ×V)→List (κ×Value)→Prop:=Paired fun(p:κ×V) (q:κ×Value)=>p.1=q.1∧RelV p.2 q.2
def kV:Key→V
 | .inl i=>.int i
 | .inr x=>.str x
inductive HO where
 | lst (xs:List V)
 | tup (xs:List V)
 | dK (kvs:List (Key×V)) | dT (kvs:List (List Key×V))
 | set (S:Int→Bool) (n:Nat)
 | ins (C dx:Addr) (fs:List (Str×V))
 | own (x:Addr)
 | xd (fs:List (Str×V))
 | met (f x:Addr)
 | rng (lo hi:Int)
 | frz (o:Obj) (u:HO)
 | tbl (ps:Array Value)
 | ext (φ:Heap→Prop)
abbrev Hp:=Addr→Option HO
def upd(H:Hp)(a:Addr)(o:HO):Hp:=fun b=>if b=a then some o else H b
theorem qab{H:Hp}{a:Addr}{o:HO}:upd H a o a=some o:=by unfold upd;rw[if_pos rfl]
theorem qau{H:Hp}{a b:Addr}{o:HO}(h:b≠a):upd H a o b=H b:=by unfold upd;rw[if_neg h]
theorem upd_upd{H:Hp}{a:Addr}{o u:HO}:upd (upd H a o) a u=upd H a u:=by
 funext b;unfold upd;split<;>rfl
theorem qf0{H:Hp}{a b:Addr}{o u:HO}(h:H a=some o)(h':H b=some u)(d:o≠u):a≠b:=by
 intro e;subst e;rw[h]at h';exact d (Option.some.inj h')
theorem qao{H:Hp}{a b:Addr}{o:HO}(h:H a=some o)(h':H b=none):a≠b:=by
 intro e;subst e;rw[h]at h';cases h'
section
variable(P:Program)(w:World)
def ObjOk(H:Hp)(h:Heap)(a:Addr):HO→Prop
 | .lst xs=>xs.length≤sizeLine∧∃(its:List Value) (n:Nat),Vals xs its∧h.get? a=some {cls:=.type "list",data:=.seq its.toArray n}
 | .tup xs=>xs.length≤sizeLine∧∃its:List Value,Vals xs its∧IsTup h a its.toArray
 | .dK kvs=>kvs.length≤sizeLine∧(a == sysModules)=false∧∃vs,KV kvs vs∧h.DictOf (qa2 P w) a vs
 | .dT kvs=>kvs.length≤sizeLine∧(a == sysModules)=false∧∃xs:List (List Key×Addr×Value),
   Paired (fun(p:List Key×V) (q:List Key×Addr×Value)=>p.1=q.1∧H q.2.1=some (.tup (p.1.map kV))∧RelV p.2 q.2.2) kvs xs ∧
   ∃o es ep,h.get? a=some o∧o.ExactDict∧o.data=.dict es ep∧es.toList=xs.map (entryOfKey (tupleKind (qa2 P w)))∧(xs.map (·.1)).Nodup
 | .set S n=>h.SetOf (intKind P w) a S n
 | .ins C dx fs=>H dx=some (.own a)∧fs.length≤1000∧dx≠a∧h.get? a=some (PySem.W.instObj C dx) ∧
   ∃mA,h.Ns1 dx mA∧(∀f,RelO (fs.lookup f) (mA f))∧PySem.Within mA (fs.map (·.1))
 | .own _=>∃o,h.get? a=some o
 | .xd fs=>∃mA,h.Ns1 a mA∧∀f,RelO (fs.lookup f) (mA f)
 | .rng lo hi=>∃t u v,h.get? a=some {cls:=.type "range",data:=.fields #[.int lo t,.int hi u,.int 1 v]}
 | .frz o u=>h.get? a=some o∧ObjOk H h a u
 | .tbl ps=>h.get? a=some {cls:=.none,data:=.fields ps}
 | .met f x=>h.get? a=some (PySem.W.methodObj (.ref f) (.ref x))
 | .ext φ=>φ h∧(∃o,h.get? a=some o)∧∀h1 h2:Heap,φ h1→(∀o,h1.get? a=some o→h2.get? a=some o)→φ h2
def HOk(H:Hp)(h:Heap):Prop:=∀a o,H a=some o→ObjOk P w H h a o
end
section
variable{P:Program}{w:World}{H H':Hp}{h h':Heap}{a:Addr}{o:HO}
theorem ObjOk.lt(x:ObjOk P w H h a o):a<h.objs.size:=by
 cases o with
 | lst xs=>obtain⟨_,_,_,_,e⟩:=x;exact Heap.lt_size e
 | tup xs=>obtain⟨_,_,_,p⟩:=x;exact p.lt
 | dK kvs=>obtain⟨_,_,_,_,o,_,_,e,_⟩:=x;exact Heap.lt_size e
 | dT kvs=>obtain⟨_,_,_,_,o,_,_,e,_⟩:=x;exact Heap.lt_size e
 | set S n=>obtain⟨o,_,_,_,e,_⟩:=x;exact Heap.lt_size e
 | ins C dx fs=>obtain⟨_,_,_,e,_⟩:=x;exact Heap.lt_size e
 | own y=>obtain⟨_,e⟩:=x;exact Heap.lt_size e
 | xd fs=>obtain⟨_,⟨_,_,_,e,_⟩,_⟩:=x;exact Heap.lt_size e
 | rng lo hi=>obtain⟨_,_,_,e⟩:=x;exact Heap.lt_size e
 | frz ob u=>obtain⟨e,_⟩:=x;exact Heap.lt_size e
 | tbl ps=>exact Heap.lt_size (show h.get? a=some _ from x)
 | met f y=>exact Heap.lt_size (show h.get? a=some _ from x)
 | ext φ=>obtain⟨_,⟨_,e⟩,_⟩:=x;exact Heap.lt_size e
theorem Paired.mapP{α β:Type}{F G:α→β→Prop}:∀{l₁:List α} {l₂:List β},Paired F l₁ l₂→(∀a b,F a b→G a b)→Paired G l₁ l₂
 | _,_,.nil,_=>.nil
 | _,_,.cons r t,f=>.cons (f _ _ r) (Paired.mapP t f)
theorem ObjOk.stay(x:ObjOk P w H h a o)(k:∀b u,(b=a∨H b=some (.own a))→h.get? b=some u→h'.get? b=some u)(ho:∀b,H b=some (.own a)→H' b=some (.own a))(ht:∀b xs,H b=some (.tup xs)→H' b=some (.tup xs)):ObjOk P w H' h' a o:=by
 induction o with
 | lst xs=>obtain⟨z,its,n,r,e⟩:=x;exact⟨z,its,n,r,k _ _ (.inl rfl) e⟩
 | tup xs=>obtain⟨z,its,r,ob,e,c⟩:=x;exact⟨z,its,r,ob,k _ _ (.inl rfl) e,c⟩
 | dK kvs=>obtain⟨z,y,vs,r,ob,es,ep,e,c⟩:=x;exact⟨z,y,vs,r,ob,es,ep,k _ _ (.inl rfl) e,c⟩
 | dT kvs =>
   obtain⟨z,y,xs,r,ob,es,ep,e,c⟩:=x
   exact⟨z,y,xs,Paired.mapP r fun p q z=>⟨z.1,ht _ _ z.2.1,z.2.2⟩,ob,es,ep,k _ _ (.inl rfl) e,c⟩
 | set S n=>obtain⟨ob,es,ep,t,e,c⟩:=x;exact⟨ob,es,ep,t,k _ _ (.inl rfl) e,c⟩
 | ins C dx fs =>
   obtain⟨d,z,ne,e,mA,⟨od,es,ep,e2,c⟩,r⟩:=x
   exact⟨ho _ d,z,ne,k _ _ (.inl rfl) e,mA,⟨od,es,ep,k _ _ (.inr d) e2,c⟩,r⟩
 | own y=>obtain⟨ob,e⟩:=x;exact⟨ob,k _ _ (.inl rfl) e⟩
 | xd fs=>obtain⟨mA,⟨od,es,ep,e,c⟩,r⟩:=x;exact⟨mA,⟨od,es,ep,k _ _ (.inl rfl) e,c⟩,r⟩
 | rng lo hi=>obtain⟨t,u,v,e⟩:=x;exact⟨t,u,v,k _ _ (.inl rfl) e⟩
 | frz ob u ih=>obtain⟨e,q⟩:=x;exact⟨k _ _ (.inl rfl) e,ih q⟩
 | tbl ps =>
   have e:h.get? a=some {cls:=.none,data:=.fields ps}:=x
   show h'.get? a=some {cls:=.none,data:=.fields ps}
   exact k a _ (.inl rfl) e
 | met f y =>
   have e:h.get? a=some (PySem.W.methodObj (.ref f) (.ref y)):=x
   show h'.get? a=some (PySem.W.methodObj (.ref f) (.ref y))
   exact k a _ (.inl rfl) e
 | ext φ=>obtain⟨p,⟨o,e⟩,st⟩:=x;exact⟨st _ _ p fun o q=>k _ _ (.inl rfl) q,⟨o,k _ _ (.inl rfl) e⟩,st⟩
theorem HOk.lt(x:HOk P w H h)(e:H a=some o):a<h.objs.size:=(x a o e).lt
theorem HOk.fresh(x:HOk P w H h)(e:h.objs.size≤a):H a=none:=by
 cases q:H a with
 | none=>rfl
 | some u=>exact absurd (Nat.lt_of_lt_of_le (x.lt q) e) (Nat.lt_irrefl _)
theorem HOk.kept(x:HOk P w H h)(k:∀b u,h.get? b=some u→h'.get? b=some u):HOk P w H h':=fun a o e =>
 (x a o e).stay (fun b u _ q=>k b u q) (fun _ q=>q) fun _ _ q=>q
theorem HOk.laid(x:HOk P w H h)(k:∀b u,h.get? b=some u→h'.get? b=some u)(hp:h.objs.size≤a)(new:ObjOk P w (upd H a o) h' a o):HOk P w (upd H a o) h':=fun b u e=>by
 have hn:=x.fresh hp
 by_cases hb:b=a
 ·subst hb;rw[qab]at e;cases e;exact new
 ·rw[qau hb]at e;exact(x b u e).stay (fun c v _ q=>k c v q) (fun c q=>by rw[qau (qao q hn)];exact q) fun c xs q=>by rw[qau (qao q hn)];exact q
end
def Rd(H:Hp)(a:Addr)(u:HO):Prop:=H a=some u∨∃o,H a=some (.frz o u)
theorem Rd.ok{P:Program}{w:World}{H:Hp}{h:Heap}{a:Addr}{u:HO}(r:Rd H a u)(x:HOk P w H h):ObjOk P w H h a u:=by
 rcases r with r | ⟨o,r⟩
 ·exact x a u r
 ·obtain⟨_,q⟩:=x a _ r;exact q
def Mut:Option HO→Prop
 | some (.lst _)=>True
 | some (.dK _)=>True
 | some (.dT _)=>True
 | some (.set _ _)=>True
 | some (.ins _ _ _)=>True
 | some (.ext _)=>True
 | _=>False
section
variable{P:Program}{w:World}{H:Hp}{h h':Heap}{x e:Addr}{o':HO}
theorem HOk.write(ok:HOk P w H h)(mu:Mut (H x))(he:e=x∨H e=some (.own x))(k:∀b u,b≠e→h.get? b=some u→h'.get? b=some u)(heo:∃u,h'.get? e=some u)(new:ObjOk P w (upd H x o') h' x o'):HOk P w (upd H x o') h':=fun b u q=>by
 have nown:∀c y,H c=some (.own y)→c≠x:=fun c y r z=>by subst z;rw[r]at mu;exact mu
 have ntup:∀c xs,H c=some (.tup xs)→c≠x:=fun c xs r z=>by subst z;rw[r]at mu;exact mu
 by_cases hb:b=x
 ·subst hb;rw[qab]at q;cases q;exact new
 ·rw[qau hb]at q
  by_cases hbe:b=e
  ·have q':H b=some (.own x):=by
    rcases he with z | z
    ·exact absurd (hbe.trans z) hb
    ·rw[hbe];exact z
   rw[q]at q';cases q';obtain⟨v,hv⟩:=heo;exact⟨v,by rw[hbe];exact hv⟩
  ·refine(ok b u q).stay (fun c v hc r=>k c v ?_ r) (fun c r=>by rw[qau (nown c b r)];exact r) fun c xs r=>by rw[qau (ntup c xs r)];exact r
   rcases hc with rfl | hc
   ·exact hbe
   ·rintro rfl;rcases he with z | z
    ·exact nown c b hc z
    ·rw[hc]at z;cases z;exact hb rfl
end
structure Un(fs ex:List Addr)(H H':Hp)(h h':Heap):Prop where
 keep:∀b o,h.get? b=some o→H b=none→b∉fs→b∉ex→h'.get? b=some o
 slot:∀b o,h.get? b=some o→H b=none→b∈fs→b∉ex→∃sl,h'.get? b=some {o with slots:=sl}
 free:∀b o,h.get? b=some o→H b=none→b∉ex→H' b=none
 there:∀b o,h.get? b=some o→b∉ex→∃o',h'.get? b=some o'
 tups:∀b xs,H b=some (.tup xs)→H' b=some (.tup xs)
 frzs:∀b o u,H b=some (.frz o u)→H' b=some (.frz o u)
 tbls:∀b ps,H b=some (.tbl ps)→∃more,H' b=some (.tbl (ps++more))
section
variable{fs fs' ex ex':List Addr}{H H1 H2:Hp}{h h1 h2 h':Heap}{a x e:Addr}{o:HO}
theorem Un.any(u:Un fs ex H H1 h h1){b:Addr}{ob:Obj}(q:h.get? b=some ob)(n:H b=none)(hx:b∉ex):∃sl,h1.get? b=some {ob with slots:=sl}:=by
 by_cases hb:b∈fs
 ·exact u.slot b ob q n hb hx
 ·exact⟨ob.slots,u.keep b ob q n hb hx⟩
theorem Un.kept(k:∀b u,h.get? b=some u→h'.get? b=some u):Un fs ex H H h h' :=
 ⟨fun b ob q _ _ _=>k b ob q,fun b ob q _ _ _=>⟨ob.slots,k b ob q⟩,fun _ _ _ n _=>n,fun b ob q _=>⟨ob,k b ob q⟩,fun _ _ q=>q,fun _ _ _ q=>q,fun _ ps q=>⟨#[],by rw[q];simp⟩⟩
theorem Un.refl:Un fs ex H H h h:=Un.kept fun _ _ q=>q
theorem Un.laid(k:∀b u,h.get? b=some u→h'.get? b=some u)(hp:h.objs.size≤a)(hn:H a=none):Un fs ex H (upd H a o) h h' where
 keep:=fun b u q _ _ _=>k b u q
 slot:=fun b u q _ _ _=>⟨u.slots,k b u q⟩
 free:=fun b u q n _=>by rw[qau (Nat.ne_of_lt (Nat.lt_of_lt_of_le (Heap.lt_size q) hp))];exact n
 there:=fun b u q _=>⟨u,k b u q⟩
 tups:=fun b xs q=>by rw[qau (qao q hn)];exact q
 frzs:=fun b u xs q=>by rw[qau (qao q hn)];exact q
 tbls:=fun b ps q=>⟨#[],by rw[qau (qao q hn),q];simp⟩
theorem Un.write(mu:Mut (H x))(he:e=x∨H e=some (.own x))(k:∀b u,b≠e→h.get? b=some u→h'.get? b=some u)(heo:∃u,h'.get? e=some u):Un fs ex H (upd H x o) h h':=by
 have hx:∀b,H b=none→b≠x:=fun b n z=>by subst z;rw[n]at mu;exact mu
 have hb:∀b,H b=none→b≠e:=fun b n z=>by
  subst z;rcases he with r | r
  ·exact hx b n r
  ·rw[n]at r;cases r
 have hm:∀b u,H b=some u→¬Mut (some u)→b≠x:=fun b u q nm z=>by subst z;rw[q]at mu;exact nm mu
 refine⟨fun b u q n _ _=>k b u (hb b n) q,fun b u q n _ _=>⟨u.slots,k b u (hb b n) q⟩,fun b u q n _=>by rw[qau (hx b n)];exact n,fun b u q _=>?_,
  fun b xs q=>by rw[qau (hm b _ q fun z=>z)];exact q,fun b u xs q=>by rw[qau (hm b _ q fun z=>z)];exact q,fun b ps q=>⟨#[],by rw[qau (hm b _ q fun z=>z),q];simp⟩⟩
 by_cases hbe:b=e
 ·subst hbe;exact heo
 ·exact⟨u,k b u hbe q⟩
end
def trk(h:Heap)(H:Hp):List Addr:=(List.range h.objs.size).filter fun a=>(H a).isSome
def hidT(h:Heap)(H:Hp):Heap:=PySem.W.hideAll h (trk h H)
theorem hidT_size(h:Heap)(H:Hp):(hidT h H).objs.size=h.objs.size:=PySem.W.hideAll_size _ _
theorem hidT_get{h:Heap}{H:Hp}{b:Addr}{o:Obj}(e:h.get? b=some o)(n:H b=none):(hidT h H).get? b=some o :=
 PySem.W.hideAll_get _ e fun hm=>by
  have q:(H b).isSome=true:=(List.mem_filter.mp hm).2;rw[n]at q;simp at q
theorem of_hidT{h:Heap}{H:Hp}{b:Addr}{o:Obj}(e:(hidT h H).get? b=some o):h.get? b=some o∧H b=none:=by
 have e':h.get? b=some o:=PySem.W.of_hideAll (trk h H) e;refine⟨e',?_⟩;cases q:H b with
 | none=>rfl
 | some x =>
   have hm:b∈trk h H:=List.mem_filter.mpr ⟨List.mem_range.mpr (Heap.lt_size e'),by simp[q]⟩
   have z:(hidT h H).get? b=none:=PySem.W.hideAll_none (trk h H) hm
   rw[z]at e;cases e
end L2
namespace L2
open PySem PySem.Spec PyProof.Rows
structure Mod(K:PySem.W.Frag)(mg:Str→Option Value)(base:Heap):Prop where
 kin:K.In base
 glob:base.Ns mainGlobals mg
 blt:∃mb,base.Ns builtinsNs mb∧∀x:Str,x ≠ "__name__" → mb x=bootBuiltins x
 nolimit:base.NoLimit
structure Cx where
 prog:Program
 w:World
 K:PySem.W.Frag
 mg:Str→Option Value
 base:Heap
 A:Around
 N:List Str
 s₀:Shared
 H₀:Hp
 env:Env
 outer:List Env
 stack:List Env
 ex:List Addr
 fn:Str→Bool
 calm:Bool
 pn:List (Addr×Obj)
 xe:Value→Shared→Prop
def frs(l:List Env):List Addr:=l.filterMap (·.frame)
abbrev Cx.fs(X:Cx):List Addr:=frs X.outer
def Vis(sc:Scope)(x:Str):Prop:=sc.names.lookup x=some .local∨sc.names.lookup x=some .cell∨sc.names.lookup x=some .free
def Loc(sc:Scope)(x:Str):Prop:=sc.names.lookup x=some .local∨sc.names.lookup x=some .cell
def Look(env:Env)(h:Heap)(m:Str→Option Value)(x:Str)(u:Value):Prop :=
 (env.kindOf x=some .local∧m x=some u)∨((env.kindOf x=some .cell∨env.kindOf x=some .free)∧∃c,env.cells.lookup x=some c∧h.IsCell c (some u))
structure Cx.Ok(X:Cx):Prop where
 mod:Mod X.K X.mg X.base
 kind:X.env.scope.kind=.function
 glob:X.env.globals=mainGlobals
 blt:X.env.builtins=builtinsNs
 above:X.s₀.heap.objs.size≤X.env.locals
 inj:∀x y c,X.env.cells.lookup x=some c→X.env.cells.lookup y=some c→x=y
 has:∀x,(X.env.kindOf x=some .cell∨X.env.kindOf x=some .free)→∃c,X.env.cells.lookup x=some c
 cab:∀x c,X.fn x=true→X.env.cells.lookup x=some c→X.s₀.heap.objs.size≤c
 hd:X.calm=true→X.A.handled=none
 frames:X.A.frames=some X.stack
 stk:X.stack=X.outer∨(X.stack=X.env::X.outer∧X.env.frame=some X.env.locals)
 exf:∀b∈X.ex,b≠X.env.locals∧∀x c,X.env.cells.lookup x=some c→c≠b
 bs:∀b o,X.base.get? b=some o→X.s₀.heap.get? b=some o∧X.H₀ b=none
 bsz:X.base.objs.size≤X.s₀.heap.objs.size
 noex:∀b o,X.base.get? b=some o→b∉X.ex
 exfs:∀b∈X.ex,b∉X.fs
 funs:X.s₀.heap.FunFrames X.base X.outer
 frf:∀b∈X.fs,X.H₀ b=none
structure Inv(X:Cx)(pins:List (Addr×Obj))(σ:List (Option V))(H:Hp)(s:Shared):Prop where
 ok:X.Ok
 os:s.os=X.s₀.os
 bare:AllBare s.gens
 base:Un X.fs X.ex X.H₀ H X.s₀.heap s.heap
 loc:∃m,s.heap.Ns X.env.locals m∧∀(i:Nat) (x:Str) (v:V),X.N[i]?=some x→σ[i]?=some (some v)→Vis X.env.scope x→∃u,RelV v u∧Look X.env s.heap m x u
 cell:∀x c,X.env.cells.lookup x=some c→∃v,s.heap.IsCell c v
 free:H X.env.locals=none
 freeC:∀x c,X.env.cells.lookup x=some c→H c=none
 pin:∀p∈X.pn++pins,s.heap.get? p.1=some p.2∧H p.1=none∧p.1≠X.env.locals∧p.1∉X.fs∧∀v,p.2.data≠.cell v
 hok:HOk X.prog X.w H s.heap
 len:σ.length=X.N.length
section
variable{X:Cx}{pins:List (Addr×Obj)}{σ:List (Option V)}{H H':Hp}{s:Shared}{h':Heap}
theorem Cx.Ok.nofr(ok:X.Ok){b:Addr}{o:Obj}(e:X.base.get? b=some o):b∉X.fs:=fun hb=>by
 have:=(ok.funs.mem hb).1;rw[e]at this;cases this
theorem Inv.bs(I:Inv X pins σ H s):∀b o,X.base.get? b=some o→s.heap.get? b=some o∧H b=none:=fun b o e =>
 ⟨I.base.keep b o (I.ok.bs b o e).1 (I.ok.bs b o e).2 (I.ok.nofr e) (I.ok.noex b o e),I.base.free b o (I.ok.bs b o e).1 (I.ok.bs b o e).2 (I.ok.noex b o e)⟩
theorem Inv.bk(I:Inv X pins σ H s):∀b o,X.base.get? b=some o→s.heap.get? b=some o:=fun b o e=>(I.bs b o e).1
theorem Inv.mod(I:Inv X pins σ H s):Mod X.K X.mg X.base:=I.ok.mod
theorem Inv.kIn(I:Inv X pins σ H s):X.K.In s.heap:=I.ok.mod.kin.keeps I.bk
theorem Inv.lt(I:Inv X pins σ H s):X.env.locals<s.heap.objs.size:=let⟨_,hn,_⟩:=I.loc;hn.lt
theorem Inv.sz(I:Inv X pins σ H s):X.s₀.heap.objs.size≤s.heap.objs.size:=Nat.le_trans I.ok.above (Nat.le_of_lt I.lt)
theorem Inv.nofs(I:Inv X pins σ H s){a:Addr}(h:s.heap.objs.size≤a):a∉X.fs:=fun hb=>by
 obtain⟨_,o,ho,_⟩:=I.ok.funs.mem hb;exact absurd (Nat.lt_of_lt_of_le (Heap.lt_size ho) (Nat.le_trans I.sz h)) (Nat.lt_irrefl _)
theorem Inv.cne(I:Inv X pins σ H s):∀x c,X.env.cells.lookup x=some c→c≠X.env.locals:=fun x c e z=>by
 obtain⟨v,o,ho,hd⟩:=I.cell x c e;obtain⟨m,⟨o',es,ep,ho',hd',_⟩,_⟩:=I.loc;rw[z,ho']at ho;cases ho;rw[hd']at hd;cases hd
theorem Inv.funs(I:Inv X pins σ H s):s.heap.FunFrames X.base X.outer:=by
 have all:∀(l:List Env),(∀b∈frs l,b∈X.fs)→X.s₀.heap.FunFrames X.base l→s.heap.FunFrames X.base l:=by
  intro l
  induction l with
  | nil=>intro _ _;trivial
  | cons env r ih =>
    intro hs hl
    obtain⟨hk,⟨L,o,hf,hn,ho,hd⟩,hr⟩:=hl
    have hL:L∈X.fs:=hs L (by unfold frs;rw[List.filterMap_cons,hf];exact List.mem_cons_self)
    obtain⟨sl,e⟩:=I.base.slot L o ho (I.ok.frf L hL) hL fun z=>I.ok.exfs L z hL
    exact⟨hk,⟨L,_,hf,hn,e,hd⟩,ih (fun b hb=>hs b (by unfold frs;rw[List.filterMap_cons,hf];exact List.mem_cons_of_mem _ hb)) hr⟩
 exact all X.outer (fun _ hb=>hb) I.ok.funs
theorem Inv.stack(I:Inv X pins σ H s):s.heap.FunFrames X.base X.stack:=by
 rcases I.ok.stk with e | ⟨e,hf⟩
 ·rw[e];exact I.funs
 ·rw[e];obtain⟨m,hn,_⟩:=I.loc;refine .cons (by rw[I.ok.kind];decide) hf hn ?_ I.funs;exact Heap.get?_none_of_le (Nat.le_trans I.ok.bsz I.ok.above)
theorem Inv.stkSub(I:Inv X pins σ H s):∀b∈frs X.stack,b∈X.env.locals::X.fs:=fun b hb=>by
 rcases I.ok.stk with e | ⟨e,hf⟩
 ·rw[e]at hb;exact List.mem_cons_of_mem _ hb
 ·rw[e]at hb;unfold frs at hb;rw[List.filterMap_cons,hf]at hb;exact hb
theorem Inv.stkFree(I:Inv X pins σ H s):∀b∈frs X.stack,H b=none:=fun b hb=>by
 rcases List.mem_cons.mp (I.stkSub b hb)with e | hb
 ·rw[e];exact I.free
 ·obtain⟨_,o,ho,_⟩:=I.ok.funs.mem hb;exact I.base.free b o ho (I.ok.frf b hb) fun z=>I.ok.exfs b z hb
theorem Inv.step{g':Array GenState}{t':Nat}{d':Drawn}{ch:List Addr}(I:Inv X pins σ H s)(hch:∀b∈ch,(b∈X.ex∨X.s₀.heap.objs.size≤b)∧b≠X.env.locals∧(∀x c,X.env.cells.lookup x=some c→c≠b)∧∀p∈X.pn++pins,p.1≠b)(keep:∀b o,b≠X.env.locals→b∉X.fs→b∉ch→s.heap.get? b=some o→H b=none→h'.get? b=some o)(slot:∀b o,b≠X.env.locals→b∈X.fs→b∉ch→s.heap.get? b=some o→H b=none→∃sl,h'.get? b=some {o with slots:=sl})(free:∀b o,b∉ch→s.heap.get? b=some o→H b=none→H' b=none)(there:∀b o,b∉ch→s.heap.get? b=some o→∃o',h'.get? b=some o')(tups:∀b xs,H b=some (.tup xs)→H' b=some (.tup xs))(frzs:∀b o u,H b=some (.frz o u)→H' b=some (.frz o u))(tbls:∀b ps,H b=some (.tbl ps)→∃more,H' b=some (.tbl (ps++more)))(ns:∀m,s.heap.Ns X.env.locals m→h'.Ns X.env.locals m)(hok:HOk X.prog X.w H' h')(hg:AllBare g') :
  Inv X pins σ H' {s with heap:=h',gens:=g',drawn:=d',toks:=t'}:=by
 have neL:∀b o,X.s₀.heap.get? b=some o→b≠X.env.locals:=fun b o e=>Nat.ne_of_lt (Nat.lt_of_lt_of_le (Heap.lt_size e) I.ok.above)
 have neC:∀b o,X.s₀.heap.get? b=some o→b∉X.ex→b∉ch:=fun b o e hx hb=>by
  rcases(hch b hb).1 with z | z
  ·exact hx z
  ·exact absurd (Nat.lt_of_lt_of_le (Heap.lt_size e) z) (Nat.lt_irrefl _)
 have cellK:∀x c,X.env.cells.lookup x=some c→∀v,s.heap.IsCell c v→h'.IsCell c v:=fun x c e v ⟨o,ho,hd⟩=>by
  have nch:c∉ch:=fun z=>(hch c z).2.2.1 x c e rfl
  by_cases hc:c∈X.fs
  ·obtain⟨sl,q⟩:=slot c o (I.cne x c e) hc nch ho (I.freeC x c e);exact⟨_,q,hd⟩
  ·exact⟨o,keep c o (I.cne x c e) hc nch ho (I.freeC x c e),hd⟩
 refine⟨I.ok,I.os,hg,⟨fun b o e n hb hx=>?_,fun b o e n hb hx=>?_,fun b o e n hx=>?_,fun b o e hx=>?_,fun b xs e=>tups b xs (I.base.tups b xs e),fun b o xs e=>frzs b o xs (I.base.frzs b o xs e),fun b ps e=>?_⟩,?_,fun x c e=>?_,?_,fun x c e=>?_,fun p hp=>?_,hok,I.len⟩
 ·exact keep b o (neL b o e) hb (neC b o e hx) (I.base.keep b o e n hb hx) (I.base.free b o e n hx)
 ·obtain⟨sl,e1⟩:=I.base.slot b o e n hb hx;obtain⟨sl',e2⟩:=slot b _ (neL b o e) hb (neC b o e hx) e1 (I.base.free b o e n hx);exact⟨sl',e2⟩
 ·obtain⟨o',e1⟩:=I.base.there b o e hx;exact free b o' (neC b o e hx) e1 (I.base.free b o e n hx)
 ·obtain⟨o',e1⟩:=I.base.there b o e hx;exact there b o' (neC b o e hx) e1
 ·obtain⟨m1,e1⟩:=I.base.tbls b ps e;obtain⟨m2,e2⟩:=tbls b _ e1;exact⟨m1++m2,by rw[e2,Array.append_assoc]⟩
 ·obtain⟨m,hn,hl⟩:=I.loc;refine⟨m,ns m hn,fun i x v e1 e2 e3=>?_⟩;obtain⟨u,r,l⟩:=hl i x v e1 e2 e3;refine⟨u,r,?_⟩;rcases l with l | ⟨k,c,e,z⟩
  ·exact .inl l
  ·exact .inr ⟨k,c,e,cellK x c e _ z⟩
 ·obtain⟨v,z⟩:=I.cell x c e;exact⟨v,cellK x c e v z⟩
 ·obtain⟨m,⟨o,_,_,ho,_⟩,_⟩:=I.loc;exact free _ o (fun z=>(hch _ z).2.1 rfl) ho I.free
 ·obtain⟨v,o,ho,hd⟩:=I.cell x c e;exact free c o (fun z=>(hch c z).2.2.1 x c e rfl) ho (I.freeC x c e)
 ·obtain⟨e,n,ne,nf,d⟩:=I.pin p hp;have nch:p.1∉ch:=fun z=>(hch p.1 z).2.2.2 p hp rfl
  exact⟨keep p.1 p.2 ne nf nch e n,free p.1 p.2 nch e n,ne,nf,d⟩
theorem Inv.un{t':Nat}(I:Inv X pins σ H s)(u:Un X.fs [] H H' s.heap h')(hok:HOk X.prog X.w H' h'):Inv X pins σ H' {s with heap:=h',toks:=t'}:=by
 obtain⟨m,⟨o,es,ep,ho,r⟩,_⟩:=id I.loc;obtain⟨sl,hL⟩:=u.any ho I.free (by simp);exact I.step (g':=s.gens) (d':=s.drawn) (ch:=[]) (fun _ z=>nomatch z) (fun b o _ hb _ e n=>u.keep b o e n hb (by simp)) (fun b o _ hb _ e n=>u.slot b o e n hb (by simp)) (fun b o _ e n=>u.free b o e n (by simp)) (fun b o _ e=>u.there b o e (by simp)) u.tups u.frzs u.tbls (fun m' hm=>by
  obtain⟨o',es',ep',ho',r'⟩:=hm;rw[ho]at ho';cases ho';exact⟨_,es',ep',hL,r'⟩) hok I.bare
theorem Inv.call{g':Array GenState}{t':Nat}{d':Drawn}{ch:List Addr}(I:Inv X pins σ H s)(u:Un (frs X.stack) ch H H' s.heap h')(hok:HOk X.prog X.w H' h')(hg:AllBare g')(hch:∀b∈ch,(b∈X.ex∨X.s₀.heap.objs.size≤b)∧b≠X.env.locals∧(∀x c,X.env.cells.lookup x=some c→c≠b)∧∀p∈X.pn++pins,p.1≠b) :
  Inv X pins σ H' {s with heap:=h',gens:=g',drawn:=d',toks:=t'}:=by
 obtain⟨m,⟨o,es,ep,ho,r⟩,_⟩:=id I.loc;obtain⟨sl,hL⟩:=u.any ho I.free fun z=>(hch _ z).2.1 rfl
 exact I.step (ch:=ch) hch (fun b o hL hb hc e n=>u.keep b o e n (fun z=>(List.mem_cons.mp (I.stkSub b z)).elim hL hb) hc) (fun b o _ _ hc e n=>u.any e n hc) (fun b o hc e n=>u.free b o e n hc) (fun b o hc e=>u.there b o e hc) u.tups u.frzs u.tbls (fun m' hm=>by
  obtain⟨o',es',ep',ho',r'⟩:=hm;rw[ho]at ho';cases ho';exact⟨_,es',ep',hL,r'⟩) hok hg
theorem Inv.turned{t':Nat}{it:Addr}(I:Inv X pins σ H s)(k:∀b o,b≠it→s.heap.get? b=some o→h'.get? b=some o)(hn:H it=none)(hL:it≠X.env.locals)(h1:it∈X.ex∨X.s₀.heap.objs.size≤it)(h2:∀x c,X.env.cells.lookup x=some c→c≠it)(h3:∀p∈X.pn++pins,p.1≠it):Inv X pins σ H {s with heap:=h',toks:=t'}:=by
 have nit:∀b u,H b=some u→b≠it:=fun b u e z=>by rw[z,hn]at e;cases e
 refine I.step (g':=s.gens) (d':=s.drawn) (ch:=[it]) (fun b hb=>?_) (fun b o _ _ hc e _=>k b o (fun z=>hc (by simp[z])) e) (fun b o _ _ hc e _=>⟨o.slots,k b o (fun z=>hc (by simp[z])) e⟩) (fun _ _ _ _ n=>n)
  (fun b o hc e=>⟨o,k b o (fun z=>hc (by simp[z])) e⟩) (fun _ _ e=>e) (fun _ _ _ e=>e) (fun b ps e=>⟨#[],by rw[e];simp⟩) (fun m hm=>?_) (fun b u e=>?_) I.bare
 ·have e:b=it:=by simpa using hb
  subst e;exact⟨h1,hL,h2,h3⟩
 ·obtain⟨o,es,ep,ho,r⟩:=hm;exact⟨o,es,ep,k _ o (Ne.symm hL) ho,r⟩
 ·refine(I.hok b u e).stay (fun c v hc q=>k c v ?_ q) (fun _ q=>q) fun _ _ q=>q
  rcases hc with z | z
  ·rw[z];exact nit b u e
  ·exact nit c _ z
theorem Inv.tok(I:Inv X pins σ H s)(t:Nat):Inv X pins σ H {s with toks:=t}:=I.un (h':=s.heap) (t':=t) Un.refl I.hok
theorem Inv.kept{t':Nat}(I:Inv X pins σ H s)(k:∀b u,s.heap.get? b=some u→h'.get? b=some u):Inv X pins σ H {s with heap:=h',toks:=t'}:=I.un (Un.kept k) (I.hok.kept k)
theorem Inv.laid{a:Addr}{o:HO}{t':Nat}(I:Inv X pins σ H s)(k:∀b u,s.heap.get? b=some u→h'.get? b=some u)(hp:s.heap.objs.size≤a)(new:ObjOk X.prog X.w (upd H a o) h' a o) :
  Inv X pins σ (upd H a o) {s with heap:=h',toks:=t'}:=I.un (Un.laid k hp (I.hok.fresh hp)) (I.hok.laid k hp new)
theorem Inv.write{x e:Addr}{o:HO}{t':Nat}(I:Inv X pins σ H s)(mu:Mut (H x))(he:e=x∨H e=some (.own x))(k:∀b u,b≠e→s.heap.get? b=some u→h'.get? b=some u)(heo:∃u,h'.get? e=some u)(new:ObjOk X.prog X.w (upd H x o) h' x o):Inv X pins σ (upd H x o) {s with heap:=h',toks:=t'}:=I.un (Un.write mu he k heo) (I.hok.write mu he k heo new)
theorem Inv.pins_of{pins':List (Addr×Obj)}(I:Inv X pins σ H s)(h:∀p∈pins',s.heap.get? p.1=some p.2∧H p.1=none∧p.1≠X.env.locals∧p.1∉X.fs∧∀v,p.2.data≠.cell v):Inv X pins' σ H s :=
 ⟨I.ok,I.os,I.bare,I.base,I.loc,I.cell,I.free,I.freeC,fun p hp=>(List.mem_append.mp hp).elim (fun z=>I.pin p (List.mem_append_left _ z)) (h p),I.hok,I.len⟩
theorem qfy{N:List Str}(hN:N.Nodup){i j:Nat}{x:Str}(a:N[i]?=some x)(b:N[j]?=some x):i=j:=by
 obtain⟨h1,e1⟩:=List.getElem?_eq_some_iff.mp a;obtain⟨h2,e2⟩:=List.getElem?_eq_some_iff.mp b;exact(List.getElem_inj hN).mp (e1.trans e2.symm)
theorem qeX{M:Model}{A:Around}{E:Value→Shared→Prop}{i:Nat}{x:Str}{v:V}{u:Value}{Q:Unit→Shared→Prop}(I:Inv X pins σ H s)(hN:X.N.Nodup)(hi:X.N[i]?=some x)(hx:Loc X.env.scope x)(r:RelV v u)(h:∀s',Inv X pins (σ.set i (some v)) H s'→(∃a,Heap.SameBut a s.heap s'.heap∧(a=X.env.locals∨X.env.cells.lookup x=some a))→Q () s')(hf:X.fn x=true∨X.env.scope.names.lookup x=some .local:=by first | exact .inl rfl | exact .inr rfl | assumption):wpAny M A (storeName X.env x u) Q E s:=by
 obtain⟨m,hn,hl⟩:=id I.loc;have hcls:(X.env.scope.kind == .class || (X.env.scope.kind == .module && X.env.locals != X.env.globals))=false:=by rw[I.ok.kind];rfl
 have hiσ:i<σ.length:=by rw[I.len];exact(List.getElem?_eq_some_iff.mp hi).1
 have cne:=I.cne;have tracked:∀{a:Addr} {h':Heap},(∃o,s.heap.get? a=some o∧H a=none)→Heap.SameBut a s.heap h'→HOk X.prog X.w H h':=fun {a h'} ha hs b ob e=>by
  obtain⟨_,_,hfree⟩:=ha;refine(I.hok b ob e).stay (fun c w' hc q=>(hs.2 c ?_).trans q) (fun _ q=>q) fun _ _ q=>q
  rintro rfl;rcases hc with rfl | hc
  ·rw[hfree]at e;cases e
  ·rw[hfree]at hc;cases hc
 rcases hx with hk | hk
 ·refine wpAny_storeName_local hk hn (fun h' hn' hs=>?_) hcls;obtain⟨oL,_,_,hoL,_⟩:=id hn;refine h _ ⟨I.ok,I.os,I.bare,⟨fun b o e n hb hx=>?_,fun b o e n hb hx=>?_,I.base.free,fun b o e hx=>?_,I.base.tups,I.base.frzs,I.base.tbls⟩,⟨_,hn',fun j y v' e1 e2 e3=>?_⟩,fun y c e=>?_,I.free,I.freeC,fun p hp=>?_,tracked ⟨oL,hoL,I.free⟩ hs,by simpa using I.len⟩ ⟨_,hs,.inl rfl⟩
  ·exact(hs.2 b (Nat.ne_of_lt (Nat.lt_of_lt_of_le (Heap.lt_size e) I.ok.above))).trans (I.base.keep b o e n hb hx)
  ·obtain⟨sl,e1⟩:=I.base.slot b o e n hb hx;exact⟨sl,(hs.2 b (Nat.ne_of_lt (Nat.lt_of_lt_of_le (Heap.lt_size e) I.ok.above))).trans e1⟩
  ·obtain⟨o',e1⟩:=I.base.there b o e hx;exact⟨o',(hs.2 b (Nat.ne_of_lt (Nat.lt_of_lt_of_le (Heap.lt_size e) I.ok.above))).trans e1⟩
  ·by_cases hj:j=i
   ·subst hj;rw[hi]at e1;cases e1;rw[List.getElem?_set_self hiσ]at e2;cases e2;exact⟨u,r,.inl ⟨hk,by simp⟩⟩
   ·rw[List.getElem?_set_ne (Ne.symm hj)]at e2;obtain⟨u',r',q⟩:=hl j y v' e1 e2 e3;refine⟨u',r',?_⟩;rcases q with⟨k,e⟩ | ⟨k,c,e,z⟩
    ·refine .inl ⟨k,?_⟩;have:y≠x:=fun e=>hj (qfy hN e1 (e ▸ hi))
     simp[this,e]
    ·exact .inr ⟨k,c,e,z.sameBut hs (cne y c e)⟩
  ·obtain⟨w',z⟩:=I.cell y c e;exact⟨w',z.sameBut hs (cne y c e)⟩
  ·obtain⟨e,n,ne,nf,d⟩:=I.pin p hp;exact⟨(hs.2 p.1 ne).trans e,n,ne,nf,d⟩
 ·have hfn:X.fn x=true:=by
   rcases hf with z | z
   ·exact z
   ·rw[z]at hk;cases hk
  obtain⟨c,hc⟩:=I.ok.has x (.inl hk);obtain⟨w',z⟩:=I.cell x c hc;refine wpAny_storeName_cell I.ok.kind hk hc z (fun h' hc' hs=>?_);obtain⟨oc,hoc,hocd⟩:=id z;refine h {s with heap:=h'} ⟨I.ok,I.os,I.bare,⟨fun b o e n hb hx=>?_,fun b o e n hb hx=>?_,I.base.free,fun b o e hx=>?_,I.base.tups,I.base.frzs,I.base.tbls⟩,⟨m,hn.sameBut hs (Ne.symm (cne x c hc)),fun j y v' e1 e2 e3=>?_⟩,fun y c' e=>?_,I.free,I.freeC,fun p hp=>?_,tracked ⟨oc,hoc,I.freeC x c hc⟩ hs,by simpa using I.len⟩ ⟨c,hs,.inr hc⟩
  ·exact(hs.2 b (Nat.ne_of_lt (Nat.lt_of_lt_of_le (Heap.lt_size e) (I.ok.cab x c hfn hc)))).trans (I.base.keep b o e n hb hx)
  ·obtain⟨sl,e1⟩:=I.base.slot b o e n hb hx;exact⟨sl,(hs.2 b (Nat.ne_of_lt (Nat.lt_of_lt_of_le (Heap.lt_size e) (I.ok.cab x c hfn hc)))).trans e1⟩
  ·obtain⟨o',e1⟩:=I.base.there b o e hx;exact⟨o',(hs.2 b (Nat.ne_of_lt (Nat.lt_of_lt_of_le (Heap.lt_size e) (I.ok.cab x c hfn hc)))).trans e1⟩
  ·by_cases hj:j=i
   ·subst hj;rw[hi]at e1;cases e1;rw[List.getElem?_set_self hiσ]at e2;cases e2;exact⟨u,r,.inr ⟨.inl hk,c,hc,hc'⟩⟩
   ·rw[List.getElem?_set_ne (Ne.symm hj)]at e2;obtain⟨u',r',q⟩:=hl j y v' e1 e2 e3;refine⟨u',r',?_⟩;rcases q with q | ⟨k,c',e,z'⟩
    ·exact .inl q
    ·refine .inr ⟨k,c',e,z'.sameBut hs ?_⟩;rintro rfl;exact hj (qfy hN e1 (I.ok.inj _ _ _ e hc ▸ hi))
  ·by_cases hcc:c'=c
   ·subst hcc;exact⟨_,hc'⟩
   ·obtain⟨w2,z2⟩:=I.cell y c' e;exact⟨w2,z2.sameBut hs hcc⟩
  ·obtain⟨e,n,ne,nf,d⟩:=I.pin p hp;refine⟨(hs.2 p.1 ?_).trans e,n,ne,nf,d⟩;intro q;rw[q,hoc]at e;have q':oc=p.2:=Option.some.inj e;exact d w' (by rw[←q'];exact hocd)
theorem qeu{M:Model}{A:Around}{E:Value→Shared→Prop}{i:Nat}{x:Str}{v:V}{u:Value}{Q:Unit→Shared→Prop}(I:Inv X pins σ H s)(hN:X.N.Nodup)(hi:X.N[i]?=some x)(hx:Loc X.env.scope x)(r:RelV v u)(h:∀s',Inv X pins (σ.set i (some v)) H s'→Q () s')(hf:X.fn x=true∨X.env.scope.names.lookup x=some .local:=by first | exact .inl rfl | exact .inr rfl | assumption):wpAny M A (storeName X.env x u) Q E s :=
 qeX I hN hi hx r (fun s' I' _=>h s' I') hf
theorem Inv.call'{s':Shared}{ch:List Addr}(I:Inv X pins σ H s)(ho:s'.os=s.os)(u:Un (frs X.stack) ch H H' s.heap s'.heap)(hok:HOk X.prog X.w H' s'.heap)(hg:AllBare s'.gens)(hch:∀b∈ch,(b∈X.ex∨X.s₀.heap.objs.size≤b)∧b≠X.env.locals∧(∀x c,X.env.cells.lookup x=some c→c≠b)∧∀p∈X.pn++pins,p.1≠b):Inv X pins σ H' s':=by
 obtain⟨h',g',d',t',o'⟩:=s';have e:o'=s.os:=ho;subst e;exact I.call (g':=g') (t':=t') (d':=d') u hok hg hch
end
abbrev XK:=Value→Option Addr→Hp→Prop
abbrev St:=List (Option V)
abbrev VK:=V→Hp→Prop
abbrev TE:=St→Hp→VK→Prop
abbrev TT:=St→Hp→(Bool→Hp→Prop)→Prop
abbrev TA:=St→Hp→(List V→Hp→Prop)→Prop
structure Ends where
 nx:St→Hp→Prop
 rt:VK
 bk:St→Hp→Prop:=fun _ _=>False
 ct:St→Hp→Prop:=fun _ _=>False
abbrev TS:=Ends→St→Hp→Prop
def EP(X:Cx)(pins:List (Addr×Obj))(σ:St)(Q:VK)(u:Value)(s':Shared):Prop:=∃v H',Inv X pins σ H' s'∧RelV v u∧Q v H'
def TP(X:Cx)(pins:List (Addr×Obj))(σ:St)(Q:Bool→Hp→Prop)(b:Bool)(s':Shared):Prop:=∃H',Inv X pins σ H' s'∧Q b H'
def AP(X:Cx)(pins:List (Addr×Obj))(σ:St)(Q:List V→Hp→Prop)(us:List Value)(s':Shared):Prop:=∃vs H',Inv X pins σ H' s'∧Vals vs us∧Q vs H'
def SP(X:Cx)(pins:List (Addr×Obj))(D:Ends)(f:Flow)(s':Shared):Prop :=
 match f with
 | .next=>∃σ' H',Inv X pins σ' H' s'∧D.nx σ' H'
 | .brk=>∃σ' H',Inv X pins σ' H' s'∧D.bk σ' H'
 | .cont=>∃σ' H',Inv X pins σ' H' s'∧D.ct σ' H'
 | .ret u=>∃v σ' H',Inv X pins σ' H' s'∧RelV v u∧D.rt v H'
def PE(X:Cx)(e:Expr)(t:TE):Prop :=
 ∀(pins:List (Addr×Obj)) (s:Shared) (σ:St) (H:Hp) (Q:VK),Inv X pins σ H s→t σ H Q→wpAny (model X.prog X.w) X.A (eval e X.env) (EP X pins σ Q) X.xe s
def PT(X:Cx)(e:Expr)(t:TT):Prop :=
 ∀(pins:List (Addr×Obj)) (s:Shared) (σ:St) (H:Hp) (Q:Bool→Hp→Prop),Inv X pins σ H s→t σ H Q→wpAny (model X.prog X.w) X.A (isTrue e X.env (eval e X.env)) (TP X pins σ Q) X.xe s
def PW(X:Cx)(e:Expr)(t:TT):Prop :=
 ∀(whole:Sem Value) (pins:List (Addr×Obj)) (s:Shared) (σ:St) (H:Hp) (Q:Bool→Hp→Prop),Inv X pins σ H s→t σ H Q→wpAny (model X.prog X.w) X.A (isTrue e X.env whole) (TP X pins σ Q) X.xe s
theorem PW.pt{X:Cx}{e:Expr}{t:TT}(h:PW X e t):PT X e t:=h _
def PA(X:Cx)(es:List Expr)(t:TA):Prop :=
 ∀(pos:Pos) (pins:List (Addr×Obj)) (s:Shared) (σ:St) (H:Hp) (Q:List V→Hp→Prop),Inv X pins σ H s→t σ H Q→wpAny (model X.prog X.w) X.A (spliced (backTo pos (starEach es X.env))) (AP X pins σ Q) X.xe s
def PS(X:Cx)(st:Stmt)(t:TS):Prop :=
 ∀(pins:List (Addr×Obj)) (s:Shared) (σ:St) (H:Hp) (D:Ends),Inv X pins σ H s→t D σ H→wpAny (model X.prog X.w) X.A (exec st X.env) (SP X pins D) X.xe s
def PSs(X:Cx)(st:List Stmt)(t:TS):Prop :=
 ∀(pins:List (Addr×Obj)) (s:Shared) (σ:St) (H:Hp) (D:Ends),Inv X pins σ H s→t D σ H→wpAny (model X.prog X.w) X.A (execs st X.env) (SP X pins D) X.xe s
theorem thn{α:Type}{t:Sem α}{Q Q':α→Shared→Prop}{M:Model}{A:Around}{E:Value→Shared→Prop}{s:Shared}(h:wpAny M A t Q E s)(hQ:∀a s,Q a s→Q' a s):wpAny M A t Q' E s:=wpAny_mono h hQ fun _ _ x=>x
end L2
namespace L2
open PySem PySem.Spec PyProof.Rows
section
variable{X:Cx}
def tVar(i:Nat):TE:=fun σ H Q=>∃v,σ[i]?=some (some v)∧Q v H
def tC(v:V):TE:=fun _ H Q=>Q v H
theorem pe_var{i:Nat}{x:Str}{pos:Pos}(hN:X.N[i]?=some x)(hv:Vis X.env.scope x)(hd:(x == ("__debug__" : Str))=false:=by decide)(hcd:(x == ("__classdict__" : Str))=false:=by decide):PE X (.Name x pos) (tVar i):=by
 intro pins s σ H Q I h;obtain⟨v,e,h⟩:=h;obtain⟨m,hn,hl⟩:=I.loc;obtain⟨u,r,l⟩:=hl i x v hN e hv;have fin:EP X pins σ Q u s:=⟨v,H,I,r,h⟩;rcases l with⟨hk,hm⟩ | ⟨hk,c,hc,hcell⟩
 ·exact wpAny_Name (wpAny_loadName_local I.ok.kind hk hn hm fin) hd
 ·rcases hk with hk | hk
  ·exact wpAny_Name (wpAny_loadName_cell I.ok.kind hk hc hcell fin) hd
  ·exact wpAny_Name (wpAny_loadName_free I.ok.kind hk hc hcell fin hcd) hd
theorem qaf{i j pos}:PE X (.Constant (.int i) j pos) (tC (.int i)):=fun _ _ _ H _ I h=>wpAny_Constant_int ⟨.int i,H,I.tok _,⟨_,rfl⟩,h⟩
theorem qc3{b j pos}:PE X (.Constant (.bool b) j pos) (tC (.bl b)):=fun _ _ _ H _ I h=>Constant_bool ⟨.bl b,H,I,rfl,h⟩
theorem qct{j pos}:PE X (.Constant .none j pos) (tC .non):=fun _ _ _ H _ I h=>Constant_none ⟨.non,H,I,rfl,h⟩
theorem qah{x j pos}:PE X (.Constant (.str x) j pos) (tC (.str x)):=fun _ _ _ H _ I h=>Calls.Constant_str ⟨.str x,H,I.tok _,⟨_,rfl⟩,h⟩
def Gl(X:Cx)(x:Str):Prop:=X.env.kindOf x=some .globalImplicit
theorem qd9{E:Value→Shared→Prop}{pins:List (Addr×Obj)}{s:Shared}{σ:St}{H:Hp}{x:Str}{u:Value}{pos:Pos}{Q:Value→Shared→Prop}(I:Inv X pins σ H s)(hg:Gl X x)(hm:X.mg x=some u)(h:Q u s)(hd:(x == ("__debug__" : Str))=false:=by decide):wpAny (model X.prog X.w) X.A (eval (.Name x pos) X.env) Q E s :=
 Calls.Name_function_global I.ok.kind hg (Calls.loadGlobal_global (by rw[I.ok.glob];exact I.mod.glob.keeps I.bk) hm h) hd
theorem qc8{E:Value→Shared→Prop}{pins:List (Addr×Obj)}{s:Shared}{σ:St}{H:Hp}{x:Str}{u:Value}{pos:Pos}{Q:Value→Shared→Prop}(I:Inv X pins σ H s)(hg:Gl X x)(hm:X.mg x=none)(hv:bootBuiltins x=some u)(h:Q u s)(hn:x ≠ "__name__":=by decide)(hd:(x == ("__debug__" : Str))=false:=by decide):wpAny (model X.prog X.w) X.A (eval (.Name x pos) X.env) Q E s:=by
 obtain⟨mb,h1,h2⟩:=I.mod.blt;exact Calls.Name_function_global I.ok.kind hg (Calls.loadGlobal_builtin (by rw[I.ok.glob];exact I.mod.glob.keeps I.bk) hm (by rw[I.ok.blt];exact h1.keeps I.bk) ((h2 x hn).trans hv) h) hd
theorem qai{x:Str}{v:V}{u:Value}{pos:Pos}(hg:Gl X x)(hm:X.mg x=some u)(r:RelV v u)(hd:(x == ("__debug__" : Str))=false:=by decide):PE X (.Name x pos) (tC v) :=
 fun _ _ _ H _ I h=>qd9 I hg hm ⟨v,H,I,r,h⟩ hd
theorem pe_bltn{x:Str}{v:V}{u:Value}{pos:Pos}(hg:Gl X x)(hm:X.mg x=none)(hv:bootBuiltins x=some u)(r:RelV v u)(hn:x ≠ "__name__":=by decide)(hd:(x == ("__debug__" : Str))=false:=by decide):PE X (.Name x pos) (tC v) :=
 fun _ _ _ H _ I h=>qc8 I hg hm hv ⟨v,H,I,r,h⟩ hn hd
variable{a b:Expr}{ta tb:TE}{pos:Pos}
def PC(X:Cx)(op:CmpOp)(a b:Expr)(t:TE):Prop :=
 ∀(pins:List (Addr×Obj)) (s:Shared) (σ:St) (H:Hp) (Q:VK),Inv X pins σ H s→t σ H Q →
  wpAny (model X.prog X.w) X.A (eval a X.env) (fun v s₁=>wpAny (model X.prog X.w) X.A (eval b X.env) (fun u s₂=>wpAny (model X.prog X.w) X.A (compareOp op v u) (EP X pins σ Q) X.xe s₂) X.xe s₁) X.xe s
theorem qfL(b:Expr){op:CmpOp}(h:op≠.In)(h2:op≠.NotIn):behindInMarks op b=false:=by
 have e1:(op == CmpOp.In)=false:=by cases op<;>first | rfl | exact absurd rfl h
 have e2:(op == CmpOp.NotIn)=false:=by cases op<;>first | rfl | exact absurd rfl h2
 cases b<;>simp[behindInMarks,e1,e2]
def tIsN(ta:TE):TE:=fun σ H Q=>ta σ H fun x H1=>Q (.bl (decide (x=.non))) H1
def tNotN(ta:TE):TE:=fun σ H Q=>ta σ H fun x H1=>Q (.bl (!decide (x=.non))) H1
theorem RelV.none_iff{x:V}{v:Value}(r:RelV x v):(v == Value.none)=decide (x=.non):=by
 cases x with
 | non=>cases r;rfl
 | bl _=>cases r;rfl
 | int _=>obtain⟨t,rfl⟩:=r;rfl
 | str _=>obtain⟨t,rfl⟩:=r;rfl
 | byt _=>obtain⟨t,rfl⟩:=r;rfl
 | flt _=>obtain⟨t,rfl⟩:=r;rfl
 | ref _=>cases r;rfl
 | ty _=>cases r;rfl
theorem qgn{j pos'}(ha:PE X a ta):PC X .Is a (.Constant .none j pos') (tIsN ta):=by
 intro pins s σ H Q I h;refine thn (ha pins s σ H _ I h) fun v s1 ⟨x,H1,I1,r1,q1⟩=>?_
 exact Constant_none (is_none_gen ⟨.bl _,H1,I1,by rw[r1.none_iff];rfl,q1⟩)
theorem qgw{j pos'}(ha:PE X a ta):PC X .IsNot a (.Constant .none j pos') (tNotN ta):=by
 intro pins s σ H Q I h;refine thn (ha pins s σ H _ I h) fun v s1 ⟨x,H1,I1,r1,q1⟩=>?_
 exact Constant_none (isnot_none_gen ⟨.bl _,H1,I1,by rw[r1.none_iff];rfl,q1⟩)
def tB(t:TE):TT:=fun σ H Q=>t σ H fun x H1=>∃c,x=.bl c∧Q c H1
theorem qgy{op:CmpOp}{t:TE}(h:PC X op a b t)(h1:behindInMarks op b=false:=by first | exact qfL _ (by decide) (by decide) | rfl):PE X (.Compare a [op] [b] pos) t:=fun pins s σ H Q I hw=>wpAny_Compare1 (h pins s σ H Q I hw) h1
theorem qgU{op:CmpOp}{t:TE}(h:PC X op a b t)(h1:behindInMarks op b=false:=by first | exact qfL _ (by decide) (by decide) | rfl):PT X (.Compare a [op] [b] pos) (tB t):=by
 intro pins s σ H Q I hw;refine wpAny_isTrue_Compare1 (thn (h pins s σ H _ I hw) fun v s1 h1=>thn h1 fun u s2 h2=>thn h2 fun c s3 ⟨x,H1,I1,r1,q1⟩=>?_) h1;obtain⟨d,rfl,q⟩:=q1;cases r1;exact wpAny_truthy_bool ⟨H1,I1,q⟩
theorem qaW{e:Expr}{t:TE}(h:PE X e t)(he:∀ whole,isTrue e X.env whole=(do let v ← whole; standAt e.pos; holding [v] (truthy v)):=by intro _; rfl):PT X e (tB t):=by
 intro pins s σ H Q I hw
 refine isTrue_plain (thn (h pins s σ H _ I hw) fun v s1 ⟨x,H1,I1,r1,q1⟩=>?_) (he _)
 obtain ⟨d,rfl,q⟩:=q1
 cases r1
 exact wpAny_truthy_bool ⟨H1,I1,q⟩
variable{tA tB':TT}{rest:List Expr}
def tAnd(t u:TT):TT:=fun σ H Q=>t σ H fun c H1=>if c=true then u σ H1 Q else Q false H1
def tOr(t u:TT):TT:=fun σ H Q=>t σ H fun c H1=>if c=true then Q true H1 else u σ H1 Q
def tNot(t:TT):TT:=fun σ H Q=>t σ H fun c H1=>Q (!c) H1
theorem qbG(ha:PT X a tA):PW X (.BoolOp .And [a] pos) tA:=by
 intro wh pins s σ H Q I h;refine isTrue_and (thn (ha pins s σ H Q I h) fun c s1 e=>?_);cases c with
 | true=>exact isTrue_and_nil e
 | false=>exact e
theorem qbZ(ha:PT X a tA):PW X (.BoolOp .Or [a] pos) tA:=by
 intro wh pins s σ H Q I h;refine isTrue_or (thn (ha pins s σ H Q I h) fun c s1 e=>?_);cases c with
 | false=>exact isTrue_or_nil e
 | true=>exact e
theorem qcg(ha:PT X a tA)(hb:PW X (.BoolOp .And (b::rest) pos) tB'):PW X (.BoolOp .And (a::b::rest) pos) (tAnd tA tB'):=by
 intro wh pins s σ H Q I h;refine isTrue_and (thn (ha pins s σ H _ I h) fun c s1 ⟨H1,I1,q1⟩=>?_);cases c with
 | true=>exact hb wh pins s1 σ H1 Q I1 q1
 | false=>exact⟨H1,I1,q1⟩
theorem qch(ha:PT X a tA)(hb:PW X (.BoolOp .Or (b::rest) pos) tB'):PW X (.BoolOp .Or (a::b::rest) pos) (tOr tA tB'):=by
 intro wh pins s σ H Q I h;refine isTrue_or (thn (ha pins s σ H _ I h) fun c s1 ⟨H1,I1,q1⟩=>?_);cases c with
 | true=>exact⟨H1,I1,q1⟩
 | false=>exact hb wh pins s1 σ H1 Q I1 q1
theorem qbl(ha:PT X a tA):PT X (.UnaryOp .Not a pos) (tNot tA):=by
 intro pins s σ H Q I h;exact isTrue_not (ha pins s σ H (fun c H1=>Q (!c) H1) I h)
def tAndV(ta tb:TE):TE:=fun σ H Q=>ta σ H fun x H1=>∃c,x=.bl c∧if c=true then tb σ H1 Q else Q (.bl false) H1
def tOrV(ta tb:TE):TE:=fun σ H Q=>ta σ H fun x H1=>∃c,x=.bl c∧if c=true then Q (.bl true) H1 else tb σ H1 Q
def tNotV(ta:TE):TE:=fun σ H Q=>ta σ H fun x H1=>∃c,x=.bl c∧Q (.bl (!c)) H1
theorem qbS{op}{t:TE}(h:PE X a t):PE X (.BoolOp op [a] pos) t:=fun pins s σ H Q I hw=>BoolOp_one (h pins s σ H Q I hw)
theorem qbu(ha:PE X a ta)(hb:PE X (.BoolOp .And (b::rest) pos) tb):PE X (.BoolOp .And (a::b::rest) pos) (tAndV ta tb):=by
 intro pins s σ H Q I h;refine BoolOp_and (thn (ha pins s σ H _ I h) fun v s1 ⟨x,H1,I1,r1,q1⟩=>?_);obtain⟨c,rfl,q1⟩:=q1;cases r1;refine wpAny_truthy_bool ?_;cases c with
 | true=>exact hb pins s1 σ H1 Q I1 q1
 | false=>exact⟨.bl false,H1,I1,rfl,q1⟩
theorem qgF(ha:PE X a ta)(hb:PE X (.BoolOp .Or (b::rest) pos) tb):PE X (.BoolOp .Or (a::b::rest) pos) (tOrV ta tb):=by
 intro pins s σ H Q I h;refine BoolOp_or (thn (ha pins s σ H _ I h) fun v s1 ⟨x,H1,I1,r1,q1⟩=>?_);obtain⟨c,rfl,q1⟩:=q1;cases r1;refine wpAny_truthy_bool ?_;cases c with
 | false=>exact hb pins s1 σ H1 Q I1 q1
 | true=>exact⟨.bl true,H1,I1,rfl,q1⟩
theorem pe_not(ha:PE X a ta):PE X (.UnaryOp .Not a pos) (tNotV ta):=by
 intro pins s σ H Q I h;refine UnaryOp_ (thn (ha pins s σ H _ I h) fun v s1 ⟨x,H1,I1,r1,q1⟩=>?_);obtain⟨c,rfl,q1⟩:=q1;cases r1;exact not_of (wpAny_truthy_bool ⟨.bl (!c),H1,I1,rfl,q1⟩)
def tIf(t:TT)(ta tb:TE):TE:=fun σ H Q=>t σ H fun c H1=>if c=true then ta σ H1 Q else tb σ H1 Q
theorem qb0{c:Expr}(hc:PT X c tA)(ha:PE X a ta)(hb:PE X b tb):PE X (.IfExp c a b pos) (tIf tA ta tb):=by
 intro pins s σ H Q I h;refine wpAny_IfExp (thn (hc pins s σ H _ I h) fun d s1 ⟨H1,I1,q1⟩=>?_);cases d with
 | true=>exact ha pins s1 σ H1 Q I1 q1
 | false=>exact hb pins s1 σ H1 Q I1 q1
end
end L2
namespace L2
open PySem PySem.Spec PyProof.Rows
def SqL(K:PySem.W.Frag)(H:Hp)(a:Addr)(xs:List V):Prop :=
 Rd H a (.lst xs) ∨
  ∃(o:Obj) (its:Array Value) (n:Nat),K.lookup a=some o∧o.cls=.type "list" ∧ o.dict=none∧o.data=.seq its n∧its.size≤sizeLine∧Vals xs its.toList
def SqT(K:PySem.W.Frag)(H:Hp)(a:Addr)(xs:List V):Prop :=
 Rd H a (.tup xs) ∨
  ∃(o:Obj) (its:Array Value) (n:Nat),K.lookup a=some o∧o.cls=.type "tuple" ∧ o.data=.seq its n∧its.size≤sizeLine∧Vals xs its.toList
def absV:Value→Option V
 | .none=>some .non
 | .bool b=>some (.bl b)
 | .int i _=>some (.int i)
 | .str x _=>some (.str x)
 | .bytes b _=>some (.byt b)
 | .float b _=>some (.flt b)
 | .ref a=>some (.ref a)
 | .type n=>some (.ty n)
 | _=>none
theorem RelV.abs{x:V}{u:Value}(r:RelV x u):absV u=some x:=by
 cases x with
 | non=>cases r;rfl
 | bl _=>cases r;rfl
 | int _=>obtain⟨t,rfl⟩:=r;rfl
 | str _=>obtain⟨t,rfl⟩:=r;rfl
 | byt _=>obtain⟨t,rfl⟩:=r;rfl
 | flt _=>obtain⟨t,rfl⟩:=r;rfl
 | ref _=>cases r;rfl
 | ty _=>cases r;rfl
theorem RelV.inj{x y:V}{u:Value}(r:RelV x u)(q:RelV y u):x=y:=Option.some.inj (r.abs.symm.trans q.abs)
theorem Vals.inj:∀{xs ys:List V} {us:List Value},Vals xs us→Vals ys us→xs=ys
 | _,_,_,.nil,.nil=>rfl
 | _,_,_,.cons r t,.cons r' t'=>by rw[r.inj r',Vals.inj t t']
section
variable{X:Cx}{pins:List (Addr×Obj)}{σ:St}{H:Hp}{s:Shared}{a:Addr}{xs ys:List V}
theorem SqL.of{K:PySem.W.Frag}(h:H a=some (.lst xs)):SqL K H a xs:=.inl (.inl h)
theorem SqT.of{K:PySem.W.Frag}(h:H a=some (.tup xs)):SqT K H a xs:=.inl (.inl h)
theorem Inv.list(I:Inv X pins σ H s)(h:SqL X.K H a xs):∃its:List Value,Vals xs its∧PlainL s.heap a its.toArray∧xs.length≤sizeLine:=by
 rcases h with h | ⟨o,its,n,hk,hc,hd,hs,hz,r⟩
 ·obtain⟨z,its,n,r,e⟩:=h.ok I.hok;exact⟨its,r,⟨_,n,e,rfl,rfl,rfl⟩,z⟩
 ·refine⟨its.toList,r,⟨o,n,I.kIn a o hk,hc,hd,by simpa using hs⟩,?_⟩;have e:=r.length;simp only[Array.length_toList]at e;omega
theorem Inv.tuple(I:Inv X pins σ H s)(h:SqT X.K H a xs):∃its:List Value,Vals xs its∧IsTup s.heap a its.toArray∧xs.length≤sizeLine:=by
 rcases h with h | ⟨o,its,n,hk,hc,hs,hz,r⟩
 ·obtain⟨z,its,r,p⟩:=h.ok I.hok;exact⟨its,r,p,z⟩
 ·refine⟨its.toList,r,⟨o,I.kIn a o hk,hc,n,by simpa using hs⟩,?_⟩;have e:=r.length;simp only[Array.length_toList]at e;omega
theorem Inv.list_inj(I:Inv X pins σ H s)(h:SqL X.K H a xs)(h':SqL X.K H a ys):xs=ys:=by
 obtain⟨its,r,⟨o,n,e,_,_,d⟩,_⟩:=I.list h;obtain⟨its',r',⟨o',n',e',_,_,d'⟩,_⟩:=I.list h';rw[e]at e';cases e';rw[d]at d';injection d' with d1 _
 have:its=its':=by simpa using congrArg Array.toList d1
 subst this;exact r.inj r'
end
abbrev Cx.wish(X:Cx)(E:Value→Shared→Prop):Cx:={X with xe:=E}
abbrev Cx.nox(X:Cx):Cx:=X.wish fun _ _=>False
theorem Cx.Ok.wish{X:Cx}(ok:X.Ok)(E:Value→Shared→Prop):(X.wish E).Ok :=
 ⟨ok.mod,ok.kind,ok.glob,ok.blt,ok.above,ok.inj,ok.has,ok.cab,ok.hd,ok.frames,ok.stk,ok.exf,ok.bs,ok.bsz,ok.noex,ok.exfs,ok.funs,ok.frf⟩
theorem Cx.Ok.unwish{X:Cx}{E:Value→Shared→Prop}(ok:(X.wish E).Ok):X.Ok :=
 ⟨ok.mod,ok.kind,ok.glob,ok.blt,ok.above,ok.inj,ok.has,ok.cab,ok.hd,ok.frames,ok.stk,ok.exf,ok.bs,ok.bsz,ok.noex,ok.exfs,ok.funs,ok.frf⟩
section
variable{X:Cx}{pins:List (Addr×Obj)}{σ:St}{H:Hp}{s:Shared}{E:Value→Shared→Prop}
theorem Inv.wish(I:Inv X pins σ H s)(E:Value→Shared→Prop):Inv (X.wish E) pins σ H s:=⟨I.ok.wish E,I.os,I.bare,I.base,I.loc,I.cell,I.free,I.freeC,I.pin,I.hok,I.len⟩
theorem Inv.unwish(I:Inv (X.wish E) pins σ H s):Inv X pins σ H s:=⟨I.ok.unwish,I.os,I.bare,I.base,I.loc,I.cell,I.free,I.freeC,I.pin,I.hok,I.len⟩
theorem SP.unwish{D:Ends}{f:Flow}{s':Shared}(h:SP (X.wish E) pins D f s'):SP X pins D f s':=by
 cases f with
 | next=>obtain⟨σ',H',I,q⟩:=h;exact⟨σ',H',I.unwish,q⟩
 | brk=>obtain⟨σ',H',I,q⟩:=h;exact⟨σ',H',I.unwish,q⟩
 | cont=>obtain⟨σ',H',I,q⟩:=h;exact⟨σ',H',I.unwish,q⟩
 | ret u=>obtain⟨v,σ',H',I,r,q⟩:=h;exact⟨v,σ',H',I.unwish,r,q⟩
theorem PSs.nox{st:List Stmt}{t:TS}(h:PSs X.nox st t):PSs X st t:=fun pins s σ H D I hw =>
 wpAny_mono (h pins s σ H D (I.wish _) hw) (fun _ _ q=>q.unwish) fun _ _ z=>False.elim z
end
section
variable{X:Cx}{st:Stmt}{rest:List Stmt}{t u:TS}{e:Expr}{te:TE}{pos:Pos}
def tNext:TS:=fun D σ H=>D.nx σ H
def tSeq(t u:TS):TS:=fun D σ H=>t {D with nx:=u D} σ H
theorem pss_nil:PSs X [] tNext:=fun _ _ σ H _ I h=>wpAny_execs_nil ⟨σ,H,I,h⟩
theorem qac(h1:PS X st t)(h2:PSs X rest u):PSs X (st::rest) (tSeq t u):=by
 intro pins s σ H D I h;refine wpAny_execs_cons (thn (h1 pins s σ H {D with nx:=u D} I h) fun f s1 q=>?_);cases f with
 | next =>
   obtain⟨σ',H',I',q⟩:=q
   exact h2 pins s1 σ' H' D I' q
 | ret v=>exact q
 | brk=>exact q
 | cont=>exact q
theorem qae(h1:PS X st t):PSs X [st] t:=by
 intro pins s σ H D I h;refine wpAny_execs_cons (thn (h1 pins s σ H D I h) fun f s1 q=>?_);cases f with
 | next=>exact wpAny_execs_nil q
 | ret v=>exact q
 | brk=>exact q
 | cont=>exact q
theorem Inv.quiet{pins:List (Addr×Obj)}{σ:St}{H:Hp}{s:Shared}(I:Inv X pins σ H s):interactive X.env=false:=by simp[interactive,I.ok.kind]
def tDrop(te:TE):TS:=fun D σ H=>te σ H fun _ H1=>D.nx σ H1
theorem qa5(he:PE X e te)(hs:swapsWith e none pos.line X.env=pure false:=by rfl):PS X (.Expr e pos) (tDrop te):=by
 intro pins s σ H D I h;exact wpAny_Expr_any (thn (he pins s σ H _ I h) fun v s1 ⟨x,H1,I1,r1,q1⟩=>⟨σ,H1,I1,q1⟩) I.quiet hs
def tRet(te:TE):TS:=fun D σ H=>te σ H D.rt
theorem qak(he:PE X e te):PS X (.Return (some e) pos) (tRet te):=by
 intro pins s σ H D I h;exact wpAny_Return_some (thn (he pins s σ H _ I h) fun v s1 ⟨x,H1,I1,r1,q1⟩=>⟨x,σ,H1,I1,r1,q1⟩)
def tIfS(c:TT)(t u:TS):TS:=fun D σ H=>c σ H fun b H1=>if b=true then t D σ H1 else u D σ H1
theorem qaH{c:Expr}{a b:List Stmt}{tc:TT}(hc:PT X c tc)(ha:PSs X a t)(hb:PSs X b u):PS X (.If c a b pos) (tIfS tc t u):=by
 intro pins s σ H D I h;refine wpAny_If (thn (hc pins s σ H _ I h) fun d s1 ⟨H1,I1,q1⟩=>?_);cases d with
 | true=>exact ha pins s1 σ H1 D I1 q1
 | false=>exact hb pins s1 σ H1 D I1 q1
end
abbrev TG:=V→St→Hp→(St→Hp→Prop)→Prop
abbrev TGs:=List V→St→Hp→(St→Hp→Prop)→Prop
def PG(X:Cx)(target:Expr)(t:TG):Prop :=
 ∀(pins:List (Addr×Obj)) (s:Shared) (σ:St) (H:Hp) (v:V) (u:Value) (Q:St→Hp→Prop),Inv X pins σ H s→RelV v u→t v σ H Q →
  wpAny (model X.prog X.w) X.A (assign target X.env u) (fun _ s'=>∃σ' H',Inv X pins σ' H' s'∧Q σ' H') X.xe s
def PGs(X:Cx)(ts:List Expr)(t:TGs):Prop :=
 ∀(pins:List (Addr×Obj)) (s:Shared) (σ:St) (H:Hp) (vs:List V) (us:List Value) (Q:St→Hp→Prop),Inv X pins σ H s→Vals vs us→t vs σ H Q →
  wpAny (model X.prog X.w) X.A (assignInOrder ((assignEach ts X.env).map (·.2)) us) (fun _ s'=>∃σ' H',Inv X pins σ' H' s'∧Q σ' H') X.xe s
abbrev TSet:=V→V→V→Hp→(Hp→Prop)→Prop
def PSet(X:Cx)(t:TSet):Prop :=
 ∀(pins:List (Addr×Obj)) (s:Shared) (σ:St) (H:Hp) (o i v:V) (ov iv u:Value) (Q:Hp→Prop),Inv X pins σ H s→RelV o ov→RelV i iv→RelV v u→t o i v H Q →
  wpAny (model X.prog X.w) X.A (setItem ov iv u) (fun _ s'=>∃H',Inv X pins σ H' s'∧Q H') X.xe s
abbrev TIp:=V→V→Hp→VK→Prop
def PIp(X:Cx)(op:Operator)(t:TIp):Prop :=
 ∀(pins:List (Addr×Obj)) (s:Shared) (σ:St) (H:Hp) (x y:V) (v u:Value) (Q:VK),Inv X pins σ H s→RelV x v→RelV y u→t x y H Q →
  wpAny (model X.prog X.w) X.A (inplaceOp op v u) (EP X pins σ Q) X.xe s
section
variable{X:Cx}{pos:Pos}
def qbR(i:Nat):TG:=fun v σ H Q=>Q (σ.set i (some v)) H
theorem qax{i:Nat}{x:Str}(hN:X.N.Nodup)(hi:X.N[i]?=some x)(hx:Loc X.env.scope x)(hf:X.fn x=true∨X.env.scope.names.lookup x=some .local:=by first | exact .inl rfl | exact .inr rfl | assumption):PG X (.Name x pos) (qbR i):=by
 intro pins s σ H v u Q I r h;exact wpAny_assign_Name (qeu I hN hi hx r (fun s' I'=>⟨_,H,I',h⟩) hf)
def gNil:TGs:=fun vs σ H Q=>vs=[]∧Q σ H
def gCons(t:TG)(u:TGs):TGs:=fun vs σ H Q=>∃v r,vs=v::r∧t v σ H fun σ' H'=>u r σ' H' Q
theorem pgs_nil:PGs X [] gNil:=by
 intro pins s σ H vs us Q I r h;obtain⟨e,h⟩:=h;subst e;cases r;exact assignInOrder_nil ⟨σ,H,I,h⟩
theorem qbm{e:Expr}{es:List Expr}{t:TG}{u:TGs}(h1:PG X e t)(h2:PGs X es u)(hs:(assignEach (e::es) X.env).map (·.2)=assign e X.env::(assignEach es X.env).map (·.2):=by rfl):PGs X (e::es) (gCons t u):=by
 intro pins s σ H vs us Q I r h;obtain⟨v,vr,e1,h⟩:=h;subst e1;cases r with
 | cons r rr =>
   rw[hs]
   refine assignInOrder_cons (thn (h1 pins s σ H _ _ _ I r h) fun _ s1 ⟨σ1,H1,I1,q1⟩=>?_)
   exact h2 pins s1 σ1 H1 _ _ Q I1 rr q1
def gTup(K:PySem.W.Frag)(n:Nat)(t:TGs):TG:=fun v σ H Q=>∃a xs,v=.ref a∧SqT K H a xs∧xs.length=n∧t xs σ H Q
theorem qe4{es:List Expr}{k:Nat}{t:TGs}{n:Nat}(hc:X.calm=true)(h:PGs X es t)(hn:(assignEach es X.env).length=n:=by rfl)(hst:(assignEach es X.env).findIdx? (·.1)=none:=by rfl):PG X (.Tuple es k pos) (gTup X.K n t):=by
 intro pins s σ H v u Q I r hw;obtain⟨a,xs,e1,hq,hl,hw⟩:=hw;subst e1;cases r;obtain⟨its,rv,ht,hz⟩:=I.tuple hq;refine assign_Tuple_tuple (I.ok.hd hc) ht (by simp[hn,←hl,rv.length]) hst fun h' hx=>?_
 have I1:Inv X pins σ H {s with heap:=h'}:=I.kept (t':=s.toks) fun b o e=>hx b o (Nat.ne_of_lt (Heap.lt_size e)) e
 exact h pins _ σ H xs _ Q I1 (by simpa using rv) hw
def gSub(to ti:TE)(t:TSet):TG:=fun v σ H Q=>to σ H fun o H1=>ti σ H1 fun i H2=>t o i v H2 fun H3=>Q σ H3
theorem qgH{o i:Expr}{to ti:TE}{t:TSet}(ho:PE X o to)(hi:PE X i ti)(hs:PSet X t)(ha:∀ v,assign (.Subscript o i pos) X.env v=(do
   let ov ← holding [v] (eval o X.env)
   let iv ← holding [v,ov] (eval i X.env)
   standAt pos
   holding [v,ov,iv] (setItem ov iv v)
   release [v,ov,iv] []):=by intro _; rfl):PG X (.Subscript o i pos) (gSub to ti t):=by
 intro pins s σ H v u Q I r h
 rw [ha]
 refine wpAny_bind (wpAny_holding (thn (ho pins s σ H _ I h) fun ov s1 ⟨x,H1,I1,r1,q1⟩=>?_))
 refine wpAny_bind (wpAny_holding (thn (hi pins s1 σ H1 _ I1 q1) fun iv s2 ⟨y,H2,I2,r2,q2⟩=>?_))
 refine wpAny_bind (wpAny_standAt (wpAny_bind (wpAny_holding (thn (hs pins s2 σ H2 x y v ov iv u _ I2 r1 r2 r q2) fun _ s3 ⟨H3,I3,q3⟩=>?_))))
 exact wpAny_release ⟨σ,H3,I3,q3⟩
def tAsg(te:TE)(g:TG):TS:=fun D σ H=>te σ H fun x H1=>g x σ H1 D.nx
theorem qgQ{tg e:Expr}{te:TE}{g:TG}(he:PE X e te)(hg:PG X tg g)(hs:swapsWithSole [tg] e pos.line X.env=pure false:=by rfl)(hw:swappedStores [tg] e X.env=pure none:=by rfl)(h1:(assignEach [tg] X.env).map (·.2)=[assign tg X.env]:=by rfl):PS X (.Assign [tg] e pos) (tAsg te g):=by
 intro pins s σ H D I h;refine wpAny_Assign_stores (thn (he pins s σ H _ I h) fun v s1 ⟨x,H1,I1,r1,q1⟩=>?_) hs hw;rw[h1];exact thn (hg pins s1 σ H1 x v _ I1 r1 q1) fun _ s2 q=>q
theorem qan{i:Nat}{x:Str}{e:Expr}{te:TE}{pos':Pos}(hN:X.N.Nodup)(hi:X.N[i]?=some x)(hx:Loc X.env.scope x)(he:PE X e te)(hs:swapsWith e (some (.Name x pos')) pos.line X.env=pure false:=by rfl)(hf:X.fn x=true∨X.env.scope.names.lookup x=some .local:=by first | exact .inl rfl | exact .inr rfl | assumption) :
  PS X (.Assign [.Name x pos'] e pos) (tAsg te (qbR i)):=by
 intro pins s σ H D I h;refine wpAny_Assign_Name (thn (he pins s σ H _ I h) fun v s1 ⟨y,H1,I1,r1,q1⟩=>?_) hs;exact qeu I1 hN hi hx r1 (fun s2 I2=>⟨_,H1,I2,q1⟩) hf
def tAug(i:Nat)(te:TE)(ti:TIp):TS:=fun D σ H=>∃x,σ[i]?=some (some x)∧te σ H fun y H1=>ti x y H1 fun z H2=>D.nx (σ.set i (some z)) H2
theorem qgs{i:Nat}{x:Str}{e:Expr}{te:TE}{op:Operator}{ti:TIp}{pos':Pos}(hN:X.N.Nodup)(hi:X.N[i]?=some x)(hx:Loc X.env.scope x)(he:PE X e te)(ho:PIp X op ti)(hf:X.fn x=true∨X.env.scope.names.lookup x=some .local:=by first | exact .inl rfl | exact .inr rfl | assumption) :
  PS X (.AugAssign (.Name x pos') op e pos) (tAug i te ti):=by
 intro pins s σ H D I h;obtain⟨v,e1,h⟩:=h;obtain⟨m,hn,hl⟩:=I.loc;have vis:Vis X.env.scope x:=by rcases hx with k | k;exact .inl k;exact .inr (.inl k)
 obtain⟨u,r,l⟩:=hl i x v hi e1 vis;refine wpAny_AugAssign_Name ?_;have go:wpAny (model X.prog X.w) X.A (eval e X.env) (fun w s₂=>wpAny (model X.prog X.w) X.A (inplaceOp op u w) (fun r s₃=>wpAny (model X.prog X.w) X.A (storeName X.env x r) (fun _=>SP X pins D .next) X.xe s₃) X.xe s₂) X.xe s:=by
  refine thn (he pins s σ H _ I h) fun w s1 ⟨y,H1,I1,r1,q1⟩=>?_
  refine thn (ho pins s1 σ H1 v y u w _ I1 r r1 q1) fun z s2 ⟨zv,H2,I2,r2,q2⟩=>?_
  exact qeu I2 hN hi hx r2 (fun s3 I3=>⟨_,H2,I3,q2⟩) hf
 rcases l with⟨hk,hm⟩ | ⟨hk,c,hc,hcell⟩
 ·exact wpAny_loadName_local I.ok.kind hk hn hm go
 ·rcases hk with hk | hk
  ·exact wpAny_loadName_cell I.ok.kind hk hc hcell go
  ·rcases hx with k | k
   ·have:X.env.scope.names.lookup x=some .free:=hk;rw[k]at this;cases this
   ·have:X.env.scope.names.lookup x=some .free:=hk;rw[k]at this;cases this
def ipI(f:Int→Int→Int):TIp:=fun x y H Q=>∃i j,x=.int i∧y=.int j∧Q (.int (f i j)) H
theorem ip_add:PIp X .Add (ipI fun i j=>i+j):=by
 intro pins s σ H x y v u Q I r1 r2 h;obtain⟨i,j,e1,e2,q⟩:=h;subst e1;subst e2;obtain⟨t,rfl⟩:=r1;obtain⟨t',rfl⟩:=r2;exact iadd_int ⟨.int _,H,I.tok _,⟨_,rfl⟩,q⟩
end
section
variable{X:Cx}{pos:Pos}
def tWhile(c:TT)(tb:TS):TS:=fun D σ H=>∃W:Nat→St→Hp→Prop,(∃m,W m σ H)∧∀m σ H,W m σ H →
 c σ H fun b H1=>if b=true then∃N:St→Hp→Prop,(∀σ' H',N σ' H'→∃m',m'<m∧W m' σ' H')∧tb {D with nx:=N,ct:=N,bk:=D.nx} σ H1 else D.nx σ H1
theorem qdb{c:Expr}{body:List Stmt}{tc:TT}{tb:TS}(hp:PassesOwn (model X.prog X.w) X.A X.env X.xe)(hc:PT X c tc)(hb:PSs X body tb):PS X (.While c body [] pos) (tWhile tc tb):=by
 intro pins s σ H D I h;obtain⟨W,⟨m0,w0⟩,turn⟩:=h;refine wpAny_While (codeAny_whileLoop (fun n s'=>∃σ' H',Inv X pins σ' H' s'∧W n σ' H') ?_ m0 ⟨σ,H,I,w0⟩);rintro n s1 ⟨σ1,H1,I1,w1⟩;refine wpAny_passesOwn hp (thn (hc pins s1 σ1 H1 _ I1 (turn n σ1 H1 w1)) fun b s2 ⟨H2,I2,q2⟩=>?_);cases b with
 | true =>
   obtain⟨N,hN,q2⟩:=q2
   rw[if_pos rfl]
   refine wpAny_passesOwn hp (thn (hb pins s2 σ1 H2 _ I2 q2) fun f s3 q3=>?_)
   cases f with
   | next =>
     obtain⟨σ3,H3,I3,n3⟩:=q3
     obtain⟨m',hm,w3⟩:=hN σ3 H3 n3
     exact⟨m',hm,σ3,H3,I3,w3⟩
   | cont =>
     obtain⟨σ3,H3,I3,n3⟩:=q3
     obtain⟨m',hm,w3⟩:=hN σ3 H3 n3
     exact⟨m',hm,σ3,H3,I3,w3⟩
   | brk=>exact q3
   | ret v=>exact q3
 | false =>
   rw[if_neg Bool.false_ne_true]
   exact wpAny_execs_nil ⟨σ1,H2,I2,q2⟩
end
structure It where
 go:Nat→Hp→Prop
 yld:Nat→Hp→V→Hp→Prop
 stop:Nat→Hp→Prop
def FpOk(X:Cx)(pins:List (Addr×Obj))(H:Hp)(b:Addr):Prop :=
 H b=none∧b≠X.env.locals∧b∉X.fs∧(b∈X.ex∨X.s₀.heap.objs.size≤b)∧(∀x c,X.env.cells.lookup x=some c→c≠b)∧∀p∈X.pn++pins,p.1≠b
theorem Inv.fpOk{X:Cx}{pins:List (Addr×Obj)}{σ:St}{H H':Hp}{s:Shared}{b:Addr}(I:Inv X pins σ H s)(hb:s.heap.objs.size≤b)(hn:H' b=none):FpOk X pins H' b:=by
 refine⟨hn,Nat.ne_of_gt (Nat.lt_of_lt_of_le I.lt hb),I.nofs hb,.inr (Nat.le_trans I.sz hb),fun x c e z=>?_,fun p hp z=>?_⟩
 ·obtain⟨v,q⟩:=I.cell x c e;exact absurd (Nat.lt_of_lt_of_le q.lt (by rw[z];exact hb)) (Nat.lt_irrefl _)
 ·exact absurd (Nat.lt_of_lt_of_le (Heap.lt_size (I.pin p hp).1) (by rw[z];exact hb)) (Nat.lt_irrefl _)
structure Turn(P:Program)(w:World)(K:PySem.W.Frag)(tg:Expr)(J:It)(fp:List Addr)(it:Addr)(tn:Nat→Heap→Prop):Prop where
 mem:it∈fp
 obj:∀i h,tn i h→∀b∈fp,∃o,h.get? b=some o∧∀v,o.data≠.cell v
 keep:∀i h h',tn i h→(∀b∈fp,∀o,h.get? b=some o→h'.get? b=some o)→tn i h'
 item:∀(X:Cx),X.prog=P→X.w=w→X.K=K→X.calm=true→∀(i:Nat) (pins:List (Addr×Obj)) (s:Shared) (σ:St) (H:Hp) (E:Value→Shared→Prop),Inv X pins σ H s→(∀b∈fp,FpOk X pins H b)→tn i s.heap→J.go i H →
  wpAny (model P w) X.A (pyNext (.ref it)) (fun r s1=>∃u,r=some u ∧
   wpAny (model P w) X.A (letOwnedTupleGo tg (.ref it) u) (fun _ s2=>∃x H',Inv X pins σ H' s2∧RelV x u∧J.yld i H x H'∧tn (i+1) s2.heap∧∀b∈fp,H' b=none) E s1) E s
 done:∀(X:Cx),X.prog=P→X.w=w→X.K=K→X.calm=true→∀(i:Nat) (pins:List (Addr×Obj)) (s:Shared) (σ:St) (H:Hp) (E:Value→Shared→Prop),Inv X pins σ H s→(∀b∈fp,FpOk X pins H b)→tn i s.heap→J.stop i H →
  wpAny (model P w) X.A (pyNext (.ref it)) (fun r s1=>r=none∧Inv X pins σ H s1) E s
 self:∀(A:Around) (i:Nat) (s:Shared) (Q:Value→Shared→Prop) (E:Value→Shared→Prop),tn i s.heap→Q (.ref it) s→wpAny (model P w) A (pyIter (.ref it)) Q E s
abbrev TI:=St→Hp→(It→Hp→Prop)→Prop
def PIE(X:Cx)(pins:List (Addr×Obj))(σ:St)(tg:Expr)(R:It→Hp→Prop)(itv:Value)(s2:Shared):Prop :=
 ∃(it:Addr) (fp:List Addr) (tn:Nat→Heap→Prop) (J:It) (H':Hp),itv=.ref it∧Inv X pins σ H' s2∧Turn X.prog X.w X.K tg J fp it tn∧tn 0 s2.heap∧(∀b∈fp,FpOk X pins H' b)∧R J H'
def PI(X:Cx)(tg iter:Expr)(wi:TI):Prop :=
 ∀(pins:List (Addr×Obj)) (s:Shared) (σ:St) (H:Hp) (R:It→Hp→Prop),Inv X pins σ H s→wi σ H R →
  wpAny (model X.prog X.w) X.A (eval iter X.env) (fun v s1=>wpAny (model X.prog X.w) X.A (pyIter v) (PIE X pins σ tg R) X.xe s1) X.xe s
theorem qgB{M:Model}{A:Around}{E:Value→Shared→Prop}{s:Shared}{tg:Expr}{it:Addr}{u:Value}{o:Obj}{n:String}{vs:Array Value}{Q:Unit→Shared→Prop}(ho:s.heap.get? it=some o)(hc:o.cls=.type n)(hd:o.data=.fields vs)(hn:["enumerate", "zip", "dict_itemiterator", "dict_reverseitemiterator", "odict_iterator", "itertools.zip_longest", "itertools.pairwise"].contains n=false)(hQ:Q () s):wpAny M A (letOwnedTupleGo tg (.ref it) u) Q E s:=by
 unfold letOwnedTupleGo;cases tg<;>first
  | exact wpAny_pure hQ
  | (cases u<;>first
    | exact wpAny_pure hQ
    | (refine wpAny_bind (wpAny_load ho ?_)
       rw[hc,hd]
       show wpAny M A (if(["enumerate", "zip", "dict_itemiterator", "dict_reverseitemiterator", "odict_iterator", "itertools.zip_longest", "itertools.pairwise"].contains n && vs[0]? == some (rawInt _))=true then _ else _) Q E s
       rw[if_neg (by intro h;rw[hn,Bool.false_and]at h;cases h)]
       exact wpAny_pure hQ))
def Itl(K:PySem.W.Frag)(a:Addr):It :=
 ⟨fun i H=>∃xs x,SqL K H a xs∧xs[i]?=some x,fun i H x H'=>H'=H∧∀xs,SqL K H a xs→xs[i]?=some x,fun i H=>∃xs,SqL K H a xs∧xs.length≤i⟩
def Itr(lo:Int)(n:Nat):It:=⟨fun i _=>i<n,fun i H x H'=>H'=H∧x=.int (lo+i),fun i _=>n≤i⟩
theorem turn_list{P:Program}{w:World}{K:PySem.W.Frag}{tg:Expr}(a it:Addr):Turn P w K tg (Itl K a) [it] it (fun i h=>h.IsListIter it a i) where
 mem:=by simp
 obj:=fun i h st b hb=>by
  have e:b=it:=by simpa using hb
  subst e;obtain⟨o,e,c,d⟩:=st;exact⟨o,e,fun v z=>by rw[d]at z;cases z⟩
 keep:=fun i h h' st k=>st.at fun o e=>k it (by simp) o e
 item:=by
  intro X hP hw hK hc i pins s σ H E I hf st hg;subst hP hw hK;obtain⟨xs,x,hq,hx⟩:=hg;obtain⟨its,rv,p,hz⟩:=I.list hq;obtain⟨u,hu,ru⟩:=rv.get hx;obtain⟨f0,f1,f2,f3,f4,f5⟩:=hf it (by simp);refine wpAny_pyNext_list_item st p.isList (x:=u) (by simpa using hu) fun h' st' sb=>?_
  have I1:Inv X pins σ H {s with heap:=h'}:=I.turned (t':=s.toks) (fun b o hb e=>(sb.2 b hb).trans e) f0 f1 f3 f4 f5;obtain⟨o,e,c,d⟩:=id st';exact⟨u,rfl,qgB (s:={s with heap:=h'}) e c d (by decide) ⟨x,H,I1,ru,⟨rfl,fun ys hy=>by rw[I.list_inj hy hq];exact hx⟩,st',fun b hb=>(hf b hb).1⟩⟩
 done:=by
  intro X hP hw hK hc i pins s σ H E I hf st hg;subst hP hw hK;obtain⟨xs,hq,hx⟩:=hg;obtain⟨its,rv,p,hz⟩:=I.list hq;obtain⟨f0,f1,f2,f3,f4,f5⟩:=hf it (by simp);have hl:=rv.length;exact wpAny_pyNext_list_end (I.ok.hd hc) st p.isList (by simp;omega) fun h' eb=>⟨rfl,I.turned (t':=s.toks) (fun b o hb e=>eb b o hb e) f0 f1 f3 f4 f5⟩
 self:=fun _ _ _ _ _ st h=>wpAny_pyIter_listiter st h
theorem turn_range{P:Program}{w:World}{K:PySem.W.Frag}{tg:Expr}(it:Addr)(lo:Int)(n:Nat):Turn P w K tg (Itr lo n) [it] it (fun i h=>IsRangeIter h it (lo+(i:Nat)*1) ((n:Int)-(i:Nat)) 1) where
 mem:=by simp
 obj:=fun i h st b hb=>by
  have e:b=it:=by simpa using hb
  subst e;exact⟨_,st,fun v z=>by
   have z':Data.fields _=Data.cell v:=z;cases z'⟩
 keep:=fun i h h' st k=>k it (by simp) _ st
 item:=by
  intro X hP hw hK hc i pins s σ H E I hf st hg;subst hP hw hK;obtain⟨f0,f1,f2,f3,f4,f5⟩:=hf it (by simp);have W:=Walks.range (prog:=X.prog) (w:=X.w) (I.ok.hd hc) it lo 1 n;refine W.item i s _ _ hg st fun v h' tk hv st' kk=>?_
  obtain⟨t,rfl⟩:=hv;have I1:Inv X pins σ H {s with heap:=h',toks:=tk}:=I.turned (fun b o hb e=>kk b o (by simpa using hb) e) f0 f1 f3 f4 f5;refine⟨_,rfl,qgB (s:={s with heap:=h',toks:=tk}) (n := "range_iterator") st' rfl rfl (by decide) ⟨.int (lo+i),H,I1,⟨t,?_⟩,⟨rfl,rfl⟩,st',fun b hb=>(hf b hb).1⟩⟩;rw[Int.mul_one]
 done:=by
  intro X hP hw hK hc i pins s σ H E I hf st hg;subst hP hw hK;obtain⟨f0,f1,f2,f3,f4,f5⟩:=hf it (by simp);exact wpAny_pyNext_range_end (I.ok.hd hc) st (by have:n≤i:=hg;omega) fun h' eb=>⟨rfl,I.turned (t':=s.toks) (fun b o hb e=>eb b o hb e) f0 f1 f3 f4 f5⟩
 self:=fun _ _ _ _ _ st h=>wpAny_pyIter_rangeiter st h
end L2
namespace L2
open PySem PySem.Spec PyProof.Rows
section
variable{X:Cx}{tg:Expr}
def iList(K:PySem.W.Frag)(tl:TE):TI:=fun σ H R=>tl σ H fun x H1=>∃a,x=.ref a∧(∃xs,SqL K H1 a xs)∧R (Itl K a) H1
theorem qbg{l:Expr}{tl:TE}(hl:PE X l tl):PI X tg l (iList X.K tl):=by
 intro pins s σ H R I h;refine thn (hl pins s σ H _ I h) fun v s1 ⟨x,H1,I1,r1,q1⟩=>?_
 obtain⟨a,e,⟨xs,hq⟩,q⟩:=q1;subst e;cases r1;obtain⟨its,rv,p,hz⟩:=I1.list hq;refine wpAny_pyIter_list p.isList ?_;refine⟨s1.heap.objs.size,[s1.heap.objs.size],_,_,H1,rfl,I1.kept (t':=s1.toks) fun b o e=>Heap.get?_push_of_some _ e,turn_list a _,⟨_,Heap.get?_push_size _ rfl,rfl,rfl⟩,fun b hb=>?_,q⟩;have e:b=s1.heap.objs.size:=by simpa using hb
 subst e;exact I1.fpOk (Nat.le_refl _) (I1.hok.fresh (Nat.le_refl _))
theorem range_it{pins:List (Addr×Obj)}{σ:St}{H:Hp}{s:Shared}{R:It→Hp→Prop}{E:Value→Shared→Prop}{lo hi:Int}{t u v:Tok}{tk:Nat}(I:Inv X pins σ H s)(h1:-(2 ^ 62)≤lo)(h2:lo<2 ^ 62)(h3:-(2 ^ 62)≤hi)(h4:hi<2 ^ 62)(q:R (Itr lo (hi-lo).toNat) H):wpAny (model X.prog X.w) X.A (pyIter (.ref s.heap.objs.size)) (PIE X pins σ tg R) E {s with heap:=s.heap.push {cls:=.type "range",data:=.fields #[.int lo t,.int hi u,.int 1 v]},toks:=tk}:=by
 refine wpAny_pyIter_range (IsRange.new ..) (small_one h1 h2 h3 h4) ?_;have I1:Inv X pins σ H {s with heap:=s.heap.push {cls:=.type "range",data:=.fields #[.int lo t,.int hi u,.int 1 v]},toks:=tk}:=I.kept fun b o e=>Heap.get?_push_of_some _ e
 refine⟨(s.heap.push {cls:=.type "range",data:=.fields #[.int lo t,.int hi u,.int 1 v]}).objs.size,[(s.heap.push {cls:=.type "range",data:=.fields #[.int lo t,.int hi u,.int 1 v]}).objs.size],_,_,H,rfl,
  I1.kept (t':=tk) fun b o e=>Heap.get?_push_of_some _ e,turn_range _ lo (hi-lo).toNat,?_,fun b hb=>?_,q⟩
 ·have e1:lo+((0:Nat):Int)*1=lo:=by simp
  have e2:(((hi-lo).toNat:Nat):Int)-((0:Nat):Int)=Builtin.Range.rangeSize lo hi 1:=by rw[rangeSize_one];split<;>omega
  show IsRangeIter _ _ (lo+((0:Nat):Int)*1) ((((hi-lo).toNat:Nat):Int)-((0:Nat):Int)) 1;rw[e1,e2];exact Heap.get?_push_size _ rfl
 ·have e:b=(s.heap.push {cls:=.type "range",data:=.fields #[.int lo t,.int hi u,.int 1 v]}).objs.size:=by simpa using hb
  subst e;exact I1.fpOk (Nat.le_refl _) (I1.hok.fresh (Nat.le_refl _))
def iRng1(ta:TA):TI:=fun σ H R=>ta σ H fun vs H1=>∃j:Int,vs=[.int j]∧-(2 ^ 62)≤j∧j<2 ^ 62∧R (Itr 0 j.toNat) H1
theorem qbQ{a:Expr}{ta:TA}{p pos:Pos}(hg:Gl X "range")(hm:X.mg "range" = none)(ha:PA X [a] ta)(hs:starEach [a] X.env=[(false,eval a X.env)]:=by rfl):PI X tg (.Call (.Name "range" p) [a] [] pos) (iRng1 ta):=by
 intro pins s σ H R I h;refine Call_ (qc8 I hg hm boot_range (PyProof.Rows.callWith_type1 (thn (ha pos pins s σ H _ I h) fun us s1 ⟨vs,H1,I1,r1,q1⟩=>?_) hs rfl));obtain⟨j,e,q1,q2,q⟩:=q1;subst e;cases r1 with
 | cons r rr =>
   cases rr
   obtain⟨t,rfl⟩:=r
   exact call_range_1 (range_it I1 (by omega) (by omega) q1 q2 (by simpa using q))
def tFor(wi:TI)(g:TG)(tb:TS):TS:=fun D σ H=>wi σ H fun J H1=>∃W:Nat→Nat→St→Hp→Prop,(∃m,W 0 m σ H1)∧∀i m σ H,W i m σ H →
 (J.stop i H∧D.nx σ H)∨(J.go i H∧∃N:St→Hp→Prop,(∀σ' H',N σ' H'→∃m',m'<m∧W (i+1) m' σ' H')∧∀x H',J.yld i H x H'→g x σ H' fun σ2 H2=>tb {D with nx:=N,ct:=N,bk:=D.nx} σ2 H2)
def qdB(fp:List Addr)(h:Heap):List (Addr×Obj):=fp.filterMap fun b=>(h.get? b).map fun o=>(b,o)
theorem qbM{fp:List Addr}{h:Heap}{b:Addr}{o:Obj}(hb:b∈fp)(e:h.get? b=some o):(b,o)∈qdB fp h:=List.mem_filterMap.mpr ⟨b,hb,by rw[e];rfl⟩
theorem qe0{fp:List Addr}{h:Heap}{p:Addr×Obj}(hp:p∈qdB fp h):p.1∈fp∧h.get? p.1=some p.2:=by
 obtain⟨b,hb,e⟩:=List.mem_filterMap.mp hp;cases q:h.get? b with
 | none=>rw[q]at e;cases e
 | some o =>
   rw[q]at e
   have e':(b,o)=p:=Option.some.inj e
   subst e'
   exact⟨hb,q⟩
theorem Inv.pinned{pins:List (Addr×Obj)}{σ:St}{H:Hp}{s:Shared}{fp:List Addr}(I:Inv X pins σ H s)(hf:∀b∈fp,FpOk X pins H b)(ho:∀b∈fp,∃o,s.heap.get? b=some o∧∀v,o.data≠.cell v):Inv X (pins++qdB fp s.heap) σ H s :=
 I.pins_of fun p hp=>(List.mem_append.mp hp).elim (fun z=>I.pin p (List.mem_append_right _ z)) fun z=>by
  obtain⟨hb,e⟩:=qe0 z;obtain⟨f0,f1,f2,_⟩:=hf p.1 hb;obtain⟨o,e',d⟩:=ho p.1 hb;rw[e]at e';cases e';exact⟨e,f0,f1,f2,d⟩
theorem Inv.unpinned{pins pl:List (Addr×Obj)}{σ:St}{H:Hp}{s:Shared}(I:Inv X (pins++pl) σ H s):Inv X pins σ H s:=I.pins_of fun p hp=>I.pin p (List.mem_append_right _ (List.mem_append_left _ hp))
theorem qb4{iter:Expr}{body:List Stmt}{wi:TI}{g:TG}{tb:TS}{pos:Pos}(hp:PassesOwn (model X.prog X.w) X.A X.env X.xe)(hc:X.calm=true)(hi:PI X tg iter wi)(hg:PG X tg g)(hb:PSs X body tb)(hs:∀x,foldedSetIterable iter X.env x=pure x:=by intro _;rfl):PS X (.For tg iter body [] pos) (tFor wi g tb):=by
 intro pins s σ H D I h;refine wpAny_For (thn (hi pins s σ H _ I h) fun v s1 h1=>thn h1 fun itv s2 h2=>?_) hs;obtain⟨it,fp,tn,J,H2,e,I2,T,st2,f2,W,⟨m0,w0⟩,turn⟩:=h2;subst e;have stat:∀{H':Hp},(∀b∈fp,H' b=none)→∀b∈fp,FpOk X pins H' b:=fun hn b hb=>⟨hn b hb,(f2 b hb).2⟩
 refine codeAny_forLoop_any (fun n s'=>∃i σ' H',Inv X pins σ' H' s'∧tn i s'.heap∧(∀b∈fp,H' b=none)∧W i n σ' H') ?_ m0 ⟨0,σ,H2,I2,st2,fun b hb=>(f2 b hb).1,w0⟩;rintro n s3 ⟨i,σ3,H3,I3,st3,fr3,w3⟩;rcases turn i n σ3 H3 w3 with⟨stop,qn⟩ | ⟨go,N,hN,step⟩
 ·refine wpAny_passesOwn hp (thn (T.done X rfl rfl rfl hc i pins s3 σ3 H3 X.xe I3 (stat fr3) st3 stop) fun r s4 ⟨hr,I4⟩=>?_);subst hr;exact wpAny_execs_nil ⟨σ3,H3,I4,qn⟩
 ·refine wpAny_passesOwn hp (thn (T.item X rfl rfl rfl hc i pins s3 σ3 H3 X.xe I3 (stat fr3) st3 go) fun r s4 ⟨u,hr,h4⟩=>?_);subst hr;refine wpAny_passesOwn hp (thn h4 fun _ s5 ⟨x,H5,I5,r5,y5,st5,fr5⟩=>?_);have I5':=I5.pinned (stat fr5) (T.obj _ _ st5);refine wpAny_passesOwn hp (thn (hg _ s5 σ3 H5 x u _ I5' r5 (step x H5 y5)) fun _ s6 ⟨σ6,H6,I6,q6⟩=>?_);refine wpAny_passesOwn hp (thn (hb _ s6 σ6 H6 _ I6 q6) fun f s7 q7=>?_);have again:∀{σ7:St} {H7:Hp},Inv X (pins++qdB fp s5.heap) σ7 H7 s7→N σ7 H7→∃m,m<n∧∃i σ' H',Inv X pins σ' H' s7∧tn i s7.heap∧(∀b∈fp,H' b=none)∧W i m σ' H':=fun {σ7 H7} I7 n7=>by
   obtain⟨m',hm,w7⟩:=hN σ7 H7 n7;refine⟨m',hm,i+1,σ7,H7,I7.unpinned,T.keep _ _ _ st5 fun b hb o e=>(I7.pin (b,o) (List.mem_append_right _ (List.mem_append_right _ (qbM hb e)))).1,fun b hb=>?_,w7⟩;obtain⟨o,e,d⟩:=T.obj _ _ st5 b hb;exact(I7.pin (b,o) (List.mem_append_right _ (List.mem_append_right _ (qbM hb e)))).2.1
  cases f with
  | next=>obtain⟨σ7,H7,I7,n7⟩:=q7;exact again I7 n7
  | cont=>obtain⟨σ7,H7,I7,n7⟩:=q7;exact again I7 n7
  | brk=>obtain⟨σ7,H7,I7,q7⟩:=q7;exact⟨σ7,H7,I7.unpinned,q7⟩
  | ret v=>obtain⟨x7,σ7,H7,I7,r7,q7⟩:=q7;exact⟨x7,σ7,H7,I7.unpinned,r7,q7⟩
end
theorem qdd{K:PySem.W.Frag}{a:Addr}{xs:List V}{g:TG}{tb:TS}{D:Ends}{σ:St}{H:Hp}(Pv:Nat→St→Hp→Prop)(h0:Pv 0 σ H)(hl:∀i σ H,i≤xs.length→Pv i σ H→SqL K H a xs)(hs:∀i x σ H,xs[i]?=some x→Pv i σ H→g x σ H fun σ2 H2=>tb {D with nx:=Pv (i+1),ct:=Pv (i+1),bk:=D.nx} σ2 H2)(hd:∀σ H,Pv xs.length σ H→D.nx σ H) :
  ∃W:Nat→Nat→St→Hp→Prop,(∃m,W 0 m σ H)∧∀i m σ H,W i m σ H →
   ((Itl K a).stop i H∧D.nx σ H)∨((Itl K a).go i H∧∃N:St→Hp→Prop,(∀σ' H',N σ' H'→∃m',m'<m∧W (i+1) m' σ' H')∧∀x H',(Itl K a).yld i H x H'→g x σ H' fun σ2 H2=>tb {D with nx:=N,ct:=N,bk:=D.nx} σ2 H2):=by
 refine⟨fun i m σ H=>m=xs.length-i∧i≤xs.length∧Pv i σ H,⟨xs.length,by simp,Nat.zero_le _,h0⟩,?_⟩;rintro i m σ H ⟨rfl,hi,p⟩;have q:=hl i σ H hi p
 by_cases hlt:i<xs.length
 ·refine .inr ⟨⟨xs,xs[i],q,by simp[hlt]⟩,Pv (i+1),fun σ' H' p'=>⟨xs.length-(i+1),by omega,rfl,hlt,p'⟩,fun x H' y=>?_⟩;obtain⟨e,y⟩:=y;subst e;exact hs i x σ _ (y xs q) p
 ·have e:i=xs.length:=by omega
  subst e;exact .inl ⟨⟨xs,q,Nat.le_refl _⟩,hd σ H p⟩
theorem qcT{lo:Int}{n:Nat}{g:TG}{tb:TS}{D:Ends}{σ:St}{H:Hp}(Pv:Nat→St→Hp→Prop)(h0:Pv 0 σ H)(hs:∀i σ H,i<n→Pv i σ H→g (.int (lo+i)) σ H fun σ2 H2=>tb {D with nx:=Pv (i+1),ct:=Pv (i+1),bk:=D.nx} σ2 H2)(hd:∀σ H,Pv n σ H→D.nx σ H) :
  ∃W:Nat→Nat→St→Hp→Prop,(∃m,W 0 m σ H)∧∀i m σ H,W i m σ H →
   ((Itr lo n).stop i H∧D.nx σ H)∨((Itr lo n).go i H∧∃N:St→Hp→Prop,(∀σ' H',N σ' H'→∃m',m'<m∧W (i+1) m' σ' H')∧∀x H',(Itr lo n).yld i H x H'→g x σ H' fun σ2 H2=>tb {D with nx:=N,ct:=N,bk:=D.nx} σ2 H2):=by
 refine⟨fun i m σ H=>m=n-i∧i≤n∧Pv i σ H,⟨n,by simp,Nat.zero_le _,h0⟩,?_⟩;rintro i m σ H ⟨rfl,hi,p⟩
 by_cases hlt:i<n
 ·refine .inr ⟨hlt,Pv (i+1),fun σ' H' p'=>⟨n-(i+1),by omega,rfl,hlt,p'⟩,fun x H' y=>?_⟩;obtain⟨e,y⟩:=y;subst e y;exact hs i σ _ hlt p
 ·have e:i=n:=by omega
  subst e;exact .inl ⟨Nat.le_refl _,hd σ H p⟩
end L2
namespace L2
open PySem PySem.Spec PyProof.Rows
abbrev R2:=V→V→Hp→VK→Prop
def OpR(X:Cx)(f:Value→Value→Sem Value)(r:R2):Prop :=
 ∀(pins:List (Addr×Obj)) (s:Shared) (σ:St) (H:Hp) (x y:V) (v u:Value) (Q:VK),Inv X pins σ H s→RelV x v→RelV y u→r x y H Q →
  wpAny (model X.prog X.w) X.A (f v u) (EP X pins σ Q) X.xe s
def UnR(X:Cx)(f:Value→Sem Value)(r:V→Hp→VK→Prop):Prop :=
 ∀(pins:List (Addr×Obj)) (s:Shared) (σ:St) (H:Hp) (x:V) (v:Value) (Q:VK),Inv X pins σ H s→RelV x v→r x H Q →
  wpAny (model X.prog X.w) X.A (f v) (EP X pins σ Q) X.xe s
def qcV(X:Cx)(f:Value)(r:List V→Hp→VK→Prop):Prop :=
 ∀(pins:List (Addr×Obj)) (s:Shared) (σ:St) (H:Hp) (xs:List V) (us:List Value) (Q:VK),Inv X pins σ H s→Vals xs us→r xs H Q →
  wpAny (model X.prog X.w) X.A (call f us) (EP X pins σ Q) X.xe s
def tOp(r:R2)(ta tb:TE):TE:=fun σ H Q=>ta σ H fun x H1=>tb σ H1 fun y H2=>r x y H2 Q
def tUn(r:V→Hp→VK→Prop)(ta:TE):TE:=fun σ H Q=>ta σ H fun x H1=>r x H1 Q
def rI(C:Int→Int→Prop)(g:Int→Int→V):R2:=fun x y H Q=>∃i j,x=.int i∧y=.int j∧C i j∧Q (g i j) H
def rI0(g:Int→Int→V):R2:=fun x y H Q=>∃i j,x=.int i∧y=.int j∧Q (g i j) H
def rU(g:Int→V):V→Hp→VK→Prop:=fun x H Q=>∃i,x=.int i∧Q (g i) H
section
variable{X:Cx}{a b c:Expr}{ta tb tc:TE}{pos:Pos}
theorem binT(ha:PE X a ta)(hb:PE X b tb){pins:List (Addr×Obj)}{s:Shared}{σ:St}{H:Hp}{R:V→V→Hp→Prop}(I:Inv X pins σ H s)(h:ta σ H fun x H1=>tb σ H1 fun y H2=>R x y H2){Q:Value→Shared→Prop}{f:Value→Value→Sem Value}(hf:∀v u s2 x y H2,Inv X pins σ H2 s2→RelV x v→RelV y u→R x y H2→wpAny (model X.prog X.w) X.A (f v u) Q X.xe s2) :
  wpAny (model X.prog X.w) X.A (eval a X.env) (fun v s₁=>wpAny (model X.prog X.w) X.A (eval b X.env) (fun u s₂=>wpAny (model X.prog X.w) X.A (f v u) Q X.xe s₂) X.xe s₁) X.xe s:=by
 refine thn (ha pins s σ H _ I h) fun v s1 ⟨x,H1,I1,r1,q1⟩=>?_
 refine thn (hb pins s1 σ H1 _ I1 q1) fun u s2 ⟨y,H2,I2,r2,q2⟩=>?_
 exact hf v u s2 x y H2 I2 r1 r2 q2
theorem qaE{op:Operator}{r:R2}(ho:OpR X (binaryOp op) r)(ha:PE X a ta)(hb:PE X b tb):PE X (.BinOp a op b pos) (tOp r ta tb):=by
 intro pins s σ H Q I h;exact wpAny_BinOp (binT ha hb I h fun v u s2 x y H2 I2 rx ry q=>ho pins s2 σ H2 x y v u Q I2 rx ry q)
theorem qcY{op:UnaryOp}{r:V→Hp→VK→Prop}(ho:UnR X (unaryOp op) r)(ha:PE X a ta):PE X (.UnaryOp op a pos) (tUn r ta):=by
 intro pins s σ H Q I h;exact UnaryOp_ (thn (ha pins s σ H _ I h) fun v s1 ⟨x,H1,I1,r1,q1⟩=>ho pins s1 σ H1 x v Q I1 r1 q1)
theorem opI{f:Value→Value→Sem Value}{C:Int→Int→Prop}{g:Int→Int→Int}(rule:∀(i j:Int) (t u:Tok) (s:Shared) (Q:Value→Shared→Prop) (E:Value→Shared→Prop),C i j→Q (.int (g i j) s.toks) {s with toks:=s.toks+1}→wpAny (model X.prog X.w) X.A (f (.int i t) (.int j u)) Q E s) :
  OpR X f (rI C fun i j=>.int (g i j)):=by
 intro pins s σ H x y v u Q I rx ry h;obtain⟨i,j,rfl,rfl,hc,q⟩:=h;obtain⟨t,rfl⟩:=rx;obtain⟨t',rfl⟩:=ry;exact rule i j t t' s _ _ hc ⟨.int (g i j),H,I.tok _,⟨_,rfl⟩,q⟩
theorem opI0{f:Value→Value→Sem Value}{g:Int→Int→Int}(rule:∀(i j:Int) (t u:Tok) (s:Shared) (Q:Value→Shared→Prop) (E:Value→Shared→Prop),Q (.int (g i j) s.toks) {s with toks:=s.toks+1}→wpAny (model X.prog X.w) X.A (f (.int i t) (.int j u)) Q E s) :
  OpR X f (rI0 fun i j=>.int (g i j)):=by
 intro pins s σ H x y v u Q I rx ry h;obtain⟨i,j,rfl,rfl,q⟩:=h;obtain⟨t,rfl⟩:=rx;obtain⟨t',rfl⟩:=ry;exact rule i j t t' s _ _ ⟨.int (g i j),H,I.tok _,⟨_,rfl⟩,q⟩
theorem opB0{f:Value→Value→Sem Value}{g:Int→Int→Bool}(rule:∀(i j:Int) (t u:Tok) (s:Shared) (Q:Value→Shared→Prop) (E:Value→Shared→Prop),Q (.bool (g i j)) s→wpAny (model X.prog X.w) X.A (f (.int i t) (.int j u)) Q E s) :
  OpR X f (rI0 fun i j=>.bl (g i j)):=by
 intro pins s σ H x y v u Q I rx ry h;obtain⟨i,j,rfl,rfl,q⟩:=h;obtain⟨t,rfl⟩:=rx;obtain⟨t',rfl⟩:=ry;exact rule i j t t' s _ _ ⟨.bl (g i j),H,I,rfl,q⟩
def CMul(i j:Int):Prop:=(-(2 ^ 64)<i∧i<2 ^ 64)∨(-(2 ^ 64)<j∧j<2 ^ 64)
theorem CMul.ok{i j:Int}(h:CMul i j):IntMulOk i j:=by
 rcases h with⟨h1,h2⟩ | ⟨h1,h2⟩
 ·exact .of_left (intBits_le_64 h1 h2)
 ·exact .of_right (intBits_le_64 h1 h2)
theorem op_add:OpR X (binaryOp .Add) (rI0 fun i j=>.int (i+j)):=opI0 fun _ _ _ _ _ _ _ q=>add_int q
theorem op_sub:OpR X (binaryOp .Sub) (rI0 fun i j=>.int (i-j)):=opI0 fun _ _ _ _ _ _ _ q=>sub_int q
theorem op_mul:OpR X (binaryOp .Mult) (rI CMul fun i j=>.int (i*j)):=opI fun _ _ _ _ _ _ _ hc q=>mul_int q hc.ok
theorem op_mod:OpR X (binaryOp .Mod) (rI (fun _ j=>0<j) fun i j=>.int (i % j)):=opI fun i j _ _ _ _ _ hc q=>by
 have h1:(0:Int)<j:=hc;exact mod_int' (by omega) (by rw[Int.fmod_eq_emod_of_nonneg i (by omega)];exact q)
theorem unI{f:Value→Sem Value}{g:Int→Int}(rule:∀(i:Int) (t:Tok) (s:Shared) (Q:Value→Shared→Prop) (E:Value→Shared→Prop),Q (.int (g i) s.toks) {s with toks:=s.toks+1}→wpAny (model X.prog X.w) X.A (f (.int i t)) Q E s) :
  UnR X f (rU fun i=>.int (g i)):=by
 intro pins s σ H x v Q I rx h;obtain⟨i,rfl,q⟩:=h;obtain⟨t,rfl⟩:=rx;exact rule i t s _ _ ⟨.int (g i),H,I.tok _,⟨_,rfl⟩,q⟩
theorem un_neg:UnR X (unaryOp .USub) (rU fun i=>.int (-i)):=unI fun _ _ _ _ _ q=>neg_int q
end
def scal:V→V→Bool
 | .non,.non=>true | .non,.int _=>true | .int _,.non=>true | .non,.bl _=>true | .bl _,.non=>true | .non,.str _=>true | .str _,.non=>true
 | .int _,.int _=>true | .bl _,.bl _=>true | .str _,.str _=>true | .byt _,.byt _=>true
 | .int _,.str _=>true | .str _,.int _=>true | .bl _,.str _=>true | .str _,.bl _=>true
 | _,_=>false
def rEq:R2:=fun x y H Q=>scal x y=true∧Q (.bl (decide (x=y))) H
def rNe:R2:=fun x y H Q=>scal x y=true∧Q (.bl (!decide (x=y))) H
theorem qf4{i j:Int}:decide (V.int i=V.int j)=(i == j):=by
 rw[Bool.eq_iff_iff];simp
theorem qgV{i j:Bool}:decide (V.bl i=V.bl j)=(i == j):=by
 rw[Bool.eq_iff_iff];simp
theorem qf7{i j:Str}:decide (V.str i=V.str j)=(i == j):=by
 rw[Bool.eq_iff_iff];simp
theorem qf5{i j:Array UInt8}:decide (V.byt i=V.byt j)=(i.toList == j.toList):=by
 rw[Bool.eq_iff_iff];cases i;cases j;simp
section
variable{X:Cx}{a b c:Expr}{ta tb tc:TE}{pos:Pos}
theorem qaU{pins:List (Addr×Obj)}{σ:St}{H:Hp}{s:Shared}{Q:VK}{k k':Bool}(I:Inv X pins σ H s)(q:Q (.bl k) H)(e:k=k'):EP X pins σ Q (.bool k') s:=by
 subst e;exact⟨.bl k,H,I,rfl,q⟩
theorem op_eq:OpR X (compareOp .Eq) rEq:=by
 intro pins s σ H x y v u Q I rx ry h;obtain⟨hs,q⟩:=h;cases x with
 | non =>
   cases rx
   cases y with
   | non=>cases ry;exact PySem.EqNone.eq_none_none (qaU I q (by simp))
   | bl j=>cases ry;exact PySem.EqNone.eq_none_bool (qaU I q (by simp))
   | int j=>obtain⟨t',rfl⟩:=ry;exact PySem.EqNone.eq_none_int (qaU I q (by simp))
   | str j=>obtain⟨t',rfl⟩:=ry;exact PySem.EqNone.eq_none_str (qaU I q (by simp))
   | _=>exact absurd (show false=true from hs) Bool.false_ne_true
 | bl i =>
   cases rx
   cases y with
   | non=>cases ry;exact PySem.EqNone.eq_bool_none (qaU I q (by simp))
   | bl j=>cases ry;exact eq_bool (qaU I q qgV)
   | str j=>obtain⟨t',rfl⟩:=ry;exact PySem.EqMixed.eq_bool_str (qaU I q (by simp))
   | _=>exact absurd (show false=true from hs) Bool.false_ne_true
 | int i =>
   obtain⟨t,rfl⟩:=rx
   cases y with
   | non=>cases ry;exact PySem.EqNone.eq_int_none (qaU I q (by simp))
   | int j=>obtain⟨t',rfl⟩:=ry;exact eq_int (qaU I q qf4)
   | str j=>obtain⟨t',rfl⟩:=ry;exact PySem.EqMixed.eq_int_str (qaU I q (by simp))
   | _=>exact absurd (show false=true from hs) Bool.false_ne_true
 | str i =>
   obtain⟨t,rfl⟩:=rx
   cases y with
   | non=>cases ry;exact PySem.EqNone.eq_str_none (qaU I q (by simp))
   | bl j=>cases ry;exact PySem.EqMixed.eq_str_bool (qaU I q (by simp))
   | int j=>obtain⟨t',rfl⟩:=ry;exact PySem.EqMixed.eq_str_int (qaU I q (by simp))
   | str j=>obtain⟨t',rfl⟩:=ry;exact eq_str (qaU I q qf7)
   | _=>exact absurd (show false=true from hs) Bool.false_ne_true
 | byt i =>
   obtain⟨t,rfl⟩:=rx
   cases y with
   | byt j=>obtain⟨t',rfl⟩:=ry;exact PySem.W.eq_bytes (qaU I q qf5)
   | _=>exact absurd (show false=true from hs) Bool.false_ne_true
 | _=>cases y<;>exact absurd (show false=true from hs) Bool.false_ne_true
theorem op_ne:OpR X (compareOp .NotEq) rNe:=by
 intro pins s σ H x y v u Q I rx ry h;obtain⟨hs,q⟩:=h;cases x with
 | non =>
   cases rx
   cases y with
   | non=>cases ry;exact PySem.EqNone.ne_none_none (qaU I q (by simp))
   | bl j=>cases ry;exact PySem.EqNone.ne_none_bool (qaU I q (by simp))
   | int j=>obtain⟨t',rfl⟩:=ry;exact PySem.EqNone.ne_none_int (qaU I q (by simp))
   | str j=>obtain⟨t',rfl⟩:=ry;exact PySem.EqNone.ne_none_str (qaU I q (by simp))
   | _=>exact absurd (show false=true from hs) Bool.false_ne_true
 | bl i =>
   cases rx
   cases y with
   | non=>cases ry;exact PySem.EqNone.ne_bool_none (qaU I q (by simp))
   | bl j=>cases ry;exact ne_bool (qaU I q (congrArg not qgV))
   | str j=>obtain⟨t',rfl⟩:=ry;exact PySem.EqMixed.ne_bool_str (qaU I q (by simp))
   | _=>exact absurd (show false=true from hs) Bool.false_ne_true
 | int i =>
   obtain⟨t,rfl⟩:=rx
   cases y with
   | non=>cases ry;exact PySem.EqNone.ne_int_none (qaU I q (by simp))
   | int j=>obtain⟨t',rfl⟩:=ry;exact ne_int (qaU I q (congrArg not qf4))
   | str j=>obtain⟨t',rfl⟩:=ry;exact PySem.EqMixed.ne_int_str (qaU I q (by simp))
   | _=>exact absurd (show false=true from hs) Bool.false_ne_true
 | str i =>
   obtain⟨t,rfl⟩:=rx
   cases y with
   | non=>cases ry;exact PySem.EqNone.ne_str_none (qaU I q (by simp))
   | bl j=>cases ry;exact PySem.EqMixed.ne_str_bool (qaU I q (by simp))
   | int j=>obtain⟨t',rfl⟩:=ry;exact PySem.EqMixed.ne_str_int (qaU I q (by simp))
   | str j=>obtain⟨t',rfl⟩:=ry;exact ne_str (qaU I q (congrArg not qf7))
   | _=>exact absurd (show false=true from hs) Bool.false_ne_true
 | byt i =>
   obtain⟨t,rfl⟩:=rx
   cases y with
   | byt j=>obtain⟨t',rfl⟩:=ry;exact PySem.W.ne_bytes (qaU I q (congrArg not qf5))
   | _=>exact absurd (show false=true from hs) Bool.false_ne_true
 | _=>cases y<;>exact absurd (show false=true from hs) Bool.false_ne_true
theorem op_lt:OpR X (compareOp .Lt) (rI0 fun i j=>.bl (decide (i<j))):=opB0 fun _ _ _ _ _ _ _ q=>lt_int q
theorem op_le:OpR X (compareOp .LtE) (rI0 fun i j=>.bl (decide (i≤j))):=opB0 fun _ _ _ _ _ _ _ q=>le_int q
theorem op_gt:OpR X (compareOp .Gt) (rI0 fun i j=>.bl (decide (j<i))):=opB0 fun _ _ _ _ _ _ _ q=>gt_int q
theorem op_ge:OpR X (compareOp .GtE) (rI0 fun i j=>.bl (decide (j≤i))):=opB0 fun _ _ _ _ _ _ _ q=>ge_int q
theorem op_in_str:OpR X (compareOp .In) (fun x y H Q=>∃i j,x=.str i∧y=.str j∧Q (.bl (!(Builtin.Str.occurrences j i 0 j.length 1).isEmpty)) H):=by
 intro pins s σ H x y v u Q I rx ry h;obtain⟨i,j,rfl,rfl,q⟩:=h;obtain⟨t,rfl⟩:=rx;obtain⟨t',rfl⟩:=ry;exact in_str (qaU I q rfl)
theorem qam(b:Expr){op:CmpOp}(h:op≠.In:=by decide)(h2:op≠.NotIn:=by decide):behindInMarks op b=false:=by
 have e1:(op == CmpOp.In)=false:=by cases op<;>first | rfl | exact absurd rfl h
 have e2:(op == CmpOp.NotIn)=false:=by cases op<;>first | rfl | exact absurd rfl h2
 cases b<;>simp[behindInMarks,e1,e2]
theorem qaI{op:CmpOp}{r:R2}(ho:OpR X (compareOp op) r)(ha:PE X a ta)(hb:PE X b tb)(hm:behindInMarks op b=false):PE X (.Compare a [op] [b] pos) (tOp r ta tb):=by
 intro pins s σ H Q I h;exact wpAny_Compare1 (binT ha hb I h fun v u s2 x y H2 I2 rx ry q=>ho pins s2 σ H2 x y v u Q I2 rx ry q) hm
def qg4(t:TE):TT:=fun σ H Q=>t σ H fun x H'=>∃k,x=.bl k∧Q k H'
theorem qaj{op:CmpOp}{r:R2}(ho:OpR X (compareOp op) r)(ha:PE X a ta)(hb:PE X b tb)(hm:behindInMarks op b=false):PT X (.Compare a [op] [b] pos) (qg4 (tOp r ta tb)):=by
 intro pins s σ H Q I h;refine wpAny_isTrue_Compare1 (thn (ha pins s σ H _ I h) fun v s1 ⟨x,H1,I1,r1,q1⟩=>thn (hb pins s1 σ H1 _ I1 q1) fun u s2 ⟨y,H2,I2,r2,q2⟩ =>
  thn (ho pins s2 σ H2 x y v u _ I2 r1 r2 q2) fun c s3 ⟨z,H3,I3,r3,k,e,q3⟩=>?_) hm
 subst e;cases r3;exact wpAny_truthy_bool ⟨H3,I3,q3⟩
def qgL(r r':R2)(ta tb tc:TE):TE:=fun σ H Q=>ta σ H fun x H1=>tb σ H1 fun y H2=>r x y H2 fun z H3=>∃k,z=.bl k ∧
 (if k=true then tc σ H3 fun w' H4=>r' y w' H4 Q else Q (.bl false) H3)
theorem pe_chain{op op':CmpOp}{r r':R2}(ho:OpR X (compareOp op) r)(ho':OpR X (compareOp op') r')(ha:PE X a ta)(hb:PE X b tb)(hc:PE X c tc)(hm:lastMarks [op,op'] [b,c]=false:=by with_unfolding_all rfl):PE X (.Compare a [op,op'] [b,c] pos) (qgL r r' ta tb tc):=by
 intro pins s σ H Q I h;refine Compare_chain (thn (ha pins s σ H _ I h) fun v s1 ⟨x,H1,I1,r1,q1⟩=>chain_link (thn (hb pins s1 σ H1 _ I1 q1) fun u s2 ⟨y,H2,I2,r2,q2⟩ =>
  thn (ho pins s2 σ H2 x y v u _ I2 r1 r2 q2) fun d s3 ⟨z,H3,I3,r3,k,e,q3⟩=>?_)) hm
 subst e;cases r3;refine wpAny_truthy_bool ?_;cases k with
 | false=>exact ite_ff ⟨.bl false,H3,I3,rfl,q3⟩
 | true=>exact ite_tt (chain_last (thn (hc pins s3 σ H3 _ I3 q3) fun w' s4 ⟨z',H4,I4,r4,q4⟩=>ho' pins s4 σ H4 y z' u w' Q I4 r2 r4 q4))
theorem qcQ{op op':CmpOp}{r r':R2}(ho:OpR X (compareOp op) r)(ho':OpR X (compareOp op') r')(ha:PE X a ta)(hb:PE X b tb)(hc:PE X c tc)(hm:lastMarks [op,op'] [b,c]=false:=by with_unfolding_all rfl):PT X (.Compare a [op,op'] [b,c] pos) (qg4 (qgL r r' ta tb tc)):=by
 intro pins s σ H Q I h;refine isTrue_chain (thn (ha pins s σ H _ I h) fun v s1 ⟨x,H1,I1,r1,q1⟩=>test_link (thn (hb pins s1 σ H1 _ I1 q1) fun u s2 ⟨y,H2,I2,r2,q2⟩ =>
  thn (ho pins s2 σ H2 x y v u _ I2 r1 r2 q2) fun d s3 ⟨z,H3,I3,r3,k,e,q3⟩=>?_)) hm
 subst e;cases r3;refine wpAny_truthy_bool ?_;cases k with
 | false =>
   obtain⟨k',e',q'⟩:=q3
   cases e'
   exact ite_ff ⟨H3,I3,q'⟩
 | true =>
   refine ite_tt (test_last (thn (hc pins s3 σ H3 _ I3 q3) fun w' s4 ⟨z',H4,I4,r4,q4⟩=>thn (ho' pins s4 σ H4 y z' u w' _ I4 r2 r4 q4) fun d' s5 ⟨z2,H5,I5,r5,k2,e2,q5⟩=>?_))
   subst e2
   cases r5
   exact wpAny_truthy_bool ⟨H5,I5,q5⟩
theorem line63:(sizeLine:Nat)<2 ^ 63:=by rw[sizeLine_eq];decide
theorem op_add_str:OpR X (binaryOp .Add) (fun x y H Q=>∃i j,x=.str i∧y=.str j∧i.length+j.length≤sizeLine∧Q (.str (i++j)) H):=by
 intro pins s σ H x y v u Q I rx ry h;obtain⟨i,j,rfl,rfl,hz,q⟩:=h;obtain⟨t,rfl⟩:=rx;obtain⟨t',rfl⟩:=ry;exact add_str (fun t' tk=>⟨.str (i++j),H,I.tok _,⟨_,rfl⟩,q⟩) hz
theorem qdO{x:V}{us:List Value}(r:Vals [x] us):∃u,us=[u]∧RelV x u:=by
 cases r with
 | cons r1 r2=>cases r2;exact⟨_,rfl,r1⟩
theorem qgX{x y:V}{us:List Value}(r:Vals [x,y] us):∃u w',us=[u,w']∧RelV x u∧RelV y w':=by
 cases r with
 | cons r1 r2 =>
   cases r2 with
   | cons r3 r4=>cases r4;exact⟨_,_,rfl,r1,r3⟩
theorem call_max2(hc:X.calm=true):qcV X (.builtin "max") (fun xs H Q=>∃i j,xs=[.int i,.int j]∧Q (.int (if j>i then j else i)) H):=by
 intro pins s σ H xs us Q I r h;obtain⟨i,j,rfl,q⟩:=h;obtain⟨u,w',rfl,⟨t,rfl⟩,⟨t',rfl⟩⟩:=qgX r;refine max_two_ints (I.ok.hd hc) fun h' tk k=>⟨_,H,I.kept k,?_,q⟩
 by_cases hj:j>i
 ·rw[if_pos hj,if_pos hj];exact⟨_,rfl⟩
 ·rw[if_neg hj,if_neg hj];exact⟨_,rfl⟩
theorem call_min2(hc:X.calm=true):qcV X (.builtin "min") (fun xs H Q=>∃i j,xs=[.int i,.int j]∧Q (.int (if j<i then j else i)) H):=by
 intro pins s σ H xs us Q I r h;obtain⟨i,j,rfl,q⟩:=h;obtain⟨u,w',rfl,⟨t,rfl⟩,⟨t',rfl⟩⟩:=qgX r;refine min_two_ints (I.ok.hd hc) fun h' tk k=>⟨_,H,I.kept k,?_,q⟩
 by_cases hj:j<i
 ·rw[if_pos hj,if_pos hj];exact⟨_,rfl⟩
 ·rw[if_neg hj,if_neg hj];exact⟨_,rfl⟩
theorem call_int1:qcV X (.type "int") (fun xs H Q=>(∃i,xs=[.int i]∧Q (.int i) H)∨∃k,xs=[.bl k]∧Q (.int (if k then 1 else 0)) H):=by
 intro pins s σ H xs us Q I r h;rcases h with⟨i,rfl,q⟩ | ⟨k,rfl,q⟩
 ·obtain⟨u,rfl,t,rfl⟩:=qdO r;exact call_int_int ⟨.int i,H,I,⟨_,rfl⟩,q⟩
 ·obtain⟨u,rfl,r1⟩:=qdO r;cases r1;exact call_int_bool ⟨.int (if k then 1 else 0),H,I.tok _,⟨_,rfl⟩,q⟩
theorem call_str_int:qcV X (.type "str") (fun xs H Q=>∃i,xs=[.int i]∧i.natAbs.log2<1920∧Q (.str (toString i)) H):=by
 intro pins s σ H xs us Q I r h;obtain⟨i,rfl,hz,q⟩:=h;obtain⟨u,rfl,t,rfl⟩:=qdO r;exact PySem.P.str_of_int hz ⟨.str _,H,I.tok _,⟨_,rfl⟩,q⟩
end
end L2
namespace L2
open PySem PySem.Spec PyProof.Rows
structure ObjM(h:Heap)(x dx C:Addr)(mA:Str→Option Value):Prop where
 obj:h.get? x=some (PySem.W.instObj C dx)
 ns:h.Ns1 dx mA
 ne:dx≠x
theorem lookIn_ns{h:Heap}{dx:Addr}{mA:Str→Option Value}(n:h.Ns1 dx mA):∃od,h.get? dx=some od∧∀name,PySem.W.lookIn name od=some (mA name):=by
 obtain⟨o,es,ep,ho,hd,hk,_,hm⟩:=n;refine⟨o,ho,fun name=>?_⟩;have e:=hm name;unfold nsFind findBy at e;rw[←Array.find?_toList]at e;unfold PySem.W.lookIn;rw[hd];dsimp only
 split
 ·rename_i y q;rw[q]at e;exact congrArg some e
 ·rename_i q;rw[q]at e;have a:es.toList.any (·.refKey)=false:=by
   rw[List.any_eq_false];intro y hy;obtain⟨z,t,hkey⟩:=hk y (Array.mem_toList_iff.mp hy);simp[DictEntry.refKey,hkey]
  have a':¬es.toList.any (·.refKey)=true:=by rw[a];exact Bool.false_ne_true
  rw[if_neg a'];exact congrArg some e
theorem ObjM.look{h:Heap}{x dx C:Addr}{mA:Str→Option Value}(I:ObjM h x dx C mA):∃od,PySem.W.InstAt h x (PySem.W.instObj C dx) C (some od)∧∀name,PySem.W.lookIn name od=some (mA name) :=
 let⟨od,ho,hl⟩:=lookIn_ns I.ns
 ⟨od,⟨I.obj,rfl,rfl,ho⟩,hl⟩
theorem RelO.some_of{v:V}{o:Option Value}(r:RelO (some v) o):∃u,o=some u∧RelV v u:=by
 cases o with
 | none=>exact(show False from r).elim
 | some u=>exact⟨u,rfl,r⟩
section
variable{P:Program}{w:World}{H H':Hp}{h h':Heap}{a C dx:Addr}{fs fs':List (Str×V)}
theorem ins_get(hok:HOk P w H h)(e:H a=some (.ins C dx fs)):∃mA,ObjM h a dx C mA∧(∀f,RelO (fs.lookup f) (mA f))∧PySem.Within mA (fs.map (·.1))∧fs.length≤1000∧H dx=some (.own a):=by
 obtain⟨d,z,ne,ob,mA,n,r,q⟩:=(show ObjOk P w H h a (.ins C dx fs)from hok a _ e);exact⟨mA,⟨ob,n,ne⟩,r,q,z,d⟩
end
structure Cls(K:PySem.W.Frag)(C:Addr):Prop where
 pg:PySem.W.plainGet K C Str.empty=true
 hd:PySem.W.hasDictIn K C=true
 po:PySem.W.plainOver K C=true
 sa:PySem.W.findIn K (.ref C) "__setattr__" = some (some (.builtin "object.__setattr__"))
theorem Cls.get{K:PySem.W.Frag}{C:Addr}(c:Cls K C)(f:Str):PySem.W.plainGet K C f=true:=c.pg
section
variable{X:Cx}{pins:List (Addr×Obj)}{σ:St}{H:Hp}{s:Shared}{A:Around}{E:Value→Shared→Prop}{Q:Value→Shared→Prop}{c:Value}{b:Bool}
inductive TyOf(K:PySem.W.Frag)(H:Hp):V→Value→Prop where
 | non:TyOf K H .non (.type "NoneType")
 | bl (x:Bool):TyOf K H (.bl x) (.type "bool")
 | int (i:Int):TyOf K H (.int i) (.type "int")
 | str (x:Str):TyOf K H (.str x) (.type "str")
 | flt (x:UInt64):TyOf K H (.flt x) (.type "float")
 | lst {a:Addr} {xs:List V} (e:H a=some (.lst xs)):TyOf K H (.ref a) (.type "list")
 | frz {a:Addr} {o:Obj} {xs:List V} (e:H a=some (.frz o (.lst xs))):TyOf K H (.ref a) (.type "list")
 | tup {a:Addr} {xs:List V} (e:H a=some (.tup xs)):TyOf K H (.ref a) (.type "tuple")
 | dK {a:Addr} {kvs:List (Key×V)} (e:H a=some (.dK kvs)):TyOf K H (.ref a) (.type "dict")
 | dT {a:Addr} {kvs:List (List Key×V)} (e:H a=some (.dT kvs)):TyOf K H (.ref a) (.type "dict")
 | ins {a C dx:Addr} {fs:List (Str×V)} (e:H a=some (.ins C dx fs)) (cl:Cls K C) (ha:PySem.W.findIn K (.ref C) "__class__" = some (some (.builtin "object.__class__")))
   (hn:PySem.W.specialIn K (.builtin "object.__class__") "__get__" = some (some (.builtin "getset_descriptor.__get__"))) (htk:PySem.W.takesIn K (.builtin "object.__class__")=some true)
   (hm:PySem.W.mroIn K C (.type "object")=some true):TyOf K H (.ref a) (.ref C)
theorem isinst_ok{x:V}{u t:Value}(I:Inv X pins σ H s)(rx:RelV x u)(ty:TyOf X.K H x t)(e:PySem.W.kitOne X.K t c=some b)(h:∀tk,Q (.bool b) {s with toks:=tk}) :
  wpAny (model X.prog X.w) A (call (.builtin "isinstance") [u,c]) Q E s:=by
 cases ty with
 | non=>cases(show u=Value.none from rx);exact PySem.W.kia_one PySem.W.kitx_none I.kIn True.intro e (fun z=>nomatch z) h
 | bl y=>cases(show u=Value.bool y from rx);exact PySem.W.kia_one PySem.W.kitx_bool I.kIn True.intro e (fun z=>nomatch z) h
 | int i=>obtain⟨t,q⟩:=(show∃t,u=Value.int i t from rx);cases q;exact PySem.W.kia_one PySem.W.kitx_int I.kIn True.intro e (fun z=>nomatch z) h
 | str y=>obtain⟨t,q⟩:=(show∃t,u=Value.str y t from rx);cases q;exact PySem.W.kia_one PySem.W.kitx_str I.kIn True.intro e (fun z=>nomatch z) h
 | flt y=>obtain⟨t,q⟩:=(show∃t,u=Value.float y t from rx);cases q;exact PySem.W.kia_one PySem.W.kitx_float I.kIn True.intro e (fun z=>nomatch z) h
 | @lst a xs ea =>
   cases(show u=Value.ref a from rx)
   obtain⟨_,_,n,_,h1⟩:=(show ObjOk X.prog X.w H s.heap a (.lst xs)from I.hok a _ ea)
   exact PySem.W.kia_one PySem.W.kitx_list I.kIn ⟨_,h1,rfl⟩ e (fun z=>nomatch z) h
 | @frz a ob xs ea =>
   cases(show u=Value.ref a from rx)
   obtain⟨_,_,_,n,_,h1⟩:=(show ObjOk X.prog X.w H s.heap a (.frz ob (.lst xs))from I.hok a _ ea)
   exact PySem.W.kia_one PySem.W.kitx_list I.kIn ⟨_,h1,rfl⟩ e (fun z=>nomatch z) h
 | @tup a xs ea =>
   cases(show u=Value.ref a from rx)
   obtain⟨_,_,_,p⟩:=(show ObjOk X.prog X.w H s.heap a (.tup xs)from I.hok a _ ea)
   obtain⟨o,h1,h2,_⟩:=p
   exact PySem.W.kia_one PySem.W.kitx_tuple I.kIn ⟨o,h1,h2⟩ e (fun z=>nomatch z) h
 | @dK a kvs ea =>
   cases(show u=Value.ref a from rx)
   obtain⟨_,_,vs,_,p⟩:=(show ObjOk X.prog X.w H s.heap a (.dK kvs)from I.hok a _ ea)
   obtain⟨o,es,ep,h1,h2,_⟩:=p
   exact PySem.W.kia_one PySem.W.kitx_dict I.kIn ⟨o,h1,h2.1⟩ e (fun z=>nomatch z) h
 | @dT a kvs ea =>
   cases(show u=Value.ref a from rx)
   obtain⟨_,_,xs,_,o,es,ep,h1,h2,_⟩:=(show ObjOk X.prog X.w H s.heap a (.dT kvs)from I.hok a _ ea)
   exact PySem.W.kia_one PySem.W.kitx_dict I.kIn ⟨o,h1,h2.1⟩ e (fun z=>nomatch z) h
 | @ins a C dx fs ea cl ha hn htk hm =>
   cases(show u=Value.ref a from rx)
   obtain⟨mA,O,_⟩:=ins_get I.hok ea
   obtain⟨od,J,_⟩:=O.look
   exact PySem.W.kia_one (PySem.W.kitx_own (cl.get _) cl.hd ha hn htk hm) I.kIn J e (fun z=>nomatch z) h
end
end L2
namespace L2
open PySem PySem.Spec PyProof.Rows
structure Room(k:Nat)(A:Around):Prop where
 hd:A.handled=none
 dp:A.depth+3*k+5<recursionLimit
 un:A.units+16*k+200<cLine
theorem Room.mono{j k:Nat}{A:Around}(r:Room k A)(h:j≤k):Room j A:=⟨r.hd,by have:=r.dp;omega,by have:=r.un;omega⟩
theorem Room.deeper{k:Nat}{A:Around}(r:Room (k+1) A)(env:Env):Room k (A.deeper env) :=
 ⟨r.hd,by have:=r.dp;show A.depth+1+3*k+5<_;omega,by have:=r.un;show A.units+3+16*k+200<_;omega⟩
theorem Room.depth{k:Nat}{A:Around}(r:Room k A):A.depth<recursionLimit:=by have:=r.dp;omega
theorem Room.units{k:Nat}{A:Around}(r:Room k A):A.units+64<cLine:=by have:=r.un;omega
def tNil:TA:=fun _ H Q=>Q [] H
def qgo(ta:TE)(tr:TA):TA:=fun σ H Q=>ta σ H fun x H1=>tr σ H1 fun xs H2=>Q (x::xs) H2
section
variable{X:Cx}{e:Expr}{es:List Expr}{te:TE}{t:TA}{pos:Pos}
theorem pa_nil:PA X [] tNil:=fun _ _ _ _ H Q I h=>Calls.spliced_nil ⟨[],H,I,.nil,h⟩
theorem qaa(ha:PE X e te)(hr:PA X es t)(hs:starEach (e::es) X.env=(false,eval e X.env)::starEach es X.env:=by rfl):PA X (e::es) (qgo te t):=by
 intro pos pins s σ H Q I h;rw[hs];show wpAny _ _ (spliced ((false,eval e X.env)::backTo pos (starEach es X.env))) _ _ s;refine Calls.spliced_cons (thn (ha pins s σ H _ I h) fun u s1 ⟨x,H1,I1,r1,q1⟩=>?_);exact thn (hr pos pins s1 σ H1 _ I1 q1) fun us s2 ⟨xs,H2,I2,r2,q2⟩=>⟨x::xs,H2,I2,.cons r1 r2,q2⟩
def tTup(t:TA):TE:=fun σ H Q=>t σ H fun xs H1=>xs.length≤sizeLine∧∀p,H1 p=none→Q (.ref p) (upd H1 p (.tup xs))
def tLst(t:TA):TE:=fun σ H Q=>t σ H fun xs H1=>xs.length≤sizeLine∧∀p,H1 p=none→Q (.ref p) (upd H1 p (.lst xs))
theorem qa8{x1}(h:PA X es t):PE X (.Tuple es x1 pos) (tTup t):=by
 intro pins s σ H Q I hq;refine wpAny_Tuple_spliced (thn (h pos pins s σ H _ I hq) fun us s1 ⟨xs,H1,I1,r,z,q⟩=>⟨by rw[←r.length];exact z,?_⟩);have hf:H1 s1.heap.objs.size=none:=I1.hok.fresh (Nat.le_refl _);refine⟨.ref s1.heap.objs.size,upd H1 s1.heap.objs.size (.tup xs),I1.laid (t':=s1.toks) (fun b u e=>Heap.get?_push_of_some _ e) (Nat.le_refl _) ?_,rfl,q _ hf⟩;exact⟨z,us,r,⟨_,Heap.get?_push_size _ rfl,rfl,_,rfl⟩⟩
theorem qaD(h:PA X es t):PE X (.List es pos) (tLst t):=by
 intro pins s σ H Q I hq;refine wpAny_List_spliced (thn (h pos pins s σ H _ I hq) fun us s1 ⟨xs,H1,I1,r,z,q⟩=>⟨by rw[←r.length];exact z,?_⟩);have hf:H1 s1.heap.objs.size=none:=I1.hok.fresh (Nat.le_refl _);refine⟨.ref s1.heap.objs.size,upd H1 s1.heap.objs.size (.lst xs),I1.laid (t':=s1.toks) (fun b u e=>Heap.get?_push_of_some _ e) (Nat.le_refl _) ?_,rfl,q _ hf⟩;exact⟨z,us,0,r,Heap.get?_push_size _ rfl⟩
end
abbrev Sp:=List V→Hp→VK→XK→Prop
abbrev CXT:=List Env→Hp→Shared→XK→Value→Shared→Prop
structure Env0(P:Program)(w:World)(K:PySem.W.Frag)(mg:Str→Option Value)(base:Heap)(A:Around)(outer:List Env)(s:Shared)(H:Hp):Prop where
 frames:A.frames=some outer
 mod:Mod K mg base
 bs:∀b o,base.get? b=some o→s.heap.get? b=some o∧H b=none
 bsz:base.objs.size≤s.heap.objs.size
 funs:s.heap.FunFrames base outer
 frf:∀b∈frs outer,H b=none
 hok:HOk P w H s.heap
 bare:AllBare s.gens
def CE(outer:List Env)(P:Program)(w:World)(H:Hp)(s:Shared)(Q:VK)(u:Value)(s':Shared):Prop :=
 ∃v H',s'.os=s.os∧AllBare s'.gens∧Un (frs outer) [] H H' s.heap s'.heap∧HOk P w H' s'.heap∧RelV v u∧Q v H'
def CR(CX:CXT)(outer:List Env)(P:Program)(w:World)(H:Hp)(s:Shared)(Q:VK)(E:XK)(r:Result)(s':Shared):Prop :=
 match r with
 | .ok (.ret u)=>CE outer P w H s Q u s'
 | .ok _=>False
 | .error e=>CX outer H s E e s'
structure FnOk(P:Program)(w:World)(K:PySem.W.Frag)(mg:Str→Option Value)(base:Heap)(CX:CXT)(k:Nat)(f:Addr)(fd:FuncData)(ps:List Str)(sp:Sp):Prop where
 len:∀vs H Q E,sp vs H Q E→vs.length=ps.length
 run:∀(A:Around) (outer:List Env) (s:Shared) (H:Hp) (args:Args) (us:List Value) (vs:List V) (Q:VK) (E:XK),Room k A→Env0 P w K mg base A outer s H→BindsTo s fd args (ps.zip us)→Vals vs us→sp vs H Q E →
  codeAny (model P w) A (.call (.ref f) args) (CR CX outer P w H s Q E) s
section
variable{X:Cx}{pins:List (Addr×Obj)}{σ:St}{H:Hp}{s s':Shared}
theorem Inv.env0(I:Inv X pins σ H s):Env0 X.prog X.w X.K X.mg X.base X.A X.stack s H :=
 ⟨I.ok.frames,I.ok.mod,I.bs,Nat.le_trans I.ok.bsz I.sz,I.stack,I.stkFree,I.hok,I.bare⟩
theorem Inv.after{Q:VK}{u:Value}(I:Inv X pins σ H s)(h:CE X.stack X.prog X.w H s Q u s'):EP X pins σ Q u s':=by
 obtain⟨v,H',os,bare,un,hok,r,q⟩:=h;obtain⟨hh,g,d,t,os'⟩:=s';obtain rfl:os'=s.os:=os;exact⟨v,H',I.call (h':=hh) (g':=g) (d':=d) (t':=t) (ch:=[]) un hok bare (fun b z=>absurd z (by simp)),r,q⟩
end
def qgC(sp:Sp)(dvs:List V)(E:XK)(t:TA):TE:=fun σ H Q=>t σ H fun vs H1=>sp (vs++dvs) H1 Q E
def Binds(K:PySem.W.Frag)(fd:FuncData)(ps:List Str)(ds:List Value):Prop :=
 ∀(s:Shared) (us:List Value),K.In s.heap→(us++ds).length=ps.length→BindsTo s fd ⟨us,[]⟩ (ps.zip (us++ds))
theorem Binds.all{K:PySem.W.Frag}{fd:FuncData}{ps:List Str}(h:∀us:List Value,us.length=ps.length→bindArgs fd ⟨us,[]⟩=pure (ps.zip us)):Binds K fd ps []:=fun s us _ hl=>by
 rw[List.append_nil]at hl⊢;exact .of_eq (h us hl)
def qdG(CX:CXT)(X:Cx)(E:XK):Prop:=∀(pins:List (Addr×Obj)) (σ:St) (H:Hp) (s:Shared) (e:Value) (s':Shared),Inv X pins σ H s→CX X.stack H s E e s'→X.xe e s'
section
variable{X:Cx}{CX:CXT}{k:Nat}{f C:Addr}{fd:FuncData}{ps:List Str}{sp:Sp}{dvs:List V}{ds:List Value}{E:XK}{x m:Str}{p pos apos:Pos}{e o:Expr}{es:List Expr}{ta:TE}{t:TA}
theorem qgS{pins:List (Addr×Obj)}{σ:St}{H:Hp}{s:Shared}{Q:VK}{us:List Value}{vs:List V}(F:FnOk X.prog X.w X.K X.mg X.base CX k f fd ps sp)(hr:Room k X.A)(hb:Binds X.K fd ps ds)(hd:Vals dvs ds)(hx:qdG CX X E)(I:Inv X pins σ H s)(r:Vals vs us)(h:sp (vs++dvs) H Q E):wpAny (model X.prog X.w) X.A (call (.ref f) us) (EP X pins σ Q) X.xe s:=by
 have r2:Vals (vs++dvs) (us++ds):=r.append hd;have hl:(us++ds).length=ps.length:=by rw[←r2.length];exact F.len _ _ _ _ h
 refine wpAny_call (codeAny_mono (F.run X.A X.stack s H ⟨us,[]⟩ (us++ds) (vs++dvs) Q E hr I.env0 (hb s us I.kIn hl) r2 h) fun r s' hq=>?_);cases r with
 | error e=>exact hx pins σ H s e s' I hq
 | ok fl =>
   cases fl with
   | ret u=>exact I.after hq
   | next=>exact False.elim hq
   | brk=>exact False.elim hq
   | cont=>exact False.elim hq
theorem pe_call(F:FnOk X.prog X.w X.K X.mg X.base CX k f fd ps sp)(hr:Room k X.A)(hg:Gl X x)(hm:X.mg x=some (.ref f))(hk:PySem.W.keepIn X.K (.ref f)=true)(hb:Binds X.K fd ps ds)(hd:Vals dvs ds)(hx:qdG CX X E)(ha:PA X (e::es) t)(hdb:(x == ("__debug__" : Str))=false:=by decide)(he:starEach (e::es) X.env=(false,eval e X.env)::starEach es X.env:=by rfl)(hpl:(backTo pos (starEach es X.env)).any (·.1)=false:=by rfl) :
  PE X (.Call (.Name x p) (e::es) [] pos) (qgC sp dvs E t):=by
 intro pins s σ H Q I h;refine wpAny_Call_Name_kw (qd9 I hg hm ?_ hdb);refine PySem.W.callWith_K (h₀:=X.base) I.ok.mod.kin hk (thn (ha pos pins s σ H _ I h) fun us s1 ⟨vs,H1,I1,r,q⟩=>⟨I1.kIn,?_⟩) he hpl;exact qgS F hr hb hd hx I1 r q
theorem pe_call0(F:FnOk X.prog X.w X.K X.mg X.base CX k f fd ps sp)(hr:Room k X.A)(hg:Gl X x)(hm:X.mg x=some (.ref f))(hk:PySem.W.keepIn X.K (.ref f)=true)(hb:Binds X.K fd ps ds)(hd:Vals dvs ds)(hx:qdG CX X E)(hdb:(x == ("__debug__" : Str))=false:=by decide):PE X (.Call (.Name x p) [] [] pos) (qgC sp dvs E tNil):=by
 intro pins s σ H Q I h;refine wpAny_Call_Name_kw (qd9 I hg hm ?_ hdb);exact PySem.W.callWith_K0 I.kIn hk (qgS (us:=[]) F hr hb hd hx I .nil h)
end
structure FnScope(N P:List Str)(sc:Scope):Prop where
 kind:sc.kind=.function
 co:sc.isCoroutine=false
 gen:sc.isGenerator=false
 nd:N.Nodup
 pre:N.take P.length=P
 par:∀x∈P,sc.names.lookup x=some .local∨sc.names.lookup x=some .cell
 nofree:∀y∈sc.names,y.2≠.free
theorem qeA{kindOf:Str→Option NameKind}{x:Str}:∀{binds:List (Str×Value)} {m:Str→Option Value},(∀v,(x,v)∉binds)→bindL kindOf binds m x=m x
 | [],_,_=>rfl
 | (n, v) :: r, m, h => by
   unfold bindL
   rw[qeA fun w hw=>h w (List.mem_cons_of_mem _ hw)]
   split
   · have:x≠n:=by rintro rfl;exact h v List.mem_cons_self
     simp[this]
   · rfl
theorem qex{kindOf:Str→Option NameKind}{x:Str}:∀{binds:List (Str×Value)} {m:Str→Option Value},(∀v,(x,v)∉binds)→bindC kindOf binds m x=m x
 | [],_,_=>rfl
 | (n, v) :: r, m, h => by
   unfold bindC
   rw[qex fun w hw=>h w (List.mem_cons_of_mem _ hw)]
   split
   · rfl
   · have:x≠n:=by rintro rfl;exact h v List.mem_cons_self
     simp[this]
theorem qez{kindOf:Str→Option NameKind}{x:Str}{v:Value}:∀{P:List Str} {vs:List Value} {i:Nat} {m:Str→Option Value},P.Nodup→P[i]?=some x→vs[i]?=some v→kindOf x=some .local →
  bindL kindOf (P.zip vs) m x=some v
 | [],_,_,_,_,h,_,_=>by simp at h
 | _::_,[],_,_,_,_,h,_=>by simp at h
 | p :: P, w :: vs, 0, m, nd, h1, h2, hk => by
   simp at h1 h2;subst h1;subst h2
   show bindL kindOf ((p,w)::P.zip vs) m p=_
   unfold bindL
   rw[qeA fun v hv=>(List.nodup_cons.mp nd).1 (List.of_mem_zip hv).1,if_pos hk]
   simp
 | p :: P, w :: vs, i + 1, m, nd, h1, h2, hk => by
   show bindL kindOf ((p,w)::P.zip vs) m x=_
   unfold bindL
   exact qez (i:=i) (List.nodup_cons.mp nd).2 (by simpa using h1) (by simpa using h2) hk
theorem qeB{kindOf:Str→Option NameKind}{x:Str}{v:Value}:∀{P:List Str} {vs:List Value} {i:Nat} {m:Str→Option Value},P.Nodup→P[i]?=some x→vs[i]?=some v→kindOf x≠some .local →
  bindC kindOf (P.zip vs) m x=some v
 | [],_,_,_,_,h,_,_=>by simp at h
 | _::_,[],_,_,_,_,h,_=>by simp at h
 | p :: P, w :: vs, 0, m, nd, h1, h2, hk => by
   simp at h1 h2;subst h1;subst h2
   show bindC kindOf ((p,w)::P.zip vs) m p=_
   unfold bindC
   rw[qex fun v hv=>(List.nodup_cons.mp nd).1 (List.of_mem_zip hv).1,if_neg hk]
   simp
 | p :: P, w :: vs, i + 1, m, nd, h1, h2, hk => by
   show bindC kindOf ((p,w)::P.zip vs) m x=_
   unfold bindC
   exact qeB (i:=i) (List.nodup_cons.mp nd).2 (by simpa using h1) (by simpa using h2) hk
def qem(N:List Str)(vs:List V):St:=vs.map some++List.replicate (N.length-vs.length) none
def cxOf(CX:CXT)(P:Program)(w:World)(K:PySem.W.Frag)(mg:Str→Option Value)(base:Heap)(N:List Str)(qual:Str)(scope:Scope)(f:Addr)(cd:Value)(A:Around)(outer:List Env)(s:Shared)(H:Hp)(E:XK):Cx where
 prog:=P
 w:=w
 K:=K
 mg:=mg
 base:=base
 A:=A.deeper (envOfC qual scope s.heap.objs.size f cd)
 N:=N
 s₀:=s
 H₀:=H
 env:=envOfC qual scope s.heap.objs.size f cd
 outer:=outer
 stack:=envOfC qual scope s.heap.objs.size f cd::outer
 ex:=[]
 calm:=true
 fn:=fun _=>true
 pn:=[]
 xe:=fun e s'=>wpAny (model P w) (A.deeper (envOfC qual scope s.heap.objs.size f cd)) (leaving (envOfC qual scope s.heap.objs.size f cd) e) (fun _ s''=>CX outer H s E e s'') (fun e' s''=>CX outer H s E e' s'') s'
theorem qfU{sc:Scope}{n:Nat}{x:Str}(h:sc.names.lookup x=some .cell):∃c,(cellsFrom n sc.names []).lookup x=some c:=by
 have q:=PySem.W.cellsFrom_some sc.names n [] (.inl h);exact Option.isSome_iff_exists.mp q
theorem inv_start{CX:CXT}{P:Program}{w:World}{K:PySem.W.Frag}{mg:Str→Option Value}{base:Heap}{N ps:List Str}{qual:Str}{scope:Scope}{f:Addr}{cd:Value}{A:Around}{outer:List Env}{s s1:Shared}{H:Hp}{E:XK}{us:List Value}{vs:List V}(S:FnScope N ps scope)(hd:A.handled=none)(e0:Env0 P w K mg base A outer s H)(hl:vs.length=ps.length)(r:Vals vs us)(x:InCallC s s.heap.objs.size (bindL (envOfC qual scope s.heap.objs.size f cd).kindOf (ps.zip us) fun _=>none) (cellsFrom (s.heap.objs.size+1) scope.names []) (bindC (envOfC qual scope s.heap.objs.size f cd).kindOf (ps.zip us) fun _=>none) s1) :
  Inv (cxOf CX P w K mg base N qual scope f cd A outer s H E) [] (qem N vs) H s1:=by
 have hpl:ps.length≤N.length:=by have:=congrArg List.length S.pre;rw[List.length_take]at this;omega
 obtain⟨h1,tk,rfl,hk⟩:=x.done;have noA:∀b:Addr,b∉(cxOf CX P w K mg base N qual scope f cd A outer s H E).ex:=fun b z=>absurd (show b∈([]:List Addr)from z) (by simp)
 refine⟨⟨e0.mod,S.kind,rfl,rfl,Nat.le_refl _,fun y z c h1 h2=>?_,fun y hy=>?_,fun y c _ h=>?_,fun _=>hd,Around.frames_deeper e0.frames,.inr ⟨rfl,rfl⟩,fun b z=>absurd z (noA b),e0.bs,e0.bsz,fun b _ _=>noA b,fun b z=>absurd z (noA b),e0.funs,e0.frf⟩,
  rfl,e0.bare,Un.kept hk,⟨_,x.toInCall.ns,fun i y v h1 h2 h3=>?_⟩,fun y c h=>⟨_,x.cell y c h⟩,e0.hok.fresh (Nat.le_refl _),fun y c h=>?_,fun p hp=>absurd (show p∈([]:List (Addr×Obj))from hp) (by simp),e0.hok.kept hk,?_⟩
 ·exact name_of_addr x.apart (PySem.mem_of_lookup h1) (PySem.mem_of_lookup h2)
 ·have hy:scope.names.lookup y=some .cell∨scope.names.lookup y=some .free:=hy;rcases hy with hy | hy
  ·exact qfU hy
  ·exact absurd rfl (S.nofree _ (PySem.mem_of_lookup hy))
 ·exact Nat.le_of_lt (x.above y c (PySem.mem_of_lookup h))
 ·have hi:i<vs.length:=by
   unfold qem at h2
   by_cases hi:i<vs.length
   ·exact hi
   ·rw[List.getElem?_append_right (by simpa using hi)]at h2;rw[List.getElem?_replicate]at h2
    split at h2<;>cases h2
  have ha:vs[i]?=some v:=by
   unfold qem at h2;rw[List.getElem?_append_left (by simpa using hi),List.getElem?_map]at h2;cases e:vs[i]? with
   | none=>rw[e]at h2;cases h2
   | some a=>rw[e]at h2;cases h2;rfl
  obtain⟨u,hu,rv⟩:=r.get ha;have hp:ps[i]?=some y:=by
   rw[←S.pre,List.getElem?_take_of_lt (by omega)];exact h1
  have ndP:ps.Nodup:=by rw[←S.pre];exact S.nd.sublist (List.take_sublist _ _)
  refine⟨u,rv,?_⟩;rcases S.par y (List.mem_of_getElem? hp)with k | k
  ·exact .inl ⟨k,qez ndP hp hu k⟩
  ·obtain⟨c,e⟩:=qfU (n:=s.heap.objs.size+1) k;refine .inr ⟨.inl k,c,e,?_⟩;have q:=x.cell y c e;rw[qeB ndP hp hu (by show scope.names.lookup y≠_;rw[k];decide)]at q;exact q
 ·exact e0.hok.fresh (Nat.le_of_lt (x.above y c (PySem.mem_of_lookup h)))
 ·unfold qem;show _=N.length;rw[List.length_append,List.length_map,List.length_replicate];omega
theorem qg7{CX:CXT}{P:Program}{w:World}{K:PySem.W.Frag}{mg:Str→Option Value}{base:Heap}{k:Nat}{f:Addr}{name qual:Str}{params:Arguments}{body:List Stmt}{scope:Scope}{dV kV doc pm cdv ct oc:Value}{an od:Option Addr}{osl:Array (Option Value)}{N ps:List Str}{sp:Sp}(lk:K.lookup f=some ⟨oc,od,.func (PySem.W.fnOf name qual params body scope dV kV doc pm an cdv ct),osl⟩)(hcd:PySem.W.codeIn K cdv qual=true)(S:FnScope N ps scope)(len:∀vs H Q E,sp vs H Q E→vs.length=ps.length)(hbody:∀(A:Around) (outer:List Env) (s:Shared) (H:Hp) (vs:List V) (Q:VK) (E:XK),Room k (A.deeper (envOfC qual scope s.heap.objs.size f cdv))→sp vs H Q E →
   ∃t,PSs (cxOf CX P w K mg base N qual scope f cdv A outer s H E) body t∧t {nx:=fun _ H'=>Q .non H',rt:=Q} (qem N vs) H) :
  FnOk P w K mg base CX (k+1) f (PySem.W.fnOf name qual params body scope dV kV doc pm an cdv ct) ps sp:=by
 refine⟨len,fun A outer s H args us vs Q E hr e0 hb r hsp=>?_⟩;have hl:=len _ _ _ _ hsp;have KX:K.In s.heap:=e0.mod.kin.keeps fun b o e=>(e0.bs b o e).1
 have lim:s.heap.NoLimit:=e0.mod.nolimit.keeps fun b o e=>(e0.bs b o e).1
 have hkind:∀y∈ps.zip us,scope.names.lookup y.1=some .local∨(scope.names.lookup y.1=some .cell∧((cellsFrom (s.heap.objs.size+1) scope.names []).lookup y.1).isSome=true):=fun⟨n,v⟩ hy=>by
  rcases S.par n (List.of_mem_zip hy).1 with q | q
  ·exact .inl q
  ·exact .inr ⟨q,PySem.W.cellsFrom_some _ _ _ (.inl q)⟩
 refine codeAny_call_function hr.depth (KX _ _ lk) rfl S.co S.gen rfl (PySem.W.codeRec_of KX hcd) (hb _ _ _ _ ?_);refine wpAny_newFunctionEnv_cells S.kind hkind fun env he s1 x=>?_
 subst he;refine⟨lim.keeps x.toInCall.keep,codeAny_func ?_⟩;obtain⟨t,ht,hq⟩:=hbody A outer s H vs Q E (hr.deeper _) hsp;have I:Inv (cxOf CX P w K mg base N qual scope f cdv A outer s H E) [] (qem N vs) H s1:=inv_start S hr.hd e0 hl r x;refine wpAny_mono (ht [] s1 (qem N vs) H _ I hq) (fun fl s' hs=>?_) fun e s' hs=>hs
 have fin:∀{σ':St} {H':Hp} {v:V} {u:Value},Inv (cxOf CX P w K mg base N qual scope f cdv A outer s H E) [] σ' H' s'→RelV v u→Q v H'→CE outer P w H s Q u s' :=
  fun {σ' H' v u} J rv q=>⟨v,H',J.os,J.bare,J.base,J.hok,rv,q⟩
 cases fl with
 | ret u =>
   obtain⟨v,σ',H',J,rv,q⟩:=hs
   exact fin J rv q
 | next =>
   obtain⟨σ',H',J,q⟩:=hs
   exact fin (v:=V.non) (u:=Value.none) J rfl q
 | brk =>
   obtain⟨_,_,_,q⟩:=hs
   exact False.elim q
 | cont =>
   obtain⟨_,_,_,q⟩:=hs
   exact False.elim q
end L2
namespace L2
open PySem PySem.Spec PyProof.Rows
section
variable{X:Cx}{x:Str}{p pos:Pos}{e:Expr}{es:List Expr}{t:TA}{id T:String}{r:List V→Hp→VK→Prop}
def tCB(r:List V→Hp→VK→Prop)(t:TA):TE:=fun σ H Q=>t σ H fun vs H1=>r vs H1 Q
theorem qal(hc:qcV X (.builtin id) r)(hg:Gl X x)(hm:X.mg x=none)(hv:bootBuiltins x=some (.builtin id))(ha:PA X (e::es) t)(hn:x ≠ "__name__":=by decide)(hdb:(x == ("__debug__" : Str))=false:=by decide)(he:starEach (e::es) X.env=(false,eval e X.env)::starEach es X.env:=by rfl)(hpl:(backTo pos (starEach es X.env)).any (·.1)=false:=by rfl):PE X (.Call (.Name x p) (e::es) [] pos) (tCB r t):=by
 intro pins s σ H Q I h;refine wpAny_Call_Name_kw (qc8 I hg hm hv ?_ hn hdb);exact PyProof.Rows.callWith_builtin1 (thn (ha pos pins s σ H _ I h) fun us s1 ⟨vs,H1,I1,r1,q1⟩=>hc pins s1 σ H1 vs us Q I1 r1 q1) he hpl
theorem qbV(hc:qcV X (.type T) r)(hg:Gl X x)(hm:X.mg x=none)(hv:bootBuiltins x=some (.type T))(ha:PA X (e::es) t)(hn:x ≠ "__name__":=by decide)(hdb:(x == ("__debug__" : Str))=false:=by decide)(he:starEach (e::es) X.env=(false,eval e X.env)::starEach es X.env:=by rfl)(hpl:(backTo pos (starEach es X.env)).any (·.1)=false:=by rfl):PE X (.Call (.Name x p) (e::es) [] pos) (tCB r t):=by
 intro pins s σ H Q I h;refine wpAny_Call_Name_kw (qc8 I hg hm hv ?_ hn hdb);exact PyProof.Rows.callWith_type1 (thn (ha pos pins s σ H _ I h) fun us s1 ⟨vs,H1,I1,r1,q1⟩=>hc pins s1 σ H1 vs us Q I1 r1 q1) he hpl
end
end L2
namespace HT
open PySem PyProof.Rows
section
variable{prog:Program}{w:World}{A:Around}{E:Value→Shared→Prop}{s:Shared}
def sIx(n d:Nat):Option Int→Nat
 | none=>d
 | some v=>if v<0 then(v+(n:Int)).toNat else min v.toNat n
theorem sIx_none(n d:Nat):sIx n d none=d:=rfl
theorem sIx_nat(n d k:Nat):sIx n d (some (k:Int))=min k n:=by
 show(if(k:Int)<0 then((k:Int)+(n:Int)).toNat else min (k:Int).toNat n)=min k n;rw[if_neg (by omega),Int.toNat_natCast]
end
end HT
namespace L2
open PySem PySem.Spec PyProof.Rows
abbrev TO:=St→Hp→(Option Int→Hp→Prop)→Prop
def PO(X:Cx)(e:Option Expr)(t:TO):Prop :=
 ∀(pins:List (Addr×Obj)) (s:Shared) (σ:St) (H:Hp) (Q:Option Int→Hp→Prop),Inv X pins σ H s→t σ H Q →
  wpAny (model X.prog X.w) X.A (evalPart e X.env) (fun u s'=>∃o H',Inv X pins σ H' s'∧IsPart u o∧Q o H') X.xe s
def tNoPart:TO:=fun _ H Q=>Q none H
def tPart(t:TE):TO:=fun σ H Q=>t σ H fun x H1=>∃i,x=.int i∧Q (some i) H1
section
variable{X:Cx}{e:Expr}{te:TE}{lo hi:Option Expr}{tl th:TO}{pos p2:Pos}
theorem po_none:PO X none tNoPart:=by
 intro pins s σ H Q I h;rw[evalPart_none];exact wpAny_pure ⟨none,H,I,.none,h⟩
theorem qaz(h:PE X e te):PO X (some e) (tPart te):=by
 intro pins s σ H Q I hw;rw[evalPart_some];refine thn (h pins s σ H _ I hw) fun u s1 ⟨x,H1,I1,r1,q1⟩=>?_
 obtain⟨i,rfl,q⟩:=q1;obtain⟨t,rfl⟩:=r1;exact⟨some i,H1,I1,.int i t,q⟩
def SlR(X:Cx)(r:V→Option Int→Option Int→Hp→VK→Prop):Prop :=
 ∀(pins:List (Addr×Obj)) (s:Shared) (σ:St) (H:Hp) (x:V) (v vl vu:Value) (lo hi:Option Int) (sl:Addr) (Q:VK),Inv X pins σ H s→RelV x v→s.heap.IsSliceOf sl vl vu .none→IsPart vl lo→IsPart vu hi→r x lo hi H Q →
  ∃T id,typeLookup (.type T) "__getitem__" = pure (some (.builtin id))∧s.TypeIs v T∧wpAny (model X.prog X.w) X.A (getItem v (.ref sl)) (EP X pins σ Q) X.xe s
def tSl(r:V→Option Int→Option Int→Hp→VK→Prop)(te:TE)(tl th:TO):TE:=fun σ H Q=>te σ H fun x H1=>tl σ H1 fun l H2=>th σ H2 fun u H3=>r x l u H3 Q
theorem qav{r:V→Option Int→Option Int→Hp→VK→Prop}(hr:SlR X r)(he:PE X e te)(hl:PO X lo tl)(hu:PO X hi th):PE X (.Subscript e (.Slice lo hi none p2) pos) (tSl r te tl th):=by
 intro pins s σ H Q I h;refine Subscript_ (thn (he pins s σ H _ I h) fun v s1 ⟨x,H1,I1,r1,q1⟩=>?_);refine wpAny_Slice (thn (hl pins s1 σ H1 _ I1 q1) fun vl s2 ⟨l,H2,I2,pl,q2⟩=>thn (hu pins s2 σ H2 _ I2 q2) fun vu s3 ⟨u,H3,I3,pu,q3⟩=>?_);rw[evalPart_none];refine wpAny_pure ?_;have I4:Inv X pins σ H3 {s3 with heap:=s3.heap.push {cls:=.type "slice",data:=.fields #[vl,vu,.none]}}:=I3.kept (t':=s3.toks) fun b ob q=>Heap.get?_push_of_some _ q
 obtain⟨T,id,hT,ht,hg⟩:=hr pins {s3 with heap:=s3.heap.push {cls:=.type "slice",data:=.fields #[vl,vu,.none]}} σ H3 x v vl vu l u s3.heap.objs.size Q I4 r1 (Heap.IsSliceOf.new ..) pl pu q3;show wpAny (model X.prog X.w) X.A (subscriptTail e (.Slice lo hi none p2) v (.ref s3.heap.objs.size)) (EP X pins σ Q) X.xe {s3 with heap:=s3.heap.push {cls:=.type "slice",data:=.fields #[vl,vu,.none]}};exact tail_any (ops:=[.ref s3.heap.objs.size,v]) ht hT hg (by with_unfolding_all rfl)
def cutV(xs:List V)(lo hi:Option Int):List V:=(xs.drop (HT.sIx xs.length 0 lo)).take (HT.sIx xs.length xs.length hi-HT.sIx xs.length 0 lo)
theorem cutV_length(xs:List V)(lo hi:Option Int):(cutV xs lo hi).length≤xs.length:=by
 unfold cutV;rw[List.length_take,List.length_drop];omega
end
end L2
namespace L2
open PySem PySem.Spec PyProof.Rows
def ixN(n:Nat)(i:Int):Option Nat:=if 0≤i then(if i<n then some i.toNat else none)else if -(n:Int)≤i then some (i+n).toNat else none
def atI{α:Type}(xs:List α)(i:Int):Option α:=(ixN xs.length i).bind fun j=>xs[j]?
theorem qf6{n:Nat}{i:Int}{j:Nat}(h:ixN n i=some j):seqIndex? i n=some j∧j<n∧-(n:Int)≤i∧i<n:=by
 unfold ixN at h
 by_cases h0:0≤i
 ·rw[if_pos h0]at h
  by_cases h1:i<n
  ·rw[if_pos h1]at h;have e:i.toNat=j:=Option.some.inj h;exact⟨by rw[seqIndex_of h0 h1,e],by omega,by omega,h1⟩
  ·rw[if_neg h1]at h;cases h
 ·rw[if_neg h0]at h
  by_cases h1:-(n:Int)≤i
  ·rw[if_pos h1]at h;have e:(i+n).toNat=j:=Option.some.inj h;exact⟨by rw[seqIndex_neg (by omega) h1,e],by omega,h1,by omega⟩
  ·rw[if_neg h1]at h;cases h
theorem qfh{α:Type}{xs:List α}{i:Int}{v:α}(h:atI xs i=some v):∃j,seqIndex? i xs.length=some j∧xs[j]?=some v∧j<xs.length∧-(xs.length:Int)≤i∧i<xs.length:=by
 unfold atI at h;cases e:ixN xs.length i with
 | none=>rw[e]at h;cases h
 | some j =>
   rw[e]at h
   obtain⟨h1,h2,h3,h4⟩:=qf6 e
   exact⟨j,h1,h,h2,h3,h4⟩
theorem qbf{α:Type}{xs:List α}{j:Nat}{v:α}(h:xs[j]?=some v):atI xs (j:Int)=some v:=by
 have hj:j<xs.length:=(List.getElem?_eq_some_iff.mp h).1;have e:ixN xs.length (j:Int)=some j:=by
  unfold ixN;rw[if_pos (by omega),if_pos (by omega)];simp
 unfold atI;rw[e];exact h
def PlainIx(b:Expr):Prop:=∀o i,subscripted b false o i=operate [o,i] (getItem o i)
def IxR(X:Cx)(r:R2):Prop :=
 ∀(value slice:Expr) (pins:List (Addr×Obj)) (s:Shared) (σ:St) (H:Hp) (x y:V) (v u:Value) (Q:VK),Inv X pins σ H s→RelV x v→RelV y u→r x y H Q →
  subscripted slice false v u=operate [v,u] (getItem v u)→wpAny (model X.prog X.w) X.A (subscriptTail value slice v u) (EP X pins σ Q) X.xe s
def MtR(X:Cx)(id:String)(r:V→List V→Hp→VK→Prop):Prop :=
 ∀(pins:List (Addr×Obj)) (s:Shared) (σ:St) (H:Hp) (x:V) (xs:List V) (v:Value) (us:List Value) (Q:VK),Inv X pins σ H s→RelV x v→Vals xs us→r x xs H Q →
  wpAny (model X.prog X.w) X.A (call (.builtin id) (v::us)) (EP X pins σ Q) X.xe s
section
variable{X:Cx}{a b:Expr}{ta tb:TE}{pos:Pos}
theorem qap{r:R2}(hr:IxR X r)(ha:PE X a ta)(hb:PE X b tb)(hs:PlainIx b):PE X (.Subscript a b pos) (tOp r ta tb):=by
 intro pins s σ H Q I h;exact Subscript_ (binT ha hb I h fun v u s2 x y H2 I2 rx ry q=>hr a b pins s2 σ H2 x y v u Q I2 rx ry q (hs _ _))
def rIxL(K:PySem.W.Frag):R2:=fun x y H Q=>∃p xs i v,x=.ref p∧y=.int i∧SqL K H p xs∧atI xs i=some v∧Q v H
def rIxT(K:PySem.W.Frag):R2:=fun x y H Q=>∃p xs i v,x=.ref p∧y=.int i∧SqT K H p xs∧atI xs i=some v∧Q v H
def rIxS:R2:=fun x y H Q=>∃z i c,x=.str z∧y=.int i∧z.length≤sizeLine∧atI z.cps.toList i=some c∧Q (.str ⟨#[c]⟩) H
theorem ix_list:IxR X (rIxL X.K):=by
 intro value slice pins s σ H x y v u Q I rx ry h hs;obtain⟨p,xs,i,z,rfl,rfl,hq,he,q⟩:=h;cases rx;obtain⟨t,rfl⟩:=ry;obtain⟨its,r,pl,hz⟩:=I.list hq;obtain⟨j,h1,h2,h3,h4,h5⟩:=qfh he;obtain⟨w,ew,rw'⟩:=r.get h2;have hl:=r.length;have hn:=line63;have fin:EP X pins σ Q w s:=⟨z,H,I,rw',q⟩
 by_cases h0:0≤i
 ·have hj:i.toNat=j:=by
   rw[seqIndex_of h0 h5]at h1;exact Option.some.inj h1
  exact item_listR pl.isList h0 (by omega) (by rw[hj];simpa using ew) fin hs
 ·have hj:(i+(its.toArray.size:Int)).toNat=j:=by
   rw[seqIndex_neg (by omega) h4]at h1;rw[List.size_toArray,←hl];exact Option.some.inj h1
  exact subscriptTail_builtinR (x:=w) pl.isList.typeIs slot_list_getitem.lookup
   (wpAny_getItem_list_neg (Q:=fun r s'=>r=w∧EP X pins σ Q r s') pl.isList (by omega) (by rw[List.size_toArray]<;>omega) (by omega) (by rw[hj];simpa using ew) ⟨rfl,fin⟩) hs
theorem ix_tup:IxR X (rIxT X.K):=by
 intro value slice pins s σ H x y v u Q I rx ry h hs;obtain⟨p,xs,i,z,rfl,rfl,hq,he,q⟩:=h;cases rx;obtain⟨t,rfl⟩:=ry;obtain⟨its,r,pl,hz⟩:=I.tuple hq;obtain⟨j,h1,h2,h3,h4,h5⟩:=qfh he;obtain⟨w,ew,rw'⟩:=r.get h2;have hl:=r.length;have hn:=line63;have fin:EP X pins σ Q w s:=⟨z,H,I,rw',q⟩;exact subscriptTail_builtinR (x:=w) pl.typeIs slot_tuple_getitem.lookup
  (getItem_tuple (j:=j) (Q:=fun r s'=>r=w∧EP X pins σ Q r s') pl (by omega) (by omega) (by rw[List.size_toArray,←hl];exact h1) (by simpa using ew) ⟨rfl,fin⟩) hs
theorem ix_str:IxR X rIxS:=by
 intro value slice pins s σ H x y v u Q I rx ry h hs;obtain⟨z,i,c,rfl,rfl,hz,he,q⟩:=h;obtain⟨t,rfl⟩:=rx;obtain⟨t',rfl⟩:=ry;obtain⟨j,h1,h2,h3,h4,h5⟩:=qfh he;have hl:z.cps.toList.length=z.length:=by simp[Str.length]
 rw[hl]at h1 h4 h5;have hn:=line63;exact tail_any (typeIs_str s z t) slot_str_getitem.lookup (getItem_str (c:=c) (by
  have e1:decide (i < -(2 ^ 63:Int))=false:=decide_eq_false (by omega);have e2:decide (i≥2 ^ 63)=false:=decide_eq_false (by omega);rw[e1,e2,Bool.or_false]) (by rw[h1];simpa using h2) ⟨.str ⟨#[c]⟩,H,I.tok _,⟨_,rfl⟩,q⟩) hs
theorem mapSeq_set(its:List Value)(n j:Nat)(u:Value):Obj.mapSeq (·.setIfInBounds j u) {cls:=.type "list",data:=.seq its.toArray n}={cls:=.type "list",data:=.seq (its.set j u).toArray n}:=by
 simp[Obj.mapSeq]
theorem Inv.lst{pins:List (Addr×Obj)}{σ:St}{H:Hp}{s:Shared}{p:Addr}{xs:List V}(I:Inv X pins σ H s)(h:H p=some (.lst xs)) :
  ∃(its:List Value) (n:Nat),Vals xs its∧s.heap.get? p=some {cls:=.type "list",data:=.seq its.toArray n}∧xs.length≤sizeLine:=by
 obtain⟨z,its,n,r,e⟩:=I.hok p _ h;exact⟨its,n,r,e,z⟩
theorem Inv.lstUpd{pins:List (Addr×Obj)}{σ:St}{H:Hp}{s:Shared}{p:Addr}{xs ys:List V}{its its':List Value}{n n':Nat}{f:Obj→Obj}(I:Inv X pins σ H s)(h:H p=some (.lst xs))(ho:s.heap.get? p=some {cls:=.type "list",data:=.seq its.toArray n})(hf:f {cls:=.type "list",data:=.seq its.toArray n}={cls:=.type "list",data:=.seq its'.toArray n'})(r:Vals ys its')(hz:ys.length≤sizeLine)(t:Nat) :
  Inv X pins σ (upd H p (.lst ys)) {s with heap:=s.heap.update p f,toks:=t}:=by
 have e:(s.heap.update p f).get? p=some {cls:=.type "list",data:=.seq its'.toArray n'}:=by
  rw[Heap.get?_update_self f ho (by rw[hf]<;>rfl),hf]
 refine I.write (x:=p) (e:=p) (by rw[h];trivial) (.inl rfl) (fun b u hb q=>(Heap.get?_update_other _ _ (Ne.symm hb)).trans q) ⟨_,e⟩ ?_;exact⟨hz,its',n',r,e⟩
def rSetL:V→V→V→Hp→(Hp→Prop)→Prop:=fun o i v H Q=>∃p xs k j,o=.ref p∧i=.int k∧H p=some (.lst xs)∧ixN xs.length k=some j∧Q (upd H p (.lst (xs.set j v)))
theorem set_list:PSet X rSetL:=by
 intro pins s σ H o i v ov iv u Q I ro ri rv h;obtain⟨p,xs,k,j,rfl,rfl,hp,hj,q⟩:=h;cases ro;obtain⟨t,rfl⟩:=ri;obtain⟨its,n,r,ho,hz⟩:=I.lst hp;obtain⟨h1,h2,h3,h4⟩:=qf6 hj;have hl:=r.length;have hn:=line63;have I':Inv X pins σ (upd H p (.lst (xs.set j v))) {s with heap:=s.heap.update p (Obj.mapSeq (·.setIfInBounds j u))} :=
  I.lstUpd hp ho (mapSeq_set its n j u) (r.set rv j) (by rw[List.length_set];exact hz) s.toks
 by_cases h0:0≤k
 ·have hk:k.toNat=j:=by
   rw[seqIndex_of h0 h4]at h1;exact Option.some.inj h1
  exact PySem.W.ki_setAt ho h0 (by omega) (by rw[List.size_toArray,←hl];exact h4) (by rw[hk];exact⟨_,I',q⟩)
 ·have hk:(k+(its.toArray.size:Int)).toNat=j:=by
   rw[seqIndex_neg (by omega) h3]at h1;rw[List.size_toArray,←hl];exact Option.some.inj h1
  exact PySem.W.ki_setBack ho (by omega) (by rw[List.size_toArray,←hl];exact h3) (by omega) (by rw[hk];exact⟨_,I',q⟩)
theorem slice_bounds(lo hi:Option Int)(n:Nat):(sliceBounds lo hi none n).1=((HT.sIx n 0 lo:Nat):Int)∧(sliceBounds lo hi none n).2.1=((HT.sIx n n hi:Nat):Int)∧(sliceBounds lo hi none n).2.2=1:=by
 refine⟨?_,?_,rfl⟩
 ·cases lo with
  | none=>simp[sliceBounds,HT.sIx]
  | some i =>
    simp only[sliceBounds,HT.sIx,Option.getD_none,show(1:Int)>0 by decide,if_true]
    by_cases h:i<0
    · simp only[h,if_true]<;>omega
    · simp only[h,if_false]<;>omega
 ·cases hi with
  | none=>simp[sliceBounds,HT.sIx]
  | some i =>
    simp only[sliceBounds,HT.sIx,Option.getD_none,show(1:Int)>0 by decide,if_true]
    by_cases h:i<0
    · simp only[h,if_true]<;>omega
    · simp only[h,if_false]<;>omega
theorem slicePick_cut(its:List Value)(lo hi:Option Int):slicePick its.toArray lo hi none=((its.drop (HT.sIx its.length 0 lo)).take (HT.sIx its.length its.length hi-HT.sIx its.length 0 lo)).toArray:=by
 obtain⟨h1,h2,h3⟩:=slice_bounds lo hi its.toArray.size;unfold slicePick;rw[h1,h2,h3];simp only[sliceRange_one,pick_run,List.size_toArray]<;>rfl
def rSlL(K:PySem.W.Frag):V→Option Int→Option Int→Hp→VK→Prop:=fun x lo hi H Q=>∃a xs,x=.ref a∧SqL K H a xs∧∀p,H p=none→Q (.ref p) (upd H p (.lst (cutV xs lo hi)))
theorem sl_list:SlR X (rSlL X.K):=by
 intro pins s σ H x v vl vu lo hi sl Q I rx hs pl pu h;obtain⟨a,xs,rfl,hx,q⟩:=h;cases rx;obtain⟨its,r,ht,hz⟩:=I.list hx;have hlen:=r.length;refine⟨"list",_,slot_list_getitem.lookup,ht.isList.typeIs,?_⟩;refine wpAny_getItem_list_slice ht.isList hs pl pu .none (by simp) ?_ (by rw[List.size_toArray]<;>omega);rw[slicePick_cut,←hlen];refine⟨.ref s.heap.objs.size,_,I.laid (t':=s.toks) (o:=.lst (cutV xs lo hi)) (fun b ob q=>Heap.get?_push_of_some _ q) (Nat.le_refl _) ?_,rfl,q _ (I.hok.fresh (Nat.le_refl _))⟩;exact⟨Nat.le_trans (cutV_length xs lo hi) hz,_,0,(r.drop (HT.sIx xs.length 0 lo)).take (HT.sIx xs.length xs.length hi-HT.sIx xs.length 0 lo),Heap.get?_push_size _ rfl⟩
def flatV:V→Bool
 | .non=>true
 | .bl _=>true
 | .int _=>true
 | .str _=>true
 | _=>false
def eqV:V→V→Bool
 | .non,.non=>true
 | .bl a,.bl b=>a == b
 | .bl a,.int b=>(if a then 1 else 0) == b
 | .int a,.bl b=>a == (if b then 1 else 0)
 | .int a,.int b=>a == b
 | .str a,.str b=>a == b
 | _,_=>false
theorem eqAt_V{A:Around}{s:Shared}{y x:V}{u v:Value}(ry:RelV y u)(rx:RelV x v)(fy:flatV y=true)(fx:flatV x=true):SeqAt.EqAt A s u v (eqV y x):=by
 cases y with
 | non =>
   cases ry
   cases x with
   | non=>cases rx;exact SeqAt.EqAt.same _
   | bl b=>cases rx;exact SeqAt.EqAt.none_bool b
   | int b=>obtain⟨t,rfl⟩:=rx;exact SeqAt.EqAt.none_int b t
   | str b=>obtain⟨t,rfl⟩:=rx;exact SeqAt.EqAt.none_str b t
   | _=>exact absurd (show false=true from fx) Bool.false_ne_true
 | bl a =>
   cases ry
   cases x with
   | non=>cases rx;exact SeqAt.EqAt.bool_none a
   | bl b=>cases rx;exact SeqAt.EqAt.bool_bool a b
   | int b=>obtain⟨t,rfl⟩:=rx;exact SeqAt.EqAt.bool_int a b t
   | str b=>obtain⟨t,rfl⟩:=rx;exact SeqAt.EqAt.bool_str a b t
   | _=>exact absurd (show false=true from fx) Bool.false_ne_true
 | int a =>
   obtain⟨t',rfl⟩:=ry
   cases x with
   | non=>cases rx;exact SeqAt.EqAt.int_none a t'
   | bl b=>cases rx;exact SeqAt.EqAt.int_bool a t' b
   | int b=>obtain⟨t,rfl⟩:=rx;exact SeqAt.EqAt.int_int a t' b t
   | str b=>obtain⟨t,rfl⟩:=rx;exact SeqAt.EqAt.int_str a t' b t
   | _=>exact absurd (show false=true from fx) Bool.false_ne_true
 | str a =>
   obtain⟨t',rfl⟩:=ry
   cases x with
   | non=>cases rx;exact SeqAt.EqAt.str_none a t'
   | bl b=>cases rx;exact SeqAt.EqAt.str_bool a t' b
   | int b=>obtain⟨t,rfl⟩:=rx;exact SeqAt.EqAt.str_int a t' b t
   | str b=>obtain⟨t,rfl⟩:=rx;exact SeqAt.EqAt.str_str a t' b t
   | _=>exact absurd (show false=true from fx) Bool.false_ne_true
 | _=>exact absurd (show false=true from fy) Bool.false_ne_true
def eqU(x:V)(u:Value):Bool:=match u with
 | .none=>eqV .non x
 | .bool b=>eqV (.bl b) x
 | .int i _=>eqV (.int i) x
 | .str z _=>eqV (.str z) x
 | _=>false
theorem qgP{x y:V}{u:Value}(r:RelV y u)(f:flatV y=true):eqU x u=eqV y x:=by
 cases y with
 | non=>cases r;rfl
 | bl b=>cases r;rfl
 | int i=>obtain⟨t,rfl⟩:=r;rfl
 | str z=>obtain⟨t,rfl⟩:=r;rfl
 | _=>exact absurd (show false=true from f) Bool.false_ne_true
theorem qdv{x:V}:∀{xs:List V} {us:List Value},Vals xs us→xs.all flatV=true→us.any (eqU x)=xs.any fun y=>eqV y x
 | _,_,.nil,_=>rfl
 | y :: xs, u :: us, .cons r t, f => by
   rw[List.all_cons,Bool.and_eq_true]at f
   rw[List.any_cons,List.any_cons,qgP r f.1,qdv t f.2]
theorem qcU{A:Around}{s:Shared}{x:V}{v:Value}(rx:RelV x v)(fx:flatV x=true):∀{xs:List V} {us:List Value},Vals xs us→xs.all flatV=true→∀u∈us,SeqAt.EqAt A s u v (eqU x u)
 | _,_,.nil,_=>fun u hu=>by cases hu
 | y :: xs, u :: us, .cons r t, f => fun u' hu => by
   rw[List.all_cons,Bool.and_eq_true]at f
   rcases List.mem_cons.mp hu with rfl | hu
   · rw[qgP r f.1];exact eqAt_V r rx f.1 fx
   · exact qcU rx fx t f.2 u' hu
def inV(x:V)(xs:List V):Bool:=xs.any fun y=>eqV y x
def rIn(K:PySem.W.Frag)(neg:Bool):R2:=fun x y H Q=>∃p xs,y=.ref p∧(SqL K H p xs∨SqT K H p xs)∧flatV x=true∧xs.all flatV=true∧Q (.bl (if neg then !inV x xs else inV x xs)) H
theorem op_in_seq:OpR X (compareOp .In) (rIn X.K false):=by
 intro pins s σ H x y v u Q I rx ry h;obtain⟨p,xs,rfl,hq,fx,fs,q⟩:=h;cases ry;rcases hq with hq | hq
 ·obtain⟨its,r,pl,hz⟩:=I.list hq;refine SeqAt.in_listAt (eqU x) pl.isList (fun w hw=>qcU rx fx r fs w (by simpa using hw)) ⟨.bl _,H,I,rfl,?_⟩;rw[show its.toArray.any (eqU x)=its.any (eqU x) by simp,qdv r fs];exact q
 ·obtain⟨its,r,pl,hz⟩:=I.tuple hq;refine SeqAt.in_tupleAt (eqU x) pl (fun w hw=>qcU rx fx r fs w (by simpa using hw)) ⟨.bl _,H,I,rfl,?_⟩;rw[show its.toArray.any (eqU x)=its.any (eqU x) by simp,qdv r fs];exact q
theorem op_notIn_seq:OpR X (compareOp .NotIn) (rIn X.K true):=by
 intro pins s σ H x y v u Q I rx ry h;obtain⟨p,xs,rfl,hq,fx,fs,q⟩:=h;cases ry;rcases hq with hq | hq
 ·obtain⟨its,r,pl,hz⟩:=I.list hq;refine SeqAt.notIn_listAt (eqU x) pl.isList (fun w hw=>qcU rx fx r fs w (by simpa using hw)) ⟨.bl _,H,I,rfl,?_⟩;rw[show its.toArray.any (eqU x)=its.any (eqU x) by simp,qdv r fs];exact q
 ·obtain⟨its,r,pl,hz⟩:=I.tuple hq;refine SeqAt.notIn_tupleAt (eqU x) pl (fun w hw=>qcU rx fx r fs w (by simpa using hw)) ⟨.bl _,H,I,rfl,?_⟩;rw[show its.toArray.any (eqU x)=its.any (eqU x) by simp,qdv r fs];exact q
theorem call_len_seq:qcV X (.builtin "len") (fun xs H Q=>∃p ys,xs=[.ref p]∧(SqL X.K H p ys∨SqT X.K H p ys)∧Q (.int ys.length) H):=by
 intro pins s σ H xs us Q I r h;obtain⟨p,ys,rfl,hq,q⟩:=h;obtain⟨u,rfl,rx⟩:=qdO r;cases rx;have hn:=line63;rcases hq with hq | hq
 ·obtain⟨its,r',pl,hz⟩:=I.list hq;have hlen:=r'.length;exact Calls.call_len_list pl.isList (by simp only[List.size_toArray]<;>omega) ⟨.int ys.length,H,I.tok _,⟨s.toks+1,by rw[List.size_toArray,hlen]⟩,q⟩
 ·obtain⟨its,r',pl,hz⟩:=I.tuple hq;have hlen:=r'.length;exact len_tuple pl (by simp only[List.size_toArray]<;>omega) ⟨.int ys.length,H,I.tok _,⟨s.toks+1,by rw[List.size_toArray,hlen]⟩,q⟩
theorem call_len_str:qcV X (.builtin "len") (fun xs H Q=>∃z,xs=[.str z]∧z.length≤sizeLine∧Q (.int z.length) H):=by
 intro pins s σ H xs us Q I r h;obtain⟨z,rfl,hz,q⟩:=h;obtain⟨u,rfl,t,rfl⟩:=qdO r;have hn:=line63;exact len_str (by omega) ⟨.int z.length,H,I.tok _,⟨_,rfl⟩,q⟩
theorem call_list_of:qcV X (.type "list") (fun xs H Q=>∃p ys,xs=[.ref p]∧(SqL X.K H p ys∨SqT X.K H p ys)∧∀l,H l=none→Q (.ref l) (upd H l (.lst ys))):=by
 intro pins s σ H xs us Q I r h;obtain⟨p,ys,rfl,hq,q⟩:=h;obtain⟨u,rfl,rx⟩:=qdO r;cases rx;have fin:∀(its:List Value),Vals ys its→ys.length≤sizeLine→∀(h':Heap) (c':Nat),(∀b o',s.heap.get? b=some o'→h'.get? b=some o') →
   h'.get? s.heap.objs.size=some {cls:=.type "list",dict:=none,data:=.seq its.toArray c',slots:=#[]}→EP X pins σ Q (.ref s.heap.objs.size) {s with heap:=h'}:=fun its r' hz h' c' kp e =>
  ⟨.ref s.heap.objs.size,_,I.laid (t':=s.toks) kp (Nat.le_refl _) (show ObjOk X.prog X.w _ h' _ (.lst ys)from⟨hz,its,c',r',e⟩),rfl,q _ (I.hok.fresh (Nat.le_refl _))⟩
 rcases hq with hq | hq
 ·obtain⟨its,r',pl,hz⟩:=I.list hq;have hlen:=r'.length;obtain⟨o,ho,hc,n,hd⟩:=pl.isList;exact call_list_seq p (.inl rfl) ho hc hd (fun h' c' kp e=>fin its r' hz h' c' kp e) (by simp only[List.size_toArray]<;>omega)
 ·obtain⟨its,r',pl,hz⟩:=I.tuple hq;have hlen:=r'.length;obtain⟨o,ho,hc,n,hd⟩:=pl;exact call_list_seq p (.inr rfl) ho hc hd (fun h' c' kp e=>fin its r' hz h' c' kp e) (by simp only[List.size_toArray]<;>omega)
def tyV(K:PySem.W.Frag)(T:String)(x:V)(H:Hp):Prop:=match x with
 | .str _=>T = "str"
 | .int _=>T = "int"
 | .ref p=>(T = "list" ∧ ∃xs,SqL K H p xs)∨(T = "tuple" ∧ ∃o,K.lookup p=some o∧o.cls=.type "tuple" ∧ o.dict=none) ∨
   (T = "dict" ∧ ((∃kvs,H p=some (.dK kvs))∨∃kvs,H p=some (.dT kvs)))∨(T = "set" ∧ ∃S n,H p=some (.set S n))
 | _=>False
theorem tyV_is{pins:List (Addr×Obj)}{σ:St}{H:Hp}{s:Shared}{T:String}{x:V}{v:Value}(I:Inv X pins σ H s)(r:RelV x v)(ty:tyV X.K T x H) :
  s.TypeIs v T∧∀a,v=.ref a→∃ob,s.heap.get? a=some ob∧ob.dict=none:=by
 cases x with
 | str z =>
   obtain⟨t,rfl⟩:=r
   cases(show T = "str" from ty)
   exact⟨typeIs_str s z t,fun _ e=>nomatch e⟩
 | int i =>
   obtain⟨t,rfl⟩:=r
   cases(show T = "int" from ty)
   exact⟨typeIs_int s i t,fun _ e=>nomatch e⟩
 | ref p =>
   cases r
   rcases ty with⟨rfl,xs,hq⟩ | ⟨rfl,o,hk,hc,hd⟩ | ⟨rfl,hk⟩ | ⟨rfl,S,n,hk⟩
   · obtain⟨its,_,pl,_⟩:=I.list hq
     refine⟨pl.isList.typeIs,fun a e=>?_⟩
     cases e
     obtain⟨o,n,e,c,hd,_⟩:=pl
     exact⟨o,e,hd⟩
   · refine⟨⟨o,I.kIn p o hk,hc⟩,fun a e=>?_⟩
     cases e
     exact⟨o,I.kIn _ o hk,hd⟩
   · have z:∃o,s.heap.get? p=some o∧o.ExactDict:=by
       rcases hk with⟨kvs,hk⟩ | ⟨kvs,hk⟩
       · obtain⟨_,_,_,_,o,_,_,e,ex,_⟩:=I.hok p _ hk
         exact⟨o,e,ex⟩
       · obtain⟨_,_,_,_,o,_,_,e,ex,_⟩:=I.hok p _ hk
         exact⟨o,e,ex⟩
     obtain⟨o,e,ex⟩:=z
     refine⟨⟨o,e,ex.1⟩,fun a e2=>?_⟩
     cases e2
     exact⟨o,e,ex.2.1⟩
   · obtain⟨o,_,_,_,e,ex,_⟩:=I.hok p _ hk
     refine⟨⟨o,e,ex.1⟩,fun a e2=>?_⟩
     cases e2
     exact⟨o,e,ex.2.1⟩
 | _=>exact False.elim ty
def tBM(K:PySem.W.Frag)(T:String)(r:V→List V→Hp→VK→Prop)(to:TE)(t:TA):TE:=fun σ H Q=>to σ H fun x H1=>tyV K T x H1∧t σ H1 fun xs H2=>r x xs H2 Q
variable{o e:Expr}{es:List Expr}{to:TE}{t:TA}{name:Str}{apos cpos:Pos}{T id:String}{r:V→List V→Hp→VK→Prop}
theorem qbk(pa:PlainAttrs T)(slot:Slot T name id)(hty:typeOf (.builtin id)=pure (.type "method_descriptor"))(hm:MtR X id r)(ho:PE X o to)(ha:PA X (e::es) t)(hbase:attributeBase o name X.env (eval o X.env)=eval o X.env:=by rfl)(hfew:((backTo cpos (starEach (e::es) X.env)).all (fun x=>!x.1) && (backToKw cpos (keywordEach [] X.env)).all (fun x=>x.1.isSome)
   && decide ((e::es).length+([]:List Keyword).length+(if([]:List Keyword).isEmpty then 0 else 1)<30))=true:=by rfl)(hline:(apos.endLine == cpos.line)=true:=by rfl)(hs:starEach (e::es) X.env=(false,eval e X.env)::starEach es X.env:=by rfl)(hplain:(backTo cpos (starEach es X.env)).any (·.1)=false:=by rfl) :
  PE X (.Call (.Attribute o name apos) (e::es) [] cpos) (tBM X.K T r to t):=by
 intro pins s σ H Q I h;refine wpAny_Call_method_late hbase hfew hline rfl (thn (ho pins s σ H _ I h) fun v s1 ⟨x,H1,I1,r1,ty,q1⟩=>?_);obtain⟨h1,h2⟩:=tyV_is I1 r1 ty;refine⟨T,id,pa,slot,hty,h1,h2,?_⟩;have hA:=ha cpos pins s1 σ H1 _ I1 q1;rw[hs]at hA⊢;refine Calls.callWith_builtin (by show(false || (backTo cpos (starEach es X.env)).any (·.1))=false;rw[hplain]<;>rfl) (Calls.evalArgs_plain ?_);exact thn hA fun us s2 ⟨vs,H2,I2,r2,q2⟩=>hm pins s2 σ H2 x vs v us Q I2 r1 r2 q2
end
end L2
namespace L2
open PySem PySem.Spec PyProof.Rows
def MtM(X:Cx)(id:String)(r:V→List V→Hp→VK→Prop):Prop :=
 ∀(pins:List (Addr×Obj)) (s:Shared) (σ:St) (H:Hp) (x:V) (xs:List V) (v:Value) (us:List Value) (Q:VK),Inv X pins σ H s→RelV x v→Vals xs us→r x xs H Q →
  wpAny (model X.prog X.w) X.A (call (.builtin id) (v::us)) (EP X pins σ Q) X.xe s
theorem Vals.one:∀{x:V} {us:List Value},Vals [x] us→∃u,us=[u]∧RelV x u
 | _,_,.cons r .nil=>⟨_,rfl,r⟩
section
variable{X:Cx}{pins:List (Addr×Obj)}{σ:St}{H:Hp}{s:Shared}{l b:Addr}{xs ys zs:List V}
theorem Inv.lset{its its':List Value}{n:Nat}{f:Array Value→Array Value}{t':Nat}(I:Inv X pins σ H s)(hH:H l=some (.lst xs))(e:s.heap.get? l=some {cls:=.type "list",data:=.seq its.toArray n})(hf:f its.toArray=its'.toArray)(hv:Vals ys its')(hz:ys.length≤sizeLine) :
  Inv X pins σ (upd H l (.lst ys)) {s with heap:=s.heap.update l (Obj.mapSeq f),toks:=t'}:=by
 have q:=PySem.IsL.update e f;rw[hf]at q;refine I.write (x:=l) (e:=l) (by rw[hH];exact trivial) (.inl rfl) (fun b' u hb hu=>(Heap.get?_update_other s.heap (Obj.mapSeq f) (Ne.symm hb)).trans hu) ⟨_,q⟩ ?_;exact⟨hz,its',_,hv,q⟩
theorem Inv.lnew{its:List Value}{t':Nat}(I:Inv X pins σ H s)(hv:Vals ys its)(hz:ys.length≤sizeLine) :
  Inv X pins σ (upd H s.heap.objs.size (.lst ys)) {s with heap:=s.heap.push {cls:=.type "list",data:=.seq its.toArray},toks:=t'} :=
 I.laid (fun _ _ q=>Heap.get?_push_of_some _ q) (Nat.le_refl _) ⟨hz,its,0,hv,Heap.get?_push_size _ rfl⟩
theorem Inv.fresh(I:Inv X pins σ H s):H s.heap.objs.size=none:=I.hok.fresh (Nat.le_refl _)
theorem Inv.lstM(I:Inv X pins σ H s)(hH:H l=some (.lst xs)):xs.length≤sizeLine∧∃(its:List Value) (n:Nat),Vals xs its∧xs.length=its.length∧s.heap.get? l=some {cls:=.type "list",data:=.seq its.toArray n}:=by
 obtain⟨z,its,n,r,e⟩:=I.hok l _ hH;exact⟨z,its,n,r,r.length,e⟩
theorem notLongL{n:Nat}(h:n≤sizeLine):Builtin.List.listTooLong n=false:=by
 unfold Builtin.List.listTooLong;exact decide_eq_false (by omega)
end
section
variable{X:Cx}
def rAppend:V→List V→Hp→VK→Prop:=fun x vs H Q=>∃l xs y,x=.ref l∧vs=[y]∧H l=some (.lst xs)∧xs.length<sizeLine∧Q .non (upd H l (.lst (xs++[y])))
theorem mt_append:MtM X "list.append" rAppend:=by
 intro pins s σ H x vs v us Q I rx rv h;obtain⟨l,xs,y,rfl,rfl,hH,hz,q⟩:=h;cases rx;obtain⟨u,rfl,ru⟩:=rv.one;obtain⟨z,its,n,r,hl,e⟩:=I.lstM hH;refine call_meets F.slot_list_append ⟨_,e,rfl⟩ F.entry_list_append (F.args_list_append_2 _ _) (PySem.list_append l its.toArray n u (by rw[List.size_toArray];omega)) ⟨e,?_⟩;refine⟨.non,_,I.lset (its':=its++[u]) hH e (by simp) (r.append (.cons ru .nil)) ?_,rfl,q⟩;rw[List.length_append,List.length_singleton];omega
def rExtend:V→List V→Hp→VK→Prop:=fun x vs H Q=>∃l b xs zs,x=.ref l∧vs=[.ref b]∧H l=some (.lst xs)∧H b=some (.lst zs)∧xs.length+zs.length≤sizeLine∧Q .non (upd H l (.lst (xs++zs)))
theorem mt_extend:MtM X "list.extend" rExtend:=by
 intro pins s σ H x vs v us Q I rx rv h;obtain⟨l,b,xs,zs,rfl,rfl,hH,hB,hz,q⟩:=h;cases rx;obtain⟨u,rfl,ru⟩:=rv.one;cases ru;obtain⟨z,its,n,r,hl,e⟩:=I.lstM hH;obtain⟨z2,its2,n2,r2,hl2,e2⟩:=I.lstM hB;have hsz:its.toArray.size+its2.toArray.size≤sizeLine:=by rw[List.size_toArray,List.size_toArray];omega
 have hlong:¬(!its.toArray.isEmpty && Builtin.List.listTooLong (its.toArray.size+its2.toArray.size))=true:=by
  rw[notLongL hsz,Bool.and_false];exact Bool.false_ne_true
 refine call_meets F.slot_list_extend ⟨_,e,rfl⟩ F.entry_list_extend (F.args_list_extend_2 _ _)
  (AutoSeq1.list_extend_list_list_0 l its.toArray n b its2.toArray n2 hlong (by rw[List.size_toArray];omega) (by omega)) ⟨e,e2,?_⟩
 refine⟨.non,_,I.lset (its':=its++its2) hH e (by simp) (r.append r2) ?_,rfl,q⟩;rw[List.length_append];omega
def rCat:R2:=fun x y H Q=>∃l b xs zs,x=.ref l∧y=.ref b∧H l=some (.lst xs)∧H b=some (.lst zs)∧xs.length+zs.length≤sizeLine∧∀p,H p=none→Q (.ref p) (upd H p (.lst (xs++zs)))
theorem op_cat:OpR X (binaryOp .Add) rCat:=by
 intro pins s σ H x y v u Q I rx ry h;obtain⟨l,b,xs,zs,rfl,rfl,hH,hB,hz,q⟩:=h;cases rx;cases ry;obtain⟨z,its,n,r,hl,e⟩:=I.lstM hH;obtain⟨z2,its2,n2,r2,hl2,e2⟩:=I.lstM hB;refine PySem.P.add_list e e2 ?_ (by rw[List.size_toArray,List.size_toArray];omega);have ea:its.toArray++its2.toArray=(its++its2).toArray:=by simp
 rw[ea];exact⟨.ref _,_,I.lnew (t':=s.toks) (r.append r2) (by rw[List.length_append];omega),rfl,q _ I.fresh⟩
end
end L2
namespace Att
open PySem PySem.W PySem.Calls PyProof.Rows
theorem ints_of_wellAll{P:Params}{h:Heap}:∀(ns:List Int) (vs:List Value),WellAll P h vs (ns.map WData.int)→IntsAre vs ns:=by
 intro ns
 induction ns with
 | nil =>
   intro vs w
   rw[List.map_nil]at w
   cases w
   exact .nil
 | cons n ns ih =>
   intro vs w
   rw[List.map_cons]at w
   cases w with
   | cons a b =>
     cases a
     exact .cons _ _ (ih _ b)
theorem script_of{l:OpenLaw}{n:Nat}(hn:l.most=some n){P:Params}{h:Heap}{args:List WData}{vals:List Value}(hpre:l.row.toRowW.claim.pre args=true)(hwl:WellAll P h vals args) :
  ∃a vs ns,vals=[Value.ref a]∧args=[WData.list (ns.map WData.int)]∧h.get? a=some {cls:=.type "list",data:=.seq vs.toArray}∧IntsAre vs ns∧ns.length≤n:=by
 have hsh:WShape.hasAll [] args [.list .int]=true:=(pre_splitW hpre).1;have hc:l.pre.holds [] {args:=args}=true:=(pre_splitW hpre).2;obtain⟨d,r,rfl,h1,h2⟩:=hasAllW_cons hsh;obtain rfl:=hasAllW_nil h2;obtain⟨xs,rfl,h3⟩:=hasW_list h1;obtain⟨ns,rfl⟩:=items_int h3;have hlen:ns.length≤n:=by
  unfold OpenLaw.pre at hc;have h4:(WTm.not (.lt (.lit (.int (n:Int))) (.len (.arg 0)))).holds [] {args:=[.list (ns.map .int)]}=true:=by
   have h4:=(holds_andW hc).1;rw[hn]at h4;exact h4
  have h5:=condW_of h4 (w_not (w_lt w_lit (w_len_list (w_arg rfl))));rw[List.length_map]at h5;refine Nat.le_of_not_lt fun q=>?_
  have q':(n:Int)<((ns.length:Nat):Int):=by omega
  first
   | (rw[decide_eq_true q']at h5;exact absurd h5 (by decide))
   | (simp at h5;omega)
 cases hwl with
 | cons w1 w2 =>
   cases w2
   cases w1 with
   | list ho hall=>exact⟨_,_,ns,rfl,rfl,ho,ints_of_wellAll ns _ hall,hlen⟩
theorem post_true(l:OpenLaw)(args:List WData):l.row.toRowW.claim.post args (.bool true) args=true :=
 postW_of (r:=l.row.toRowW) (X:=(true == true))
  (show WShape.has [] (.bool true) .bool=true by first | rfl | decide | simp[WShape.has,WShape.arms,WShape.armsAll])
  (show(WTm.eq .res (.lit (.bool true))).value [] {args:=args,res:=some (.bool true),after:=args}=some (.bool (true == true))from w_eq_bool (w_res rfl) w_lit) rfl
theorem attach_call{l:OpenLaw}{n:Nat}{q:Program}{loose:List Str}{XP:(Str→Option Value)→Heap→Prop}{YP:World→Heap→Prop}{d:DefRec}(hn:l.most=some n)(hdf:d.params.defaults=[])(call:∀(w:World) (s₀ s₁:Shared) (mg mb:Str→Option Value) (fa:Addr) (o:Obj) (pm cd doc:Value) (a:Addr) (vs:List Value) (ns:List Int),
   Ground q loose [] XP w s₀ mg mb s₁.heap→YP w s₁.heap →
   s₁.heap.get? fa=some o→o.data=.func (docDef d.name d.params d.body d.scope pm cd doc)→s₁.heap.CodeRec cd d.name→mg d.name=some (.ref fa) →
   s₁.heap.get? a=some {cls:=.type "list",data:=.seq vs.toArray}→IntsAre vs ns→ns.length≤n→s₁.gens=#[] →
   codeAny (model l.prog w) callerA (.call (.ref fa) ⟨[.ref a],[]⟩) (fun r s'=>r=.ok (.ret (.bool true))∧OldK s₁.heap s'.heap∧s'.os=s₁.os∧AllBare s'.gens) s₁) :
  WalkO q loose XP YP l.row.toRowW d [] (fun f vs=>PySem.call f vs):=by
 intro w s₀ s₁ mg mb G Y fa o pm cd doc dV kV ho hd hcd hD hmg hg args vals as hpre hlay hrd hwl hlo;obtain rfl:dV=.none:=Dflts.none hD hdf;obtain rfl:kV=.none:=Dflts.noKw hD;obtain⟨a,vs,ns,rfl,rfl,hobj,hints,hlen⟩:=script_of hn hpre hwl;refine enter_call (codeAny_mono (call w s₀ s₁ mg mb fa o pm cd doc a vs ns G Y ho (fd_plain hd) hcd hmg hobj hints hlen hg) fun r s' hq=>?_);obtain⟨rfl,h2,h3,h4⟩:=hq;exact⟨.inl ⟨.bool true,.bool true,[],rfl,fun _=>rfl,.bool true,post_true l _,fun _=>⟨List.Pairwise.nil,fun _ hm=>(nomatch hm)⟩⟩,h2,h3,h4⟩
end Att
namespace L2
open PySem PySem.Spec PyProof.Rows
theorem vals_ints:∀{vs:List Value} {ns:List Int},IntsAre vs ns→Vals (ns.map V.int) vs
 | _,_,.nil=>.nil
 | _,_,.cons n t h=>.cons ⟨t,rfl⟩ (vals_ints h)
def Only(H:Hp):Prop:=∀b,H b=none∨∃o xs,H b=some (.frz o (.lst xs))
theorem law_call{P:Program}{w:World}{K:PySem.W.Frag}{mg mb:Str→Option Value}{CX:CXT}{k:Nat}{fa a:Addr}{fd:FuncData}{x:Str}{sp:Sp}{s₁:Shared}{vs:List Value}{ns:List Int}(KX:K.In s₁.heap)(hns:s₁.heap.Ns mainGlobals mg)(hb:s₁.heap.Ns builtinsNs mb)(hbb:∀x:Str,x ≠ "__name__" → mb x=bootBuiltins x)(hlim:s₁.heap.NoLimit)(hg:s₁.gens=#[])(ha:s₁.heap.get? a=some {cls:=.type "list",data:=.seq vs.toArray})(hi:IntsAre vs ns)(hl:ns.length≤sizeLine)(hr:Room k callerA)(F:∀base:Heap,K.In base→base.Ns mainGlobals mg→FnOk P w K mg base CX k fa fd [x] sp)(hbind:∀(s:Shared) (u:Value),BindsTo s fd ⟨[u],[]⟩ [(x,u)])(hsp:∀H:Hp,Only H→SqL K H a (ns.map V.int)→sp [.ref a] H (fun v _=>v=.bl true) fun _ _ _=>False)(hCX:∀H e s',CX [] H s₁ (fun _ _ _=>False) e s'→False) :
  codeAny (model P w) callerA (.call (.ref fa) ⟨[.ref a],[]⟩) (fun r s'=>r=.ok (.ret (.bool true))∧OldK s₁.heap s'.heap∧s'.os=s₁.os∧AllBare s'.gens) s₁:=by
 have rv:=vals_ints hi;have lenV:=hi.length;have core:∀H:Hp,Only H→SqL K H a (ns.map V.int)→HOk P w H s₁.heap→(∀b,H b≠none→b=a)→(H a≠none→K.lookup a=none) →
   codeAny (model P w) callerA (.call (.ref fa) ⟨[.ref a],[]⟩) (fun r s'=>r=.ok (.ret (.bool true))∧OldK s₁.heap s'.heap∧s'.os=s₁.os∧AllBare s'.gens) s₁:=by
  intro H hO hS hok hA hK;have base_of:∀{b:Addr} {o:Obj},s₁.heap.get? b=some o→H b=none→(hidT s₁.heap H).get? b=some o:=fun e n=>hidT_get e n
  have noA:∀{b:Addr} {o:Obj} {es:Array DictEntry} {ep:Nat},s₁.heap.get? b=some o→o.data=.dict es ep→H b=none:=fun {b o es ep} e d=>by
   cases q:H b with
   | none=>rfl
   | some u =>
     have e':b=a:=hA b (by rw[q];simp)
     subst e'
     rw[ha]at e;cases e
     have d':Data.seq vs.toArray _=Data.dict es ep:=d
     cases d'
  have nsK:∀{b:Addr} {m:Str→Option Value},s₁.heap.Ns b m→(hidT s₁.heap H).Ns b m:=fun {b m} ⟨o,es,ep,e,d,r⟩=>⟨o,es,ep,base_of e (noA e d),d,r⟩
  have hKb:K.In (hidT s₁.heap H):=fun b o e=>base_of (KX b o e) (by
   cases q:H b with
   | none=>rfl
   | some u =>
     have e':b=a:=hA b (by rw[q];simp)
     subst e'
     rw[hK (by rw[q];simp)]at e;cases e)
  have hM:Mod K mg (hidT s₁.heap H):=⟨hKb,nsK hns,⟨mb,nsK hb,hbb⟩,let⟨mc,h1,h2⟩:=hlim;⟨mc,nsK h1,h2⟩⟩;have e0:Env0 P w K mg (hidT s₁.heap H) callerA [] s₁ H:=⟨rfl,hM,fun b o e=>of_hidT e,Nat.le_of_eq (hidT_size _ _),trivial,fun b hb=>absurd (show b∈([]:List Addr)from hb) (by simp),hok,.of_eq hg⟩;refine codeAny_mono ((F _ hKb (nsK hns)).run callerA [] s₁ H ⟨[.ref a],[]⟩ [.ref a] [.ref a] _ _ hr e0 (hbind s₁ (.ref a)) (.cons rfl .nil) (hsp H hO hS)) fun r s' h=>?_
  cases r with
  | error e=>exact(hCX H e s' h).elim
  | ok fl =>
    cases fl with
    | next=>exact False.elim h
    | brk=>exact False.elim h
    | cont=>exact False.elim h
    | ret u =>
      obtain⟨v,H',os,bare,un,hok',r',q⟩:=h
      have q':v=.bl true:=q
      subst q'
      obtain rfl:u=Value.bool true:=r'
      refine⟨rfl,OldK.of_keep fun b o e=>?_,os,bare⟩
      cases q:H b with
      | none=>exact un.keep b o e q (by intro z;exact absurd (show b∈([]:List Addr)from z) (by simp)) (by simp)
      | some u =>
        rcases hO b with z | ⟨ob,xs,z⟩
        · rw[q]at z;cases z
        · have z2:=un.frzs b ob _ z
          obtain⟨e1,_⟩:=hok b _ z
          obtain⟨e2,_⟩:=hok' b _ z2
          rw[e]at e1;cases e1
          exact e2
 cases hk:K.lookup a with
 | some o =>
   have e:=KX a o hk
   rw[ha]at e
   cases e
   refine core (fun _=>none) (fun _=>.inl rfl) (.inr ⟨_,vs.toArray,_,hk,rfl,rfl,rfl,by rw[List.size_toArray,lenV];exact hl,by simpa using rv⟩) (fun b u z=>by have z':(none:Option HO)=some u:=z;cases z') (fun b z=>absurd rfl z) fun z=>absurd rfl z
 | none =>
   refine core (fun b=>if b=a then some (.frz {cls:=.type "list",data:=.seq vs.toArray} (.lst (ns.map V.int)))else none) (fun b=>?_) (.inl (.inr ⟨{cls:=.type "list",data:=.seq vs.toArray},if_pos rfl⟩)) (fun b u z=>?_) (fun b z=>?_) fun _=>hk
   · by_cases hb:b=a
     · exact .inr ⟨_,_,if_pos hb⟩
     · exact .inl (if_neg hb)
   · by_cases hb:b=a
     · have z':=(if_pos hb).symm.trans z
       cases z'
       subst hb
       exact⟨ha,by rw[List.length_map];exact hl,vs,_,rv,ha⟩
     · have z':=(if_neg hb).symm.trans z
       cases z'
   · by_cases hb:b=a
     · exact hb
     · exact absurd (if_neg hb) z
end L2
namespace L2
open PySem PySem.Spec PyProof.Rows
theorem walk_of{l:PySem.W.OpenLaw}{n k:Nat}{q:Program}{loose:List Str}{XP:(Str→Option Value)→Heap→Prop}{YP:World→Heap→Prop}{d:DefRec}{K:Params→PySem.W.Frag}{CX:World→CXT}{sp:World→Sp}{x:Str}(hn:l.most=some n)(hn2:n≤sizeLine)(hdf:d.params.defaults=[])(hr:Room k callerA)(hY:∀(w:World) (h:Heap),YP w h→(K w.params).In h)(F:∀(w:World) (mg:Str→Option Value) (fa:Addr) (h:Heap),(K w.params).In h→h.Ns mainGlobals mg→mg d.name=some (.ref fa) →
   ∃fd:FuncData,(∀(s:Shared) (u:Value),BindsTo s fd ⟨[u],[]⟩ [(x,u)]) ∧
    ∀base:Heap,(K w.params).In base→base.Ns mainGlobals mg→FnOk l.prog w (K w.params) mg base (CX w) k fa fd [x] (sp w))(hsp:∀(w:World) (H:Hp) (a:Addr) (ns:List Int),ns.length≤n→Only H→SqL (K w.params) H a (ns.map V.int)→sp w [.ref a] H (fun v _=>v=.bl true) fun _ _ _=>False)(hCX:∀(w:World) (H:Hp) (s:Shared) (e:Value) (s':Shared),CX w [] H s (fun _ _ _=>False) e s'→False) :
  PySem.W.WalkO q loose XP YP l.row.toRowW d [] (fun f vs=>PySem.call f vs):=by
 refine Att.attach_call hn hdf fun w s₀ s₁ mg mb fa o pm cd doc a vs ns G Y ho hd hcd hmg hobj hints hlen hg=>?_
 have KX:=hY w _ Y;obtain⟨fd,hb,hF⟩:=F w mg fa _ KX G.T.g hmg;exact law_call KX G.T.g G.T.b G.T.builtins G.T.nolimit hg hobj hints (Nat.le_trans hlen hn2) hr hF hb (fun H hO hS=>hsp w H a ns hlen hO hS) fun H e s'=>hCX w H s₁ e s'
end L2
namespace L2
open PySem PySem.Spec PyProof.Rows
def qbt(s:Stmt):Arguments:=match s with
 | .FunctionDef _ a _ _ _ _ _ _ _ _=>a
 | _=>{posonlyargs:=[],args:=[],vararg:=none,kwonlyargs:=[],kw_defaults:=[],kwarg:=none,defaults:=[]}
def qa7(s:Stmt):List Stmt:=match s with
 | .FunctionDef _ _ b _ _ _ _ _ _ _=>b
 | _=>[]
def qag(s:Stmt):Scope:=match s with
 | .FunctionDef _ _ _ _ _ _ sc _ _ _=>sc
 | _=>{kind:=.function,names:=[],isGenerator:=false,isCoroutine:=false}
abbrev CX0:CXT:=fun _ _ _ _ _ _=>False
abbrev E0:XK:=fun _ _ _=>False
theorem qas{X:Cx}:qdG CX0 X E0:=fun _ _ _ _ _ _ _ h=>h.elim
structure Fun(K:PySem.W.Frag)(x qual:Str)(st:Stmt)(f:Addr)(fd:FuncData):Prop where
 ex:∃(oc:Value) (od:Option Addr) (kV doc pm:Value) (an:Option Addr) (cdv ct:Value) (osl:Array (Option Value)),
  fd=PySem.W.fnOf x qual (qbt st) (qa7 st) (qag st) .none kV doc pm an cdv ct∧K.lookup f=some ⟨oc,od,.func fd,osl⟩∧PySem.W.codeIn K cdv qual=true
 kp:PySem.W.keepIn K (.ref f)=true
section
variable{P:Program}{w:World}{K:PySem.W.Frag}{mg:Str→Option Value}{base:Heap}
theorem Fun.ok{x qual:Str}{st:Stmt}{f:Addr}{fd:FuncData}{N ps:List Str}{k:Nat}{sp:Sp}(F:Fun K x qual st f fd)(S:FnScope N ps (qag st))(len:∀vs H Q E,sp vs H Q E→vs.length=ps.length)(hbody:∀(cdv:Value) (A:Around) (outer:List Env) (s:Shared) (H:Hp) (vs:List V) (Q:VK) (E:XK),Room k (A.deeper (envOfC qual (qag st) s.heap.objs.size f cdv))→sp vs H Q E →
   ∃t,PSs (cxOf CX0 P w K mg base N qual (qag st) f cdv A outer s H E).nox (qa7 st) t∧t {nx:=fun _ H'=>Q .non H',rt:=Q} (qem N vs) H):FnOk P w K mg base CX0 (k+1) f fd ps sp:=by
 obtain⟨oc,od,kV,doc,pm,an,cdv,ct,osl,rfl,lk,hcd⟩:=F.ex;refine qg7 lk hcd S len fun A outer s H vs Q E hr hsp=>?_
 obtain⟨t,h,q⟩:=hbody cdv A outer s H vs Q E hr hsp;exact⟨t,h.nox,q⟩
theorem Fun.binds{x qual:Str}{st:Stmt}{f:Addr}{fd:FuncData}{ps:List Str}(F:Fun K x qual st f fd)(h:∀(kV doc pm:Value) (an:Option Addr) (cdv ct:Value) (us:List Value),us.length=ps.length→bindArgs (PySem.W.fnOf x qual (qbt st) (qa7 st) (qag st) .none kV doc pm an cdv ct) ⟨us,[]⟩=pure (ps.zip us)):Binds K fd ps []:=by
 obtain⟨oc,od,kV,doc,pm,an,cdv,ct,osl,rfl,lk,hcd⟩:=F.ex;exact .all (h kV doc pm an cdv ct)
theorem fun_mk{x qual:Str}{st:Stmt}{f:Addr}{oc:Value}{od an:Option Addr}{osl:Array (Option Value)}{kV doc pm cdv ct:Value}(l:K.lookup f=some ⟨oc,od,.func (PySem.W.fnOf x qual (qbt st) (qa7 st) (qag st) .none kV doc pm an cdv ct),osl⟩)(c:PySem.W.codeIn K cdv qual=true)(k:PySem.W.keepIn K (.ref f)=true):Fun K x qual st f (PySem.W.fnOf x qual (qbt st) (qa7 st) (qag st) .none kV doc pm an cdv ct):=⟨⟨oc,od,kV,doc,pm,an,cdv,ct,osl,rfl,l,c⟩,k⟩
end
theorem hu_of{A:Around}{k:Nat}(hr:Room k A):A.units+1<cLine:=Nat.lt_of_le_of_lt (Nat.add_le_add_left (by decide:1≤64) _) hr.units
theorem qaC{n:Nat}(h:n≤1000):n<sizeLine:=Nat.lt_of_le_of_lt h (by decide)
section
variable{X:Cx}
theorem pv(i:Nat){x:Str}{pos:Pos}(hN:X.N[i]?=some x:=by rfl)(hv:Vis X.env.scope x:=by first | exact Or.inl rfl | exact Or.inr (Or.inl rfl) | exact Or.inr (Or.inr rfl))(hd:(x == ("__debug__" : Str))=false:=by decide)(hcd:(x == ("__classdict__" : Str))=false:=by decide):PE X (.Name x pos) (tVar i):=pe_var hN hv hd hcd
end
theorem iteF{A B:Prop}(h:B):if false=true then A else B:=by
 rw[if_neg Bool.false_ne_true];exact h
theorem iteT{A B:Prop}(h:A):if true=true then A else B:=by
 rw[if_pos rfl];exact h
theorem ite2{c A B:Prop}[Decidable c](h1:c→A)(h2:¬c→B):if c then A else B:=by
 by_cases h:c
 ·rw[if_pos h];exact h1 h
 ·rw[if_neg h];exact h2 h
def Same(H H':Hp):Prop:=∀b o,H b=some o→H' b=some o
theorem Same.refl(H:Hp):Same H H:=fun _ _ h=>h
theorem Same.trans{H H1 H2:Hp}(a:Same H H1)(b:Same H1 H2):Same H H2:=fun c o h=>b c o (a c o h)
theorem Same.free{H H':Hp}(e:Same H H'){l:Addr}(h:H' l=Option.none):H l=Option.none:=by
 cases q:H l with
 | none=>rfl
 | some o =>
   rw[e l o q]at h
   cases h
end L2
set_option maxHeartbeats 4000000
namespace L2
open PySem PySem.Spec PyProof.Rows
theorem qcz{β:Type}{x:Str}{c:β}:∀{l:List (Str×β)},l.lookup x=some c→(x,c)∈l
 | [],q=>by cases q
 | (k, v) :: r, q => by
   rw[List.lookup_cons]at q
   cases e:x == k with
   | true =>
     rw[e]at q
     have:x=k:=by simpa using e
     cases q
     rw[this]
     exact List.mem_cons_self
   | false =>
     rw[e]at q
     exact List.mem_cons_of_mem _ (qcz q)
theorem qcP{β:Type}{x:Str}{c:β}:∀{l:List (Str×β)},(x,c)∈l→∃c',l.lookup x=some c'
 | [],q=>nomatch q
 | (k, v) :: r, q => by
   rw[List.lookup_cons]
   cases e:x == k with
   | true=>exact⟨v,rfl⟩
   | false =>
     rcases List.mem_cons.mp q with z | z
     · have:x=k:=congrArg Prod.fst z
       rw[this]at e
       simp at e
     · exact qcP z
theorem qdu{env:Env}{f:Str×NameKind→List (Str×Addr)→Sem (ForInStep (List (Str×Addr)))}:∀(l:List (Str×NameKind)) (acc:List (Str×Addr)),
  (∀x∈l,x.2=.free→∃c,env.cells.lookup x.1=some c∧∀r,f x r=pure (.yield ((x.1,c)::r)))→(∀x∈l,x.2≠.free→∀r,f x r=pure (.yield r)) →
  ∃cl,forIn l acc f=pure cl∧(∀p∈acc,p∈cl)∧(∀p∈cl,p∈acc∨env.cells.lookup p.1=some p.2)∧∀x,(x,NameKind.free)∈l→∃c,(x,c)∈cl
 | [],acc,_,_=>⟨acc,rfl,fun _ q=>q,fun _ q=>.inl q,fun _ q=>nomatch q⟩
 | x :: l, acc, h1, h2 => by
   by_cases hx:x.2=.free
   · obtain⟨c,e,hf⟩:=h1 x List.mem_cons_self hx
     obtain⟨cl,q1,q2,q3,q4⟩:=qdu l ((x.1,c)::acc) (fun y hy=>h1 y (List.mem_cons_of_mem _ hy)) fun y hy=>h2 y (List.mem_cons_of_mem _ hy)
     refine⟨cl,?_,fun p hp=>q2 p (List.mem_cons_of_mem _ hp),fun p hp=>?_,fun y hy=>?_⟩
     · rw[List.forIn_cons,hf,pure_bind]
       exact q1
     · rcases q3 p hp with z | z
       · rcases List.mem_cons.mp z with z | z
         · subst z;exact .inr e
         · exact .inl z
       · exact .inr z
     · rcases List.mem_cons.mp hy with z | z
       · exact⟨c,by have:=q2 _ (List.mem_cons_self (a:=(x.1,c)) (l:=acc));rw[←z]at this;exact this⟩
       · exact q4 y z
   · obtain⟨cl,q1,q2,q3,q4⟩:=qdu l acc (fun y hy=>h1 y (List.mem_cons_of_mem _ hy)) fun y hy=>h2 y (List.mem_cons_of_mem _ hy)
     refine⟨cl,?_,q2,q3,fun y hy=>?_⟩
     · rw[List.forIn_cons,h2 x List.mem_cons_self hx,pure_bind]
       exact q1
     · rcases List.mem_cons.mp hy with z | z
       · exact absurd (by rw[←z]) hx
       · exact q4 y z
theorem qgg{scope:Scope}{env:Env}(h:∀ x∈scope.names,x.2=.free→∃ c,env.cells.lookup x.1=some c) :
  ∃ cl,closureFor scope env=pure cl∧(∀ x c,cl.lookup x=some c→env.cells.lookup x=some c)∧∀ x,(x,NameKind.free)∈scope.names→∃ c,cl.lookup x=some c:=by
 have key:∀ f:Str × NameKind→List (Str × Addr)→Sem (ForInStep (List (Str × Addr))),(∀ x∈scope.names,x.2=.free→∃ c,env.cells.lookup x.1=some c∧∀ r,f x r=pure (.yield ((x.1,c) :: r)))→(∀ x∈scope.names,x.2≠.free→∀ r,f x r=pure (.yield r)) →
   closureFor scope env=forIn scope.names [] f →
   ∃ cl,closureFor scope env=pure cl∧(∀ x c,cl.lookup x=some c→env.cells.lookup x=some c)∧∀ x,(x,NameKind.free)∈scope.names→∃ c,cl.lookup x=some c:=by
  intro f h1 h2 e
  obtain ⟨cl,q1,_,q3,q4⟩:=qdu (env:=env) (f:=f) scope.names [] h1 h2
  refine ⟨cl,e.trans q1,fun x c z=>?_,fun x hx=>?_⟩
  ·rcases q3 (x,c) (qcz z) with k | k
   ·exact nomatch k
   ·exact k
  ·obtain ⟨c,z⟩:=q4 x hx
   exact qcP z
 refine key (fun x r=>if x.2 == .free then (do let c ← cellOf env x.1; pure (.yield ((x.1,c) :: r))) else pure (.yield r)) (fun x hx hf=>?_) (fun x hx hf r=>?_) ?_
 ·obtain ⟨c,e⟩:=h x hx hf
  refine ⟨c,e,fun r=>?_⟩
  have hk:(x.2 == NameKind.free)=true:=by rw [hf]; rfl
  simp only [hk,if_true,cellOf,e,pure_bind]
 ·have hk:(x.2 == NameKind.free)=false:=by
   cases q:x.2 == NameKind.free with
   | false=>rfl
   | true=>exact absurd (by simpa using q) hf
  simp only [hk,Bool.false_eq_true,if_false]
 ·simp only [closureFor]
  rw [bind_pure]
def qbj(X:Cx)(N':List Str)(scope:Scope)(cl:List (Str×Addr))(C:Addr)(s₂:Shared)(H₂:Hp)(fp:List Addr):Cx :=
 {X with N:=N',s₀:=s₂,H₀:=H₂,env:=compEnvC scope cl C X.env,outer:=X.stack,ex:=fp,fn:=fun _=>false,pn:=[],xe:=fun _ _=>False}
def qcp(own:Nat)(ix:List Nat)(σ:St):St:=List.replicate own none++ix.map fun j=>(σ[j]?).join
def qcL(own:Nat)(ix:List Nat)(g:TG)(tt:TT)(te:TE)(J:It)(σ:St)(H:Hp)(Q:VK):Prop :=
 ∃W:Nat→Nat→List V→St→Hp→Prop,(∃m,W 0 m [] (qcp own ix σ) H) ∧
  ∀i m ys σ' H',W i m ys σ' H'→ys.length<sizeLine ∧
   ((J.stop i H'∧∀ D,H' D=none→Q (.ref D) (upd H' D (.lst ys))) ∨
    (J.go i H'∧∃N:List V→St→Hp→Prop,(∀zs σ2 H2,N zs σ2 H2→∃m',m'<m∧W (i+1) m' zs σ2 H2)∧∀x H2,J.yld i H' x H2→g x σ' H2 fun σ2 H3=>tt σ2 H3 fun b H4 =>
       if b=true then te σ2 H4 fun v H5=>N (ys++[v]) σ2 H5 else N ys σ2 H4))
def qg9(own:Nat)(ix:List Nat)(wi:TI)(g:TG)(tt:TT)(te:TE):TE:=fun σ H Q=>wi σ H fun J H1=>qcL own ix g tt te J σ H1 Q
def qg8(ifs:List Expr)(env:Env):Sem Bool :=
 forIn ifs true fun c r=>if r=true then do let ok ← isTrue c env (eval c env); pure (ForInStep.yield ok) else pure (ForInStep.yield r)
def PTs(X:Cx)(ifs:List Expr)(t:TT):Prop :=
 ∀(pins:List (Addr×Obj)) (s:Shared) (σ:St) (H:Hp) (Q:Bool→Hp→Prop),Inv X pins σ H s→t σ H Q→wpAny (model X.prog X.w) X.A (qg8 ifs X.env) (TP X pins σ Q) X.xe s
def tYes:TT:=fun _ H Q=>Q true H
theorem qbC{X:Cx}:PTs X [] tYes:=fun _ _ _ H _ I h=>wpAny_tests_nil ⟨H,I,h⟩
theorem qb3{X:Cx}{c:Expr}{t:TT}(h:PT X c t):PTs X [c] t:=fun pins s σ H Q I q=>wpAny_tests_one (h pins s σ H Q I q)
theorem comp_turns{prog:Program}{w:World}{A:Around}{R:Result→Shared→Prop}{s:Shared}{elt tg iter:Expr}{ifs:List Expr}{scope:Scope}{pos:Pos}{it acc:Value}{env:Env}(J:Nat→Shared→Prop)(turn:∀ n s,J n s→wpAny (model prog w) A (pyNext it) (fun r s1=>match r with
   | none=>R (.ok .next) s1
   | some v=>wpAny (model prog w) A (letOwnedTupleGo tg it v) (fun _ s2=>wpAny (model prog w) A (assign tg env v) (fun _ s3=>wpAny (model prog w) A (qg8 ifs env) (fun ok s4 =>
     if ok=true then wpAny (model prog w) A (eval elt env) (fun x s5=>wpAny (model prog w) A (call (.builtin "list.append") [acc,x]) (fun _ s6=>∃ m,m < n∧J m s6) (fun _ _=>False) s5) (fun _ _=>False) s4
     else ∃ m,m < n∧J m s4) (fun _ _=>False) s3) (fun _ _=>False) s2) (fun _ _=>False) s1) (fun _ _=>False) s)(n:Nat)(h:J n s):codeAny (model prog w) A (.compLoop (.ListComp elt [⟨tg,iter,ifs,0⟩] scope pos) 0 it acc env) R s:=by
 refine codeAny_loop rfl J (fun n s hI=>?_) n h
 show wpAny (model prog w) A ((compTurn (.ListComp elt [⟨tg,iter,ifs,0⟩] scope pos) 0 it acc env).onRaise (fun z=>do noteFrame z env; theTreesLotGoes z)) _ _ s
 refine wpAny_noted ?_
 rw [compTurn_list]
 refine wpAny_bind (wpAny_standAt (wpAny_bind (wpAny_mono (turn n s hI) (fun r s1 q1=>?_) fun _ _ z=>z.elim)))
 cases r with
 | none=>exact wpAny_pure q1
 | some v =>
   refine wpAny_bind (wpAny_mono q1 (fun _ s2 q2=>?_) fun _ _ z=>z.elim)
   refine wpAny_bind (wpAny_mono q2 (fun _ s3 q3=>?_) fun _ _ z=>z.elim)
   refine wpAny_bind (wpAny_mono q3 (fun ok s4 q4=>?_) fun _ _ z=>z.elim)
   cases ok with
   | false=>exact wpAny_pure ⟨rfl,q4⟩
   | true =>
     refine wpAny_bind (wpAny_bind (wpAny_mono q4 (fun x s5 q5=>?_) fun _ _ z=>z.elim))
     exact wpAny_bind (wpAny_mono q5 (fun _ s6 q6=>wpAny_pure (wpAny_pure ⟨rfl,q6⟩)) fun _ _ z=>z.elim)
section
variable{fs ex:List Addr}{H H1:Hp}{h h1:Heap}{D:Addr}{o:HO}
theorem Un.track(u:Un fs ex H H1 h h1)(hD:h.objs.size≤D)(n0:H D=none):Un fs ex H (upd H1 D o) h h1 where
 keep:=u.keep
 slot:=u.slot
 free:=fun b ob q n hx=>by rw[qau (Nat.ne_of_lt (Nat.lt_of_lt_of_le (Heap.lt_size q) hD))];exact u.free b ob q n hx
 there:=u.there
 tups:=fun b xs q=>by rw[qau (qao q n0)];exact u.tups b xs q
 frzs:=fun b ob xs q=>by rw[qau (qao q n0)];exact u.frzs b ob xs q
 tbls:=fun b ps q=>by rw[qau (qao q n0)];exact u.tbls b ps q
theorem HOk.track{P:Program}{w:World}(x:HOk P w H h)(n0:H D=none)(new:ObjOk P w (upd H D o) h D o):HOk P w (upd H D o) h:=fun a u e=>by
 by_cases z:a=D
 ·subst z;rw[qab]at e;cases e;exact new
 ·rw[qau z]at e;exact(x a u e).stay (fun _ _ _ q=>q) (fun b q=>by rw[qau (qao q n0)];exact q) fun b xs q=>by rw[qau (qao q n0)];exact q
end
abbrev lobj(its:List Value)(n:Nat):Obj:={cls:=.type "list",data:=.seq its.toArray n}
theorem Inv.letgo{X:Cx}{pins:List (Addr×Obj)}{σ:St}{H:Hp}{s:Shared}{C:Addr}{h':Heap}(I:Inv X pins σ H s)(f:FpOk X pins H C)(hs:Heap.SameBut C s.heap h'):Inv X pins σ H {s with heap:=h'} :=
 I.turned (t':=s.toks) (it:=C) (fun b o hb e=>(hs.2 b hb).trans e) f.1 f.2.1 f.2.2.2.1 f.2.2.2.2.1 f.2.2.2.2.2
theorem qdz{scope:Scope}{env:Env}{x:Str}{k:NameKind}(h:(relabel scope env).names.lookup x=some k):∃k0,(x,k0)∈scope.names∧(k0=k∨(k0=.free∧k=.cell)):=by
 have m:=qcz h;obtain⟨⟨n,k0⟩,h1,h2⟩:=List.mem_map.mp (show(x,k)∈scope.names.map _ from m);dsimp only at h2
 by_cases c:(k0 == NameKind.free && env.scope.kind == .function && env.kindOf n == some .cell)=true
 ·rw[if_pos c]at h2;obtain⟨rfl,rfl⟩:=Prod.mk.inj h2;refine⟨k0,h1,.inr ⟨?_,rfl⟩⟩;rw[Bool.and_eq_true,Bool.and_eq_true]at c;simpa using c.1.1
 ·rw[if_neg c]at h2;obtain⟨rfl,rfl⟩:=Prod.mk.inj h2;exact⟨k0,h1,.inl rfl⟩
theorem relabel_free{scope:Scope}{env:Env}{x:Str}(h:scope.names.lookup x=some .free):(relabel scope env).names.lookup x=some .free∨(relabel scope env).names.lookup x=some .cell:=by
 have all:∀(l:List (Str×NameKind)),l.lookup x=some .free →
   (l.map fun(n,k)=>if(k == NameKind.free && env.scope.kind == .function && env.kindOf n == some .cell)then(n,NameKind.cell)else(n,k)).lookup x=some .free ∨
   (l.map fun(n,k)=>if(k == NameKind.free && env.scope.kind == .function && env.kindOf n == some .cell)then(n,NameKind.cell)else(n,k)).lookup x=some .cell:=by
  intro l
  induction l with
  | nil=>intro q;cases q
  | cons y r ih =>
    obtain⟨n,k⟩:=y
    intro q
    rw[List.lookup_cons]at q
    rw[List.map_cons]
    cases hx:x == n with
    | true =>
      rw[hx]at q
      cases q
      dsimp only
      split
      · right;rw[List.lookup_cons,hx]
      · left;rw[List.lookup_cons,hx]
    | false =>
      rw[hx]at q
      dsimp only
      split
      · rw[List.lookup_cons,hx];exact ih q
      · rw[List.lookup_cons,hx];exact ih q
 exact all scope.names h
section
variable{X:Cx}{elt tg iter:Expr}{ifs:List Expr}{scope:Scope}{pos:Pos}{g:TG}{tt:TT}{te:TE}{N' own frees:List Str}{ix:List Nat}{pins:List (Addr×Obj)}{σ:St}{H2:Hp}{s2:Shared}{it:Addr}{fp:List Addr}{tn:Nat→Heap→Prop}{J:It}{cl:List (Str×Addr)}{E:Value→Shared→Prop}
structure CompScope(X:Cx)(scope:Scope)(own frees:List Str)(ix:List Nat):Prop where
 kind:scope.kind=.function
 nocell:∀y∈scope.names,y.2≠.cell
 loc:∀y∈scope.names,y.2=.local→scope.names.lookup y.1=some .local
 fr:∀y∈scope.names,y.2=.free→X.env.scope.names.lookup y.1=some .cell∨X.env.scope.names.lookup y.1=some .free
 ixs:ix.map (fun j=>X.N[j]?)=frees.map some
 isf:∀x∈frees,scope.names.lookup x=some .free
theorem comp_ok(S:CompScope X scope own frees ix)(I:Inv X pins σ H2 s2)(hcl1:∀x c,cl.lookup x=some c→X.env.cells.lookup x=some c)(hcl2:∀x,(x,NameKind.free)∈scope.names→∃c,cl.lookup x=some c)(T:Turn X.prog X.w X.K tg J fp it tn)(st:tn 0 s2.heap)(f2:∀b∈fp,FpOk X pins H2 b){C:Addr}(hC:s2.heap.objs.size≤C):(qbj X N' scope cl C s2 H2 fp).Ok:=by
 have lt:∀b∈fp,b<s2.heap.objs.size:=fun b hb=>by
  obtain⟨o,e,_⟩:=T.obj 0 _ st b hb;exact Heap.lt_size e
 refine⟨I.ok.mod,S.kind,I.ok.glob,I.ok.blt,hC,fun x y c h1 h2=>I.ok.inj x y c (hcl1 x c h1) (hcl1 y c h2),fun x hx=>?_,(fun x c q=>nomatch q),I.ok.hd,I.ok.frames,.inl rfl,fun b hb=>?_,I.bs,Nat.le_trans I.ok.bsz I.sz,fun b o e hb=>?_,fun b hb z=>?_,I.stack,I.stkFree⟩
 ·have hx':(relabel scope X.env).names.lookup x=some .cell∨(relabel scope X.env).names.lookup x=some .free:=hx;have fin:(x,NameKind.free)∈scope.names:=by
   rcases hx' with q | q
   ·obtain⟨k0,m,z | ⟨z,_⟩⟩:=qdz q
    ·exact absurd z (S.nocell _ m)
    ·rw[←z];exact m
   ·obtain⟨k0,m,z | ⟨_,z⟩⟩:=qdz q
    ·rw[←z];exact m
    ·cases z
  exact hcl2 x fin
 ·refine⟨Nat.ne_of_lt (Nat.lt_of_lt_of_le (lt b hb) hC),fun x c e=>(f2 b hb).2.2.2.2.1 x c (hcl1 x c e)⟩
 ·have q:=(f2 b hb).2.2.2.1;rcases q with q | q
  ·exact I.ok.noex b o e q
  ·exact absurd (Nat.lt_of_lt_of_le (Nat.lt_of_lt_of_le (Heap.lt_size e) I.ok.bsz) q) (Nat.lt_irrefl _)
 ·rcases List.mem_cons.mp (I.stkSub b z)with q | q
  ·exact(f2 b hb).2.1 q
  ·exact(f2 b hb).2.2.1 q
theorem qdY(hc:X.calm=true)(S:CompScope X scope own frees ix)(I:Inv X pins σ H2 s2)(hcl1:∀x c,cl.lookup x=some c→X.env.cells.lookup x=some c)(hcl2:∀x,(x,NameKind.free)∈scope.names→∃c,cl.lookup x=some c)(T:Turn X.prog X.w X.K tg J fp it tn)(st:tn 0 s2.heap)(f2:∀b∈fp,FpOk X pins H2 b)(hg:∀C,PG (qbj X (own++frees) scope cl C s2 H2 fp) tg g)(ht:∀C,PTs (qbj X (own++frees) scope cl C s2 H2 fp) ifs tt)(he:∀C,PE (qbj X (own++frees) scope cl C s2 H2 fp) elt te){Q:VK}{W:Nat→Nat→List V→St→Hp→Prop}(w0:∃m,W 0 m [] (qcp own.length ix σ) H2)(turn:∀i m ys σ' H',W i m ys σ' H'→ys.length<sizeLine ∧
   ((J.stop i H'∧∀ D,H' D=none→Q (.ref D) (upd H' D (.lst ys))) ∨
    (J.go i H'∧∃N:List V→St→Hp→Prop,(∀zs σ2 H2,N zs σ2 H2→∃m',m'<m∧W (i+1) m' zs σ2 H2)∧∀x H2,J.yld i H' x H2→g x σ' H2 fun σ2 H3=>tt σ2 H3 fun b H4 =>
       if b=true then te σ2 H4 fun v H5=>N (ys++[v]) σ2 H5 else N ys σ2 H4))){RR:Value→Addr→Result→Shared→Prop}(hRR:∀D C H' s' m,Inv X pins σ H' s'→FpOk X pins H' C→s'.heap.Ns C m→Q (.ref D) H'→RR (.ref D) C (.ok .next) s') :
  wpAny (model X.prog X.w) X.A (newList []) (fun acc s3=>wpAny (model X.prog X.w) X.A (newFunctionEnv scope X.env.globals cl [] X.env.qual none .none (some X.env)) (fun cenv s4 =>
   codeAny (model X.prog X.w) X.A (.compStart (.ListComp elt [⟨tg,iter,ifs,0⟩] scope pos) 0 (.ref it) acc {cenv with scope:=relabel scope X.env}) (RR acc cenv.locals) s4) E s3) E s2:=by
 obtain⟨m0,w0⟩:=w0;refine wpAny_newObj_type (wpAny_newFunctionEnv S.nocell (by intro y hy;simp at hy) (fun h1 ns1 sb1=>?_) S.kind);dsimp only at ns1 sb1⊢;generalize eH:s2.heap.push {cls:=.type "list",dict:=none,data:=.seq ([]:List Value).toArray}=G at ns1 sb1⊢;have szG:G.objs.size=s2.heap.objs.size+1:=by rw[←eH,Heap.size_push]
 have hC:s2.heap.objs.size≤G.objs.size:=by rw[szG];exact Nat.le_succ _
 have hDC:s2.heap.objs.size≠G.objs.size:=by rw[szG];exact Nat.ne_of_lt (Nat.lt_succ_self _)
 have below:∀b,b<s2.heap.objs.size→b≠G.objs.size∧b≠s2.heap.objs.size:=fun b hb=>⟨Nat.ne_of_lt (Nat.lt_of_lt_of_le hb hC),Nat.ne_of_lt hb⟩
 have old:∀b o,s2.heap.get? b=some o→h1.get? b=some o:=fun b o e=>sb1.extBut b o (below b (Heap.lt_size e)).1 (Heap.get?_push_of_some _ (eH ▸ Heap.get?_push_of_some _ e))
 have accD:h1.get? s2.heap.objs.size=some (lobj [] 0):=sb1.extBut _ _ hDC (Heap.get?_push_of_some _ (eH ▸ Heap.get?_push_size _ rfl));have ltf:∀b∈fp,b<s2.heap.objs.size:=fun b hb=>by
  obtain⟨o,e,_⟩:=T.obj 0 _ st b hb;exact Heap.lt_size e
 have okX:(qbj X (own++frees) scope cl G.objs.size s2 H2 fp).Ok:=comp_ok S I hcl1 hcl2 T st f2 hC;have ltc:∀x c,cl.lookup x=some c→c<s2.heap.objs.size:=fun x c e=>by
  obtain⟨v,q⟩:=I.cell x c (hcl1 x c e);exact q.lt
 have notfs:∀b,s2.heap.objs.size≤b→b∉frs X.stack:=fun b hb z=>by
  rcases List.mem_cons.mp (I.stkSub b z)with q | q
  ·exact absurd (Nat.lt_of_lt_of_le I.lt (by rw[←q];exact hb)) (Nat.lt_irrefl _)
  ·exact I.nofs hb q
 have lenix:ix.length=frees.length:=by have:=congrArg List.length S.ixs;simpa using this
 have I0:Inv (qbj X (own++frees) scope cl G.objs.size s2 H2 fp) [(s2.heap.objs.size,lobj [] 0)] (qcp own.length ix σ) H2 {s2 with heap:=h1,toks:=s2.toks+([]:List (Str×Value)).length}:=by
  obtain⟨m2,n2,l2⟩:=id I.loc;refine⟨okX,rfl,I.bare,Un.kept old,⟨_,ns1,fun i x v e1 e2 e3=>?_⟩,fun x c e=>?_,I.hok.fresh hC,fun x c e=>I.freeC x c (hcl1 x c e),fun p hp=>?_,I.hok.kept old,?_⟩
  ·have e1:(own++frees)[i]?=some x:=e1
   by_cases hi:i<own.length
   ·unfold qcp at e2;rw[List.getElem?_append_left (by simpa using hi),List.getElem?_replicate]at e2
    split at e2<;>cases e2
   ·have hi':own.length≤i:=Nat.le_of_not_lt hi;unfold qcp at e2;rw[List.getElem?_append_right (by simpa using hi'),List.length_replicate,List.getElem?_map]at e2;rw[List.getElem?_append_right hi']at e1;cases ej:ix[i-own.length]? with
    | none=>rw[ej]at e2;cases e2
    | some j =>
      rw[ej]at e2
      have e2':(σ[j]?).join=some v:=Option.some.inj e2
      have ev:σ[j]?=some (some v):=by
        cases q:σ[j]? with
        | none=>rw[q]at e2';cases e2'
        | some y=>rw[q]at e2';exact congrArg some e2'
      have eN:X.N[j]?=some x:=by
        have q:=congrArg (fun l=>l[i-own.length]?) S.ixs
        simp only[List.getElem?_map,ej,e1,Option.map_some]at q
        exact Option.some.inj q
      have xf:x∈frees:=List.mem_of_getElem? e1
      have xm:(x,NameKind.free)∈scope.names:=qcz (S.isf x xf)
      have vis:Vis X.env.scope x:=by
        rcases S.fr _ xm rfl with q | q
        · exact .inr (.inl q)
        · exact .inr (.inr q)
      obtain⟨u,r,lk⟩:=l2 j x v eN ev vis
      refine⟨u,r,?_⟩
      rcases lk with⟨k,_⟩ | ⟨_,c,ec,z⟩
      · have k':X.env.scope.names.lookup x=some .local:=k
        rcases S.fr _ xm rfl with q | q
        · rw[k']at q;cases q
        · rw[k']at q;cases q
      · obtain⟨c',ec'⟩:=hcl2 x xm
        have:c=c':=Option.some.inj (ec.symm.trans (hcl1 x c' ec'))
        subst this
        refine .inr ⟨?_,c,ec',z.keeps old⟩
        rcases relabel_free (env:=X.env) (S.isf x xf)with q | q
        · exact .inr q
        · exact .inl q
  ·obtain⟨v,z⟩:=I.cell x c (hcl1 x c e);exact⟨v,z.keeps old⟩
  ·have hp':p=(s2.heap.objs.size,lobj [] 0):=by simpa[qbj]using hp
   subst hp';exact⟨accD,I.hok.fresh (Nat.le_refl _),hDC,notfs _ (Nat.le_refl _),fun v q=>nomatch q⟩
  ·show(qcp own.length ix σ).length=(own++frees).length;unfold qcp;rw[List.length_append,List.length_replicate,List.length_map,List.length_append,lenix]
 have st1:tn 0 h1:=T.keep 0 _ _ st fun b hb o e=>old b o e
 have stat:∀{H':Hp} {pl:List (Addr×Obj)},(∀b∈fp,H' b=none)→(∀p∈pl,s2.heap.objs.size≤p.1)→∀b∈fp,FpOk (qbj X (own++frees) scope cl G.objs.size s2 H2 fp) pl H' b:=fun {H' pl} hn hp b hb =>
  ⟨hn b hb,(below b (ltf b hb)).1,fun z=>okX.exfs b hb z,.inl hb,fun x c e=>(f2 b hb).2.2.2.2.1 x c (hcl1 x c e),fun p q z=>by
   have q':p∈pl:=by simpa[qbj]using q
   have:=hp p q';rw[z]at this;exact absurd (Nat.lt_of_lt_of_le (ltf b hb) this) (Nat.lt_irrefl _)⟩
 have loop:∀s3:Shared,s3={s2 with heap:=h1,toks:=s2.toks+([]:List (Str×Value)).length} →
   codeAny (model X.prog X.w) X.A (.compLoop (.ListComp elt [⟨tg,iter,ifs,0⟩] scope pos) 0 (.ref it) (.ref s2.heap.objs.size) (compEnvC scope cl G.objs.size X.env)) (RR (.ref s2.heap.objs.size) G.objs.size) s3:=by
  rintro s3 rfl;refine comp_turns (fun n s'=>∃i ys σ' H' its k,Inv (qbj X (own++frees) scope cl G.objs.size s2 H2 fp) [(s2.heap.objs.size,lobj its k)] σ' H' s'∧tn i s'.heap∧(∀b∈fp,H' b=none)∧Vals ys its∧W i n ys σ' H') ?_ m0
   ⟨0,[],_,H2,[],0,I0,st1,fun b hb=>(f2 b hb).1,.nil,w0⟩
  rintro n s4 ⟨i,ys,σ4,H4,its,k,I4,st4,fr4,rv,w4⟩;obtain⟨hz,alt⟩:=turn i n ys σ4 H4 w4;have big:∀p∈[(s2.heap.objs.size,lobj its k)],s2.heap.objs.size≤p.1:=fun p hp=>by
   have:p=(s2.heap.objs.size,lobj its k):=by simpa using hp
   rw[this];exact Nat.le_refl _
  rcases alt with⟨stop,fin⟩ | ⟨go,NN,hNN,step⟩
  ·refine wpAny_mono (T.done (qbj X (own++frees) scope cl G.objs.size s2 H2 fp) rfl rfl rfl hc i _ s4 σ4 H4 (fun _ _=>False) I4 (stat fr4 big) st4 stop) (fun r s5 q5=>?_) fun _ _ z=>z
   obtain⟨hr,I5⟩:=q5;subst hr;have pD:=I5.pin (s2.heap.objs.size,lobj its k) (List.mem_append_right _ List.mem_cons_self);obtain⟨m5,n5,_⟩:=id I5.loc;have okD:HOk X.prog X.w (upd H4 s2.heap.objs.size (.lst ys)) s5.heap:=HOk.track I5.hok pD.2.1 ⟨Nat.le_of_lt hz,its,k,rv,pD.1⟩;have un:Un (frs X.stack) fp H2 (upd H4 s2.heap.objs.size (.lst ys)) s2.heap s5.heap:=Un.track I5.base (Nat.le_refl _) (I.hok.fresh (Nat.le_refl _));have I6:Inv X pins σ (upd H4 s2.heap.objs.size (.lst ys)) s5:=I.call' (ch:=fp) I5.os un okD I5.bare fun b hb=>⟨(f2 b hb).2.2.2.1,(f2 b hb).2.1,(f2 b hb).2.2.2.2.1,(f2 b hb).2.2.2.2.2⟩
   refine hRR _ _ _ _ m5 I6 ?_ n5 (fin _ pD.2.1);refine⟨?_,?_,?_,.inr (Nat.le_trans I.sz hC),fun x c e z=>?_,fun p hp z=>?_⟩
   ·rw[qau (Ne.symm hDC)];exact I5.free
   ·exact Nat.ne_of_gt (Nat.lt_of_lt_of_le I.lt hC)
   ·exact I.nofs hC
   ·obtain⟨v,q⟩:=I.cell x c e;exact absurd (Nat.lt_of_lt_of_le q.lt (by rw[z];exact hC)) (Nat.lt_irrefl _)
   ·exact absurd (Nat.lt_of_lt_of_le (Heap.lt_size (I.pin p hp).1) (by rw[z];exact hC)) (Nat.lt_irrefl _)
  ·refine wpAny_mono (T.item (qbj X (own++frees) scope cl G.objs.size s2 H2 fp) rfl rfl rfl hc i _ s4 σ4 H4 (fun _ _=>False) I4 (stat fr4 big) st4 go) (fun r s5 q5=>?_) fun _ _ z=>z
   obtain⟨u,hr,q5⟩:=q5;subst hr;refine wpAny_mono q5 (fun _ s6 q6=>?_) fun _ _ z=>z
   obtain⟨x,H6,I6,r6,y6,st6,fr6⟩:=q6;have I6':=I6.pinned (stat fr6 big) (T.obj _ _ st6);refine wpAny_mono (hg _ _ s6 σ4 H6 x u _ I6' r6 (step x H6 y6)) (fun _ s7 q7=>?_) fun _ _ z=>z
   obtain⟨σ7,H7,I7,q7⟩:=q7;refine wpAny_mono (ht _ _ s7 σ7 H7 _ I7 q7) (fun ok s8 q8=>?_) fun _ _ z=>z
   obtain⟨H8,I8,q8⟩:=q8;cases ok with
   | false =>
     rw[if_neg Bool.false_ne_true]at q8⊢
     obtain⟨m',hm,w8⟩:=hNN _ _ _ q8
     refine⟨m',hm,i+1,ys,σ7,H8,its,k,I8.unpinned,T.keep _ _ _ st6 fun b hb o e=>(I8.pin (b,o) (List.mem_append_right _ (List.mem_append_right _ (qbM hb e)))).1,fun b hb=>?_,rv,w8⟩
     obtain⟨o,e,d⟩:=T.obj _ _ st6 b hb
     exact(I8.pin (b,o) (List.mem_append_right _ (List.mem_append_right _ (qbM hb e)))).2.1
   | true =>
     rw[if_pos rfl]at q8⊢
     refine wpAny_mono (he _ _ s8 σ7 H8 _ I8 q8) (fun v s9 q9=>?_) fun _ _ z=>z
     obtain⟨y,H9,I9,ry,q9⟩:=q9
     obtain⟨m',hm,w9⟩:=hNN _ _ _ q9
     have pD:=I9.pin (s2.heap.objs.size,lobj its k) (List.mem_append_right _ (List.mem_append_left _ List.mem_cons_self))
     have lenv:=rv.length
     refine wpAny_list_append_plain (items:=its.toArray) ⟨k,pD.1⟩ (fun h' hp hs=>?_) (by rw[List.size_toArray];omega)
     obtain⟨k',e'⟩:=hp
     have ne:∀b∈fp,b≠s2.heap.objs.size:=fun b hb=>(below b (ltf b hb)).2
     have I10:Inv (qbj X (own++frees) scope cl G.objs.size s2 H2 fp) (qdB fp s6.heap) σ7 H9 s9:=I9.pins_of fun p hp=>I9.pin p (List.mem_append_right _ (List.mem_append_right _ hp))
     have I11:Inv (qbj X (own++frees) scope cl G.objs.size s2 H2 fp) (qdB fp s6.heap) σ7 H9 {s9 with heap:=h',toks:=s9.toks} :=
       I10.turned (it:=s2.heap.objs.size) (fun b o hb e=>(hs.2 b hb).trans e) pD.2.1 pD.2.2.1 (.inr (Nat.le_refl _)) (fun x c e z=>absurd (ltc x c e) (by rw[z];exact Nat.lt_irrefl _)) fun p hp z=>by
         have hp':p∈qdB fp s6.heap:=by simpa[qbj]using hp
         exact ne p.1 (qe0 hp').1 z
     have e'':h'.get? s2.heap.objs.size=some (lobj (its++[v]) k'):=by rw[e'];simp
     have I12:Inv (qbj X (own++frees) scope cl G.objs.size s2 H2 fp) [(s2.heap.objs.size,lobj (its++[v]) k')] σ7 H9 {s9 with heap:=h',toks:=s9.toks}:=I11.pins_of fun p hp=>by
       have:p=(s2.heap.objs.size,lobj (its++[v]) k'):=by simpa using hp
       subst this
       exact⟨e'',pD.2.1,pD.2.2.1,pD.2.2.2.1,fun v q=>nomatch q⟩
     refine⟨m',hm,i+1,ys++[y],σ7,H9,its++[v],k',I12,T.keep _ _ _ st6 fun b hb o e=>(hs.2 b (ne b hb)).trans (I9.pin (b,o) (List.mem_append_right _ (List.mem_append_right _ (qbM hb e)))).1,fun b hb=>?_,rv.append (.cons ry .nil),w9⟩
     obtain⟨o,e,d⟩:=T.obj _ _ st6 b hb
     exact(I9.pin (b,o) (List.mem_append_right _ (List.mem_append_right _ (qbM hb e)))).2.1
 exact codeAny_compStart_list (loop _ rfl) (T.self _ 0 _ _ _ st1 (loop _ rfl))
variable{wi:TI}
theorem qbh(hc:X.calm=true)(S:CompScope X scope own frees ix)(hi:PI X tg iter wi)(hg:∀cl C s2 H2 fp,PG (qbj X (own++frees) scope cl C s2 H2 fp) tg g)(ht:∀cl C s2 H2 fp,PTs (qbj X (own++frees) scope cl C s2 H2 fp) ifs tt)(he:∀cl C s2 H2 fp,PE (qbj X (own++frees) scope cl C s2 H2 fp) elt te)(hs:∀x,foldedSetIterable iter X.env x=pure x:=by intro _;rfl) :
  PE X (.ListComp elt [⟨tg,iter,ifs,0⟩] scope pos) (qg9 own.length ix wi g tt te):=by
 intro pins s σ H Q I h;obtain⟨cl,hcl,hcl1,hcl2⟩:=qgg (scope:=scope) (env:=X.env) fun x hx hf=>I.ok.has x.1 (S.fr x hx hf)
 rw[eval_ListComp];refine wpAny_comprehension_free (use:=none) rfl hs hcl S.kind S.loc ?_;refine thn (hi pins s σ H _ I h) fun v s1 h1=>thn h1 fun itv s2 h2=>?_
 obtain⟨it,fp,tn,J,H2,e,I2,T,st2,f2,W,w0,turn⟩:=h2;subst e;refine qdY (Q:=Q) (RR:=fun acc C=>compPost (model X.prog X.w) X.A X.xe none (EP X pins σ Q) acc C) hc S I2 hcl1 hcl2 T st2 f2 (fun C=>hg cl C s2 H2 fp) (fun C=>ht cl C s2 H2 fp) (fun C=>he cl C s2 H2 fp) w0 turn ?_;intro D C H' s' m I' fC nC q;exact⟨m,nC,fun h' hs'=>⟨.ref D,H',I'.letgo fC hs',rfl,q⟩⟩
theorem qdC{i:Nat}{y:Str}{py spos:Pos}(hc:X.calm=true)(hN:X.N.Nodup)(hiN:X.N[i]?=some y)(hy:Loc X.env.scope y)(S:CompScope X scope own frees ix)(hi:PI X tg iter wi)(hg:∀ cl C s2 H2 fp,PG (qbj X (own++frees) scope cl C s2 H2 fp) tg g)(ht:∀ cl C s2 H2 fp,PTs (qbj X (own++frees) scope cl C s2 H2 fp) ifs tt)(he:∀ cl C s2 H2 fp,PE (qbj X (own++frees) scope cl C s2 H2 fp) elt te)(hf:X.fn y=true∨X.env.scope.names.lookup y=some .local:=by first | exact .inl rfl | exact .inr rfl | assumption)(hsw:swapsWith (.ListComp elt [⟨tg,iter,ifs,0⟩] scope pos) (some (.Name y py)) spos.line X.env=pure true:=by with_unfolding_all rfl)(hs:∀ x,foldedSetIterable iter X.env x=pure x:=by intro _; rfl) :
  PS X (.Assign [.Name y py] (.ListComp elt [⟨tg,iter,ifs,0⟩] scope pos) spos) (tAsg (qg9 own.length ix wi g tt te) (qbR i)):=by
 intro pins s σ H D I h
 obtain ⟨cl,hcl,hcl1,hcl2⟩:=qgg (scope:=scope) (env:=X.env) fun x hx hf=>I.ok.has x.1 (S.fr x hx hf)
 rw [exec_Assign_Name_used _ _ _ _ hsw]
 refine wpAny_bind (wpAny_standAt (wpAny_bind ?_))
 show wpAny (model X.prog X.w) X.A (do let _ ← comprehension (.ListComp elt [⟨tg,iter,ifs,0⟩] scope pos) scope X.env _ (newList []) false (eval iter X.env) (some (assign (.Name y py) X.env))) _ _ s
 refine wpAny_bind (wpAny_mono (wpAny_comprehension_free (use:=some (assign (.Name y py) X.env)) (Q:=fun _ s'=>SP X pins D .next s') rfl hs hcl S.kind S.loc ?_) (fun _ s' q=>wpAny_pure (wpAny_pure q)) fun _ _ z=>z)
 refine thn (hi pins s σ H _ I h) fun v s1 h1=>thn h1 fun itv s2 h2=>?_
 obtain ⟨it,fp,tn,J,H2,e,I2,T,st2,f2,W,w0,turn⟩:=h2
 subst e
 refine qdY (Q:=fun v H'=>qbR i v σ H' D.nx) (RR:=fun acc C=>compPost (model X.prog X.w) X.A X.xe (some (assign (.Name y py) X.env)) (fun _ s'=>SP X pins D .next s') acc C) hc S I2 hcl1 hcl2 T st2 f2 (fun C=>hg cl C s2 H2 fp) (fun C=>ht cl C s2 H2 fp) (fun C=>he cl C s2 H2 fp) w0 turn ?_
 intro L C H' s' m I' fC nC q
 show wpAny (model X.prog X.w) X.A (assign (.Name y py) X.env (.ref L)) _ _ _
 refine wpAny_assign_Name (qeX (v:=.ref L) I' hN hiN hy rfl (fun s3 I3 hch=>?_) hf)
 obtain ⟨a,sb,ha⟩:=hch
 have nCa:C≠a:=by
  rcases ha with z | z
  ·rw [z]; exact fC.2.1
  ·exact fun q=>fC.2.2.2.2.1 y a z q.symm
 refine ⟨m,nC.sameBut sb nCa,fun h' hs'=>?_⟩
 exact ⟨_,H',I3.letgo fC hs',q⟩
end
theorem qaZ{K:PySem.W.Frag}{a:Addr}{xs:List V}{own:Nat}{ix:List Nat}{g:TG}{tt:TT}{te:TE}{σ:St}{H:Hp}{Q:VK}(Pv:Nat→List V→St→Hp→Prop)(hz:xs.length<sizeLine)(h0:Pv 0 [] (qcp own ix σ) H)(hl:∀i ys σ' H',i≤xs.length→Pv i ys σ' H'→SqL K H' a xs∧ys.length≤i)(hs:∀i x ys σ' H',xs[i]?=some x→Pv i ys σ' H'→g x σ' H' fun σ2 H3=>tt σ2 H3 fun b H4=>if b=true then te σ2 H4 fun v H5=>Pv (i+1) (ys++[v]) σ2 H5 else Pv (i+1) ys σ2 H4)(hd:∀ys σ' H',Pv xs.length ys σ' H'→∀D,H' D=none→Q (.ref D) (upd H' D (.lst ys))) :
  qcL own ix g tt te (Itl K a) σ H Q:=by
 refine⟨fun i m ys σ H=>m=xs.length-i∧i≤xs.length∧Pv i ys σ H,⟨xs.length,by simp,Nat.zero_le _,h0⟩,?_⟩;rintro i m ys σ H ⟨rfl,hi,p⟩;obtain⟨q,hy⟩:=hl i ys σ H hi p;refine⟨by omega,?_⟩
 by_cases hlt:i<xs.length
 ·refine .inr ⟨⟨xs,xs[i],q,by simp[hlt]⟩,Pv (i+1),fun zs σ' H' p'=>⟨xs.length-(i+1),by omega,rfl,hlt,p'⟩,fun x H' y=>?_⟩;obtain⟨e,y⟩:=y;subst e;exact hs i x ys σ _ (y xs q) p
 ·have e:i=xs.length:=by omega
  subst e;exact .inl ⟨⟨xs,q,Nat.le_refl _⟩,hd ys σ H p⟩
end L2
namespace L2
open PySem PySem.Spec PyProof.Rows
theorem ObjOk.at{P:Program}{w:World}{H:Hp}{h:Heap}{a:Addr}{o:HO}(x:ObjOk P w H h a o):∃u,h.get? a=some u:=by
 cases o with
 | lst xs=>obtain⟨_,_,_,_,e⟩:=x;exact⟨_,e⟩
 | tup xs=>obtain⟨_,_,_,o,e,_⟩:=x;exact⟨_,e⟩
 | dK kvs=>obtain⟨_,_,_,_,o,_,_,e,_⟩:=x;exact⟨_,e⟩
 | dT kvs=>obtain⟨_,_,_,_,o,_,_,e,_⟩:=x;exact⟨_,e⟩
 | set S n=>obtain⟨o,_,_,_,e,_⟩:=x;exact⟨_,e⟩
 | ins C dx fs=>obtain⟨_,_,_,e,_⟩:=x;exact⟨_,e⟩
 | own y=>exact x
 | xd fs=>obtain⟨_,⟨_,_,_,e,_⟩,_⟩:=x;exact⟨_,e⟩
 | rng lo hi=>obtain⟨_,_,_,e⟩:=x;exact⟨_,e⟩
 | frz ob u=>obtain⟨e,_⟩:=x;exact⟨_,e⟩
 | tbl ps=>exact⟨_,x⟩
 | met f y=>exact⟨_,x⟩
 | ext φ=>exact x.2.1
def CX1(P:Program)(w:World):CXT:=fun outer H s E e s'=>∃(ea C:Addr) (a0:Value) (H':Hp) (B:Heap),e=.ref ea∧s'.os=s.os∧AllBare s'.gens∧Un (frs outer) [] H H' s.heap s'.heap∧HOk P w H' s'.heap ∧
 Heap.FlyingW B outer ea (.ref C) a0 s'.heap∧(∀b o,s'.heap.get? b=some o→(H' b≠none∨∃o0,s.heap.get? b=some o0)→b∉frs outer→B.get? b=some o)∧H' ea=none∧s.heap.get? ea=none∧E (.ref C) none H'
theorem qf1{X:Cx}:qdG (CX1 X.prog X.w) X E0:=fun _ _ _ _ _ _ _ h=>by
 obtain⟨_,_,_,_,_,_,_,_,_,_,_,_,_,_,q⟩:=h;exact q.elim
section
variable{P:Program}{w:World}{K:PySem.W.Frag}{mg:Str→Option Value}{base:Heap}{N:List Str}{qual:Str}{scope:Scope}{f:Addr}{cd:Value}{A:Around}{outer:List Env}{s0:Shared}{H0:Hp}{E:XK}{pins:List (Addr×Obj)}{σ:St}{H:Hp}{s:Shared}
theorem xe_raise{h':Heap}{e C:Addr}{args:List Value}(I:Inv (cxOf (CX1 P w) P w K mg base N qual scope f cd A outer s0 H0 E) pins σ H s)(hx:Heap.MadeExcOf s.heap h' e (.ref C) args)(hE:E (.ref C) none H) :
  (cxOf (CX1 P w) P w K mg base N qual scope f cd A outer s0 H0 E).xe (.ref e) {s with heap:=h'}:=by
 show wpAny (model P w) (A.deeper (envOfC qual scope s0.heap.objs.size f cd)) (leaving (envOfC qual scope s0.heap.objs.size f cd) (.ref e)) (fun _ s''=>CX1 P w outer H0 s0 E (.ref e) s'') (fun e' s''=>CX1 P w outer H0 s0 E e' s'') {s with heap:=h'};have fr:=I.stack;have hin:∀env∈(envOfC qual scope s0.heap.objs.size f cd::outer),∀b,env.frame=some b→b∈frs (envOfC qual scope s0.heap.objs.size f cd::outer):=fun env he b hb=>List.mem_filterMap.mpr ⟨env,he,hb⟩
 refine wpAny_leaves_madeW (base:=PySem.W.hideAll s.heap (frs (envOfC qual scope s0.heap.objs.size f cd::outer))) (h:=s.heap) (outer:=outer) I.ok.frames rfl (fun b o q=>PySem.W.of_hideAll _ q) (PySem.W.funFrames_hide fr hin) hx fun h2 t x1 _ _ x4=>?_
 have kB:∀b o,s.heap.get? b=some o→b∉frs (envOfC qual scope s0.heap.objs.size f cd::outer)→h2.get? b=some o:=fun b o q nb=>x1.1 b o (PySem.W.hideAll_get _ q nb)
 have old:∀b o,s0.heap.get? b=some o→b∉frs outer→b∉frs (envOfC qual scope s0.heap.objs.size f cd::outer):=fun b o q nb z=>by
  rcases List.mem_cons.mp (show b∈s0.heap.objs.size::frs outer from z)with e1 | e1
  ·rw[e1]at q;exact absurd (Heap.lt_size q) (Nat.lt_irrefl _)
  ·exact nb e1
 have trk:∀b,H b≠none→b∉frs (envOfC qual scope s0.heap.objs.size f cd::outer):=fun b q z=>q (I.stkFree b z)
 have slots:∀b o,s.heap.get? b=some o→b∈frs outer→∃sl,h2.get? b=some {o with slots:=sl}:=fun b o q hb=>by
  obtain⟨_,o',ho',hnf⟩:=I.funs.mem hb;rw[q]at ho';cases ho';exact x4 b o (hx.keeps b o q) hnf
 refine⟨e,C,.ref t,H,_,rfl,I.os,I.bare,⟨fun b o q n nb _=>?_,fun b o q n hb _=>?_,fun b o q n _=>I.base.free b o q n (by simp[cxOf]),fun b o q _=>?_,I.base.tups,I.base.frzs,I.base.tbls⟩,fun a o q=>?_,x1,fun b o q hq nb=>?_,?_,?_,hE⟩
 ·exact kB b o (I.base.keep b o q n nb (by simp[cxOf])) (old b o q nb)
 ·obtain⟨sl,e1⟩:=I.base.slot b o q n hb (by simp[cxOf]);obtain⟨sl',e2⟩:=slots b _ e1 hb;exact⟨sl',e2⟩
 ·obtain⟨o',e1⟩:=I.base.there b o q (by simp[cxOf])
  by_cases hb:b∈frs outer
  ·obtain⟨sl,e2⟩:=slots b o' e1 hb;exact⟨_,e2⟩
  ·exact⟨o',kB b o' e1 (old b o q hb)⟩
 ·refine(I.hok a o q).stay (fun b u hb z=>kB b u z (trk b ?_)) (fun _ z=>z) fun _ _ z=>z
  rcases hb with z' | z'
  ·rw[z',q];exact fun z=>by cases z
  ·rw[z'];exact fun z=>by cases z
 ·have fin:∃o',s.heap.get? b=some o'∧b∉frs (envOfC qual scope s0.heap.objs.size f cd::outer):=by
   rcases hq with z | ⟨o0,z⟩
   ·cases e1:H b with
    | none=>exact absurd e1 z
    | some u =>
      obtain⟨o',e2⟩:=(I.hok b u e1).at
      exact⟨o',e2,trk b z⟩
   ·obtain⟨o',e2⟩:=I.base.there b o0 z (by simp[cxOf]);exact⟨o',e2,old b o0 z nb⟩
  obtain⟨o',e1,nb'⟩:=fin;have e2:=kB b o' e1 nb';rw[q]at e2;cases e2;exact PySem.W.hideAll_get _ e1 nb'
 ·cases e1:H e with
  | none=>rfl
  | some u =>
    obtain⟨o',e2⟩:=(I.hok e u e1).at
    rw[hx.new]at e2
    cases e2
 ·cases e1:s0.heap.get? e with
  | none=>rfl
  | some o =>
    obtain⟨o',e2⟩:=I.base.there e o e1 (by simp[cxOf])
    rw[hx.new]at e2
    cases e2
def qgN(t:TA)(C:Addr)(E:XK):TS:=fun _ σ H=>t σ H fun vs H1=>vs.length≤sizeLine∧E (.ref C) none H1
theorem ps_raise{x:Str}{C:Addr}{bm:List Value}{B newId initId:String}{e0:Expr}{rest:List Expr}{np cpos pos:Pos}{t:TA}(O:OwnCls x C bm newId mg base)(FB:ExcBaseFacts B newId initId bm)(hA:A.handled=none)(hg:Gl (cxOf (CX1 P w) P w K mg base N qual scope f cd A outer s0 H0 E) x)(ha:PA (cxOf (CX1 P w) P w K mg base N qual scope f cd A outer s0 H0 E).nox (e0::rest) t)(he:starEach (e0::rest) (envOfC qual scope s0.heap.objs.size f cd)=(false,eval e0 (envOfC qual scope s0.heap.objs.size f cd))::starEach rest (envOfC qual scope s0.heap.objs.size f cd):=by rfl)(hpl:(backTo cpos (starEach rest (envOfC qual scope s0.heap.objs.size f cd))).any (·.1)=false:=by rfl)(hd:(x == ("__debug__" : Str))=false:=by decide) :
  PS (cxOf (CX1 P w) P w K mg base N qual scope f cd A outer s0 H0 E) (.Raise (some (.Call (.Name x np) (e0::rest) [] cpos)) none pos) (qgN t C E):=by
 intro pins s σ H D I h;obtain⟨tl,N',nm,q,bs,hdct,sn,sub,ab,col,dd,k0,k1,k2,k3,k5,mN,hC,hN,hni,T⟩:=O.obj;refine wpAny_Raise_call_subT (C:=C) (nm:=nm) (q:=q) (N:=N') (bs:=bs) (bm:=tl) (hdct:=hdct) (sn:=sn) (sub:=sub) (ab:=ab) (col:=col) (dd:=dd) (k0:=k0) (k1:=k1) (k2:=k2) (k3:=k3) (k5:=k5)
  FB (mN:=mN) (T.hasType FB.hasBase) hA (by show(backTo cpos (starEach (e0::rest) (envOfC qual scope s0.heap.objs.size f cd))).any (·.1)=false;rw[he];show(false || (backTo cpos (starEach rest (envOfC qual scope s0.heap.objs.size f cd))).any (·.1))=false;rw[hpl];rfl) hni
  (qd9 I hg O.bound ⟨rfl,?_⟩ hd)
 have run:=ha cpos pins s σ H _ (I.wish fun _ _=>False) h;have he':starEach (e0::rest) (cxOf (CX1 P w) P w K mg base N qual scope f cd A outer s0 H0 E).env=(false,eval e0 (envOfC qual scope s0.heap.objs.size f cd))::starEach rest (envOfC qual scope s0.heap.objs.size f cd):=he;have he'':starEach (e0::rest) (cxOf (CX1 P w) P w K mg base N qual scope f cd A outer s0 H0 E).nox.env=(false,eval e0 (envOfC qual scope s0.heap.objs.size f cd))::starEach rest (envOfC qual scope s0.heap.objs.size f cd):=he;rw[he'']  at run;rw[he'];refine Calls.evalArgs_plain (wpAny_mono run (fun us s1 q1=>?_) fun _ _ z=>z.elim);obtain⟨vs,H1,I1,rv,hz,hE⟩:=q1;have I1:=I1.unwish;have kb:=I1.bk;refine⟨rfl,by rw[←rv.length];exact hz,kb _ _ hC,hN.keeps kb,T.keeps kb,fun h' e hm=>?_⟩;exact xe_raise I1 hm hE
end
end L2
namespace L2
open PySem PySem.Spec PyProof.Rows
section
variable{X:Cx}{pins:List (Addr×Obj)}{σ:St}{H:Hp}{s:Shared}{D:Addr}{o:HO}
theorem Inv.track(I:Inv X pins σ H s)(h0:X.s₀.heap.get? D=none)(hn:H D=none)(hL:D≠X.env.locals)(hc:∀x c,X.env.cells.lookup x=some c→c≠D)(hp:∀p∈X.pn++pins,p.1≠D)(new:ObjOk X.prog X.w (upd H D o) s.heap D o):Inv X pins σ (upd H D o) s:=by
 refine⟨I.ok,I.os,I.bare,⟨I.base.keep,I.base.slot,fun b ob q n hx=>?_,I.base.there,fun b xs q=>?_,fun b ob xs q=>?_,fun b ps q=>?_⟩,I.loc,I.cell,?_,fun x c e=>?_,fun p z=>?_,HOk.track I.hok hn new,I.len⟩
 ·rw[qau (fun z=>by rw[z,h0]at q;cases q)];exact I.base.free b ob q n hx
 ·have r:=I.base.tups b xs q;rw[qau (fun z=>by rw[z,hn]at r;cases r)];exact r
 ·have r:=I.base.frzs b ob xs q;rw[qau (fun z=>by rw[z,hn]at r;cases r)];exact r
 ·obtain⟨more,r⟩:=I.base.tbls b ps q;exact⟨more,by rw[qau (fun z=>by rw[z,hn]at r;cases r)];exact r⟩
 ·rw[qau (Ne.symm hL)];exact I.free
 ·rw[qau (hc x c e)];exact I.freeC x c e
 ·obtain⟨q1,q2,q3,q4,q5⟩:=I.pin p z;exact⟨q1,by rw[qau (hp p z)];exact q2,q3,q4,q5⟩
end
mutual
inductive DIn(H:Hp):V→PySem.W.Dat→Prop
 | non:DIn H .non .none
 | int (i):DIn H (.int i) (.int i)
 | str (x):DIn H (.str x) (.str x)
 | tup {a xs ds}:H a=some (.tup xs)→DAll H xs ds→DIn H (.ref a) (.tuple ds)
 | lst {a xs ds}:H a=some (.lst xs)→DAll H xs ds→DIn H (.ref a) (.list ds)
inductive DAll(H:Hp):List V→List PySem.W.Dat→Prop
 | nil:DAll H [] []
 | cons {x d xs ds}:DIn H x d→DAll H xs ds→DAll H (x::xs) (d::ds)
end
section
variable{P:Program}{w:World}{H:Hp}{h:Heap}
mutual
theorem qbB(ok:HOk P w H h):∀{v:V} {d:PySem.W.Dat} {u:Value} (n:Nat),DIn H v d→RelV v u→PySem.W.kqdOk n d=true→∃as,Reads h u (PySem.W.kqdP d) as
 | _,_,_,_,.non,r,_=>by cases r;exact⟨_,Reads.none⟩
 | _,_,_,_,.int i,r,_=>by obtain⟨t,rfl⟩:=r;exact⟨_,Reads.int i t⟩
 | _,_,_,_,.str x,r,_=>by obtain⟨t,rfl⟩:=r;exact⟨_,Reads.str x t⟩
 | _,_,_,0,.tup _ _,_,hk=>by simp[PySem.W.kqdOk]at hk
 | _,_,_,0,.lst _ _,_,hk=>by simp[PySem.W.kqdOk]at hk
 | _, _, _, n + 1, .tup (a := a) e q, r, hk => by
   cases r
   obtain⟨_,its,rv,o,e1,e2,k,e3⟩:=ok a _ e
   obtain⟨as,z⟩:=qcX ok n q rv (by simpa[PySem.W.kqdOk]using hk)
   rw[PySem.W.kqdP]
   exact⟨as,reads_tuple_at e1 e2 e3 (by simpa using z)⟩
 | _, _, _, n + 1, .lst (a := a) e q, r, hk => by
   cases r
   obtain⟨_,its,k,rv,e1⟩:=ok a _ e
   obtain⟨as,z⟩:=qcX ok n q rv (by simpa[PySem.W.kqdOk]using hk)
   rw[PySem.W.kqdP]
   exact⟨_,reads_list_at e1 rfl rfl (by simpa using z)⟩
theorem qcX(ok:HOk P w H h):∀{vs:List V} {ds:List PySem.W.Dat} {us:List Value} (n:Nat),DAll H vs ds→Vals vs us→(∀d∈ds,PySem.W.kqdOk n d=true)→∃as,ReadsAll h us (PySem.W.kqdPs ds) as
 | _,_,_,_,.nil,r,_=>by cases r;exact⟨_,ReadsAll.nil⟩
 | _, _, _, n, .cons q qs, r, hk => by
   cases r with
   | cons r1 r2 =>
     obtain⟨as,z⟩:=qbB ok n q r1 (hk _ (.head _))
     obtain⟨bs,y⟩:=qcX ok n qs r2 fun d hd=>hk d (.tail _ hd)
     rw[PySem.W.kqdPs]
     exact⟨_,ReadsAll.cons z y⟩
end
end
theorem qet{d e:PySem.W.Dat}{n k:Nat}(h1:PySem.W.kqdOk n d=true)(h2:PySem.W.kqdOk k e=true)[Decidable (d=e)]:PyData.eqv (PySem.W.kqdP d) (PySem.W.kqdP e)=decide (d=e):=by
 have q:=PySem.W.kqd_eqv n d e k h1 h2
 by_cases z:d=e
 ·rw[decide_eq_true z];exact q.mpr z
 ·rw[decide_eq_false z];exact Bool.eq_false_iff.mpr fun x=>z (q.mp x)
theorem qbe{d:PySem.W.Dat}(h:PySem.W.kqdOk 9 d=true):SeqAt.shaped (PySem.W.kqdP d)=true:=by
 have q:=PySem.W.kqd_lay 9 d h;unfold SeqAt.shaped;rw[q.1,Bool.true_and];exact decide_eq_true (Nat.le_trans q.2 (by decide))
section
variable{X:Cx}
open Classical in
def rEqD(neg:Bool):R2:=fun x y H Q=>∃d e,DIn H x d∧DIn H y e∧PySem.W.kqdOk 9 d=true∧PySem.W.kqdOk 9 e=true∧Q (.bl (if neg=true then !decide (d=e)else decide (d=e))) H
open Classical in
theorem op_eqD(hu:X.A.units+64<cLine):OpR X (compareOp .Eq) (rEqD false):=by
 intro pins s σ H x y v u Q I rx ry h;obtain⟨d,e,h1,h2,k1,k2,q⟩:=h;obtain⟨as,r1⟩:=qbB I.hok 9 h1 rx k1;obtain⟨bs,r2⟩:=qbB I.hok 9 h2 ry k2;exact eq_dataH r1 r2 (qbe k1) (qbe k2) hu (qaU I q (by rw[qet k1 k2];simp))
open Classical in
theorem op_neD(hu:X.A.units+64<cLine):OpR X (compareOp .NotEq) (rEqD true):=by
 intro pins s σ H x y v u Q I rx ry h;obtain⟨d,e,h1,h2,k1,k2,q⟩:=h;obtain⟨as,r1⟩:=qbB I.hok 9 h1 rx k1;obtain⟨bs,r2⟩:=qbB I.hok 9 h2 ry k2;exact ne_dataH r1 r2 (qbe k1) (qbe k2) hu (qaU I q (by rw[qet k1 k2];simp))
def CDivL(i j:Int):Prop:=0<j∧j<18446744073709551616
theorem op_fdivL:OpR X (binaryOp .FloorDiv) (rI CDivL fun i j=>.int (i / j)):=opI fun i j _ _ _ _ _ hc q=>by
 have h1:(0:Int)<j:=hc.1;have h2:j<18446744073709551616:=hc.2;refine floordiv_int (by omega) ?_ (.inl (PyProof.noPylong_of_log2 ?_))
 ·rw[Int.fdiv_eq_ediv_of_nonneg i (by omega)];exact q
 ·have h3:j.natAbs<2 ^ 64:=by omega
  exact Nat.lt_of_lt_of_le ((Nat.log2_lt (by omega)).mpr h3) (by decide)
theorem call_isinst:qcV X (.builtin "isinstance") (fun xs H Q=>∃x c t b,xs=[x,c]∧TyOf X.K H x t∧(∃cv,(∀u,RelV c u→u=cv)∧PySem.W.kitOne X.K t cv=some b)∧Q (.bl b) H):=by
 intro pins s σ H xs us Q I r h;obtain⟨x,c,t,b,rfl,ty,⟨cv,hcv,e⟩,q⟩:=h;obtain⟨u,w',rfl,r1,r2⟩:=qgX r;obtain rfl:=hcv _ r2;exact isinst_ok I r1 ty e fun tk=>⟨.bl b,H,I.tok _,rfl,q⟩
theorem qcy(hc:X.calm=true):qcV X (.builtin "all") (fun xs H Q=>∃(p:Addr) (bs:List Bool),xs=[.ref p]∧SqL X.K H p (bs.map V.bl)∧Q (.bl (bs.all id)) H):=by
 intro pins s σ H xs us Q I r h;obtain⟨p,bs,rfl,hp,q⟩:=h;obtain⟨u,rfl,rx⟩:=qdO r;cases rx;obtain⟨its,rv,pl,hz⟩:=I.list hp;have hh:=I.ok.hd hc;refine call_all_walk (wpAny_pyIter_list pl.isList ?_);have lp:p<s.heap.objs.size:=by
  obtain⟨o,e,_⟩:=pl.isList;exact Heap.lt_size e
 have atB:∀(i:Nat) (v:Value),its.toArray[i]?=some v→v=.bool (bs.getD i false):=fun i v e=>by
  have e':its[i]?=some v:=by simpa using e
  cases z:bs[i]? with
  | none =>
    have h1:=rv.length
    rw[List.length_map]at h1
    have h2:=(List.getElem?_eq_some_iff.mp e').1
    have h3:=List.getElem?_eq_none_iff.mp z
    omega
  | some b =>
    obtain⟨u,e2,r2⟩:=rv.get (i:=i) (x:=.bl b) (by rw[List.getElem?_map,z];rfl)
    rw[e']at e2
    cases e2
    cases r2
    rw[List.getD_eq_getElem?_getD,z]
    rfl
 refine⟨s.heap.objs.size,_,_,_,_,_,fun i=>bs.getD i false,rfl,Walks.list (by simpa using hh) s.heap.objs.size p (Nat.ne_of_lt lp) its.toArray,⟨⟨_,Heap.get?_push_size _ rfl,rfl,rfl⟩,pl.isList.push _⟩,fun i v s' Q' E' e hq=>?_,fun h' tk k=>?_⟩
 ·rw[atB i v e];exact wpAny_truthy_bool hq
 ·have ev:(List.range its.toArray.size).all (fun i=>bs.getD i false)=bs.all id:=by
   have hl:its.toArray.size=bs.length:=by rw[List.size_toArray,←rv.length,List.length_map]
   rw[hl];rw[Bool.eq_iff_iff];simp only[List.all_eq_true,List.mem_range,id];constructor
   ·intro z x hx;obtain⟨i,hi,e⟩:=List.mem_iff_getElem.mp hx;have:=z i hi;rw[List.getD_eq_getElem?_getD,List.getElem?_eq_getElem hi,e]at this;exact this
   ·intro z i hi;rw[List.getD_eq_getElem?_getD,List.getElem?_eq_getElem hi];exact z _ (List.getElem_mem hi)
  rw[ev];exact⟨.bl (bs.all id),H,I.kept fun b o e=>k b o (by simpa using Nat.ne_of_lt (Heap.lt_size e)) (Heap.get?_push_of_some _ e),rfl,q⟩
end
end L2
namespace Bk
open PySem
inductive Kd
 | body | case | shelf | grid | text | head | picture | aside | note | leaf | no
 deriving DecidableEq
def Kd.s:Kd→Str
 | .body=>Str.ofString "body"
 | .case=>Str.ofString "case"
 | .shelf=>Str.ofString "shelf"
 | .grid=>Str.ofString "grid"
 | .text=>Str.ofString "text"
 | .head=>Str.ofString "head"
 | .picture=>Str.ofString "picture"
 | .aside=>Str.ofString "aside"
 | .note=>Str.ofString "note"
 | .leaf=>Str.ofString "leaf"
 | .no=>Str.ofString ""
theorem Kd.inj(a b:Kd):(a.s=b.s)=(a=b):=by
 cases a<;>cases b<;>first | exact propext ⟨fun _=>rfl,fun _=>rfl⟩ | exact propext ⟨fun h=>absurd h (by decide +kernel),fun h=>by cases h⟩
inductive So
 | word | page | note | sign
 deriving DecidableEq
def So.s:So→Str
 | .word=>Str.ofString "word"
 | .page=>Str.ofString "page"
 | .note=>Str.ofString "note"
 | .sign=>Str.ofString "sign"
theorem So.inj(a b:So):(a.s=b.s)=(a=b):=by
 cases a<;>cases b<;>first | exact propext ⟨fun _=>rfl,fun _=>rfl⟩ | exact propext ⟨fun h=>absurd h (by decide +kernel),fun h=>by cases h⟩
inductive Th
 | int (n:Int) | tri (s:So) (x:Sum Str Int) (t:Int)
structure Nd where
 e:Int
 k:Kd
 nm:Str
 mks:List Str
 st:List Th
def wordSigns:List Nat:=[97,98,99,100,101,102,103,104,105,106,107,108,109,110,111,112,113,114,115,116,117,118,119,120,121,122,
 65,66,67,68,69,70,71,72,73,74,75,76,77,78,79,80,81,82,83,84,85,86,87,88,89,90,48,49,50,51,52,53,54,55,56,57,46,44,45,59,58,39,40,41,33,63]
def qgG(c:Nat):Prop:=97≤c∧c≤122
def Word(w:Str):Prop:=1≤w.length∧w.length≤20∧∀c∈w.cps.toList,c∈wordSigns
def Name(n:Str):Prop:=1≤n.length∧n.length≤8∧∀c∈n.cps.toList,qgG c
def isNote:Th→Bool
 | .tri .note _ _=>true
 | _=>false
def PcOk:Th→Prop
 | .tri .word (.inl w) t=>Word w∧0≤t∧t≤3
 | .tri .page (.inl n) t=>Name n∧0≤t∧t≤3
 | .tri .note (.inr k) t=>0≤k∧k≤60∧t=0
 | _=>False
def noteNum:Th→Option Int
 | .tri .note (.inr k) _=>some k
 | _=>none
def qaT(l:List Th):List Int:=l.filterMap noteNum
def mayHold:Kd→Kd→Bool
 | .body,.case | .body,.shelf | .body,.grid | .body,.text | .body,.head | .body,.picture | .body,.aside=>true
 | .case,.case | .case,.shelf | .case,.grid | .case,.text | .case,.head | .case,.picture | .case,.aside=>true
 | .shelf,.case | .shelf,.shelf | .shelf,.grid | .shelf,.text | .shelf,.picture=>true
 | .grid,.case | .grid,.shelf | .grid,.grid | .grid,.text | .grid,.picture=>true
 | .text,.note | .head,.note=>true
 | .aside,.case | .aside,.shelf | .aside,.grid | .aside,.text | .aside,.head | .aside,.picture=>true
 | _,_=>false
def ofPieces:Kd→Bool
 | .text | .head | .note=>true
 | _=>false
def qg5(l:List Str):Prop:=l.length≤4∧(∀m∈l,Name m)∧l.Pairwise fun a b=>a.cps.toList<b.cps.toList
def Stuff:Kd→List Th→Prop
 | .picture,l=>∃a b:Int,l=[.int a,.int b]∧1≤a∧a≤2000∧1≤b∧b≤2000
 | .text,l | .head,l | .note,l=>(∀x∈l,PcOk x)∧(∃x r,l=x::r∧isNote x=false)∧l.length≤60
 | _,l=>l=[]
def noName:Str:=Str.ofString ""
structure Form(d:Nd):Prop where
 nm:d.nm=noName∨Name d.nm
 mks:qg5 d.mks
 st:Stuff d.k d.st
end Bk
namespace L2
open PySem
theorem qad{H:Hp}{p:Addr}(h:H p=none)(o:HO):Same H (upd H p o):=fun b u q=>by rw[qau (qao q h)];exact q
def KeepN(N:Addr→Prop)(H H':Hp):Prop:=∀b o,N b→H b=some o→H' b=some o
theorem KeepN.trans{N:Addr→Prop}{H H1 H2:Hp}(a:KeepN N H H1)(b:KeepN N H1 H2):KeepN N H H2:=fun c o n h=>b c o n (a c o n h)
theorem KeepN.mono{N N':Addr→Prop}{H H1:Hp}(a:KeepN N H H1)(h:∀b,N' b→N b):KeepN N' H H1:=fun c o n e=>a c o (h c n) e
theorem Same.keep{N:Addr→Prop}{H H':Hp}(s:Same H H'):KeepN N H H':=fun b o _ e=>s b o e
theorem KeepN.refl{N:Addr→Prop}{H:Hp}:KeepN N H H:=fun _ _ _ e=>e
end L2
namespace Bk
open PySem L2
def thV:Sum Str Int→V
 | .inl x=>.str x
 | .inr k=>.int k
def ItAt(N:Addr→Prop)(H:Hp)(v:V):Th→Prop
 | .int n=>v=.int n
 | .tri s x t=>∃a,v=.ref a∧N a∧H a=some (.tup [.str s.s,thV x,.int t])
theorem ItAt.keep{N N':Addr→Prop}{H H':Hp}{v:V}{x:Th}(h:ItAt N H v x)(k:KeepN N H H')(sub:∀b,N b→(H b).isSome=true→N' b):ItAt N' H' v x:=by
 cases x with
 | int n=>exact h
 | tri s x t =>
   obtain⟨a,e,n,g⟩:=h
   exact⟨a,e,sub a n (by rw[g];rfl),k _ _ n g⟩
def StAt(N:Addr→Prop)(H:Hp)(s:Addr)(l:List Th):Prop:=N s∧∃vs,H s=some (.lst vs)∧Paired (ItAt N H) vs l
structure NdAt(N:Addr→Prop)(H:Hp)(a:Addr)(d:Nd):Prop where
 na:N a
 ex:∃m s,H a=some (.tup [.int d.e,.str d.k.s,.str d.nm,.ref m,.ref s])∧N m∧H m=some (.lst (d.mks.map V.str))∧StAt N H s d.st
theorem StAt.keep{N N':Addr→Prop}{H H':Hp}{s:Addr}{l:List Th}(h:StAt N H s l)(k:KeepN N H H')(sub:∀b,N b→(H b).isSome=true→N' b):StAt N' H' s l:=by
 obtain⟨n,vs,g,p⟩:=h;exact⟨sub s n (by rw[g];rfl),vs,k _ _ n g,p.mono fun v x q=>q.keep k sub⟩
theorem NdAt.keep{N N':Addr→Prop}{H H':Hp}{a:Addr}{d:Nd}(h:NdAt N H a d)(k:KeepN N H H')(sub:∀b,N b→(H b).isSome=true→N' b):NdAt N' H' a d:=by
 obtain⟨na,m,s,g,nm,gm,st⟩:=h;exact⟨sub a na (by rw[g];rfl),m,s,k _ _ na g,sub m nm (by rw[gm];rfl),k _ _ nm gm,st.keep k sub⟩
abbrev NdsAt(N:Addr→Prop)(H:Hp)(as:List Addr)(ds:List Nd):Prop:=Paired (NdAt N H) as ds
theorem NdsAt.keep{N N':Addr→Prop}{H H':Hp}{as:List Addr}{ds:List Nd}(h:NdsAt N H as ds)(k:KeepN N H H')(sub:∀b,N b→(H b).isSome=true→N' b):NdsAt N' H' as ds:=h.mono fun a d q=>q.keep k sub
theorem NdsAt.get{N:Addr→Prop}{H:Hp}{as:List Addr}{ds:List Nd}(h:NdsAt N H as ds){i:Nat}{d:Nd}(e:ds[i]?=some d):∃a,as[i]?=some a∧NdAt N H a d:=by
 induction h generalizing i with
 | nil=>cases e
 | @cons a b l1 l2 q t ih =>
   cases i with
   | zero=>cases e;exact⟨a,rfl,q⟩
   | succ i=>exact ih (by simpa using e)
theorem NdsAt.at{N:Addr→Prop}{H:Hp}{as:List Addr}{ds:List Nd}(h:NdsAt N H as ds){i:Nat}{a:Addr}(e:as[i]?=some a):∃d,ds[i]?=some d∧NdAt N H a d:=by
 induction h generalizing i with
 | nil=>cases e
 | @cons a b l1 l2 q t ih =>
   cases i with
   | zero=>cases e;exact⟨b,rfl,q⟩
   | succ i=>exact ih (by simpa using e)
theorem NdsAt.append{N:Addr→Prop}{H:Hp}{as bs:List Addr}{ds es:List Nd}(p:NdsAt N H as ds)(h:NdsAt N H bs es):NdsAt N H (as++bs) (ds++es):=by
 induction p with
 | nil=>exact h
 | cons q t ih=>exact .cons q ih
def BookAt(N:Addr→Prop)(H:Hp)(p:Addr)(ds:List Nd):Prop:=∃as,H p=some (.lst (as.map V.ref))∧NdsAt N H as ds
theorem qcq{as:List Addr}{i:Nat}{a:Addr}(e:as[i]?=some a):atI (as.map V.ref) ((i:Nat):Int)=some (.ref a):=qbf (by rw[List.getElem?_map,e];rfl)
end Bk
namespace L2
open PySem PySem.Spec PyProof.Rows
theorem b_enumerate:bootBuiltins "enumerate" = some (.type "enumerate"):=by decide +kernel
section
variable{X:Cx}{pins:List (Addr×Obj)}{σ:St}{H:Hp}{s:Shared}{h':Heap}{fp:List Addr}
theorem Inv.moved{t':Nat}(I:Inv X pins σ H s)(hf:∀b∈fp,FpOk X pins H b)(k:∀b o,b∉fp→s.heap.get? b=some o→h'.get? b=some o):Inv X pins σ H {s with heap:=h',toks:=t'}:=by
 refine I.step (g':=s.gens) (d':=s.drawn) (ch:=fp) (fun b hb=>?_) (fun b o _ _ hc e _=>k b o hc e) (fun b o _ _ hc e _=>⟨o.slots,k b o hc e⟩) (fun _ _ _ _ n=>n) (fun b o hc e=>⟨o,k b o hc e⟩) (fun _ _ q=>q) (fun _ _ _ q=>q) (fun b ps q=>⟨#[],by rw[q];simp⟩) (fun m hn=>?_) (fun a u q=>?_) I.bare
 ·obtain⟨_,f1,_,f3,f4,f5⟩:=hf b hb;exact⟨f3,f1,f4,f5⟩
 ·obtain⟨o,es,ep,e,r⟩:=hn;exact⟨o,es,ep,k _ _ (fun z=>(hf _ z).2.1 rfl) e,r⟩
 ·refine(I.hok a u q).stay (fun b v hb e=>k b v (fun z=>?_) e) (fun _ z=>z) fun _ _ z=>z
  have:=(hf b z).1;rcases hb with rfl | hb
  ·rw[q]at this;cases this
  ·rw[hb]at this;cases this
end
def Ite(K:PySem.W.Frag)(a:Addr):It :=
 ⟨fun i H=>∃xs x,SqL K H a xs∧xs[i]?=some x,fun i H x H'=>∃T y,H T=none∧x=.ref T∧H'=upd H T (.tup [.int (i:Nat),y])∧∀xs,SqL K H a xs→xs[i]?=some y,fun i H=>∃xs,SqL K H a xs∧xs.length≤i⟩
theorem turn_enum{P:Program}{w:World}{K:PySem.W.Frag}{elts:List Expr}{k1:Nat}{tp:Pos}(a e it:Addr)(hei:e≠it):Turn P w K (.Tuple elts k1 tp) (Ite K a) [e,it] e (fun i h=>(∃old,IsEnum h e it ((i:Nat):Int) old)∧h.IsListIter it a i) where
 mem:=by simp
 obj:=fun i h st b hb=>by
  obtain⟨⟨old,x⟩,o,e1,c,d⟩:=st;rcases List.mem_cons.mp hb with rfl | hb
  ·exact⟨_,x,fun v z=>by cases z⟩
  ·have:b=it:=by simpa using hb
   subst this;exact⟨o,e1,fun v z=>by rw[d]at z;cases z⟩
 keep:=fun i h h' st k=>by
  obtain⟨⟨old,x⟩,y⟩:=st;exact⟨⟨old,k e (by simp) _ x⟩,y.at fun o z=>k it (by simp) o z⟩
 item:=by
  intro X hP hw hK hc i pins s σ H E I hf st hg;subst hP hw hK;obtain⟨xs,x,hq,hx⟩:=hg;obtain⟨⟨old,st1⟩,st2⟩:=st;obtain⟨its,rv,p,hz⟩:=I.list hq;obtain⟨u,hu,ru⟩:=rv.get hx;refine wpAny_pyNext_enum_item st1 st2 p.isList (x:=u) (by simpa using hu) hei fun h' ho hit' hT hsz hk=>?_
  refine⟨_,rfl,wpAny_letOwnedTupleGo_enum ho fun h2 he2 sb=>?_⟩;have k2:∀b o,b∉[e,it]→s.heap.get? b=some o→h2.get? b=some o:=fun b o hb z=>(sb.2 b (fun q=>hb (by simp[q]))).trans (hk b o (fun q=>hb (by simp[q])) (fun q=>hb (by simp[q])) z)
  have elt:e<s.heap.objs.size:=Heap.lt_size st1;have ilt:it<s.heap.objs.size:=by obtain⟨o,z,_⟩:=st2;exact Heap.lt_size z
  have gT:h2.get? s.heap.objs.size=some {cls:=.type "tuple",data:=.seq #[.int i s.toks,u]}:=(sb.2 _ (Nat.ne_of_gt elt)).trans hT;have I1:Inv X pins σ H {s with heap:=h2,toks:=s.toks+1}:=I.moved hf k2;have hn:H s.heap.objs.size=none:=I.hok.fresh (Nat.le_refl _);refine⟨.ref s.heap.objs.size,upd H s.heap.objs.size (.tup [.int (i:Nat),x]),I1.track ?_ hn (Nat.ne_of_gt I.lt) (fun y c ec z=>?_) (fun q hq z=>?_) ?_,rfl,⟨s.heap.objs.size,x,hn,rfl,rfl,fun ys hy=>by rw[I.list_inj hy hq];exact hx⟩,⟨⟨u,?_⟩,hit'.at fun o z=>(sb.2 it (Ne.symm hei)).trans z⟩,fun b hb=>?_⟩
  ·cases z:X.s₀.heap.get? s.heap.objs.size with
   | none=>rfl
   | some u=>exact absurd (Nat.lt_of_lt_of_le (Heap.lt_size z) I.sz) (Nat.lt_irrefl _)
  ·obtain⟨v,q⟩:=I.cell y c ec;exact absurd q.lt (by rw[z];exact Nat.lt_irrefl _)
  ·exact absurd (Heap.lt_size (I.pin q hq).1) (by rw[z];exact Nat.lt_irrefl _)
  ·exact⟨by show 2≤sizeLine;decide,[.int i s.toks,u],.cons ⟨_,rfl⟩ (.cons ru .nil),_,gT,rfl,_,rfl⟩
  ·simpa using he2
  ·rw[qau (fun z=>by
    have:=hb;rw[z]at this;rcases List.mem_cons.mp this with q | q
    ·exact absurd elt (by rw[←q];exact Nat.lt_irrefl _)
    ·have q':s.heap.objs.size=it:=by simpa using q
     exact absurd ilt (by rw[←q'];exact Nat.lt_irrefl _))]
   exact(hf b hb).1
 done:=by
  intro X hP hw hK hc i pins s σ H E I hf st hg;subst hP hw hK;obtain⟨xs,hq,hx⟩:=hg;obtain⟨⟨old,st1⟩,st2⟩:=st;obtain⟨its,rv,p,hz⟩:=I.list hq;have hl:=rv.length;exact wpAny_pyNext_enum_end (I.ok.hd hc) st1 st2 p.isList (by simp;omega) fun h' eb=>⟨rfl,I.moved (t':=s.toks) hf fun b o hb z=>eb b o (fun q=>hb (by simp[q])) z⟩
 self:=fun _ _ _ _ _ st h=>by
  obtain⟨⟨old,x⟩,_⟩:=st;exact wpAny_pyIter_enum x h
def Its(x:Str):It:=⟨fun i _=>i<x.cps.size,fun i H v H'=>H'=H∧∃c,x.cps[i]?=some c∧v=.str ⟨#[c]⟩,fun i _=>x.cps.size≤i⟩
section
variable{X:Cx}{tg:Expr}
def iEnum(K:PySem.W.Frag)(ta:TA):TI:=fun σ H R=>ta σ H fun vs H1=>∃a,vs=[.ref a]∧(∃xs,SqL K H1 a xs)∧R (Ite K a) H1
theorem qdr{a:Expr}{ta:TA}{p pos tp:Pos}{elts:List Expr}{k1:Nat}(hg:Gl X "enumerate")(hm:X.mg "enumerate" = none)(ha:PA X [a] ta)(hs:starEach [a] X.env=[(false,eval a X.env)]:=by rfl):PI X (.Tuple elts k1 tp) (.Call (.Name "enumerate" p) [a] [] pos) (iEnum X.K ta):=by
 intro pins s σ H R I h;refine Call_ (qc8 I hg hm b_enumerate (PyProof.Rows.callWith_type1 (thn (ha pos pins s σ H _ I h) fun us s1 ⟨vs,H1,I1,r1,q1⟩=>?_) hs rfl));obtain⟨l,e,⟨xs,hq⟩,q⟩:=q1;subst e;cases r1 with
 | cons r rr =>
   cases rr
   cases r
   obtain⟨its,rv,pl,hz⟩:=I1.list hq
   refine call_enumerate_list pl.isList fun h' he hit hsz kp=>?_
   refine wpAny_pyIter_enum he ?_
   have I2:Inv X pins σ H1 {s1 with heap:=h'}:=I1.kept (t':=s1.toks) kp
   refine⟨s1.heap.objs.size+1,[s1.heap.objs.size+1,s1.heap.objs.size],_,_,H1,rfl,I2,turn_enum l _ _ (Nat.ne_of_gt (Nat.lt_succ_self _)),⟨⟨_,by simpa using he⟩,hit⟩,fun b hb=>?_,q⟩
   rcases List.mem_cons.mp hb with rfl | hb
   · exact I1.fpOk (Nat.le_succ _) (I1.hok.fresh (Nat.le_succ _))
   · have:b=s1.heap.objs.size:=by simpa using hb
     subst this
     exact I1.fpOk (Nat.le_refl _) (I1.hok.fresh (Nat.le_refl _))
end
end L2
namespace L2
open PySem PySem.Spec
section
variable{κ:Type}[DecidableEq κ]
def one1(l:List κ)(v:κ):List κ:=if v∈l then l else l++[v]
def met(val:Nat→κ)(i:Nat):List κ:=((List.range i).map val).foldl one1 []
theorem qeq(val:Nat→κ)(i:Nat):met val (i+1)=one1 (met val i) (val i):=by
 unfold met;rw[List.range_succ,List.map_append,List.foldl_append];rfl
theorem qgR(val:Nat→κ):∀i,(met val i).length≤i
 | 0=>Nat.le_refl _
 | i + 1 => by
   rw[qeq]
   unfold one1
   have:=qgR val i
   split
   · omega
   · rw[List.length_append,List.length_singleton];omega
theorem qf9(l:List κ)(v k:κ):decide (k∈one1 l v)=(decide (k∈l) || decide (k=v)):=by
 unfold one1
 by_cases z:v∈l
 ·rw[if_pos z]
  by_cases e:k=v
  ·subst e;simp[z]
  ·simp[e]
 ·rw[if_neg z];simp
theorem qfm(l:List κ)(v:κ):(one1 l v).length=if decide (v∈l)=true then l.length else l.length+1:=by
 unfold one1
 by_cases z:v∈l
 ·simp[z]
 ·simp[z]
theorem qfD{prog:Program}{w:World}{knd:KeyKind prog w κ}{h:Heap}{a:Addr}{S S':κ→Bool}{n n':Nat}(x:h.SetOf knd a S n)(e:∀k,S k=S' k)(en:n=n'):h.SetOf knd a S' n':=by
 obtain rfl:S=S':=funext e;exact en ▸ x
end
section
variable{prog:Program}{w:World}{A:Around}{E:Value→Shared→Prop}{s:Shared}{κ:Type}[DecidableEq κ]{knd:KeyKind prog w κ}
abbrev qby(led:Bool):Obj:={cls:=.type "set",dict:=none,data:=.set #[] 0 (.fresh 0 0 led)}
end
end L2
namespace L2
open PySem
def NotPlain(w:World)(h:Heap)(a:Addr):Prop:=∃o es ep t,h.get? a=some o∧o.data=.set es ep t∧(t.plain=false∨es.size=0)∧t.led=!(w.params.followText "set-order")
theorem stand_led(t:SetTable)(n:Nat):(t.orStandIn n).led=t.led:=by
 unfold SetTable.orStandIn
 split<;>rfl
theorem lay_led(t:SetTable)(es:Array (Int×Value))(h:Int)(x:Value):(layNew t es h x).2.1.led=t.led:=by
 unfold layNew
 split
 ·exact stand_led _ _
 ·rfl
theorem relay_led(t:SetTable)(es:Array (Int×Value))(n:Nat):(relayAll t es n).2.1.led=t.led:=by
 unfold relayAll;cases e:t.relaid (es.map (·.1)) n with
 | none=>rfl
 | some r =>
   obtain⟨t',order⟩:=r
   dsimp only
   split
   · unfold SetTable.relaid SetTable.laid at e
     cases e1:SetTable.layClean (SetTable.sizeAbove n-1) (es.map (·.1))with
     | none=>rw[e1]at e;cases e
     | some ow =>
       rw[e1]at e
       cases e
       rfl
   · rfl
theorem relay_plain(t:SetTable)(es:Array (Int×Value))(n:Nat)(h:t.plain=false):(relayAll t es n).2.1.plain=false:=by
 unfold relayAll;cases e:t.relaid (es.map (·.1)) n with
 | none=>rfl
 | some r =>
   obtain⟨t',order⟩:=r
   dsimp only
   split
   · unfold SetTable.relaid SetTable.laid at e
     cases e1:SetTable.layClean (SetTable.sizeAbove n-1) (es.map (·.1))with
     | none=>rw[e1]at e;cases e
     | some ow =>
       rw[e1]at e
       cases e
       exact h
   · rfl
section
variable{prog:Program}{w:World}{A:Around}{E:Value→Shared→Prop}{s:Shared}{κ:Type}[DecidableEq κ]{knd:KeyKind prog w κ}
theorem qfQ{g:Bool→Sem Unit}(hg:∀ (b:Bool) (s1:Shared) (Q1:Unit→Shared→Prop),Q1 () s1→wpAny (model prog w) A (g b) Q1 E s1){a:Addr}{o:Obj}{es:Array (Int × Value)}{ep:Nat}{t:SetTable}(ho:s.heap.get? a=some o)(hex:o.ExactSet)(hd:o.data=.set es ep t){es1:Array (Int × Value)}{t2:SetTable}{S':κ→Bool}(hel:ElemsOf knd es1.toList)(hme:∀ k',S' k'=true↔∃ e∈es1.toList,knd.is k' e.2=true)(hb:es1.size < scanBound)(hf:t2.fits es1.size=true)(hp2:t2.plain=false)(hl2:t2.led=!(w.params.followText "set-order")){dm:Bool}{R:Option Bool→Shared→Prop}(fin:∀ h',Heap.SameBut a s.heap h'→h'.SetOf knd a S' es1.size→NotPlain w h' a→R (some true) { s with heap:=h' }) :
  wpAny (model prog w) A (do
   storeSet a es1 t2
   if (!dm && t2.tooFull)=true then do
       g (relayAll t2 es1 (SetTable.grown es1.size)).2.2
       storeSet a (relayAll t2 es1 (SetTable.grown es1.size)).1 (relayAll t2 es1 (SetTable.grown es1.size)).2.1
       pure (some true)
    else pure (some true)) R E s:=by
 obtain ⟨g1,x1⟩:=SetOf_store (knd:=knd) ho hex hd hel hme hb hf
 have b1:=Heap.SameBut.update s.heap a (Obj.putSet es1 t2)
 refine wpAny_bind (wpAny_storeSet_of ho hd ?_ (fits_of_scanBound hb))
 by_cases full:(!dm && t2.tooFull)=true
 ·rw [if_pos full]
  have pm:=relayAll_perm t2 es1 (SetTable.grown es1.size)
  have ft:=relayAll_fits t2 es1 (SetTable.grown es1.size)
  have pl:=relay_plain t2 es1 (SetTable.grown es1.size) hp2
  have ld:=relay_led t2 es1 (SetTable.grown es1.size)
  generalize relayAll t2 es1 (SetTable.grown es1.size)=Z at pm ft pl ld ⊢
  obtain ⟨es2,t3,gv⟩:=Z
  dsimp only at pm ft pl ld ⊢
  have sz:es2.size=es1.size:=by simpa using pm.length_eq
  have hb2:es2.size < scanBound:=by omega
  refine wpAny_bind (hg gv _ _ ?_)
  refine wpAny_bind (wpAny_storeSet_of g1 rfl ?_ (fits_of_scanBound hb2))
  obtain ⟨g2,x2⟩:=SetOf_store (knd:=knd) (S':=S') g1 hex rfl (hel.perm pm) (fun k'=>(hme k').trans ⟨fun z=>⟨z.choose,pm.mem_iff.mpr z.choose_spec.1,z.choose_spec.2⟩,fun z=>⟨z.choose,pm.mem_iff.mp z.choose_spec.1,z.choose_spec.2⟩⟩) hb2 ft
  rw [sz] at x2
  exact wpAny_pure (fin _ (b1.trans (Heap.SameBut.update _ a _)) x2 ⟨_,_,_,_,g2,rfl,.inl pl,ld.trans hl2⟩)
 ·rw [if_neg full]
  exact wpAny_pure (fin _ b1 x1 ⟨_,_,_,_,g1,rfl,.inl hp2,hl2⟩)
theorem set_add{a:Addr}{S:κ→Bool}{n:Nat}{k:κ}{x:Str}{tk:Tok}{Q:Bool→Shared→Prop}(hkey:knd.is k (.str x tk)=true)(hS:s.heap.SetOf knd a S n)(hP:NotPlain w s.heap a)(room:n+1<scanBound)(fin:∀h',Heap.SameBut a s.heap h'→h'.SetOf knd a (fun k'=>S k' || decide (k'=k)) (if S k then n else n+1)→NotPlain w h' a→Q (!S k) {s with heap:=h'}) :
  wpAny (model prog w) A (setAddHashed a (.str x tk) (knd.hash k)) Q E s:=by
 obtain⟨o,es,ep,t,ho,hex,hd,hel,hme,hb,hf,hn⟩:=hS;unfold setAddHashed setAddHashedIn;refine wpAny_holding (wpAny_bind (wpAny_setState_of ho hd hf ?_));dsimp only;rw[byScan_of (x:=.str x tk) rfl hb hel,if_pos rfl];unfold setAddByScan;refine wpAny_bind (wpAny_bind (wpAny_rule (wpAny_bind (wpAny_setScan_of hkey ho hd hf hel ?_))));cases there:List.findIdx? (fun e=>knd.is k e.2) es.toList with
 | some j =>
   dsimp only
   obtain⟨hj,hpj,_⟩:=List.findIdx?_eq_some_iff_getElem.mp there
   have yes:S k=true:=(hme k).mpr ⟨_,List.getElem_mem hj,hpj⟩
   refine wpAny_pure (wpAny_pure ?_)
   have q:=fin s.heap (Heap.SameBut.refl a s.heap) ⟨o,es,ep,t,ho,hex,hd,hel,fun k'=>?_,hb,hf,by rw[if_pos yes];exact hn⟩ hP
   · rw[yes]at q
     exact q
   · rw[←hme k',Bool.or_eq_true,decide_eq_true_eq]
     constructor
     · rintro(z | rfl)
       · exact z
       · exact yes
     · exact .inl
 | none =>
   dsimp only
   have no:S k=false:=Bool.eq_false_iff.mpr fun z=>by
     obtain⟨e,he,hp⟩:=(hme k).mp z
     exact absurd hp (by rw[List.findIdx?_eq_none_iff.mp there e he];exact Bool.false_ne_true)
   have pm:=layNew_perm t es (knd.hash k) (.str x tk)
   have ft:=layNew_fits t es (knd.hash k) (.str x tk)
   have ld:=lay_led t es (knd.hash k) (.str x tk)
   have ld0:t.led=!(w.params.followText "set-order"):=by
     obtain⟨o',es',ep',t',e1,e2,_,e3⟩:=hP
     rw[ho]at e1
     cases e1
     rw[hd]at e2
     cases e2
     exact e3
   rw[ld0]at ld
   generalize layNew t es (knd.hash k) (.str x tk)=Z at pm ft ld⊢
   obtain⟨es1,t1,dm,gv⟩:=Z
   dsimp only at pm ft ld⊢
   rw[Array.toList_push]at pm
   have sz:es1.size=n+1:=by
     have:=pm.length_eq
     rw[List.length_append,Array.length_toList,Array.length_toList,hn]at this
     exact this
   have quiet:∀(b:Bool) (s1:Shared) (Q1:Unit→Shared→Prop),Q1 () s1→wpAny (model prog w) A (match b with | true=>rule "set.scan.the-table-gave-way" | false=>pure ()) Q1 E s1:=fun b s1 Q1 q=>by
     cases b with
     | true=>exact wpAny_rule q
     | false=>exact wpAny_pure q
   have last:∀h',Heap.SameBut a s.heap h'→h'.SetOf knd a (fun k'=>S k' || decide (k'=k)) es1.size→NotPlain w h' a→Q true {s with heap:=h'}:=fun h' sb x' np=>by
     have q:=fin h' sb
     rw[no,if_neg Bool.false_ne_true,←sz]at q
     exact q x' np
   refine wpAny_bind (quiet _ _ _ ?_)
   have el1:ElemsOf knd es1.toList:=(hel.push hkey rfl).perm pm
   have me1:=fun k'=>mem_push_iff hkey hme pm k'
   have hb1:es1.size<scanBound:=by omega
   cases pl:t1.plain with
   | true =>
     rw[if_pos rfl,hashByValue_scannable 8 (x:=.str x tk) rfl]
     refine wpAny_bind (wpAny_pure ?_)
     refine qfQ quiet ho hex hd el1 me1 hb1 (t2:={t1 with plain:=false}) (SetTable.fits_plain_off ft) rfl ld fun h' sb x' np=>?_
     exact wpAny_pure (last h' sb x' np)
   | false =>
     rw[if_neg Bool.false_ne_true]
     refine wpAny_bind (wpAny_pure ?_)
     refine qfQ quiet ho hex hd el1 me1 hb1 (t2:=t1) ft pl ld fun h' sb x' np=>?_
     exact wpAny_pure (last h' sb x' np)
end
end L2
namespace L2
open PySem PySem.Spec
theorem NotPlain.at{w:World}{h h':Heap}{a:Addr}(x:NotPlain w h a)(k:∀o,h.get? a=some o→h'.get? a=some o):NotPlain w h' a:=by
 obtain⟨o,es,ep,t,e,r⟩:=x;exact⟨o,es,ep,t,k _ e,r⟩
section
variable{prog:Program}{w:World}{A:Around}{E:Value→Shared→Prop}{s:Shared}
theorem set_new(a:Value){Q1:Value→Shared→Prop}(q:Q1 (.ref s.heap.objs.size) {s with heap:=s.heap.push (qby (!(w.params.followText "set-order")))}) :
  codeAny (model prog w) A (.call (.builtin "set.__new__") ⟨[.type "set",a],[]⟩) (wants Q1 E) s:=by
 refine codeAny_of_tree ?_;show wpAny _ A.in1 (checkBuiltinCall "set.__new__" ⟨[.type "set",a],[]⟩>>=fun _=>again (.builtin "set.__new__" ⟨[.type "set",a],[]⟩)) _ _ s;refine wpAny_bind (wpAny_of_eq (F.newCall_set_1 a) (wpAny_pure ⟨plainId_quiet F.plain_set_new _,codeAny_builtin F.entry_set_new ?_⟩));rw[Around.under_plainId F.plain_set_new _];unfold Builtin.«set.__new__» Builtin.Frozenset.newClass;have e1:=sub_set_self;obtain⟨h0,g0,d0,t0,o0⟩:=s;dsimp only
 wp_walk
 refine wpAny_askSetting (wpAny_pure ?_);dsimp only;simp only[newObj];exact wpAny_bind (wpAny_alloc (wpAny_pure (wpAny_pure q)))
end
section
variable{prog:Program}{w:World}{A:Around}{R:Result→Shared→Prop}{J:Addr}{fp wr:List Addr}{G:Array GenState→Array GenState→Prop}{n:Nat}{P:Nat→Value→Prop}{St:Nat→Shared→Prop}{κ:Type}[DecidableEq κ]{knd:KeyKind prog w κ}
theorem upd_loopS(W:WalksS prog w A.in1 J fp wr G n P St)(S:Addr)(nS:S∉fp)(val:Nat→κ)(hv:∀i v,P i v→∃x t,v=.str x t∧knd.is (val i) (.str x t)=true)(hb:n+1<scanBound) :
  ∀(k i:Nat) (s:Shared),n-i=k→i≤n→St i s→s.heap.SetOf knd S (fun q=>decide (q∈met val i)) (met val i).length→NotPlain w s.heap S →
   (∀s',Moved (S::wr) G s s'→s'.heap.SetOf knd S (fun q=>decide (q∈met val n)) (met val n).length→NotPlain w s'.heap S→R (.ok (.ret .none)) s') →
   codeAny (model prog w) A (.builtin "set.update.loop" ⟨[.ref S,.ref J],[]⟩) R s:=by
 have nSw:S∉wr:=fun q=>nS (W.sub _ q)
 have sub:∀b∈wr,b∈S::wr:=fun b q=>List.mem_cons_of_mem _ q
 intro k
 induction k with
 | zero =>
   intro i s hk hi st x np fin
   obtain rfl:i=n:=by omega
   refine codeAny_builtin PyProof.Rows.F.entry_set_update_loop ?_
   rw[Around.under_plainId PyProof.Rows.F.plain_set_update_loop _]
   show wpAny (model prog w) A.in1 (pyNext (.ref J)>>=_) _ _ s
   refine wpAny_bind (W.done s _ _ st fun s1 mv=>?_)
   show wpAny (model prog w) A.in1 (ret Value.none) _ _ s1
   refine wpAny_pure (fin s1 (mv.mono sub) ?_ (np.at fun o e=>mv.heap S _ nSw e))
   obtain⟨o,es,ep,tb,ho,r⟩:=x
   exact⟨o,es,ep,tb,mv.heap S _ nSw ho,r⟩
 | succ k ih =>
   intro i s hk hi st x np fin
   have lt:i<n:=by omega
   refine codeAny_builtin PyProof.Rows.F.entry_set_update_loop ?_
   rw[Around.under_plainId PyProof.Rows.F.plain_set_update_loop _]
   show wpAny (model prog w) A.in1 (pyNext (.ref J)>>=_) _ _ s
   refine wpAny_bind (W.item i s _ _ lt st fun v s1 hP st1 mv=>?_)
   obtain⟨tx,tt,rfl,kv⟩:=hv i v hP
   have np1:NotPlain w s1.heap S:=np.at fun o e=>mv.heap S _ nSw e
   have x1:s1.heap.SetOf knd S (fun q=>decide (q∈met val i)) (met val i).length:=by
     obtain⟨o,es,ep,tb,ho,r⟩:=x
     exact⟨o,es,ep,tb,mv.heap S _ nSw ho,r⟩
   show wpAny (model prog w) A.in1 (holding [Value.str tx tt] (setAdd S (Value.str tx tt))>>=_) _ _ s1
   refine wpAny_bind (wpAny_holding ?_)
   unfold setAdd
   refine wpAny_holding ?_
   refine wpAny_bind (knd.pyHash kv ?_)
   have room:(met val i).length+1<scanBound:=by have:=qgR val i;omega
   refine set_add (knd:=knd) (s:={s1 with toks:=s1.toks+1}) kv x1 np1 room fun h' sb x2 np2=>?_
   have x3:h'.SetOf knd S (fun q=>decide (q∈met val (i+1))) (met val (i+1)).length :=
     qfD x2 (fun q=>by rw[qeq,qf9]) (by rw[qeq,qfm])
   refine wpAny_pure ⟨plainId_quiet PyProof.Rows.F.plain_set_update_loop _,ih (i+1) _ (by omega) lt (W.frame _ s1 _ _ st1 (Nat.le_succ _) fun b hb o e=>?_) x3 np2 fun s2 mv2 x4 np4=>?_⟩
   · rw[sb.2 b (fun z:b=S=>nS (by rw[←z];exact hb))];exact e
   · refine fin s2 (Moved.trans W.gtrans ((mv.mono sub).then_heap (Nat.le_succ _) fun b o hb e=>?_) mv2) x4 np4
     rw[sb.2 b (fun z:b=S=>hb (by rw[z];exact List.mem_cons_self))];exact e
end
section
variable{prog:Program}{w:World}{A:Around}{E:Value→Shared→Prop}{s:Shared}{κ:Type}[DecidableEq κ]{knd:KeyKind prog w κ}
theorem set_fromS{l:Addr}{its:Array Value}{val:Nat→κ}{Q:Value→Shared→Prop}(hh:A.handled=none)(hl:s.heap.IsList l its)(hv:∀(i:Nat) (v:Value),its[i]?=some v→∃x t,v=.str x t∧knd.is (val i) (.str x t)=true)(hb:its.size+1<scanBound)(fin:∀(h':Heap) (tk:Nat),h'.SetOf knd s.heap.objs.size (fun q=>decide (q∈met val its.size)) (met val its.size).length→NotPlain w h' s.heap.objs.size→(∀b o,b<s.heap.objs.size→s.heap.get? b=some o→h'.get? b=some o) →
   Q (.ref s.heap.objs.size) {s with heap:=h',toks:=tk}) :
  wpAny (model prog w) A (call (.type "set") [.ref l]) Q E s:=by
 obtain⟨c1,c2,m1⟩:=F.called_set.mro;have m2:=F.called_set.made;have m3:=F.called_set.sub;refine wpAny_call (codeAny_of_tree ?_);show wpAny (model prog w) _ (callAny (.type "set") _) _ _ _;refine wpAny_pure ⟨Code.quiet_builtin _ (by decide +kernel),codeAny_builtin F.entry_type_call ?_⟩;rw[Around.under_plain (weight_type_call_type "set" [.ref l] []) rfl];have m4:=F.called_set.notType;have m5:=F.called_set.canCreate;have m6:=F.typeCall_set_1 (.ref l)
 repeat (any_goals (first | assumption | wp_step))
 refine codeAny_mono (set_new (.ref l) (E:=E) (Q1:=fun ob s1=>∃led:Bool,ob=.ref s.heap.objs.size∧s1={s with heap:=s.heap.push (qby led)}∧led=!(w.params.followText "set-order")) ⟨_,rfl,rfl,rfl⟩) fun r s1 hr=>?_
 rcases r with e | fl
 ·exact hr
 rcases fl with _ | _ | _ | ob<;>first | exact hr.elim | skip
 obtain⟨led,rfl,rfl,hled⟩:=hr;have gS:(s.heap.push (qby led)).get? s.heap.objs.size=some (qby led):=Heap.get?_push_size _ rfl;have tS:Shared.TypeIs {s with heap:=s.heap.push (qby led)} (.ref s.heap.objs.size) "set":=⟨_,gS,rfl⟩;have q1:=F.called_set.init.lookup;have q2:=F.called_set.init.bind (.ref s.heap.objs.size)
 repeat (any_goals (first | assumption | wp_step))
 refine codeAny_mono (codeAny_call_builtin (R:=wants (fun r s2=>r=.none∧∃h' tk,s2={s with heap:=h',toks:=tk}∧h'.SetOf knd s.heap.objs.size (fun q=>decide (q∈met val its.size)) (met val its.size).length∧NotPlain w h' s.heap.objs.size ∧
   (∀b o,b<s.heap.objs.size→s.heap.get? b=some o→h'.get? b=some o)) E) F.called_set.init.plain F.entry_set_init (check_set_init_1 tS ?_)) fun r2 s2 hr2=>?_
 ·obtain⟨ol,hol,hcl,nl,hdl⟩:=hl;obtain⟨z1,z2,z3,z4⟩:=ol;simp only at hcl hdl;subst hcl hdl;have hol1:(s.heap.push (qby led)).get? l=some ⟨.type "list",z2,.seq its nl,z4⟩:=Heap.get?_push_of_some _ hol;have e1:=F.sub_list_set;have e2:=F.sub_list_frozenset;have e3:(Value.type "list" == Value.type "dict")=false:=by decide
  have il:(s.heap.push (qby led)).IsList l its:=⟨_,hol1,rfl,nl,rfl⟩;unfold Builtin.«set.__init__» noKeywords Builtin.Frozenset.updateFrom;generalize ePI:pyIter=PI
  wp_walk
  subst ePI;refine wpAny_pyIter_list il ?_;refine wpAny_bind (wpAny_runValue ?_);have lS:l<s.heap.objs.size:=Heap.lt_size hol;have h3:A.in1.in1.in1.handled=none:=by simp[hh]
  have nI:l≠(s.heap.push (qby led)).objs.size:=by rw[Heap.size_push];exact Nat.ne_of_lt (Nat.lt_succ_of_lt lS)
  have nS:s.heap.objs.size∉[(s.heap.push (qby led)).objs.size,l]:=by
   rw[Heap.size_push];intro z;rcases List.mem_cons.mp z with z | z
   ·exact absurd z (Nat.ne_of_lt (Nat.lt_succ_self _))
   ·rcases List.mem_cons.mp z with z | z
    ·exact absurd z.symm (Nat.ne_of_lt lS)
    ·cases z
  refine upd_loopS (knd:=knd) ((Walks.list h3 _ l nI its).toS) s.heap.objs.size nS val hv hb (its.size-0) 0 _ (by omega) (Nat.zero_le _) ⟨⟨_,Heap.get?_push_size _ rfl,rfl,rfl⟩,(il.push _)⟩ ?x0 ⟨_,_,_,_,Heap.get?_push_of_some _ gS,rfl,.inr rfl,hled⟩ ?xR
  case x0 =>
   exact qfD ((PyProof.Rows.setObjOf_fresh (knd:=knd) led).setOf (Heap.get?_push_of_some _ gS) (by unfold scanBound;omega)) (fun q=>by simp[met]) rfl
  case xR =>
   intro s' mv x np;obtain⟨h',g',d',tk',os'⟩:=s';obtain rfl:g'=s.gens:=mv.gens;obtain rfl:d'=s.drawn:=mv.drawn;obtain rfl:os'=s.os:=mv.os;show wpAny (model prog w) _ _ _ _ _;refine wpAny_pure ?_;show wpAny (model prog w) _ (ret Value.none) _ _ _;refine wpAny_pure ⟨rfl,h',tk',rfl,x,np,fun b o hb e=>?_⟩;refine mv.heap b o (fun z=>?_) (Heap.get?_push_of_some _ (Heap.get?_push_of_some _ e));rcases List.mem_cons.mp z with z | z
   ·exact absurd z (Nat.ne_of_lt hb)
   ·have z':b=(s.heap.push (qby led)).objs.size:=by simpa using z
    rw[Heap.size_push]at z';exact absurd z' (Nat.ne_of_lt (Nat.lt_succ_of_lt hb))
 ·rcases r2 with e | fl2
  ·exact hr2
  rcases fl2 with _ | _ | _ | r<;>first | exact hr2.elim | skip
  obtain⟨rfl,h',tk,rfl,x,np,kp⟩:=hr2
  repeat (any_goals (first | assumption | wp_step))
  exact fin _ _ x np kp
end
end L2
namespace L2
open PySem
theorem sit_next:Slot "set_iterator" "__next__" "set_iterator.__next__" :=
 .of (owner := "set_iterator") (n := "__next__") (by rw[typeLookup_type,builtinLookup_eq_fast];kernel_rfl) (by decide +kernel) (by decide +kernel) (by decide +kernel) (by first | exact .inl (by decide +kernel) | exact .inr (by decide +kernel)) (by rw[isSubtype_type];kernel_rfl)
theorem sit_iter:Slot "set_iterator" "__iter__" "set_iterator.__iter__" :=
 .of (owner := "set_iterator") (n := "__iter__") (by rw[typeLookup_type,builtinLookup_eq_fast];kernel_rfl) (by decide +kernel) (by decide +kernel) (by decide +kernel) (by first | exact .inl (by decide +kernel) | exact .inr (by decide +kernel)) (by rw[isSubtype_type];kernel_rfl)
theorem ent_sit_next:entryFor table "set_iterator.__next__" = some Builtin.«set_iterator.__next__»:=entryFor_of_tree (by kernel_rfl)
theorem ent_sit_iter:entryFor table "set_iterator.__iter__" = some Builtin.«dict_keyiterator.__iter__» :=
 entryFor_alias (id' := "dict_keyiterator.__iter__") (by kernel_rfl) (by first | rfl | decide +kernel) (by decide +kernel) (by kernel_rfl)
theorem ent_set_iter:entryFor table "set.__iter__" = some Builtin.«frozenset.__iter__» :=
 entryFor_alias (id' := "frozenset.__iter__") (by kernel_rfl) (by first | rfl | decide +kernel) (by decide +kernel) (by kernel_rfl)
theorem arg_sit_next(a:Value):argsOk "set_iterator.__next__" ⟨[a],[]⟩:=by unfold argsOk;kernel_rfl
theorem arg_sit_iter(a:Value):argsOk "set_iterator.__iter__" ⟨[a],[]⟩:=by unfold argsOk;kernel_rfl
def SIt(h:Heap)(it:Addr)(f:Value)(i:Nat)(d:Addr)(n ep:Nat):Prop:=h.get? it=some {cls:=.type "set_iterator",data:=.fields #[f,.int i 0,.ref d,.int n 0,.int ep 0]}
def SAt(h:Heap)(d:Addr)(es:Array (Int×Value))(ep:Nat)(t:SetTable):Prop:=∃o,h.get? d=some o∧o.data=.set es ep t∧t.fits es.size=true
theorem qcZ{α:Type}:∀(l:List α) (i:Nat) (h:i<l.length),List.Perm (l[i]::l.eraseIdx i) l
 | x::l,0,h=>List.Perm.refl _
 | x :: l, i + 1, h => by
   have hi:i<l.length:=by simpa using h
   show List.Perm (l[i]::x::l.eraseIdx i) (x::l)
   exact(List.Perm.swap _ _ _).trans (List.Perm.cons _ (qcZ l i hi))
theorem qdq{α:Type}(next:Nat→Nat):∀(fuel k:Nat) (left:List α) (out:Array α),left.length≤fuel→List.Perm (pickOrder.go next fuel k left out).toList (out.toList++left)
 | 0, k, left, out, h => by
   have:left=[]:=List.length_eq_zero_iff.mp (by omega)
   subst this
   simp[pickOrder.go]
 | fuel + 1, k, left, out, h => by
   unfold pickOrder.go
   cases left with
   | nil=>simp
   | cons y ys =>
     have hlt:next k % (y::ys).length<(y::ys).length:=Nat.mod_lt _ (by simp)
     rw[List.getElem?_eq_getElem hlt]
     dsimp only
     refine(qdq next fuel (k+1) _ _ (by rw[List.length_eraseIdx_of_lt hlt];omega)).trans ?_
     rw[Array.toList_push,List.append_assoc]
     refine List.Perm.append_left _ ?_
     exact qcZ _ _ hlt
theorem qdt{α:Type}(next:Nat→Nat)(xs:Array α):List.Perm (pickOrder next xs).toList xs.toList:=by
 have:=qdq next xs.size 0 xs.toList #[] (by simp)
 simpa[pickOrder]using this
section
variable{prog:Program}{w:World}{A:Around}{E:Value→Shared→Prop}{s:Shared}
theorem choose_any{src:Source}{n:Nat}{Q:Nat→Shared→Prop}(hn:n≠0)(q:∀k d',k<n→Q k {s with drawn:=d'}):wpAny (model prog w) A (choose src n) Q E s:=fun Γ p hΓ=>by
 show Sem.wp _ _ (Sem.choose _ _ Sem.pure) _ _ _ _;rw[Sem.wp_choose];exact⟨hn,q _ _ (Nat.mod_lt _ (Nat.pos_of_ne_zero hn))⟩
theorem qeN{α:Type}:∀(n:Nat) (xs:List α) (s:Shared) (Q:List α→Shared→Prop),xs.length≤n→(∀ys d',ys.Perm xs→Q ys {s with drawn:=d'})→wpAny (model prog w) A (drawOrder n xs) Q E s
 | 0, xs, s, Q, h, q => by
   have:xs=[]:=List.length_eq_zero_iff.mp (by omega)
   subst this
   exact wpAny_pure (q [] s.drawn (List.Perm.refl _))
 | n+1,[],s,Q,h,q=>wpAny_pure (q [] s.drawn (List.Perm.refl _))
 | n + 1, x :: xs, s, Q, h, q => by
   unfold drawOrder
   refine wpAny_bind (choose_any (by simp) fun k d' hlt=>?_)
   rw[List.getElem?_eq_getElem hlt]
   dsimp only
   refine wpAny_bind (qeN n _ _ _ (by rw[List.length_eraseIdx_of_lt hlt];omega) fun ys d' pm=>wpAny_pure ?_)
   exact q _ _ ((List.Perm.cons _ pm).trans (qcZ _ _ hlt))
theorem qd6{it:Addr}{f:Value}{i d n ep:Nat}{Q:Option Value→Shared→Prop}(hit:SIt s.heap it f i d n ep)(h:wpAny (model prog w) A.in1 (Builtin.«set_iterator.__next__» ⟨[.ref it],[]⟩) (fun fin s'=>∃v,fin=.done (.ret v)∧Q (some v) s') (fun e s'=>wpAny (model prog w) A (isInstance e (.type "StopIteration")) (fun b s2=>b=true∧Q none s2) E s') s) :
  wpAny (model prog w) A (pyNext (.ref it)) Q E s:=by
 have hT:s.TypeIs (.ref it) "set_iterator":=⟨_,hit,rfl⟩;unfold pyNext;refine wpAny_bind (wpAny_attempt (wpAny_callSpecial?_slot (name:=Str.ofString "__next__") hT sit_next (wpAny_call_entry sit_next hT ent_sit_next ?_ (arg_sit_next _))));refine wpAny_mono h (fun fin s' q=>?_) fun e s' q=>?_
 ·obtain⟨v,rfl,q⟩:=q;exact⟨v,rfl,wpAny_pure q⟩
 ·refine wpAny_bind (wpAny_mono q (fun b s2 z=>?_) fun _ _ z=>z);obtain⟨rfl,z⟩:=z;exact wpAny_pure z
end
end L2
namespace L2
open PySem
section
variable{prog:Program}{w:World}{A:Around}{E:Value→Shared→Prop}{s:Shared}
theorem qep{Q:Option Value→Shared→Prop}{R:PySem.Fin→Shared→Prop}(hh:A.handled=none)(s':Shared)(hQ:∀h',(∀b o,s'.heap.get? b=some o→h'.get? b=some o)→Q none {s' with heap:=h'}) :
  wpAny (model prog w) A.in1 (newExc (.type "StopIteration") []>>=raiseNew) R (fun e s'=>wpAny (model prog w) A (isInstance e (.type "StopIteration")) (fun b s2=>b=true∧Q none s2) E s') s':=by
 refine wpAny_bind ?_;simp only[newExc,newTuple];refine wpAny_bind (wpAny_newObj_type ?_ (by size_fits));refine wpAny_bind (m:=firstArgMember _ _) (wpAny_of_eq (a:=Value.none) (by first | rfl | (simp only[firstArgMember];rfl)) ?_);refine wpAny_newObj_type ?_ (by size_fits);simp only[raiseNew];refine wpAny_bind (wpAny_handled ?_);rw[show A.in1.handled=none from hh];refine wpAny_bind (wpAny_pure (wpAny_throw ?_));refine wpAny_isInstance (T := "StopIteration") (b:=true) ⟨_,Heap.get?_push_size _ rfl,rfl⟩ isSubtype_stop ?_;exact⟨rfl,hQ _ fun b o e=>Heap.get?_push_of_some _ (Heap.get?_push_of_some _ e)⟩
theorem qcB{it:Addr}{f:Value}{i d n ep:Nat}{es:Array (Int × Value)}{t:SetTable}{R:PySem.Fin→Shared→Prop}{Ex:Value→Shared→Prop}(hit:SIt s.heap it f i d n ep)(hs:SAt s.heap d es ep t)(hn:es.size=n)(h:wpAny (model prog w) A (match f with
   | .int slot _ => do
     match ← setNext d slot.toNat i ep with
     | some (x, next) => do
       setField (.ref it) 0 (rawInt next)
       setField (.ref it) 1 (rawInt ((i:Int)+1))
       ret x
     | none=>do setField (.ref it) 2 .none; (newExc (.type "StopIteration") [] >>= raiseNew)
   | first => do
     let some places ← seqItems? first | unsupported "internal:set_iterator"
     match places[i]? with
     | some (.int place _) => do
       let x ← setNextDrawn d place.toNat ep
       setField (.ref it) 1 (rawInt ((i:Int)+1))
       ret x
     | some _=>unsupported "internal:set_iterator"
     | none=>do setField (.ref it) 0 (rawInt 0); setField (.ref it) 2 .none; (newExc (.type "StopIteration") [] >>= raiseNew)) R Ex s) :
  wpAny (model prog w) A (Builtin.«set_iterator.__next__» ⟨[.ref it],[]⟩) R Ex s:=by
 obtain ⟨o,ho,hd,hf⟩:=hs
 unfold Builtin.«set_iterator.__next__»
 refine wpAny_bind (wpAny_pure ?_)
 refine wpAny_bind (wpAny_fieldsOf hit rfl ?_)
 dsimp only
 refine wpAny_bind (wpAny_setEntries_of ho hd hf ?_)
 rw [hn,if_neg (by simp)]
 cases f with
 | int slot tk=>exact h
 | _=>exact h
end
end L2
namespace L2
open PySem
theorem SIt.turn{h:Heap}{it:Addr}{f:Value}{i d n ep:Nat}(x:SIt h it f i d n ep):SIt (h.update it (Obj.mapFields (·.setIfInBounds 1 (rawInt ((i:Int)+1))))) it f (i+1) d n ep:=by
 unfold SIt;rw[Heap.get?_update_self _ x rfl];rfl
theorem SIt.slot{h:Heap}{it:Addr}{f:Value}{i d n ep:Nat}(x:SIt h it f i d n ep)(k:Nat):SIt (h.update it (Obj.mapFields (·.setIfInBounds 0 (rawInt k)))) it (.int k 0) i d n ep:=by
 unfold SIt;rw[Heap.get?_update_self _ x rfl];rfl
theorem SIt.at{h h':Heap}{it:Addr}{f:Value}{i d n ep:Nat}(x:SIt h it f i d n ep)(k:∀o,h.get? it=some o→h'.get? it=some o):SIt h' it f i d n ep:=k _ x
theorem SAt.at{h h':Heap}{d:Addr}{es:Array (Int×Value)}{ep:Nat}{t:SetTable}(x:SAt h d es ep t)(k:∀o,h.get? d=some o→h'.get? d=some o):SAt h' d es ep t:=by
 obtain⟨o,e,r⟩:=x;exact⟨o,k _ e,r⟩
theorem qaV{h:Heap}{it b:Addr}{f:Obj→Obj}{o:Obj}(hb:b≠it)(e:h.get? b=some o):(h.update it f).get? b=some o:=(Heap.get?_update_other _ _ (Ne.symm hb)).trans e
def TAt(h:Heap)(T:Addr)(pl:List Nat):Prop:=h.get? T=some {cls:=.type "tuple",data:=.seq (pl.map fun p:Nat=>rawInt p).toArray}
def Eqg(a b:Array GenState):Prop:=b=a
section
variable{prog:Program}{w:World}{A:Around}
theorem qdE{it:Addr}{f:Value}{i d n ep:Nat}{s:Shared}{Q:Value→Shared→Prop}{E:Value→Shared→Prop}(x:SIt s.heap it f i d n ep)(q:Q (.ref it) s):wpAny (model prog w) A (pyIter (.ref it)) Q E s:=by
 have hT:s.TypeIs (.ref it) "set_iterator":=⟨_,x,rfl⟩;refine wpAny_pyIter_slot hT sit_iter (wpAny_call_entry sit_iter hT ent_sit_iter ?_ (arg_sit_iter _));show wpAny _ _ (ret (.ref it)) _ _ s;exact wpAny_pure ⟨_,rfl, "set_iterator",_,hT,sit_next.lookup,q⟩
theorem qcx{it:Addr}{s:Shared}{h':Heap}(k:∀b o,b≠it→s.heap.get? b=some o→h'.get? b=some o):Moved [it] Eqg s {s with heap:=h'} :=
 ⟨fun b o hb e=>k b o (by simpa using hb) e,rfl,rfl,rfl,Nat.le_refl _⟩
theorem walk_drawn(hh:A.handled=none){it d T:Addr}(n1:d≠it)(n2:T≠it){es:Array (Int×Value)}{ep:Nat}{t:SetTable}{pl:List Nat}{ord:List (Int×Value)}(hl:ord.length=es.size)(hp:∀i,i<es.size→∃p e,pl[i]?=some p∧es[p]?=some e∧ord[i]?=some e)(hpl:pl.length=es.size) :
  WalksS prog w A it [it,d,T] [it] Eqg es.size (fun i v=>∃e,ord[i]?=some e∧e.2=v) (fun i s=>SIt s.heap it (.ref T) i d es.size ep∧SAt s.heap d es ep t∧TAt s.heap T pl) where
 sub:=fun b hb=>by simp at hb;simp[hb]
 grefl:=fun _=>rfl
 gtrans:=fun _ _ _ h1 h2=>h2.trans h1
 frame:=fun i s h' tk st _ k=>⟨st.1.at fun o e=>k it (by simp) o e,st.2.1.at fun o e=>k d (by simp) o e,k T (by simp) _ st.2.2⟩
 item:=fun i s Q E hi st q=>by
  obtain⟨x1,x2,x3⟩:=st;obtain⟨p,e,e1,e2,e3⟩:=hp i hi;refine qd6 x1 (qcB x1 x2 rfl ?_);refine wpAny_bind (wpAny_seqItems x3 rfl ?_);dsimp only;have ep1:((pl.map fun p:Nat=>rawInt p).toArray)[i]?=some (.int p 0):=by simp[e1,rawInt]
  rw[ep1];dsimp only;obtain⟨o,ho,hd,hf⟩:=id x2;refine wpAny_bind ?_;unfold setNextDrawn;refine wpAny_bind (wpAny_setState_of ho hd hf ?_);dsimp only;rw[if_neg (by simp),Int.toNat_natCast,e2];refine wpAny_pure ?_;refine wpAny_bind (wpAny_setField x1 rfl (by simp) ?_);refine wpAny_pure ⟨_,rfl,q _ _ ⟨e,e3,rfl⟩ ⟨x1.turn,x2.at fun o z=>qaV n1 z,qaV n2 x3⟩ (qcx fun b o hb z=>qaV hb z)⟩
 done:=fun s Q E st q=>by
  obtain⟨x1,x2,x3⟩:=st;refine qd6 x1 (qcB x1 x2 rfl ?_);refine wpAny_bind (wpAny_seqItems x3 rfl ?_);dsimp only;have ep1:((pl.map fun p:Nat=>rawInt p).toArray)[es.size]?=none:=by simp[hpl]
  rw[ep1];dsimp only;refine wpAny_bind (wpAny_setField x1 rfl (by simp) ?_);refine wpAny_bind (wpAny_setField (x1.slot 0) rfl (by simp) ?_);refine qep hh _ fun h' k=>q _ (qcx fun b o hb z=>k b o (qaV hb (qaV hb z)))
 self:=fun i s Q E st q=>qdE st.1 q
theorem walk_text(hh:A.handled=none)(hT:w.params.followText "set-order" = true){it d:Addr}(n1:d≠it){es:Array (Int×Value)}{ep:Nat}{t:SetTable} :
  WalksS prog w A it [it,d] [it] Eqg es.size (fun i v=>∃e,(pickOrder (w.params.setOrder d ep) es).toList[i]?=some e∧e.2=v) (fun i s=>(∃k:Nat,SIt s.heap it (.int k 0) i d es.size ep)∧SAt s.heap d es ep t) where
 sub:=fun b hb=>by simp at hb;simp[hb]
 grefl:=fun _=>rfl
 gtrans:=fun _ _ _ h1 h2=>h2.trans h1
 frame:=fun i s h' tk st _ k=>⟨st.1.imp fun _ z=>z.at fun o e=>k it (by simp) o e,st.2.at fun o e=>k d (by simp) o e⟩
 item:=fun i s Q E hi st q=>by
  obtain⟨⟨k,x1⟩,x2⟩:=st;have sz:(pickOrder (w.params.setOrder d ep) es).size=es.size:=by simpa using(qdt (w.params.setOrder d ep) es).length_eq
  have hi':i<(pickOrder (w.params.setOrder d ep) es).size:=by rw[sz];exact hi
  refine qd6 x1 (qcB x1 x2 rfl ?_);dsimp only;obtain⟨o,ho,hd,hf⟩:=id x2;refine wpAny_bind ?_;unfold setNext setsByText;refine wpAny_bind (wpAny_setState_of ho hd hf ?_);refine wpAny_bind (wpAny_bind (wpAny_askSetting (wpAny_pure ?_)));show wpAny _ _ (if(w.params.followText "set-order")=true then _ else _) _ _ _;rw[if_pos hT,if_neg (by simp)];refine wpAny_bind ?_;unfold setWalk setsByText;refine wpAny_bind (wpAny_setState_of ho hd hf ?_);refine wpAny_bind (wpAny_bind (wpAny_askSetting (wpAny_pure ?_)));show wpAny _ _ (if(w.params.followText "set-order")=true then _ else _) _ _ _;rw[if_pos hT];refine wpAny_bind (wpAny_askSetting (wpAny_pure ?_));refine wpAny_pure ?_;have eg:(pickOrder ((model prog w).w.params.setOrder d ep) es)[i]?=some ((pickOrder (w.params.setOrder d ep) es)[i]):=Array.getElem?_eq_getElem hi';rw[eg];dsimp only[Option.map_some];refine wpAny_bind (wpAny_setField x1 rfl (by simp) ?_);refine wpAny_bind (wpAny_setField (x1.slot _) rfl (by simp) ?_);refine wpAny_pure ⟨_,rfl,q _ _ ⟨_,by rw[Array.getElem?_toList,Array.getElem?_eq_getElem hi'],rfl⟩ ⟨⟨_,(x1.slot _).turn⟩,x2.at fun o z=>qaV n1 (qaV n1 z)⟩ (qcx fun b o hb z=>qaV hb (qaV hb z))⟩
 done:=fun s Q E st q=>by
  obtain⟨⟨k,x1⟩,x2⟩:=st;have sz:(pickOrder (w.params.setOrder d ep) es).size=es.size:=by simpa using(qdt (w.params.setOrder d ep) es).length_eq
  refine qd6 x1 (qcB x1 x2 rfl ?_);dsimp only;obtain⟨o,ho,hd,hf⟩:=id x2;refine wpAny_bind ?_;unfold setNext setsByText;refine wpAny_bind (wpAny_setState_of ho hd hf ?_);refine wpAny_bind (wpAny_bind (wpAny_askSetting (wpAny_pure ?_)));show wpAny _ _ (if(w.params.followText "set-order")=true then _ else _) _ _ _;rw[if_pos hT,if_neg (by simp)];refine wpAny_bind ?_;unfold setWalk setsByText;refine wpAny_bind (wpAny_setState_of ho hd hf ?_);refine wpAny_bind (wpAny_bind (wpAny_askSetting (wpAny_pure ?_)));show wpAny _ _ (if(w.params.followText "set-order")=true then _ else _) _ _ _;rw[if_pos hT];refine wpAny_bind (wpAny_askSetting (wpAny_pure ?_));refine wpAny_pure ?_;have eg:(pickOrder ((model prog w).w.params.setOrder d ep) es)[es.size]?=none:=Array.getElem?_eq_none (by show(pickOrder (w.params.setOrder d ep) es).size≤es.size;omega);rw[eg];dsimp only[Option.map_none];refine wpAny_bind (wpAny_setField x1 rfl (by simp) ?_);refine qep hh _ fun h' k=>q _ (qcx fun b o hb z=>k b o (qaV hb z))
 self:=fun i s Q E st q=>by
  obtain⟨k,x1⟩:=st.1;exact qdE x1 q
end
end L2
namespace L2
open PySem
theorem qeR{xs:Array Nat}{j:Nat}(h:xs.size=1):SetTable.below xs j=if xs.getD 0 j<j then 1 else 0:=by
 unfold SetTable.below;rw[h];show(if 0<1 then if xs.getD ((0+1) / 2) j<j then SetTable.below.go xs j 0 ((0+1) / 2+1) 1 else SetTable.below.go xs j 0 0 ((0+1) / 2)else 0)=_;rw[if_pos (by decide)];rfl
section
variable{prog:Program}{w:World}{A:Around}{E:Value→Shared→Prop}{s:Shared}
theorem qd0(hT:w.params.followText "set-order" = false){d:Addr}{es:Array (Int×Value)}{ep k i:Nat}{t:SetTable}(x:SAt s.heap d es ep t)(h1:es.size≤1)(hL:t.led=true){Q:Option (Value×Nat)→Shared→Prop}(q:Q (match es[SetTable.below t.place k]?,t.place[SetTable.below t.place k]? with | some (_,x),some j=>some (x,j+1) | _,_=>none) s):wpAny (model prog w) A (setNext d k i ep) Q E s:=by
 obtain⟨o,ho,hd,hf⟩:=x;unfold setNext setsByText;refine wpAny_bind (wpAny_setState_of ho hd hf ?_);refine wpAny_bind (wpAny_bind (wpAny_askSetting (wpAny_pure ?_)));show wpAny _ _ (if(w.params.followText "set-order")=true then _ else _) _ _ _;rw[hT,if_neg Bool.false_ne_true];have e1:(!t.plain && decide (es.size>1))=false:=by rw[decide_eq_false (by omega),Bool.and_false]
 show wpAny _ _ (if(!t.plain && decide (es.size>1))=true then _ else _) _ _ _;rw[e1,if_neg Bool.false_ne_true];refine wpAny_bind ?_;show wpAny _ _ (if(!t.led && !es.isEmpty)=true then _ else _) _ _ _;rw[hL,if_neg (by simp)];exact wpAny_pure (wpAny_pure q)
theorem walk_small(hh:A.handled=none)(hT:w.params.followText "set-order" = false){it d:Addr}(n1:d≠it){es:Array (Int×Value)}{ep:Nat}{t:SetTable}(h1:es.size≤1)(hL:t.led=true) :
  WalksS prog w A it [it,d] [it] Eqg es.size (fun i v=>∃e,es.toList[i]?=some e∧e.2=v)
   (fun i s=>((i=0∧SIt s.heap it (.int ((0:Nat):Int) 0) 0 d es.size ep)∨(i=1∧∃j:Nat,t.place[0]?=some j∧SIt s.heap it (.int ((j+1:Nat):Int) 0) 1 d es.size ep))∧SAt s.heap d es ep t) where
 sub:=fun b hb=>by simp at hb;simp[hb]
 grefl:=fun _=>rfl
 gtrans:=fun _ _ _ h1 h2=>h2.trans h1
 frame:=fun i s h' tk st _ k=>by
  refine⟨?_,st.2.at fun o e=>k d (by simp) o e⟩;rcases st.1 with⟨z,x⟩ | ⟨z,j,zj,x⟩
  ·exact .inl ⟨z,x.at fun o e=>k it (by simp) o e⟩
  ·exact .inr ⟨z,j,zj,x.at fun o e=>k it (by simp) o e⟩
 item:=fun i s Q E hi st q=>by
  obtain⟨st,x2⟩:=st;have sz:es.size=1:=by omega
  rcases st with⟨rfl,x1⟩ | ⟨rfl,_⟩
  case inr=>omega
  obtain⟨o,ho,hd,hf⟩:=id x2;have ps:t.place.size=1:=by
   have:=hf;simp only[SetTable.fits,Bool.and_eq_true,beq_iff_eq]at this;omega
  have b0:SetTable.below t.place 0=0:=by rw[qeR ps,if_neg (Nat.not_lt_zero _)]
  obtain⟨e,ee⟩:∃e,es[0]?=some e:=⟨es[0],by simp[sz]⟩;obtain⟨j,ej⟩:∃j,t.place[0]?=some j:=⟨t.place[0],by simp[ps]⟩;refine qd6 x1 (qcB x1 x2 rfl ?_);dsimp only;refine wpAny_bind (qd0 hT x2 h1 hL ?_);rw[Int.toNat_natCast,b0,ee,ej];dsimp only;refine wpAny_bind (wpAny_setField x1 rfl (by simp) ?_);refine wpAny_bind (wpAny_setField (x1.slot _) rfl (by simp) ?_);refine wpAny_pure ⟨_,rfl,q _ _ ⟨e,by rw[Array.getElem?_toList,ee],rfl⟩ ⟨.inr ⟨rfl,j,ej,(x1.slot _).turn⟩,x2.at fun o z=>qaV n1 (qaV n1 z)⟩ (qcx fun b o hb z=>qaV hb (qaV hb z))⟩
 done:=fun s Q E st q=>by
  obtain⟨st,x2⟩:=st;obtain⟨o,ho,hd,hf⟩:=id x2;have ps:t.place.size=es.size:=by
   have:=hf;simp only[SetTable.fits,Bool.and_eq_true,beq_iff_eq]at this;omega
  have fin:∀(k:Nat),SIt s.heap it (.int (k:Int) 0) es.size d es.size ep→es[SetTable.below t.place k]?=none→wpAny (model prog w) A (pyNext (.ref it)) Q E s:=fun k x1 en=>by
   refine qd6 x1 (qcB x1 x2 rfl ?_);dsimp only;refine wpAny_bind (qd0 hT x2 h1 hL ?_);rw[Int.toNat_natCast,en];dsimp only;refine wpAny_bind (wpAny_setField x1 rfl (by simp) ?_);refine qep hh _ fun h' k=>q _ (qcx fun b o hb z=>k b o (qaV hb z))
  rcases st with⟨z,x1⟩ | ⟨z,j,ej,x1⟩
  ·have x1':SIt s.heap it (.int ((0:Nat):Int) 0) es.size d es.size ep:=by rw[z]at x1⊢;exact x1
   refine fin 0 x1' ?_;rw[Array.getElem?_eq_none (by omega)]
  ·have x1':SIt s.heap it (.int ((j+1:Nat):Int) 0) es.size d es.size ep:=by rw[z]at x1⊢;exact x1
   refine fin (j+1) x1' ?_;have lt:t.place.getD 0 (j+1)<j+1:=by
    rw[Array.getD_eq_getD_getElem?,ej];exact Nat.lt_succ_self _
   rw[qeR (by omega),if_pos lt,Array.getElem?_eq_none (by omega)]
 self:=fun i s Q E st q=>by
  rcases st.1 with⟨_,x⟩ | ⟨_,_,_,x⟩<;>exact qdE x q
theorem iter_set{d:Addr}{es:Array (Int×Value)}{ep:Nat}{t:SetTable}{o:Obj}(hh:A.handled=none)(ho:s.heap.get? d=some o)(hex:o.ExactSet)(hd:o.data=.set es ep t)(hf:t.fits es.size=true)(hb:es.size≤sizeLine)(hp:t.plain=false∨es.size=0)(hL:t.led=!(w.params.followText "set-order")){Q:Value→Shared→Prop}(q:∀(it:Addr) (fp:List Addr) (h':Heap) (d':Drawn) (ord:List (Int×Value)) (St:Nat→Shared→Prop),s.heap.objs.size≤it→it<h'.objs.size→(∀b o,s.heap.get? b=some o→h'.get? b=some o)→(∀b∈fp,b=d∨(s.heap.objs.size≤b∧b<h'.objs.size))→ord.Perm es.toList →
   (∀A':Around,A'.handled=none→WalksS prog w A' it fp [it] Eqg es.size (fun i v=>∃e,ord[i]?=some e∧e.2=v) St)→St 0 {s with heap:=h',drawn:=d'}→Q (.ref it) {s with heap:=h',drawn:=d'}) :
  wpAny (model prog w) A (pyIter (.ref d)) Q E s:=by
 have hT:s.TypeIs (.ref d) "set":=⟨o,ho,hex.1⟩;have dlt:=Heap.lt_size ho;have xd:SAt s.heap d es ep t:=⟨o,ho,hd,hf⟩;refine wpAny_pyIter_slot hT F.slot_set_iter (wpAny_call_entry F.slot_set_iter hT ent_set_iter ?_ (F.args_set_iter_1 _));unfold Builtin.«frozenset.__iter__»;refine wpAny_bind (wpAny_pure ?_);unfold Builtin.Frozenset.sizeOf setDrawn setsByText setEpoch;refine wpAny_bind (wpAny_bind (wpAny_setEntries_of ho hd hf (wpAny_pure ?_)));refine wpAny_bind (wpAny_bind (wpAny_setState_of ho hd hf (wpAny_bind (wpAny_bind (wpAny_askSetting (wpAny_pure (wpAny_pure ?_)))))));show wpAny _ _ (if(!(w.params.followText "set-order") && (!t.plain && decide (es.size>1)))=true then _ else _) _ _ _;have push_lt:∀{h:Heap} {o1:Obj},h.objs.size<(h.push o1).objs.size:=fun {h o1}=>by rw[Heap.size_push];exact Nat.lt_succ_self _
 by_cases dr:(!(w.params.followText "set-order") && (!t.plain && decide (es.size>1)))=true
 ·rw[if_pos dr];refine wpAny_bind (qeN _ _ _ _ (by simp) fun pl d' pm=>?_);have pll:pl.length=es.size:=by simpa using pm.length_eq
  refine wpAny_bind (wpAny_newObj_type ?_ ?zz)
  case zz=>show(List.map _ pl).toArray.size≤sizeLine;rw[List.size_toArray,List.length_map];omega
  refine wpAny_bind (wpAny_bind (wpAny_setState_of (s:={s with heap:=_,drawn:=d'}) (Heap.get?_push_of_some _ ho) hd hf (wpAny_pure ?_)));refine wpAny_bind (wpAny_newObj_type (wpAny_pure ⟨_,rfl, "set_iterator",_,⟨_,Heap.get?_push_size _ rfl,rfl⟩,sit_next.lookup,?_⟩));have inb:∀p∈pl,p<es.size:=fun p hp=>by simpa using pm.mem_iff.mp hp
  have e0:(pl.map fun p=>es.toList.getD p (0,.none)).Perm es.toList:=by
   refine(pm.map _).trans (List.Perm.of_eq ?_);apply List.ext_getElem?;intro i;rw[List.getElem?_map]
   by_cases hi:i<es.size
   ·rw[List.getElem?_range hi];simp[hi]
   ·rw[List.getElem?_eq_none (by simpa using hi),List.getElem?_eq_none (by simpa using hi)];rfl
  rw[Heap.size_push];refine q (s.heap.objs.size+1) [s.heap.objs.size+1,d,s.heap.objs.size] _ d' (pl.map fun p=>es.toList.getD p (0,.none)) (fun i s1=>SIt s1.heap (s.heap.objs.size+1) (.ref s.heap.objs.size) i d es.size ep∧SAt s1.heap d es ep t∧TAt s1.heap s.heap.objs.size pl) (Nat.le_succ _) ?_ (fun b o e=>Heap.get?_push_of_some _ (Heap.get?_push_of_some _ e)) (fun b hb=>?_) e0 (fun A' hA=>?_) ⟨?_,(xd.at fun o e=>Heap.get?_push_of_some _ (Heap.get?_push_of_some _ e)),Heap.get?_push_of_some _ (Heap.get?_push_size _ rfl)⟩
  ·rw[Heap.size_push,Heap.size_push];exact Nat.lt_succ_self _
  ·rcases List.mem_cons.mp hb with rfl | hb
   ·exact .inr ⟨Nat.le_succ _,by rw[Heap.size_push,Heap.size_push];exact Nat.lt_succ_self _⟩
   ·rcases List.mem_cons.mp hb with rfl | hb
    ·exact .inl rfl
    ·have:b=s.heap.objs.size:=by simpa using hb
     subst this;exact .inr ⟨Nat.le_refl _,by rw[Heap.size_push,Heap.size_push];exact Nat.lt_succ_of_lt (Nat.lt_succ_self _)⟩
  ·refine walk_drawn hA (Nat.ne_of_lt (Nat.lt_succ_of_lt dlt)) (Nat.ne_of_lt (Nat.lt_succ_self _)) (by rw[List.length_map,pll]) (fun i hi=>?_) pll;have hi':i<pl.length:=by omega
   have hp:=inb pl[i] (List.getElem_mem hi');exact⟨pl[i],es[pl[i]],by simp[hi'],by simp[hp],by simp[hi',hp]⟩
  ·have ez:s.heap.objs.size+1=(s.heap.push {cls:=.type "tuple",data:=.seq (pl.map fun i:Nat=>rawInt i).toArray}).objs.size:=by rw[Heap.size_push]
   unfold SIt;rw[ez];exact Heap.get?_push_size _ rfl
 ·rw[if_neg dr];refine wpAny_bind (wpAny_pure ?_);refine wpAny_bind (wpAny_bind (wpAny_setState_of ho hd hf (wpAny_pure ?_)));refine wpAny_bind (wpAny_newObj_type (wpAny_pure ⟨_,rfl, "set_iterator",_,⟨_,Heap.get?_push_size _ rfl,rfl⟩,sit_next.lookup,?_⟩));have hfp:∀{h':Heap},h'.objs.size=s.heap.objs.size+1→∀b∈[s.heap.objs.size,d],b=d∨(s.heap.objs.size≤b∧b<h'.objs.size):=fun {h'} hz b hb=>by
   rcases List.mem_cons.mp hb with rfl | hb
   ·exact .inr ⟨Nat.le_refl _,by rw[hz];exact Nat.lt_succ_self _⟩
   ·exact .inl (by simpa using hb)
  cases hTx:w.params.followText "set-order" with
  | true =>
    refine q _ [s.heap.objs.size,d] _ s.drawn (pickOrder (w.params.setOrder d ep) es).toList (fun i s1=>(∃k:Nat,SIt s1.heap s.heap.objs.size (.int k 0) i d es.size ep)∧SAt s1.heap d es ep t) (Nat.le_refl _) push_lt (fun b o e=>Heap.get?_push_of_some _ e) (hfp (by rw[Heap.size_push])) (qdt _ _) (fun A' hA=>walk_text hA hTx (Nat.ne_of_lt dlt)) ⟨⟨0,Heap.get?_push_size _ rfl⟩,xd.at fun o e=>Heap.get?_push_of_some _ e⟩
  | false =>
    have h1:es.size≤1:=by
      rw[hTx]at dr
      rcases hp with hp | hp
      · rw[hp]at dr
        simp at dr
        omega
      · omega
    refine q _ [s.heap.objs.size,d] _ s.drawn es.toList _ (Nat.le_refl _) push_lt (fun b o e=>Heap.get?_push_of_some _ e) (hfp (by rw[Heap.size_push])) (List.Perm.refl _) (fun A' hA=>walk_small hA hTx (t:=t) (ep:=ep) (Nat.ne_of_lt dlt) h1 (by rw[hL,hTx];rfl)) ⟨.inl ⟨rfl,Heap.get?_push_size _ rfl⟩,xd.at fun o e=>Heap.get?_push_of_some _ e⟩
end
end L2
namespace L2
open PySem PyProof.Rows
section
variable{prog:Program}{w:World}{A:Around}{E:Value→Shared→Prop}{s:Shared}
theorem hint_set{r:Addr}{Q:Bool→Shared→Prop}(hT:s.TypeIs (.ref r) "set")(h:Q false s):wpAny (model prog w) A (Builtin.List.listLengthHint (.ref r)) Q E s:=by
 unfold Builtin.List.listLengthHint;refine wpAny_bind (wpAny_specialOf hT PySem.F.slot_set_len.lookup ?_);generalize eid:("set.__len__" : String)=nm
 wp_delta
 rw[show splitId nm=some ("set", "__len__")from by subst eid;decide +kernel];subst eid;refine wpAny_bind (wpAny_isInstance (T := "set") (b:=true) hT (by rw[isSubtype_type];kernel_rfl) ?_);refine wpAny_ite_split (fun z=>absurd z (by decide)) (fun _=>?_);refine wpAny_ite_split (fun _=>?_) (fun z=>absurd (by decide +kernel) z);exact wpAny_bind (wpAny_typeOf hT (wpAny_pure h))
theorem set_collect{d:Addr}{es:Array (Int×Value)}{ep:Nat}{t:SetTable}{o:Obj}(hh:A.handled=none)(ho:s.heap.get? d=some o)(hex:o.ExactSet)(hd:o.data=.set es ep t)(hf:t.fits es.size=true)(hb:es.size≤sizeLine)(hp:t.plain=false∨es.size=0)(hL:t.led=!(w.params.followText "set-order")){R:List Value→Shared→Prop}(fin:∀(h':Heap) (tk:Nat) (d':Drawn) (ord:List (Int×Value)),(∀b o,s.heap.get? b=some o→h'.get? b=some o)→ord.Perm es.toList→R (ord.map (·.2)) {s with heap:=h',toks:=tk,drawn:=d'}) :
  wpAny (model prog w) A (collect (.ref d)) R E s:=by
 have dlt:=Heap.lt_size ho;unfold collect;refine wpAny_bind (wpAny_runValue (codeAny_builtin entry_proto_collect' ?_));rw[Around.under_plainId PySem.F.plain_proto_collect _];show wpAny _ A.in1 (newList []>>=fun l=>again (.builtin "list.__iadd__" ⟨[l,.ref d],[]⟩)) _ _ s;refine wpAny_bind (wpAny_newObj_type ?_);refine wpAny_pure ⟨plainId_quiet PySem.F.plain_list_iadd _,codeAny_builtin entry_list_iadd' ?_⟩;rw[Around.under_plainId PySem.F.plain_list_iadd _];show wpAny _ A.in1 (Builtin.List.listExtendWith (.ref s.heap.objs.size) (.ref d) (.ref s.heap.objs.size)) _ _ {s with heap:=s.heap.push {cls:=.type "list",data:=.seq ([]:List Value).toArray}};have g0:(s.heap.push {cls:=.type "list",data:=.seq ([]:List Value).toArray}).get? s.heap.objs.size=some {cls:=.type "list",data:=.seq #[]}:=Heap.get?_push_size _ rfl;have hd1:(s.heap.push {cls:=.type "list",data:=.seq ([]:List Value).toArray}).get? d=some o:=Heap.get?_push_of_some _ ho;have nSd:s.heap.objs.size≠d:=Nat.ne_of_gt dlt;unfold Builtin.List.listExtendWith;have hT:Shared.TypeIs {s with heap:=s.heap.push {cls:=.type "list",data:=.seq ([]:List Value).toArray}} (.ref d) "set":=⟨o,hd1,hex.1⟩;refine wpAny_bind (wpAny_typeOf hT ?_);have e1:Builtin.List.listSameRef (.ref s.heap.objs.size) (.ref d)=false:=by simp[Builtin.List.listSameRef,nSd]
 have e2:(Value.type "set" == Value.type "list")=false:=by decide
 have e3:(Value.type "set" == Value.type "tuple")=false:=by decide
 simp only[e1,e2,e3,Bool.or_false,Bool.false_eq_true,if_false];refine wpAny_bind (iter_set (A:=A.in1) hh hd1 hex hd hf hb hp hL fun it fp h2 d2 ord St l1 l2 k2 hfp pm W st=>?_);have g2:=k2 _ _ g0;have nSf:s.heap.objs.size∉fp:=fun z=>by
  rcases hfp _ z with e | ⟨e,_⟩
  ·exact nSd e
  ·rw[Heap.size_push]at e;exact absurd e (Nat.not_succ_le_self _)
 have loop:∀(h3:Heap) (c:Nat),St 0 {s with heap:=h3,drawn:=d2}→(∀b o,s.heap.get? b=some o→h3.get? b=some o)→h3.get? s.heap.objs.size=some {cls:=.type "list",data:=.seq #[] c} →
   codeAny (model prog w) A (.builtin "list.extend.loop" ⟨[.ref s.heap.objs.size,.ref it,.ref s.heap.objs.size],[]⟩) (fun r s'=>∃acc h' tk,r=.ok (.ret (.ref s.heap.objs.size))∧s'={s with heap:=h',toks:=tk,drawn:=d2} ∧
    (∀b o,s.heap.get? b=some o→h'.get? b=some o)∧(∃c',h'.get? s.heap.objs.size=some {cls:=.type "list",dict:=none,data:=.seq acc c',slots:=#[]})∧acc.toList=ord.map (·.2)) {s with heap:=h3,drawn:=d2}:=by
  intro h3 c st3 k3 g3;refine codeAny_extend_loopS (W A.in1 hh) hb s.heap.objs.size nSf _ es.size 0 _ #[] c rfl (Nat.zero_le _) st3 g3 (ItemsOf.nil _) fun s' acc c' mv g4 items=>?_
  obtain⟨h',g',dd,tk',os'⟩:=s';obtain rfl:g'=s.gens:=mv.gens;obtain rfl:dd=d2:=mv.drawn;obtain rfl:os'=s.os:=mv.os;refine⟨acc,h',tk',rfl,rfl,fun b o e=>mv.heap b o (fun z=>?_) (k3 b o e),⟨c',g4⟩,?_⟩
  ·have lb:=Heap.lt_size e;rcases List.mem_cons.mp z with z | z
   ·exact absurd lb (by rw[z];exact Nat.lt_irrefl _)
   ·have z':b=it:=by simpa using z
    rw[Heap.size_push]at l1;exact absurd lb (by rw[z'];exact Nat.not_lt_of_le (Nat.le_of_succ_le l1))
  ·have lo:ord.length=es.size:=by simpa using pm.length_eq
   apply List.ext_getElem?;intro j;rw[List.getElem?_map]
   by_cases hj:j<acc.size
   ·obtain⟨e,z1,z2⟩:=items.2 j acc[j] (by simp[hj]);rw[z1,Array.getElem?_toList,Array.getElem?_eq_getElem hj,←z2];rfl
   ·have ha:acc.size=es.size:=items.1;rw[List.getElem?_eq_none (by simpa using Nat.le_of_not_lt hj),List.getElem?_eq_none (by omega)];rfl
 refine wpAny_bind (wpAny_holding (hint_set ⟨o,k2 _ _ hd1,hex.1⟩ ?_));refine wpAny_ite_split (fun _=>?_) (fun _=>?_)
 ·refine wpAny_bind (wpAny_rule (wpAny_bind ?_));show wpAny _ _ (updateSeq s.heap.objs.size (·.push .none)>>=fun _=>updateSeq s.heap.objs.size (·.pop)) _ _ _;refine wpAny_bind (wpAny_updateSeq g2 rfl ?_);have g3:=Heap.get?_update_self (Obj.mapSeq (·.push Value.none)) g2 rfl;refine wpAny_updateSeq (hz:=by seq_fits) g3 rfl ?_;have g4:=Heap.get?_update_self (Obj.mapSeq (·.pop)) g3 rfl;refine wpAny_pure ⟨plainId_quiet PySem.F.plain_extend_loop _,codeAny_mono (loop _ _ ?_ (fun b o e=>qaV ?_ (qaV ?_ (k2 _ _ (Heap.get?_push_of_some _ e)))) g4) fun r s' x=>?_⟩
  ·exact(W A.in1 hh).frame 0 _ _ _ st (Nat.le_refl _) fun b hb o e=>by
    have nb:b≠s.heap.objs.size:=fun z=>nSf (z ▸ hb)
    exact qaV nb (qaV nb e)
  ·exact Nat.ne_of_lt (Heap.lt_size e)
  ·exact Nat.ne_of_lt (Heap.lt_size e)
  ·obtain⟨acc,h',tk,rfl,rfl,k,⟨c',g⟩,ea⟩:=x;show wpAny _ A (load s.heap.objs.size>>=_) _ _ _;refine wpAny_bind (wpAny_load g ?_);show wpAny _ _ (pure acc.toList) _ _ _;rw[ea];exact wpAny_pure (fin h' tk d2 ord k pm)
 ·refine wpAny_pure ⟨plainId_quiet PySem.F.plain_extend_loop _,codeAny_mono (loop _ _ st (fun b o e=>k2 _ _ (Heap.get?_push_of_some _ e)) g2) fun r s' x=>?_⟩;obtain⟨acc,h',tk,rfl,rfl,k,⟨c',g⟩,ea⟩:=x;show wpAny _ A (load s.heap.objs.size>>=_) _ _ _;refine wpAny_bind (wpAny_load g ?_);show wpAny _ _ (pure acc.toList) _ _ _;rw[ea];exact wpAny_pure (fin h' tk d2 ord k pm)
theorem sorted_set{d:Addr}{es:Array (Int×Value)}{ep:Nat}{t:SetTable}{o:Obj}(hh:A.handled=none)(ho:s.heap.get? d=some o)(hex:o.ExactSet)(hd:o.data=.set es ep t)(hf:t.fits es.size=true)(hb:es.size<64)(hp:t.plain=false∨es.size=0)(hL:t.led=!(w.params.followText "set-order")){ks:List Str}(hS:StrsAre (es.toList.map (·.2)) ks){Q:Value→Shared→Prop}(fin:∀(D:Addr) (h':Heap) (tk:Nat) (d':Drawn) (out:List Value) (ss:List Str) (c:Nat),s.heap.get? D=none→(∀b o,s.heap.get? b=some o→h'.get? b=some o)→h'.get? D=some {cls:=.type "list",data:=.seq out.toArray c}→StrsAre out ss→ss.Perm ks→sortedS ss=true→Q (.ref D) {s with heap:=h',toks:=tk,drawn:=d'}) :
  wpAny (model prog w) A (call (.builtin "sorted") [.ref d]) Q E s:=by
 have hb':es.size≤sizeLine:=by rw[sizeLine_eq];omega
 refine Calls.call_function_entry kind_sorted plain_sorted entry_sorted (args_sorted1 _) ?_;unfold Builtin.«sorted»;refine wpAny_bind (m:=checkCount "sorted" 1 1 _) (wpAny_pure ?_);refine wpAny_bind (set_collect (A:=A.in1) hh ho hex hd hf hb' hp hL fun h1 tk d1 ord k1 pm=>?_);have ln:(ord.map (·.2)).length=es.size:=by rw[List.length_map];simpa using pm.length_eq
 refine wpAny_bind (wpAny_newList ?_ (by rw[ln];exact hb'));have gD:(h1.push {cls:=.type "list",data:=.seq (ord.map (·.2)).toArray}).get? h1.objs.size=some (seqObj "list" (ord.map (·.2)).toArray 0):=Heap.get?_push_size _ rfl;obtain⟨ks',sk,pk⟩:∃ks',StrsAre (ord.map (·.2)) ks'∧ks'.Perm ks:=by
  refine⟨(ord.map (·.2)).map strOf,strsAre_map _ fun v hv=>?_,?_⟩
  ·obtain⟨e,he,rfl⟩:=List.mem_map.mp hv;exact hS.all _ (List.mem_map.mpr ⟨e,pm.mem_iff.mp he,rfl⟩)
  ·rw[←hS.strs];exact(pm.map _).map _
 refine wpAny_bind (wpAny_holding (wpAny_call_entry slot_list_sort ⟨_,gD,rfl⟩ entry_list_sort (list_sort_treeK strKind_oneLt gD sk.keysOf (fun v1 v2 rest e=>keyKind_strs (by rw[←e];exact sk)) (by rw[ln];exact hb) fun st' a1 a2=>⟨_,rfl,?_⟩) (args_list_sort _)));obtain⟨ss,h3,h4,h5⟩:=sorted_out_str sk a1 a2;refine wpAny_pure ⟨_,rfl,?_⟩;obtain⟨c,gc⟩:∃c,(sortedHeap (h1.push {cls:=.type "list",data:=.seq (ord.map (·.2)).toArray}) h1.objs.size (ord.map (·.2)) ((arrOf st').map (·.2))).get? h1.objs.size=some (seqObj "list" ((arrOf st').map (·.2)) c):=by
  have:=sortedHeap_at (out:=(arrOf st').map (·.2)) gD;exact this
 have lS:s.heap.get? h1.objs.size=none:=by
  cases z:s.heap.get? h1.objs.size with
  | none=>rfl
  | some o=>exact absurd (Heap.lt_size (k1 _ _ z)) (Nat.lt_irrefl _)
 refine fin h1.objs.size _ tk d1 ((arrOf st').map (·.2)).toList ss c lS (fun b o e=>?_) ?_ h3 (h4.trans pk) h5
 ·have lb:=Heap.lt_size (k1 b o e);rw[sortedHeap_old (Nat.ne_of_lt lb) (by rw[Heap.size_push];exact Nat.lt_succ_of_lt lb)];exact Heap.get?_push_of_some _ (k1 b o e)
 ·rw[gc]
end
end L2
namespace L2
open PySem PySem.Spec PyProof.Rows
theorem Inv.dr{X:Cx}{pins:List (Addr×Obj)}{σ:St}{H:Hp}{s:Shared}(I:Inv X pins σ H s)(d':Drawn):Inv X pins σ H {s with drawn:=d'}:=⟨I.ok,I.os,I.bare,I.base,I.loc,I.cell,I.free,I.freeC,I.pin,I.hok,I.len⟩
theorem dec_mem{κ:Type}[DecidableEq κ]{k:κ}{l:List κ}:decide (k∈l)=true↔k∈l:=decide_eq_true_iff
def once(ks:List Str):List Str:=ks.foldl one1 []
theorem one1_nd{κ:Type}[DecidableEq κ]{l:List κ}{v:κ}(h:l.Nodup):(one1 l v).Nodup:=by
 unfold one1
 split
 ·exact h
 ·rename_i n;rw[List.nodup_append];refine⟨h,by simp,fun a ha b hb=>?_⟩;have:b=v:=by simpa using hb
  subst this;exact fun z=>n (z ▸ ha)
theorem qfF{κ:Type}[DecidableEq κ]:∀(ks l:List κ),l.Nodup→(ks.foldl one1 l).Nodup
 | [],l,h=>h
 | k::ks,l,h=>qfF ks (one1 l k) (one1_nd h)
theorem qeZ{κ:Type}[DecidableEq κ](x:κ):∀(ks l:List κ),x∈ks.foldl one1 l↔x∈l∨x∈ks
 | [],l=>by simp
 | k :: ks, l => by
   rw[List.foldl_cons,qeZ x ks]
   have:x∈one1 l k↔x∈l∨x=k:=by
     have:=qf9 l k x
     rw[Bool.eq_iff_iff]at this
     simpa using this
   rw[this,List.mem_cons,or_assoc]
theorem qfa(ks:List Str):(once ks).Nodup:=qfF ks [] List.nodup_nil
theorem once_mem(ks:List Str)(x:Str):x∈once ks↔x∈ks:=by unfold once;rw[qeZ];simp
theorem qeT{κ ρ:Type}[DecidableEq κ][DecidableEq ρ](f:κ→ρ)(inj:∀a b,f a=f b→a=b):∀(ks l:List κ),(ks.map f).foldl one1 (l.map f)=(ks.foldl one1 l).map f
 | [],l=>rfl
 | k :: ks, l => by
   rw[List.map_cons,List.foldl_cons,List.foldl_cons,←qeT f inj ks (one1 l k)]
   congr 1
   unfold one1
   by_cases z:k∈l
   · rw[if_pos z,if_pos (List.mem_map_of_mem z)]
   · rw[if_neg z,if_neg (fun q=>by
       obtain⟨a,ha,e⟩:=List.mem_map.mp q
       exact z (inj _ _ e ▸ ha))]
     simp
theorem qds{κ:Type}[DecidableEq κ]:∀(m l:List κ),m.Nodup→(∀x∈m,x∈l)→l.length=m.length→l.Perm m
 | [], l, _, _, h => by
   have:l=[]:=List.length_eq_zero_iff.mp h
   rw[this]
 | x :: m, l, nd, sub, h => by
   have hx:=sub x List.mem_cons_self
   obtain⟨nx,nm⟩:=List.nodup_cons.mp nd
   have p:=List.perm_cons_erase hx
   refine p.trans (List.Perm.cons _ (qds m (l.erase x) nm (fun y hy=>?_) ?_))
   · exact(List.mem_erase_of_ne (fun z:y=x=>nx (z ▸ hy))).mpr (sub y (List.mem_cons_of_mem _ hy))
   · rw[List.length_erase_of_mem hx,h]
     rfl
def setS(w:World)(d:Addr)(ks:List Str):HO:=.ext fun h=>∃o es ep t,h.get? d=some o∧o.ExactSet∧o.data=.set es ep t∧t.fits es.size=true∧(t.plain=false∨es.size=0)∧t.led=!(w.params.followText "set-order") ∧
 es.size<scanBound∧∃us,StrsAre (es.toList.map (·.2)) us∧us.Perm ks
section
variable{X:Cx}
theorem call_setS(hc:X.calm=true):qcV X (.type "set") (fun xs H Q=>∃(p:Addr) (ks:List Str),xs=[.ref p]∧SqL X.K H p (ks.map V.str)∧ks.length+1<scanBound∧∀d,H d=none→Q (.ref d) (upd H d (setS X.w d (once ks)))):=by
 intro pins s σ H xs us Q I r h;obtain⟨p,ks,rfl,hp,hb,q⟩:=h;obtain⟨u,rfl,rx⟩:=qdO r;cases rx;obtain⟨its,rv,pl,hz⟩:=I.list hp;have hlen:its.toArray.size=ks.length:=by rw[List.size_toArray,←rv.length,List.length_map]
 refine set_fromS (knd:=qa2 X.prog X.w) (val:=fun i=>Sum.inr (ks.getD i Str.empty)) (I.ok.hd hc) pl.isList (fun i v e=>?_) (by rw[hlen];exact hb) fun h' tk x np kp=>?_
 ·have e':its[i]?=some v:=by simpa using e
  have hi:i<ks.length:=by rw[←hlen,List.size_toArray];exact(List.getElem?_eq_some_iff.mp e').1
  obtain⟨u,e2,r2⟩:=rv.get (i:=i) (x:=.str ks[i]) (by rw[List.getElem?_map,List.getElem?_eq_getElem hi];rfl);rw[e']at e2;cases e2;obtain⟨t,rfl⟩:=r2;have eg:ks.getD i Str.empty=ks[i]:=by simp[hi]
  exact⟨_,t,rfl,by rw[eg];exact qaO _ _ _ _⟩
 ·have em:met (fun i=>(Sum.inr (ks.getD i Str.empty):Key)) its.toArray.size=(once ks).map (Sum.inr:Str→Key):=by
   unfold met once;rw[hlen,←qeT (Sum.inr:Str→Key) (fun a b e=>Sum.inr.inj e) ks []]
   congr 1
   apply List.ext_getElem?;intro i;rw[List.getElem?_map,List.getElem?_map]
   by_cases h:i<ks.length
   ·rw[List.getElem?_range h,List.getElem?_eq_getElem h];simp[h]
   ·rw[List.getElem?_eq_none (by simpa using Nat.le_of_not_lt h),List.getElem?_eq_none (Nat.le_of_not_lt h)];rfl
  rw[em]at x;have keep:∀b o,s.heap.get? b=some o→h'.get? b=some o:=fun b o e=>kp b o (Heap.lt_size e) e
  have hn:H s.heap.objs.size=none:=I.hok.fresh (Nat.le_refl _);refine⟨.ref s.heap.objs.size,_,I.laid (o:=setS X.w s.heap.objs.size (once ks)) keep (Nat.le_refl _) ?_,rfl,q _ hn⟩;obtain⟨o,es,ep,t,ho,hex,hd,hel,hmem,hsb,hf,hsz⟩:=x;obtain⟨o',es',ep',t',e1,e2,e3,e4⟩:=np;rw[ho]at e1;cases e1;rw[hd]at e2;cases e2;have all:∀e∈es.toList,∃y tk,e.2=.str y tk∧y∈once ks:=fun e he=>by
   obtain⟨⟨k,hk,_⟩,_⟩:=hel e he;have t0:=(hmem k).mpr ⟨e,he,hk⟩;have this:k∈(once ks).map (Sum.inr:Str→Key):=dec_mem.mp t0;obtain⟨y,hy,rfl⟩:=List.mem_map.mp this;rcases keyIs_shape (show keyIs (Sum.inr y) e.2=true from hk)with⟨i,t,z,_⟩ | ⟨z,t,zz,ez⟩
   ·cases z
   ·cases zz;exact⟨y,t,ez,hy⟩
  have stt:StrsAre (es.toList.map (·.2)) ((es.toList.map (·.2)).map strOf):=strsAre_map _ fun v hv=>by
   obtain⟨e,he,rfl⟩:=List.mem_map.mp hv;obtain⟨y,tk,e1,_⟩:=all e he;exact⟨y,tk,e1⟩
  refine⟨⟨o,es,ep,t,ho,hex,hd,hf,e3,e4,hsb,_,stt,?_⟩,⟨o,ho⟩,fun g1 g2 y k=>?_⟩
  ·refine qds _ _ (qfa ks) (fun y hy=>?_) ?_
   ·obtain⟨e,he,hk⟩:=(hmem (Sum.inr y)).mp (dec_mem.mpr (List.mem_map_of_mem hy));rcases keyIs_shape (show keyIs (Sum.inr y) e.2=true from hk)with⟨i,t,z,_⟩ | ⟨z,t,zz,ez⟩
    ·cases z
    ·cases zz;rw[List.map_map];exact List.mem_map.mpr ⟨e,he,by show strOf e.2=y;rw[ez];rfl⟩
   ·rw[List.length_map,List.length_map,Array.length_toList,hsz,List.length_map]
  ·obtain⟨o1,es1,ep1,t1,z1,z2⟩:=y;exact⟨o1,es1,ep1,t1,k _ z1,z2⟩
def Rise(ss:List Str):Prop:=ss.Pairwise fun a b=>a.cps.toList<b.cps.toList
theorem call_sortedS(hc:X.calm=true)(hex:X.ex=[]):qcV X (.builtin "sorted") (fun xs H Q=>∃(d:Addr) (ks:List Str),xs=[.ref d]∧H d=some (setS X.w d ks)∧ks.length<64∧∀D ss,H D=none→ss.Perm ks→sortedS ss=true→Q (.ref D) (upd H D (.lst (ss.map V.str)))):=by
 intro pins s σ H xs us Q I r h;obtain⟨d,ks,rfl,hd,h64,q⟩:=h;obtain⟨u,rfl,rx⟩:=qdO r;cases rx;obtain⟨⟨o,es,ep,t,ho,hexs,hdt,hf,hp,hL,hb,ks',st,pm⟩,_⟩:=I.hok d _ hd;have ls:es.size=ks.length:=by
  have h1:=st.length;rw[List.length_map,Array.length_toList]at h1;rw[h1,pm.length_eq]
 refine sorted_set (I.ok.hd hc) ho hexs hdt hf (by omega) hp hL st fun D h' tk d' out ss c hD kp hg hs ps so=>?_
 have HD:H D=none:=by
  cases z:H D with
  | none=>rfl
  | some v =>
    obtain⟨o,e⟩:=(I.hok D v z).at
    rw[hD]at e
    cases e
 have pk:=ps.trans pm;have I2:=(I.kept (t':=tk) kp).dr d';have DL:D≠X.env.locals:=fun z=>by
  have:=Heap.lt_size (Classical.choose_spec (let⟨m,⟨o,_,_,e,_⟩,_⟩:=I.loc;⟨o,e⟩:∃o,s.heap.get? X.env.locals=some o));obtain⟨m,⟨o,_,_,e,_⟩,_⟩:=I.loc;rw[z,e]at hD;cases hD
 refine⟨.ref D,_,I2.track (o:=.lst (ss.map V.str)) ?_ HD DL (fun z c e w'=>?_) (fun z hz w'=>?_) ?_,rfl,q D ss HD pk so⟩
 ·cases z:X.s₀.heap.get? D with
  | none=>rfl
  | some o =>
    obtain⟨o',e⟩:=I.base.there D o z (by rw[hex];simp)
    rw[hD]at e
    cases e
 ·obtain⟨v,o,e1,_⟩:=I.cell z c e;rw[w',hD]at e1;cases e1
 ·have e:=(I.pin z hz).1;rw[w',hD]at e;cases e
 ·have vs:∀{out:List Value} {ss:List Str},StrsAre out ss→Vals (ss.map V.str) out:=fun {out ss} h=>by
   induction h with
   | nil=>exact .nil
   | cons x t _ ih=>exact .cons ⟨t,rfl⟩ ih
  refine⟨?_,out,c,vs hs,hg⟩;rw[List.length_map,pk.length_eq];exact Nat.le_of_lt (qaC (by omega))
end
end L2
namespace L2
open PySem PySem.Spec PyProof.Rows
structure Fx(P:Program)(w:World)(K:PySem.W.Frag)(mg:Str→Option Value)(base:Heap)(CX:CXT)(k:Nat)(x:Str)(ps:List Str)(sp:Sp):Prop where
 ex:∃f fd,FnOk P w K mg base CX k f fd ps sp∧Binds K fd ps []∧PySem.W.keepIn K (.ref f)=true∧mg x=some (.ref f)
section
variable{X:Cx}{CX:CXT}{k:Nat}{ps:List Str}{sp:Sp}{E:XK}{x:Str}{p pos:Pos}{e:Expr}{es:List Expr}{t:TA}
theorem qar(F:Fx X.prog X.w X.K X.mg X.base CX k x ps sp)(hr:Room k X.A)(hg:Gl X x)(hx:qdG CX X E)(ha:PA X (e::es) t)(hdb:(x == ("__debug__" : Str))=false:=by decide)(he:starEach (e::es) X.env=(false,eval e X.env)::starEach es X.env:=by rfl)(hpl:(backTo pos (starEach es X.env)).any (·.1)=false:=by rfl):PE X (.Call (.Name x p) (e::es) [] pos) (qgC sp [] E t):=by
 obtain⟨f,fd,G,b,kp,m⟩:=F.ex;exact pe_call G hr hg m kp b .nil hx ha hdb he hpl
end
theorem CompScope.plain{X:Cx}{scope:Scope}{own:List Str}(h1:scope.kind=.function)(h2:∀y∈scope.names,y.2≠.cell)(h3:∀y∈scope.names,y.2=.local→scope.names.lookup y.1=some .local)(h4:∀y∈scope.names,y.2≠.free):CompScope X scope own [] [] :=
 ⟨h1,h2,h3,fun y hy hf=>absurd hf (h4 y hy),rfl,fun _ z=>nomatch z⟩
theorem qfg{names:List (Str×NameKind)}{a:Str}(h:names.lookup a=some .cell):∀x∈[a],names.lookup x=some .cell∨names.lookup x=some .free:=fun x hx=>by
 have:x=a:=by simpa using hx
 rw[this];exact .inl h
theorem CompScope.frees{X:Cx}{scope:Scope}{own fr:List Str}{ix:List Nat}(h1:scope.kind=.function)(h2:∀y∈scope.names,y.2≠.cell)(h3:∀y∈scope.names,y.2=.local→scope.names.lookup y.1=some .local)(h4:∀y∈scope.names,y.2=.free→y.1∈fr)(h5:ix.map (fun j=>X.N[j]?)=fr.map some)(h6:∀x∈fr,scope.names.lookup x=some .free)(h7:∀x∈fr,X.env.scope.names.lookup x=some .cell∨X.env.scope.names.lookup x=some .free):CompScope X scope own fr ix :=
 ⟨h1,h2,h3,fun y hy hf=>h7 _ (h4 y hy hf),h5,h6⟩
theorem qc0{lo:Int}{n own:Nat}{ix:List Nat}{g:TG}{tt:TT}{te:TE}{σ:St}{H:Hp}{Q:VK}(Pv:Nat→List V→St→Hp→Prop)(hz:n<sizeLine)(h0:Pv 0 [] (qcp own ix σ) H)(hl:∀i ys σ' H',i≤n→Pv i ys σ' H'→ys.length≤i)(hs:∀i ys σ' H',i<n→Pv i ys σ' H'→g (.int (lo+i)) σ' H' fun σ2 H3=>tt σ2 H3 fun b H4=>if b=true then te σ2 H4 fun v H5=>Pv (i+1) (ys++[v]) σ2 H5 else Pv (i+1) ys σ2 H4)(hd:∀ys σ' H',Pv n ys σ' H'→∀D,H' D=none→Q (.ref D) (upd H' D (.lst ys))):qcL own ix g tt te (Itr lo n) σ H Q:=by
 refine⟨fun i m ys σ H=>m=n-i∧i≤n∧Pv i ys σ H,⟨n,by simp,Nat.zero_le _,h0⟩,?_⟩;rintro i m ys σ H ⟨rfl,hi,p⟩;have hy:=hl i ys σ H hi p;refine⟨by omega,?_⟩
 by_cases hlt:i<n
 ·refine .inr ⟨hlt,Pv (i+1),fun zs σ' H' p'=>⟨n-(i+1),by omega,rfl,hlt,p'⟩,fun x H' y=>?_⟩;obtain⟨e,y⟩:=y;subst e y;exact hs i ys σ _ hlt p
 ·have e:i=n:=by omega
  subst e;exact .inl ⟨Nat.le_refl _,hd ys σ H p⟩
theorem comp_enum{K:PySem.W.Frag}{a:Addr}{xs:List V}{own:Nat}{ix:List Nat}{g:TG}{tt:TT}{te:TE}{σ:St}{H:Hp}{Q:VK}(Pv:Nat→List V→St→Hp→Prop)(hz:xs.length<sizeLine)(h0:Pv 0 [] (qcp own ix σ) H)(hl:∀i ys σ' H',i≤xs.length→Pv i ys σ' H'→SqL K H' a xs∧ys.length≤i)(hs:∀i x ys σ' H' T,xs[i]?=some x→H' T=none→Pv i ys σ' H'→g (.ref T) σ' (upd H' T (.tup [.int (i:Nat),x])) fun σ2 H3=>tt σ2 H3 fun b H4=>if b=true then te σ2 H4 fun v H5=>Pv (i+1) (ys++[v]) σ2 H5 else Pv (i+1) ys σ2 H4)(hd:∀ys σ' H',Pv xs.length ys σ' H'→∀D,H' D=none→Q (.ref D) (upd H' D (.lst ys))):qcL own ix g tt te (Ite K a) σ H Q:=by
 refine⟨fun i m ys σ H=>m=xs.length-i∧i≤xs.length∧Pv i ys σ H,⟨xs.length,by simp,Nat.zero_le _,h0⟩,?_⟩;rintro i m ys σ H ⟨rfl,hi,p⟩;obtain⟨q,hy⟩:=hl i ys σ H hi p;refine⟨by omega,?_⟩
 by_cases hlt:i<xs.length
 ·refine .inr ⟨⟨xs,xs[i],q,by simp[hlt]⟩,Pv (i+1),fun zs σ' H' p'=>⟨xs.length-(i+1),by omega,rfl,hlt,p'⟩,fun x H' y=>?_⟩;obtain⟨T,z,hT,e1,e2,y⟩:=y;subst e1 e2;exact hs i z ys σ _ T (y xs q) hT p
 ·have e:i=xs.length:=by omega
  subst e;exact .inl ⟨⟨xs,q,Nat.le_refl _⟩,hd ys σ H p⟩
def rEqP(neg:Bool):R2:=fun x y H Q=>∃d e,DIn H x d∧DIn H y e∧PySem.W.kqdOk 9 d=true∧PySem.W.kqdOk 9 e=true∧(d=e→Q (.bl (!neg)) H)∧(d≠e→Q (.bl neg) H)
section
variable{X:Cx}
open Classical in
theorem op_eqP(hu:X.A.units+64<cLine):OpR X (compareOp .Eq) (rEqP false):=by
 intro pins s σ H x y v u Q I rx ry h;obtain⟨d,e,h1,h2,k1,k2,q1,q2⟩:=h;refine op_eqD hu pins s σ H x y v u Q I rx ry ⟨d,e,h1,h2,k1,k2,?_⟩;rw[if_neg Bool.false_ne_true]
 by_cases z:d=e
 ·rw[decide_eq_true z];exact q1 z
 ·rw[decide_eq_false z];exact q2 z
open Classical in
theorem qfq(hu:X.A.units+64<cLine):OpR X (compareOp .NotEq) (rEqP true):=by
 intro pins s σ H x y v u Q I rx ry h;obtain⟨d,e,h1,h2,k1,k2,q1,q2⟩:=h;refine op_neD hu pins s σ H x y v u Q I rx ry ⟨d,e,h1,h2,k1,k2,?_⟩;rw[if_pos rfl]
 by_cases z:d=e
 ·rw[decide_eq_true z];exact q1 z
 ·rw[decide_eq_false z];exact q2 z
end
theorem qfZ{H:Hp}:∀(nms:List Str),DAll H (nms.map V.str) (nms.map PySem.W.Dat.str)
 | []=>.nil
 | x::l=>.cons (.str x) (qfZ l)
def rSlS:V→Option Int→Option Int→Hp→VK→Prop:=fun x lo hi H Q=>∃z,x=.str z∧z.length≤sizeLine∧Q (.str (Txt.slice z lo hi)) H
section
variable{X:Cx}
theorem sl_str:SlR X rSlS:=by
 intro pins s σ H x v vl vu lo hi sl Q I rx hs pl pu h;obtain⟨z,rfl,hz,q⟩:=h;obtain⟨t,rfl⟩:=rx;cases pl with
 | none =>
   cases pu with
   | none=>exact⟨"str",_,PySem.F.slot_str_getitem.lookup,typeIs_str _ _ _,wpAny_getItem_str_slice (l:=none) (u:=none) (st:=none) hs rfl (post_val_or_str ⟨Nat.le_trans (Txt.slice_le z _ _) hz,fun t' k=>⟨.str (Txt.slice z none none),H,I.tok k,⟨t',rfl⟩,q⟩⟩)⟩
   | int j u=>exact⟨"str",_,PySem.F.slot_str_getitem.lookup,typeIs_str _ _ _,wpAny_getItem_str_slice (l:=none) (u:=some (j,u)) (st:=none) hs rfl (post_val_or_str ⟨Nat.le_trans (Txt.slice_le z _ _) hz,fun t' k=>⟨.str (Txt.slice z none (some j)),H,I.tok k,⟨t',rfl⟩,q⟩⟩)⟩
 | int i u =>
   cases pu with
   | none=>exact⟨"str",_,PySem.F.slot_str_getitem.lookup,typeIs_str _ _ _,wpAny_getItem_str_slice (l:=some (i,u)) (u:=none) (st:=none) hs rfl (post_val_or_str ⟨Nat.le_trans (Txt.slice_le z _ _) hz,fun t' k=>⟨.str (Txt.slice z (some i) none),H,I.tok k,⟨t',rfl⟩,q⟩⟩)⟩
   | int j u'=>exact⟨"str",_,PySem.F.slot_str_getitem.lookup,typeIs_str _ _ _,wpAny_getItem_str_slice (l:=some (i,u)) (u:=some (j,u')) (st:=none) hs rfl (post_val_or_str ⟨Nat.le_trans (Txt.slice_le z _ _) hz,fun t' k=>⟨.str (Txt.slice z (some i) (some j)),H,I.tok k,⟨t',rfl⟩,q⟩⟩)⟩
theorem qd5{x:Str}{j:Int}(h0:0≤j)(h1:j≤x.length):Txt.slice x (some j) none=⟨(x.cps.toList.drop j.toNat).toArray⟩:=by
 have:=beq_iff_eq.mp (slice_closes_from (x:=x) (i:=j) ⟨h0,h1⟩);rw[this,List.take_of_length_le];rw[List.length_drop];omega
end
end L2
namespace Gen
open PySem L2 Bk
theorem b_isinstance:bootBuiltins "isinstance" = some (.builtin "isinstance"):=by decide +kernel
theorem b_len:bootBuiltins "len" = some (.builtin "len"):=by decide +kernel
theorem b_all:bootBuiltins "all" = some (.builtin "all"):=by decide +kernel
theorem b_sorted:bootBuiltins "sorted" = some (.builtin "sorted"):=by decide +kernel
theorem b_int:bootBuiltins "int" = some (.type "int"):=by decide +kernel
theorem b_bool:bootBuiltins "bool" = some (.type "bool"):=by decide +kernel
theorem b_str:bootBuiltins "str" = some (.type "str"):=by decide +kernel
theorem b_list:bootBuiltins "list" = some (.type "list"):=by decide +kernel
theorem b_tuple:bootBuiltins "tuple" = some (.type "tuple"):=by decide +kernel
theorem b_set:bootBuiltins "set" = some (.type "set"):=by decide +kernel
structure Bn(mg:Str→Option Value):Prop where
 isinstance:mg "isinstance" = none
 len:mg "len" = none
 range:mg "range" = none
 sorted:mg "sorted" = none
 int:mg "int" = none
 bool:mg "bool" = none
 list:mg "list" = none
 tuple:mg "tuple" = none
 str:mg "str" = none
 set:mg "set" = none
 enumerate:mg "enumerate" = none
 all:mg "all" = none
 ver:mg "ValueError" = none
def StOk(H:Hp)(st:Addr):Prop:=∃x y:Int,H st=some (.lst [.int x,.int y])∧0≤y∧y<4294967296
abbrev qcJ(st:Addr)(H H':Hp):Prop:=KeepN (fun b=>b≠st) H H'
theorem StOk.same{H H':Hp}{st:Addr}(h:StOk H st)(s:Same H H'):StOk H' st:=by
 obtain⟨x,y,e,z⟩:=h;exact⟨x,y,s _ _ e,z⟩
theorem StOk.some{H:Hp}{st:Addr}(h:StOk H st):∃o,H st=some o:=by
 obtain⟨x,y,e,z⟩:=h;exact⟨_,e⟩
theorem qfT{H:Hp}{a b:Addr}(h:∃o,H a=some o)(n:H b=none):b≠a:=by
 obtain⟨o,e⟩:=h;exact Ne.symm (qao e n)
def qfW(K:PySem.W.Frag):Sp:=fun vs H Q _=>∃(a:Addr) (ns:List Int) (k:Int),vs=[.ref a,.int k]∧SqL K H a (ns.map V.int)∧0≤k∧k≤100∧∀(st:Addr) (H':Hp),H st=none→StOk H' st→Same H H'→Q (.ref st) H'
def spTake:Sp:=fun vs H Q _=>∃(st:Addr) (m:Int),vs=[.ref st,.int m]∧StOk H st∧0<m∧m≤1000000000000∧∀(r:Int) (H':Hp),0≤r→r<m→StOk H' st→qcJ st H H'→Q (.int r) H'
def qbL(H:Hp):Addr→Prop:=fun b=>H b=none
end Gen
namespace Gen
open PySem L2 Bk
theorem int_at{ns:List Int}{k:Int}(h0:0≤k)(h:k<(ns.length:Int)):∃v:Int,atI (ns.map V.int) k=some (.int v):=by
 have hk:k.toNat<ns.length:=by omega
 have ek:k=((k.toNat:Nat):Int):=by omega
 have q:atI (ns.map V.int) ((k.toNat:Nat):Int)=some (.int ns[k.toNat]):=qbf (by rw[List.getElem?_map,List.getElem?_eq_getElem hk]<;>rfl);rw[←ek]at q;exact⟨_,q⟩
def signs:Str:=Str.ofString "abcdefghijklmnopqrstuvwxyzABCDEFGHIJKLMNOPQRSTUVWXYZ0123456789.,-;:'()!?"
def small:Str:=Str.ofString "abcdefghijklmnopqrstuvwxyz"
theorem signs_is:signs.cps.toList=wordSigns:=by decide +kernel
theorem small_is:small.cps.toList=[97,98,99,100,101,102,103,104,105,106,107,108,109,110,111,112,113,114,115,116,117,118,119,120,121,122]:=by decide +kernel
theorem qfp{α:Type}{l:List α}{i:Int}(h0:0≤i)(h1:i<(l.length:Int)):∃c,atI l i=some c∧c∈l:=by
 have hi:i.toNat<l.length:=by omega
 have ei:i=((i.toNat:Nat):Int):=by omega
 have q:atI l ((i.toNat:Nat):Int)=some l[i.toNat]:=qbf (List.getElem?_eq_getElem hi);rw[←ei]at q;exact⟨_,q,List.getElem_mem hi⟩
theorem noName_nil:noName.cps.toList=[]:=by decide +kernel
theorem qcu(x y:Str):(x++y).length=x.length+y.length:=by
 show(x.cps++y.cps).size=_;rw[Array.size_append];rfl
theorem qbx(x y:Str):(x++y).cps.toList=x.cps.toList++y.cps.toList:=by
 show(x.cps++y.cps).toList=_;exact Array.toList_append
end Gen
namespace Gen
open PySem L2 Bk
theorem small_str{x:Str}(h:∀c∈x.cps.toList,qgG c):PyData.strOk x=true:=by
 show(x.cps.all fun c=>decide (c<0x110000))=true;rw[Array.all_eq_true'];intro c hc;have:=h c (by simpa using hc);unfold qgG at this;exact decide_eq_true (by omega)
theorem qgd{nms:List Str}(h:∀x∈nms,Name x):PySem.W.kqdOk 9 (.list (nms.map PySem.W.Dat.str))=true:=by
 simp only[PySem.W.kqdOk,List.all_eq_true,List.mem_map,decide_eq_true_eq];rintro d ⟨x,hx,rfl⟩;have:=small_str (h x hx).2.2;simpa[PySem.W.kqdOk]using this
theorem strs_at{nms:List Str}{i:Int}(h0:0≤i)(h1:i<((nms.map V.str).length:Int)):∃y,atI (nms.map V.str) i=some (.str y)∧y∈nms:=by
 obtain⟨v,e,m⟩:=qfp h0 h1;obtain⟨y,my,rfl⟩:=List.mem_map.mp m;exact⟨y,e,my⟩
theorem notes_app(a b:List Th):qaT (a++b)=qaT a++qaT b:=List.filterMap_append
theorem qbd{α β:Type}{F:α→β→Prop}:∀{a b:List α} {c d:List β},Paired F a c→Paired F b d→Paired F (a++b) (c++d)
 | _,_,_,_,.nil,h=>h
 | _,_,_,_,.cons q t,h=>.cons q (qbd t h)
end Gen
namespace L2
end L2
namespace K08
open PySem L2 Bk Gen
def top(i:Nat):Stmt:=PySem.Challenge.pw_leafpress_k08_forms_of_rows.main.body.getD i (.Pass ⟨0,0,0,0⟩)
abbrev sStream:Stmt:=top 77
abbrev sTake:Stmt:=top 78
section
variable{P:Program}{w:World}{K:PySem.W.Frag}{mg:Str→Option Value}{base:Heap}
theorem scStream:FnScope ["_law_script", "_law_k"] ["_law_script", "_law_k"] (qag sStream):=⟨rfl,rfl,rfl,by decide +kernel,rfl,by decide +kernel,by decide +kernel⟩
theorem ok_stream{f:Addr}{fd:FuncData}(F:Fun K "_law_stream" "_law_stream" sStream f fd)(T:Bn mg):FnOk P w K mg base CX0 1 f fd ["_law_script", "_law_k"] (qfW K):=by
 refine F.ok scStream (fun vs H Q E h=>?_) (fun cdv A outer s H vs Q E hr h=>?_)
 ·obtain⟨a,ns,k,rfl,_⟩:=h;rfl
 ·obtain⟨a,ns,k,rfl,hS,k0,k1,q⟩:=h;refine⟨_,(qac (qaH (qaj op_lt (pv 1) (qal call_len_seq (by rfl) T.len b_len (qaa (pv 0) pa_nil)) (qam _)) (qae (qak (qaD (qaa (qap ix_list (pv 0) (pv 1) (fun _ _=>rfl)) (qaa (qaE op_add (qaE op_add (qaE op_mod (qap ix_list (pv 0) (pv 1) (fun _ _=>rfl)) qaf) (qaE op_mul (pv 1) (pv 1))) qaf) pa_nil))))) pss_nil)
   (qae (qak (qaD (qaa (qaE op_add (qaE op_mul (qaE op_mul (pv 1) (pv 1)) qaf) qaf) (qaa (qaE op_add (pv 1) qaf) pa_nil)))))),?_⟩
  have kk:0≤k*k∧k*k≤10000:=by
   have h1:=Int.mul_nonneg k0 k0;have h2:k*k≤100*100:=Int.mul_le_mul k1 k1 k0 (by decide);omega
  refine⟨_,rfl,_,rfl,a,_,rfl,.inl hS,_,_,rfl,rfl,_,rfl,?_⟩;refine ite2 (fun c=>?_) (fun c=>?_)
  ·have c':k<(((ns.map V.int).length:Nat):Int):=of_decide_eq_true c;rw[List.length_map]at c';obtain⟨v,hv⟩:=int_at (ns:=ns) k0 c';refine⟨_,rfl,_,rfl,a,_,_,_,rfl,rfl,hS,hv,?_⟩;refine⟨_,rfl,_,rfl,a,_,_,_,rfl,rfl,hS,hv,_,_,rfl,rfl,(by show(0:Int)<2147483629;decide),_,rfl,_,rfl,_,_,rfl,rfl,.inl ⟨by omega,by omega⟩,_,_,rfl,rfl,_,_,rfl,rfl,(by show 2≤sizeLine;decide),fun l hl=>?_⟩;have m1:=Int.emod_nonneg v (show(2147483629:Int)≠0 by decide);have m2:=Int.emod_lt_of_pos v (show(0:Int)<2147483629 by decide);exact q l _ hl ⟨v,_,qab,by omega,by omega⟩ (qad hl _)
  ·refine⟨_,rfl,_,rfl,_,_,rfl,rfl,.inl ⟨by omega,by omega⟩,_,_,rfl,rfl,.inl ⟨by omega,by omega⟩,_,_,rfl,rfl,_,rfl,_,_,rfl,rfl,(by show 2≤sizeLine;decide),fun l hl=>?_⟩;exact q l _ hl ⟨_,_,qab,by omega,by omega⟩ (qad hl _)
theorem scTake:FnScope ["_law_stream_here", "_law_most", "_law_digit"] ["_law_stream_here", "_law_most"] (qag sTake):=⟨rfl,rfl,rfl,by decide +kernel,rfl,by decide +kernel,by decide +kernel⟩
theorem ok_take{f:Addr}{fd:FuncData}(F:Fun K "_law_take" "_law_take" sTake f fd):FnOk P w K mg base CX0 1 f fd ["_law_stream_here", "_law_most"] spTake:=by
 refine F.ok scTake (fun vs H Q E h=>?_) (fun cdv A outer s H vs Q E hr h=>?_)
 ·obtain⟨st,m,rfl,_⟩:=h;rfl
 ·obtain⟨st,m,rfl,⟨x,y,hst,y0,y1⟩,m0,m1,q0⟩:=h;have q:∀r x' y':Int,0≤r→r<m→0≤y'→y'<4294967296→Q (.int r) (upd H st (.lst [.int x',.int y'])):=fun r x' y' r0 r1 z0 z1=>q0 r _ r0 r1 ⟨x',y',qab,z0,z1⟩ fun b o n e=>by rw[qau n];exact e
  refine⟨_,(qac (qaH (PW.pt (qch (qaj op_eq (qap ix_list (pv 0) qaf (fun _ _=>rfl)) qaf (qam _)) (qbZ (qaj op_eq (qap ix_list (pv 0) qaf (fun _ _=>rfl)) (qcY un_neg qaf) (qam _))))) (qac (qgQ (qaE op_mod (qaE op_add (qaE op_mul (qap ix_list (pv 0) qaf (fun _ _=>rfl)) qaf) qaf) qaf) (qgH (pv 0) qaf set_list))
   (qae (qak (qaE op_mod (qaE op_mod (qaE op_mul (qap ix_list (pv 0) qaf (fun _ _=>rfl)) (qap ix_list (pv 0) qaf (fun _ _=>rfl))) qaf) (pv 1))))) pss_nil)
   (qac (qan (i:=2) scTake.nd (by rfl) (by trivial) (qaE op_mod (qap ix_list (pv 0) qaf (fun _ _=>rfl)) (pv 1)))
   (qac (qgQ (qaE op_fdivL (qap ix_list (pv 0) qaf (fun _ _=>rfl)) (pv 1)) (qgH (pv 0) qaf set_list))
   (qae (qak (pv 2)))))),?_⟩
  have mm:∀v:Int,0≤v % m∧v % m<m:=fun v=>⟨Int.emod_nonneg v (by omega),Int.emod_lt_of_pos v m0⟩
  have empty:∀Q':VK,Q'=Q→tSeq (tAsg (tOp (rI (fun _ j=>0<j) fun i j=>.int (i % j)) (tOp (rI0 fun i j=>.int (i+j)) (tOp (rI CMul fun i j=>.int (i*j)) (tOp (rIxL K) (tVar 0) (tC (.int 1))) (tC (.int 48271))) (tC (.int 12345))) (tC (.int 2147483647))) (gSub (tVar 0) (tC (.int 1)) rSetL))
    (tRet (tOp (rI (fun _ j=>0<j) fun i j=>.int (i % j)) (tOp (rI (fun _ j=>0<j) fun i j=>.int (i % j)) (tOp (rI CMul fun i j=>.int (i*j)) (tOp (rIxL K) (tVar 0) (tC (.int 1))) (tOp (rIxL K) (tVar 0) (tC (.int 1)))) (tC (.int 2147483629))) (tVar 1)))
    {nx:=fun _ _=>False,rt:=Q'} [some (.ref st),some (.int m),none] H:=by
   rintro Q' rfl;refine⟨_,rfl,st,_,_,_,rfl,rfl,SqL.of hst,rfl,_,_,rfl,rfl,.inl ⟨by omega,by omega⟩,_,_,rfl,rfl,_,_,rfl,rfl,(by show(0:Int)<2147483647;decide),_,rfl,st,_,1,1,rfl,rfl,hst,rfl,?_⟩;have z0:=Int.emod_nonneg (y*48271+12345) (show(2147483647:Int)≠0 by decide);have z1:=Int.emod_lt_of_pos (y*48271+12345) (show(0:Int)<2147483647 by decide);have hst':upd H st (.lst [.int x,.int ((y*48271+12345) % 2147483647)]) st=some (.lst [.int x,.int ((y*48271+12345) % 2147483647)]):=qab;refine⟨_,rfl,st,_,_,_,rfl,rfl,SqL.of hst',rfl,_,rfl,st,_,_,_,rfl,rfl,SqL.of hst',rfl,_,_,rfl,rfl,.inl (show -(2 ^ 64)<(y*48271+12345) % 2147483647∧(y*48271+12345) % 2147483647<2 ^ 64 from⟨by omega,by omega⟩),_,_,rfl,rfl,(by show(0:Int)<2147483629;decide),_,rfl,_,_,rfl,rfl,m0,?_⟩;exact q _ x _ (mm _).1 (mm _).2 z0 (by omega)
  refine⟨_,rfl,st,_,_,_,rfl,rfl,SqL.of hst,rfl,rfl,_,rfl,?_⟩
  by_cases x0:x=0
  ·rw[decide_eq_true (show V.int x=V.int 0 by rw[x0])];refine iteT (iteT ?_);exact empty _ rfl
  ·rw[decide_eq_false (show¬V.int x=V.int 0 from fun z=>x0 (V.int.inj z))];refine iteF ⟨_,rfl,st,_,_,_,rfl,rfl,SqL.of hst,rfl,_,rfl,rfl,_,rfl,?_⟩
   by_cases x1:x=-1
   ·rw[decide_eq_true (show V.int x=V.int (-1) by rw[x1])];refine iteT ?_;exact empty _ rfl
   ·rw[decide_eq_false (show¬V.int x=V.int (-1)from fun z=>x1 (V.int.inj z))];refine iteF ?_;refine⟨_,rfl,st,_,_,_,rfl,rfl,SqL.of hst,rfl,_,rfl,_,_,rfl,rfl,m0,?_⟩;refine⟨_,rfl,st,_,_,_,rfl,rfl,SqL.of hst,rfl,_,rfl,_,_,rfl,rfl,⟨m0,by omega⟩,_,rfl,st,_,0,0,rfl,rfl,hst,rfl,?_⟩;refine⟨_,rfl,?_⟩;exact q _ (x / m) y (mm x).1 (mm x).2 y0 y1
end
end K08
namespace Gen
open PySem L2 Bk PyProof.Rows PySem.Spec
theorem rising_all:∀(l:List Str) (x:Str),risingS x l=true→(∀y∈l,¬y.cps.toList<x.cps.toList)∧l.Pairwise fun a b=>¬b.cps.toList<a.cps.toList
 | [],x,_=>⟨(fun y hy=>nomatch hy),List.Pairwise.nil⟩
 | y :: r, x, h => by
   have h':(!ltCps y.cps.toList x.cps.toList && risingS y r)=true:=h
   rw[Bool.and_eq_true]at h'
   obtain⟨h1,h2⟩:=h'
   have n1:¬y.cps.toList<x.cps.toList:=by
     rw[ltCps_eq]at h1
     simpa using h1
   obtain⟨a,b⟩:=rising_all r y h2
   refine⟨fun z hz=>?_,List.Pairwise.cons (fun z hz=>a z hz) b⟩
   rcases List.mem_cons.mp hz with rfl | hz
   · exact n1
   · intro lt
     exact a z hz (Std.lt_of_lt_of_le lt (List.not_lt.mp n1))
theorem sorted_all{l:List Str}(h:sortedS l=true):l.Pairwise fun a b=>¬b.cps.toList<a.cps.toList:=by
 cases l with
 | nil=>exact List.Pairwise.nil
 | cons x r =>
   obtain⟨a,b⟩:=rising_all r x h
   exact List.Pairwise.cons a b
theorem qdN{x y:Str}(h:x.cps.toList=y.cps.toList):x=y:=by
 obtain⟨⟨x⟩⟩:=x;obtain⟨⟨y⟩⟩:=y;cases h;rfl
theorem rise_of{l:List Str}(h:sortedS l=true)(n:l.Nodup):l.Pairwise fun a b=>a.cps.toList<b.cps.toList:=by
 have:=(sorted_all h).and n;refine this.imp fun {a b} q=>?_
 by_cases z:a.cps.toList<b.cps.toList
 ·exact z
 ·exact absurd (qdN (List.le_antisymm (List.not_lt.mp q.1) (List.not_lt.mp z))) q.2
theorem qdy(nms:List Str):(nms.map V.str).all flatV=true:=by
 rw[List.all_eq_true];intro v hv;obtain⟨x,_,rfl⟩:=List.mem_map.mp hv;rfl
theorem qdw{α β:Type}(f:α→β){ts:List α}{i:Nat}{t:α}(h:ts[i]?=some t):(ts.take (i+1)).map f=(ts.take i).map f++[f t]:=by
 rw[List.take_succ,h,List.map_append];rfl
theorem qeD{as:List Addr}{i:Nat}{x:V}(h:(as.map V.ref)[i]?=some x):∃a,as[i]?=some a∧x=.ref a:=by
 rw[List.getElem?_map]at h;cases e:as[i]? with
 | none=>rw[e]at h;cases h
 | some t=>rw[e]at h;cases h;exact⟨t,rfl,rfl⟩
end Gen
namespace Gen
open PySem L2 Bk PyProof.Rows
theorem once_le(ks:List Str):(once ks).length≤ks.length:=by
 have:∀(a b:List Str),(a.foldl one1 b).length≤a.length+b.length:=by
  intro a
  induction a with
  | nil=>intro b;simp
  | cons x a ih =>
    intro b
    rw[List.foldl_cons]
    have h1:=ih (one1 b x)
    have h2:=qfm b x
    have h3:(one1 b x).length≤b.length+1:=by rw[h2];split<;>omega
    simp only[List.length_cons]
    omega
 simpa[once]using this ks []
end Gen
namespace Gen
open PySem L2 Bk
end Gen
namespace L2
theorem qaN{t u:TS}{D:Ends}{σ:St}{H:Hp}(P:St→Hp→Prop)(h:∀D':Ends,(∀σ' H',P σ' H'→D'.nx σ' H')→t D' σ H)(k:∀σ' H',P σ' H'→u D σ' H'):tSeq t u D σ H:=h _ k
theorem qft{c:TT}{t u:TS}{D:Ends}{σ:St}{H:Hp}(P:Bool→Hp→Prop)(h:∀Q:Bool→Hp→Prop,(∀b H',P b H'→Q b H')→c σ H Q)(k:∀b H',P b H'→if b=true then t D σ H' else u D σ H'):tIfS c t u D σ H:=h _ k
end L2
namespace Gen
open PySem L2 Bk
theorem kdt(k k':Kd):decide (V.str k.s=V.str k'.s)=decide (k=k'):=by
 by_cases h:k=k'
 ·rw[decide_eq_true h,h];simp
 ·rw[decide_eq_false h];exact decide_eq_false fun z=>h ((Kd.inj k k').mp (V.str.inj z))
end Gen
namespace Bk
open PySem L2
open PySem.W (Dat kqdOk)
def thgD:Sum Str Int→Dat
 | .inl w=>.str w
 | .inr k=>.int k
def thD:Th→Dat
 | .int n=>.int n
 | .tri s x t=>.tuple [.str s.s,thgD x,.int t]
section
variable{N:Addr→Prop}{H:Hp}
theorem th_in{v:V}{x:Th}(h:ItAt N H v x):DIn H v (thD x):=by
 cases x with
 | int n=>cases h;exact .int n
 | tri s x t =>
   obtain⟨a,rfl,_,e⟩:=h
   refine .tup e (.cons (.str _) (.cons ?_ (.cons (.int _) .nil)))
   cases x with
   | inl w=>exact .str w
   | inr k=>exact .int k
theorem qgM{vs:List V}{l:List Th}(p:Paired (ItAt N H) vs l):DAll H vs (l.map thD):=by
 induction p with
 | nil=>exact .nil
 | cons q t ih=>exact .cons (th_in q) ih
end
theorem low_str{x:Str}(h:∀c∈x.cps.toList,c<128):PyData.strOk x=true:=by
 show(x.cps.all fun c=>decide (c<0x110000))=true;rw[Array.all_eq_true'];intro c hc;have:=h c (by simpa using hc);exact decide_eq_true (by omega)
theorem qgj(s:So):PyData.strOk s.s=true:=by cases s<;>decide +kernel
theorem word_low:∀c∈wordSigns,c<128:=by decide
theorem word_str{w:Str}(h:Word w):PyData.strOk w=true:=low_str fun c hc=>word_low c (h.2.2 c hc)
theorem name_str{n:Str}(h:n=noName∨Name n):PyData.strOk n=true:=by
 rcases h with rfl | h
 ·decide +kernel
 ·exact Gen.small_str h.2.2
def bodyNd:Nd:=⟨-1,.body,noName,[],[]⟩
theorem body_form:Form bodyNd:=⟨.inl rfl,⟨by decide,(fun m hm=>nomatch hm),List.Pairwise.nil⟩,rfl⟩
end Bk
namespace Gen
open PySem L2 Bk
end Gen
namespace L2
open PySem PySem.Spec PyProof.Rows
def TJ:=Str→St→Hp→VK→Prop
def PJ(X:Cx)(es:List Expr)(t:TJ):Prop :=
 ∀(out:Str) (pins:List (Addr×Obj)) (s:Shared) (σ:St) (H:Hp) (Q:VK),Inv X pins σ H s→t out σ H Q→wpAny (model X.prog X.w) X.A (joinParts out (evalEach es X.env)) (EP X pins σ Q) X.xe s
def tJnil:TJ:=fun out _ H Q=>out.length≤sizeLine∧Q (.str out) H
def qgm(te:TE)(t:TJ):TJ:=fun out σ H Q=>te σ H fun x H1=>∃y,x=.str y∧(out++y).length≤sizeLine∧t (out++y) σ H1 Q
section
variable{X:Cx}{e a b:Expr}{es:List Expr}{te:TE}{t:TJ}{pos:Pos}
theorem pj_nil:PJ X [] tJnil:=fun out pins s σ H Q I h=>joinParts_nil ⟨.str out,H,I.tok _,⟨_,rfl⟩,h.2⟩ h.1
theorem qgt(he:PE X e te)(hr:PJ X es t)(hs:evalEach (e::es) X.env=eval e X.env::evalEach es X.env:=by rfl):PJ X (e::es) (qgm te t):=by
 intro out pins s σ H Q I h;rw[hs];refine joinParts_cons (thn (he pins s σ H _ I h) fun v s1 ⟨x,H1,I1,r1,q1⟩=>?_);obtain⟨y,rfl,hz,q⟩:=q1;obtain⟨tk,rfl⟩:=r1;exact⟨hz,hr (out++y) pins s1 σ H1 Q I1 q⟩
theorem pe_joined(h:PJ X (a::b::es) t)(hs:evalEach (a::b::es) X.env=eval a X.env::eval b X.env::evalEach es X.env:=by rfl):PE X (.JoinedStr (a::b::es) pos) (fun σ H Q=>t Str.empty σ H Q):=by
 intro pins s σ H Q I hq;refine JoinedStr_many ?_;rw[←hs];exact h Str.empty pins s σ H Q I hq
end
end L2
namespace L2
open PySem PySem.Spec PyProof.Rows
structure FunD(K:PySem.W.Frag)(x qual:Str)(st:Stmt)(f:Addr)(fd:FuncData):Prop where
 ex:∃(oc:Value) (od:Option Addr) (dV kV doc pm:Value) (an:Option Addr) (cdv ct:Value) (osl:Array (Option Value)),
  fd=PySem.W.fnOf x qual (qbt st) (qa7 st) (qag st) dV kV doc pm an cdv ct∧K.lookup f=some ⟨oc,od,.func fd,osl⟩∧PySem.W.codeIn K cdv qual=true
 kp:PySem.W.keepIn K (.ref f)=true
theorem FunD.ok{P:Program}{w:World}{K:PySem.W.Frag}{mg:Str→Option Value}{base:Heap}{CX:CXT}{x qual:Str}{st:Stmt}{f:Addr}{fd:FuncData}{N ps:List Str}{k:Nat}{sp:Sp}(F:FunD K x qual st f fd)(S:FnScope N ps (qag st))(len:∀vs H Q E,sp vs H Q E→vs.length=ps.length)(hbody:∀(cdv:Value) (A:Around) (outer:List Env) (s:Shared) (H:Hp) (vs:List V) (Q:VK) (E:XK),Room k (A.deeper (envOfC qual (qag st) s.heap.objs.size f cdv))→sp vs H Q E →
   ∃t,PSs (cxOf CX P w K mg base N qual (qag st) f cdv A outer s H E) (qa7 st) t∧t {nx:=fun _ H'=>Q .non H',rt:=Q} (qem N vs) H):FnOk P w K mg base CX (k+1) f fd ps sp:=by
 obtain⟨oc,od,dV,kV,doc,pm,an,cdv,ct,osl,rfl,lk,hcd⟩:=F.ex;exact qg7 lk hcd S len fun A outer s H vs Q E hr hsp=>hbody cdv A outer s H vs Q E hr hsp
theorem fund_mk{K:PySem.W.Frag}{x qual:Str}{st:Stmt}{f:Addr}{oc:Value}{od an:Option Addr}{osl:Array (Option Value)}{dV kV doc pm cdv ct:Value}(l:K.lookup f=some ⟨oc,od,.func (PySem.W.fnOf x qual (qbt st) (qa7 st) (qag st) dV kV doc pm an cdv ct),osl⟩)(c:PySem.W.codeIn K cdv qual=true)(k:PySem.W.keepIn K (.ref f)=true):FunD K x qual st f (PySem.W.fnOf x qual (qbt st) (qa7 st) (qag st) dV kV doc pm an cdv ct) :=
 ⟨⟨oc,od,dV,kV,doc,pm,an,cdv,ct,osl,rfl,l,c⟩,k⟩
theorem own_at{K:PySem.W.Frag}{h:Heap}{mg:Str→Option Value}{x:Str}{C:Addr}{bm:List Value}{newId:String}(X:K.In h)(G:h.Ns mainGlobals mg)(e:PySem.W.nsIn K mainGlobals x=some (some (.ref C)))(q:PySem.W.excIn K C bm newId=true):OwnCls x C bm newId mg h:=by
 refine⟨PySem.W.mg_of X G e,?_⟩;simp only[PySem.W.excIn]at q
 split at q
 case h_2=>exact absurd q Bool.false_ne_true
 case h_1 dd cd sl hK =>
  split at q
  case h_2=>exact absurd q Bool.false_ne_true
  case h_1 C2 tl a0 a1 a2 a3 nn a5 em es =>
   simp only[Bool.and_eq_true,beq_iff_eq,Bool.not_eq_true']at q;have q1:=q.1.1.1.1.1;have q2:=q.1.1.1.1.2;have q3:=q.1.1.1.2;have q4:=q.1.1.2;have q5:=q.1.2;have q6:=q.2;subst q1 q2;cases cd;cases sl;simp only at em q3 q5 q6 es;subst em q3 es;exact⟨tl,_,_,_,_,_,_,_,_,_,dd,a0,a1,a2,a3,a5,_,X _ _ hK,.of_isNs (PySem.W.isNs_of_in X q5),PySem.W.nsMap_none_of_in X q5 q6,PySem.W.tail_of_in X q4⟩
section
variable{X:Cx}{e:Expr}{te:TE}{pos:Pos}
theorem qcA{i:Int}(h:i.natAbs<10 ^ 100):i.natAbs.log2<1920:=by
 by_cases z:i.natAbs=0
 ·rw[z];decide
 ·exact(Nat.log2_lt z).mpr (Nat.lt_of_lt_of_le h (by decide +kernel))
theorem pe_fmtI(he:PE X e te):PE X (.FormattedValue e (-1) none pos) (fun σ H Q=>te σ H fun x H1=>∃i:Int,x=.int i∧i.natAbs<10 ^ 100∧((Str.ofString (toString i)).length≤1921→Q (.str (Str.ofString (toString i))) H1)):=by
 intro pins s σ H Q I hq;refine FormattedValue_plain (thn (he pins s σ H _ I hq) fun v s1 ⟨x,H1,I1,r1,q1⟩=>?_);obtain⟨i,rfl,hz,q⟩:=q1;obtain⟨tk,rfl⟩:=r1;refine formatField_int_small (qcA hz) ⟨.str (Str.ofString (toString i)),H1,(I1.tok _).tok _,⟨_,rfl⟩,q ?_⟩;rw[PySem.ofString_length];exact PySem.int_text_length_le (k:=1920) (by decide) (qcA hz)
end
theorem qgu{X:Cx}{es:List Expr}{k:Nat}{t:TGs}{n:Nat}{pos:Pos}(K:PySem.W.Frag)(hK:X.K=K)(hc:X.calm=true)(h:PGs X es t)(hn:(assignEach es X.env).length=n:=by rfl)(hst:(assignEach es X.env).findIdx? (·.1)=none:=by rfl):PG X (.Tuple es k pos) (gTup K n t):=by
 subst hK;exact qe4 hc h hn hst
end L2
namespace Gen
open PySem L2 Bk
section
variable{X:Cx}
theorem qcG{e:Expr}{te:TE}{T:Str}{T':String}{p1 p2 pos:Pos}(hi:X.mg "isinstance" = none)(g1:Gl X "isinstance")(hT:X.mg T=none)(gT:Gl X T)(bT:bootBuiltins T=some (.type T'))(he:PE X e te)(hn:T ≠ "__name__":=by decide)(hd:(T == ("__debug__" : Str))=false:=by decide)(h1:starEach [e,.Name T p2] X.env=(false,eval e X.env)::starEach [.Name T p2] X.env:=by rfl)(h2:starEach [.Name T p2] X.env=(false,eval (.Name T p2) X.env)::starEach [] X.env:=by rfl)(h3:(backTo pos (starEach [.Name T p2] X.env)).any (·.1)=false:=by rfl) :
  PE X (.Call (.Name "isinstance" p1) [e,.Name T p2] [] pos) (tCB (fun xs H Q=>∃x c t b,xs=[x,c]∧TyOf X.K H x t∧(∃cv,(∀u,RelV c u→u=cv)∧PySem.W.kitOne X.K t cv=some b)∧Q (.bl b) H) (qgo te (qgo (tC (.ty T')) tNil))) :=
 qal call_isinst g1 hi b_isinstance (qaa he (qaa (pe_bltn (v:=.ty T') gT hT bT rfl hn hd) pa_nil h2) h1) (by decide) (by decide) h1 h3
end
section
variable{K:PySem.W.Frag}
theorem k_ii:PySem.W.kitOne K (.type "int") (.type "int")=some true:=by unfold PySem.W.kitOne;rw[if_pos (by decide)]
theorem k_ib:PySem.W.kitOne K (.type "int") (.type "bool")=some false:=by
 unfold PySem.W.kitOne;rw[if_neg (by decide)];show(if PySem.W.kitMeta "bool" = true then PySem.W.subIn K (.type "int") (.type "bool")else none)=_;rw[if_pos (by decide +kernel)];show(fastBuiltinMro "int").map (·.contains (Value.type "bool"))=some false;decide +kernel
theorem k_ss:PySem.W.kitOne K (.type "str") (.type "str")=some true:=by unfold PySem.W.kitOne;rw[if_pos (by decide)]
theorem k_ll:PySem.W.kitOne K (.type "list") (.type "list")=some true:=by unfold PySem.W.kitOne;rw[if_pos (by decide)]
theorem k_tt:PySem.W.kitOne K (.type "tuple") (.type "tuple")=some true:=by unfold PySem.W.kitOne;rw[if_pos (by decide)]
end
end Gen
namespace L2
open PySem PySem.Spec PyProof.Rows
theorem turn_str{P:Program}{w:World}{K:PySem.W.Frag}{tg:Expr}(x:Str)(t:Tok)(it:Addr):Turn P w K tg (Its x) [it] it (fun i h=>h.IsStrIter it "str_ascii_iterator" x t i) where
 mem:=by simp
 obj:=fun i h st b hb=>by
  have e:b=it:=by simpa using hb
  subst e;obtain⟨o,e,c,d⟩:=st;exact⟨o,e,fun v z=>by rw[d]at z;cases z⟩
 keep:=fun i h h' st k=>by
  obtain⟨o,ho,r⟩:=st;exact⟨o,k it (by simp) o ho,r⟩
 item:=by
  intro X hP hw hK hc i pins s σ H E I hf st hg;subst hP hw hK;have hg':i<x.cps.size:=hg;obtain⟨f0,f1,f2,f3,f4,f5⟩:=hf it (by simp);have hx:x.cps[i]?=some x.cps[i]:=by simp[hg']
  refine wpAny_pyNext_ascii_item st hx fun h' st' sb=>?_
  have I1:Inv X pins σ H {s with heap:=h',toks:=s.toks+1}:=I.turned (t':=s.toks+1) (fun b o hb e=>(sb.2 b hb).trans e) f0 f1 f3 f4 f5;obtain⟨o,e,c,d⟩:=id st';exact⟨_,rfl,qgB (s:={s with heap:=h',toks:=s.toks+1}) e c d (by decide) ⟨.str ⟨#[x.cps[i]]⟩,H,I1,⟨_,rfl⟩,⟨rfl,_,hx,rfl⟩,st',fun b hb=>(hf b hb).1⟩⟩
 done:=by
  intro X hP hw hK hc i pins s σ H E I hf st hg;subst hP hw hK;have hg':x.cps.size≤i:=hg;obtain⟨f0,f1,f2,f3,f4,f5⟩:=hf it (by simp);exact wpAny_pyNext_ascii_end (I.ok.hd hc) st (by simp[hg']) fun h' eb=>⟨rfl,I.turned (t':=s.toks) (fun b o hb e=>eb b o hb e) f0 f1 f3 f4 f5⟩
 self:=fun _ _ _ _ _ st h=>wpAny_pyIter_striter_ascii st h
def iStr(tl:TE):TI:=fun σ H R=>tl σ H fun x H1=>∃z,x=.str z∧z.cps.all (·< 128)=true∧R (Its z) H1
section
variable{X:Cx}{tg:Expr}
theorem qfO{l:Expr}{tl:TE}(hl:PE X l tl):PI X tg l (iStr tl):=by
 intro pins s σ H R I h;refine thn (hl pins s σ H _ I h) fun v s1 ⟨x,H1,I1,r1,q1⟩=>?_
 obtain⟨z,rfl,ha,q⟩:=q1;obtain⟨t,rfl⟩:=r1;refine wpAny_pyIter_ascii ha ?_;refine⟨s1.heap.objs.size,[s1.heap.objs.size],_,_,H1,rfl,I1.kept (t':=s1.toks) fun b o e=>Heap.get?_push_of_some _ e,turn_str z t _,⟨_,Heap.get?_push_size _ rfl,rfl,rfl⟩,fun b hb=>?_,q⟩;have e:b=s1.heap.objs.size:=by simpa using hb
 subst e;exact I1.fpOk (Nat.le_refl _) (I1.hok.fresh (Nat.le_refl _))
end
theorem qdl{x:Str}{own:Nat}{ix:List Nat}{g:TG}{tt:TT}{te:TE}{σ:St}{H:Hp}{Q:VK}(Pv:Nat→List V→St→Hp→Prop)(hz:x.cps.size<sizeLine)(h0:Pv 0 [] (qcp own ix σ) H)(hl:∀i ys σ' H',i≤x.cps.size→Pv i ys σ' H'→ys.length≤i)(hs:∀i c ys σ' H',x.cps[i]?=some c→Pv i ys σ' H'→g (.str ⟨#[c]⟩) σ' H' fun σ2 H3=>tt σ2 H3 fun b H4=>if b=true then te σ2 H4 fun v H5=>Pv (i+1) (ys++[v]) σ2 H5 else Pv (i+1) ys σ2 H4)(hd:∀ys σ' H',Pv x.cps.size ys σ' H'→∀D,H' D=none→Q (.ref D) (upd H' D (.lst ys))):qcL own ix g tt te (Its x) σ H Q:=by
 refine⟨fun i m ys σ H=>m=x.cps.size-i∧i≤x.cps.size∧Pv i ys σ H,⟨x.cps.size,by simp,Nat.zero_le _,h0⟩,?_⟩;rintro i m ys σ H ⟨rfl,hi,p⟩;have hy:=hl i ys σ H hi p;refine⟨by omega,?_⟩
 by_cases hlt:i<x.cps.size
 ·refine .inr ⟨hlt,Pv (i+1),fun zs σ' H' p'=>⟨x.cps.size-(i+1),by omega,rfl,hlt,p'⟩,fun v H' y=>?_⟩;obtain⟨e,c,hc,e2⟩:=y;subst e e2;exact hs i c ys σ _ hc p
 ·have e:i=x.cps.size:=by omega
  subst e;exact .inl ⟨Nat.le_refl _,hd ys σ H p⟩
theorem qdj{K:PySem.W.Frag}{a:Addr}{xs:List V}{g:TG}{tb:TS}{D:Ends}{σ:St}{H:Hp}(Pv:Nat→St→Hp→Prop)(h0:Pv 0 σ H)(hl:∀i σ H,i≤xs.length→Pv i σ H→SqL K H a xs)(hs:∀i x σ H T,xs[i]?=some x→H T=none→Pv i σ H→g (.ref T) σ (upd H T (.tup [.int (i:Nat),x])) fun σ2 H2=>tb {D with nx:=Pv (i+1),ct:=Pv (i+1),bk:=D.nx} σ2 H2)(hd:∀σ H,Pv xs.length σ H→D.nx σ H) :
  ∃W:Nat→Nat→St→Hp→Prop,(∃m,W 0 m σ H)∧∀i m σ H,W i m σ H →
   ((Ite K a).stop i H∧D.nx σ H)∨((Ite K a).go i H∧∃N:St→Hp→Prop,(∀σ' H',N σ' H'→∃m',m'<m∧W (i+1) m' σ' H')∧∀x H',(Ite K a).yld i H x H'→g x σ H' fun σ2 H2=>tb {D with nx:=N,ct:=N,bk:=D.nx} σ2 H2):=by
 refine⟨fun i m σ H=>m=xs.length-i∧i≤xs.length∧Pv i σ H,⟨xs.length,by simp,Nat.zero_le _,h0⟩,?_⟩;rintro i m σ H ⟨rfl,hi,p⟩;have q:=hl i σ H hi p
 by_cases hlt:i<xs.length
 ·refine .inr ⟨⟨xs,xs[i],q,by simp[hlt]⟩,Pv (i+1),fun σ' H' p'=>⟨xs.length-(i+1),by omega,rfl,hlt,p'⟩,fun x H' y=>?_⟩;obtain⟨T,z,hT,e1,e2,y⟩:=y;subst e1 e2;exact hs i z σ _ T (y xs q) hT p
 ·have e:i=xs.length:=by omega
  subst e;exact .inl ⟨⟨xs,q,Nat.le_refl _⟩,hd σ H p⟩
def rInS(neg:Bool):R2:=fun x y H Q=>∃(c:Nat) (j:Str),x=.str ⟨#[c]⟩∧y=.str j∧Q (.bl (if neg=true then !decide (c∈j.cps.toList)else decide (c∈j.cps.toList))) H
theorem qdH{X:Cx}:OpR X (compareOp .In) (rInS false):=by
 intro pins s σ H x y v u Q I rx ry h;obtain⟨c,j,rfl,rfl,q⟩:=h;refine op_in_str pins s σ H _ _ v u Q I rx ry ⟨_,j,rfl,rfl,?_⟩;rw[StrLaws.found_one];exact q
end L2
namespace L2
open PySem PySem.Spec PyProof.Rows
end L2
namespace L2
open PySem PySem.Spec PyProof.Rows
end L2
namespace L2
open PySem PySem.Spec PyProof.Rows
end L2
namespace L2
open PySem PySem.Spec PyProof.Rows
structure KDict(P:Program)(w:World)(K:PySem.W.Frag)(a:Addr)(kvs:List (Key×Value)):Prop where
 ex:∃o es ep,K.lookup a=some o∧o.ExactDict∧o.data=.dict es ep∧KeysOf (qa2 P w) es∧Pairs (qa2 P w) es.toList kvs∧(kvs.map (·.1)).Nodup
def rIxD(P:Program)(w:World)(K:PySem.W.Frag):R2:=fun x y H Q=>∃(a:Addr) (k:Str) (kvs:List (Key×Value)) (u:Value) (v:V),x=.ref a∧y=.str k∧KDict P w K a kvs∧valueAt kvs (.inr k)=some u∧RelV v u∧Q v H
theorem ix_kdict{X:Cx}:IxR X (rIxD X.prog X.w X.K):=by
 intro value slice pins s σ H x y v u Q I rx ry h hs;obtain⟨a,k,kvs,z,zv,rfl,rfl,⟨o,es,ep,lk,ed,dt,ko,pr,nd⟩,hv,rz,q⟩:=h;cases rx;obtain⟨t,rfl⟩:=ry;have ho:s.heap.get? a=some o:=I.bk a o (I.mod.kin a o lk);have dd:s.heap.DictOf (qa2 X.prog X.w) a kvs:=⟨o,es,ep,ho,ed,dt,ko,pr,nd⟩;have fin:∀s',Inv X pins σ H s'→EP X pins σ Q z s':=fun s' I'=>⟨zv,H,I',rz,q⟩
 exact subscriptTail_builtinR (x:=z) dd.typeIs PySem.F.slot_dict_getitem.lookup
  (wpAny_getItem_of (Q:=fun r s'=>r=z∧EP X pins σ Q r s') (qaO _ _ _ _) dd.mapOf hv ⟨rfl,fin _ (I.tok _)⟩) hs
end L2
namespace L2
open PySem PySem.Spec PyProof.Rows
def repS(z:Str)(n:Nat):Str:=⟨(List.replicate n z.cps).foldl (·++ ·) #[]⟩
def rMulS:R2:=fun x y H Q=>∃(z:Str) (n:Nat),x=.str z∧y=.int n∧z.length=1∧n≤1000∧Q (.str (repS z n)) H
theorem qfx{α:Type}(a:Array α):∀(n:Nat) (acc:Array α),((List.replicate n a).foldl (·++ ·) acc).size=acc.size+n*a.size
 | 0,acc=>by simp
 | n + 1, acc => by
   rw[List.replicate_succ,List.foldl_cons,qfx a n,Array.size_append,Nat.succ_mul]
   omega
theorem rep_len(z:Str)(n:Nat):(repS z n).length=n*z.length:=by
 show((List.replicate n z.cps).foldl (·++ ·) #[]).size=_;rw[qfx];simp;rfl
section
variable{X:Cx}
theorem op_mulS:OpR X (binaryOp .Mult) rMulS:=by
 intro pins s σ H x y v u Q I rx ry h;obtain⟨z,n,rfl,rfl,hz,hn,q⟩:=h;obtain⟨t,rfl⟩:=rx;obtain⟨t',rfl⟩:=ry;refine PySem.P.mul_str ?_ ?_ ?_ ?_
 ·simp;omega
 ·intro h1 h2 h3;rw[hz]at h3;have:(1:Int)≤(2 ^ 63-1) / (n:Int):=by
   rw[Int.le_ediv_iff_mul_le (by omega)];omega
  omega
 ·intro h1 h2;rw[hz];unfold Builtin.Str.tooLong sizeLine
  exact decide_eq_false (by have : (2 : Nat) ^ 24 = 16777216 := by decide
                            simp;omega)
 ·by_cases h1:(n:Int)<1
  ·rw[if_pos h1];have e:n=0:=by omega
   subst e;exact⟨by decide,⟨.str (repS z 0),H,I.tok _,⟨_,rfl⟩,q⟩⟩
  ·rw[if_neg h1]
   by_cases h2:(((n:Int) == 1) || z.length == 0)=true
   ·rw[if_pos h2];have e:n=1:=by
     rw[hz]at h2;simp at h2;omega
    subst e;have ez:repS z 1=z:=by
     unfold repS;simp
    rw[ez]at q;exact⟨.str z,H,I,⟨_,rfl⟩,q⟩
   ·rw[if_neg h2];refine⟨?_,⟨.str (repS z n),H,I.tok _,⟨_,rfl⟩,q⟩⟩;show(repS z n).length≤sizeLine;rw[rep_len,hz];have:sizeLine=16777216:=by decide
    omega
theorem strs_of:∀{zs:List Str} {us:List Value},Vals (zs.map V.str) us→∃l:List (Str×Tok),us=strValues l∧l.map (·.1)=zs
 | [],_,.nil=>⟨[],rfl,rfl⟩
 | z :: zs, _, .cons ⟨t, h⟩ r => by
   obtain⟨l,e1,e2⟩:=strs_of r
   subst h e1
   exact⟨(z,t)::l,rfl,by rw[List.map_cons,e2]⟩
theorem qgO{B:Nat}:∀{zs:List Str},(∀z∈zs,z.length≤B)→(zs.map (·.length)).sum≤zs.length*B
 | [],_=>by simp
 | z :: r, h => by
   have h1:=h z List.mem_cons_self
   have h2:=qgO (zs:=r) fun y hy=>h y (List.mem_cons_of_mem _ hy)
   simp only[List.map_cons,List.sum_cons,List.length_cons,Nat.succ_mul]
   omega
def rJoin(K:PySem.W.Frag):V→List V→Hp→VK→Prop:=fun x xs H Q=>∃(sep:Str) (p:Addr) (zs:List Str),x=.str sep∧xs=[.ref p]∧SqL K H p (zs.map V.str)∧(∀z∈zs,z.length≤5000)∧zs.length≤1000∧sep.length≤10∧Q (.str (Str.join sep zs)) H
theorem mt_join:MtR X "str.join" (rJoin X.K):=by
 intro pins s σ H x xs v us Q I rx rv h;obtain⟨sep,p,zs,rfl,rfl,hq,hb,hn,hs,q⟩:=h;obtain⟨t,rfl⟩:=rx;obtain⟨u,rfl,ru⟩:=Vals.one rv;cases ru;obtain⟨its,rv,pl,hz⟩:=I.list hq;obtain⟨l,e1,e2⟩:=strs_of rv;have hj:Txt.join sep zs=Str.join sep zs:=StrLaws.glued_eq_join sep zs;refine PySem.SC.join (l:=l) (texts:=zs) (by rw[←e1];exact pl.isList) e2 (joinOk_of ?_) fun t' k=>⟨.str (Txt.join sep zs),H,I.tok k,⟨_,rfl⟩,by rw[hj];exact q⟩
 have h1:=qgO hb;have h2:zs.length*sep.length≤1000*10:=Nat.mul_le_mul hn hs;have h3:zs.length*5000≤1000*5000:=Nat.mul_le_mul_right _ hn;omega
end
end L2
namespace Gen
open PySem L2 Bk
def qa0(ds:List Nd)(n:Int)(i:Nat):List Int:=((List.range i).filter fun j=>decide (ds[j]?.map Nd.e=some n)).map fun(j:Nat)=>(j:Int)
theorem kidsTo_yes{ds:List Nd}{n:Int}{i:Nat}{d:Nd}(h:ds[i]?=some d)(e:d.e=n):qa0 ds n (i+1)=qa0 ds n i++[(i:Int)]:=by
 unfold qa0;rw[List.range_succ,List.filter_append,List.map_append];simp[h,e]
theorem kidsTo_no{ds:List Nd}{n:Int}{i:Nat}{d:Nd}(h:ds[i]?=some d)(e:¬d.e=n):qa0 ds n (i+1)=qa0 ds n i:=by
 unfold qa0;rw[List.range_succ,List.filter_append,List.map_append];simp[h,e]
theorem qcR(ds:List Nd)(n:Int)(i:Nat):(qa0 ds n i).length≤i:=by
 unfold qa0;rw[List.length_map];exact Nat.le_trans (List.length_filter_le ..) (by simp)
def qcW(C:Addr):Sp:=fun vs H Q E=>∃(p:Addr) (n:Int) (ds:List Nd) (N:Addr→Prop),vs=[.ref p,.int n]∧BookAt N H p ds∧ds.length≤1000∧n.natAbs<10 ^ 50 ∧
 ((¬ (0≤n∧n < ds.length)∧∀ H',Same H H'→E (.ref C) none H') ∨
  ((0≤n∧n<ds.length)∧∀l H',H l=none→Same H H'→H' l=some (.lst ((qa0 ds n ds.length).map V.int))→Q (.ref l) H'))
theorem qgZ{H:Hp}:∀(xs:List Int),DAll H (xs.map V.int) (xs.map PySem.W.Dat.int)
 | []=>.nil
 | x::l=>.cons (.int x) (qgZ l)
theorem qgb(xs:List Int):PySem.W.kqdOk 9 (.list (xs.map PySem.W.Dat.int))=true:=by
 simp only[PySem.W.kqdOk,List.all_eq_true,List.mem_map];rintro x ⟨d,hd,rfl⟩;rfl
end Gen
namespace Bk
open PySem L2 Gen
abbrev T(x:String):Str:=Str.ofString x
theorem join_one(s x:Str):Str.join s [x]=x:=rfl
theorem join_cons(s x y:Str)(r:List Str):Str.join s (x::y::r)=x++s++Str.join s (y::r):=rfl
inductive Lev(ds:List Nd):Nat→Nat→Prop
 | top {i:Nat} {d:Nd}:ds[i]?=some d→d.e=-1→Lev ds i 0
 | up {i j l:Nat} {d:Nd}:ds[i]?=some d→d.e=(j:Int)→j<i→Lev ds j l→Lev ds i (l+1)
end Bk
namespace Gen
open PySem L2 Bk
structure Nums(mg:Str→Option Value):Prop where
 elder:∃t,mg "ELDER" = some (.int 0 t)
 kind:∃t,mg "KIND" = some (.int 1 t)
 name:∃t,mg "NAME" = some (.int 2 t)
 marks:∃t,mg "MARKS" = some (.int 3 t)
 stuff:∃t,mg "STUFF" = some (.int 4 t)
 sort:∃t,mg "SORT" = some (.int 0 t)
 thing:∃t,mg "THING" = some (.int 1 t)
 tone:∃t,mg "TONE" = some (.int 2 t)
theorem sot(k k':So):decide (V.str k.s=V.str k'.s)=decide (k=k'):=by
 by_cases h:k=k'
 ·rw[decide_eq_true h,h];exact decide_eq_true rfl
 ·rw[decide_eq_false h];refine decide_eq_false fun z=>h ?_
  have:=V.str.inj z;rw[So.inj]at this;exact this
theorem nmt(x:Str):decide (V.str x=V.str (Str.ofString ""))=decide (x=noName):=by
 by_cases h:x=noName
 ·rw[decide_eq_true h,h];exact decide_eq_true rfl
 ·rw[decide_eq_false h];exact decide_eq_false fun z=>h (V.str.inj z)
end Gen
namespace Gen
open PySem L2 Bk
theorem qbz{α β:Type}{F:α→β→Prop}{as:List α}{ds:List β}(h:Paired F as ds){i:Nat}{a:α}(e:as[i]?=some a):∃d,ds[i]?=some d∧F a d:=by
 induction h generalizing i with
 | nil=>cases e
 | @cons a b l1 l2 q t ih =>
   cases i with
   | zero=>cases e;exact⟨b,rfl,q⟩
   | succ i=>exact ih (by simpa using e)
end Gen
namespace Bk
open PySem L2 Gen
open PySem.W (Dat kqdOk)
theorem pc_ok8{x:Th}(h:PcOk x):kqdOk 8 (thD x)=true:=by
 cases x with
 | int n=>cases h
 | tri s x t =>
   cases s<;>cases x<;>first | (exfalso;exact h) | skip
   · have:=word_str h.1
     simp[thD,thgD,kqdOk,this,qgj]
   · have:=name_str (.inr h.1)
     simp[thD,thgD,kqdOk,this,qgj]
   · simp[thD,thgD,kqdOk,qgj]
end Bk
namespace Bk
open PySem L2 Gen
def Low(x:Str):Prop:=x.cps.all (·< 128)=true
def greatS:Str:=T "ABCDEFGHIJKLMNOPQRSTUVWXYZ"
def figS:Str:=T "0123456789"
def pointS:Str:=T ".,-;:'()!?"
theorem signs_split:wordSigns=small.cps.toList++(greatS.cps.toList++(figS.cps.toList++pointS.cps.toList)):=by decide +kernel
def qcD(x:Str):Bool:=decide (1≤(x.length:Int)∧(x.length:Int)≤20) && (x.cps.toList.map fun c=>decide (c∈wordSigns)).all id
def qbW(x:Str):Bool:=decide (1≤(x.length:Int)∧(x.length:Int)≤8) && (x.cps.toList.map fun c=>decide (c∈small.cps.toList)).all id
theorem qeK(c:Nat):c∈small.cps.toList↔qgG c:=by
 rw[small_is];have all:∀c∈[97,98,99,100,101,102,103,104,105,106,107,108,109,110,111,112,113,114,115,116,117,118,119,120,121,122],97≤c∧c≤122:=by decide +kernel
 have back:∀d<26,97+d∈[97,98,99,100,101,102,103,104,105,106,107,108,109,110,111,112,113,114,115,116,117,118,119,120,121,122]:=by decide +kernel
 refine⟨fun h=>all c h,fun h=>?_⟩;have h1:=h.1;have h2:=h.2;have:=back (c-97) (by omega)
 rwa [show 97+(c-97)=c by omega]at this
theorem all_map{p:Nat→Bool}{l:List Nat}:(l.map p).all id=true↔∀c∈l,p c=true:=by
 rw[List.all_eq_true];constructor
 ·intro h c hc;exact h _ (List.mem_map.mpr ⟨c,hc,rfl⟩)
 ·intro h y hy;obtain⟨c,hc,rfl⟩:=List.mem_map.mp hy;exact h c hc
theorem qfu{x:Str}(h:Word x):qcD x=true:=by
 unfold qcD;rw[Bool.and_eq_true,decide_eq_true_iff,all_map];exact⟨⟨by have:=h.1;omega,by have:=h.2.1;omega⟩,fun c hc=>decide_eq_true (h.2.2 c hc)⟩
theorem qfS{x:Str}(h:Name x):qbW x=true:=by
 unfold qbW;rw[Bool.and_eq_true,decide_eq_true_iff,all_map];exact⟨⟨by have:=h.1;omega,by have:=h.2.1;omega⟩,fun c hc=>decide_eq_true ((qeK c).mpr (h.2.2 c hc))⟩
theorem qd2{x:Str}(h:∀c∈x.cps.toList,c<128):Low x:=by
 unfold Low;rw[Array.all_eq_true'];intro c hc;exact decide_eq_true (h c (by simpa using hc))
def pieceB:Th→Bool
 | .tri .note (.inr k) t=>decide (0≤k∧k≤60) && decide (0≤t∧t≤0)
 | .tri .word (.inl w) t=>decide (0≤t∧t≤3) && qcD w
 | .tri .page (.inl n) t=>decide (0≤t∧t≤3) && qbW n
 | _=>false
def PcForm:Th→Prop
 | .tri .note (.inr _) _=>True
 | .tri .word (.inl w) _ | .tri .page (.inl w) _ | .tri .sign (.inl w) _=>Low w∧w.length≤1000
 | _=>False
theorem qe5{x:Th}(h:PcOk x):pieceB x=true:=by
 cases x with
 | int n=>cases h
 | tri s x t =>
   cases s<;>cases x<;>first | (exfalso;exact h) | skip
   · show(decide _ && qcD _)=true
     rw[qfu h.1,Bool.and_true,decide_eq_true_iff]
     exact h.2
   · show(decide _ && qbW _)=true
     rw[qfS h.1,Bool.and_true,decide_eq_true_iff]
     exact h.2
   · show(decide _ && decide _)=true
     rw[Bool.and_eq_true,decide_eq_true_iff,decide_eq_true_iff]
     exact⟨⟨h.1,h.2.1⟩,by rw[h.2.2];exact⟨Int.le_refl _,Int.le_refl _⟩⟩
end Bk
namespace Gen
open PySem L2 Bk
structure Glob(mg:Str→Option Value):Prop where
 sm:∃t,mg "SMALL_LETTERS" = some (.str small t)
 gr:∃t,mg "GREAT_LETTERS" = some (.str greatS t)
 fi:∃t,mg "FIGURES" = some (.str figS t)
 po:∃t,mg "WORD_POINTS" = some (.str pointS t)
 mw:∃t,mg "MOST_WORD_SIGNS" = some (.int 20 t)
 mn:∃t,mg "MOST_NAME_SIGNS" = some (.int 8 t)
 nodes:∃t,mg "MOST_NODES" = some (.int 60 t)
 marks:∃t,mg "MOST_MARKS" = some (.int 4 t)
 pieces:∃t,mg "MOST_PIECES" = some (.int 60 t)
 level:∃t,mg "GREATEST_LEVEL" = some (.int 6 t)
 tone:∃t,mg "GREATEST_TONE" = some (.int 3 t)
 pict:∃t,mg "GREATEST_PICTURE" = some (.int 2000 t)
def spWhole:Sp:=fun vs H Q _=>∃v lo hi:Int,vs=[.int v,.int lo,.int hi]∧Q (.bl (decide (lo≤v∧v≤hi))) H
def spWSign:Sp:=fun vs H Q _=>∃c:Nat,vs=[.str ⟨#[c]⟩]∧Q (.bl (decide (c∈wordSigns))) H
def spWordB:Sp:=fun vs H Q _=>∃x:Str,vs=[.str x]∧Low x∧x.length≤1000∧∀H',Same H H'→Q (.bl (qcD x)) H'
def spNameB:Sp:=fun vs H Q _=>∃x:Str,vs=[.str x]∧Low x∧x.length≤1000∧∀H',Same H H'→Q (.bl (qbW x)) H'
def spPieceB:Sp:=fun vs H Q _=>∃(a:Addr) (s:So) (x:Sum Str Int) (t:Int),vs=[.ref a]∧H a=some (.tup [.str s.s,thV x,.int t])∧PcForm (.tri s x t)∧∀H',Same H H'→Q (.bl (pieceB (.tri s x t))) H'
end Gen
namespace K08
open PySem L2 Bk Gen
abbrev sIsWhole:Stmt:=top 10
abbrev sIsWordSign:Stmt:=top 11
abbrev sIsWord:Stmt:=top 12
abbrev sIsName:Stmt:=top 13
abbrev sIsPiece:Stmt:=top 34
section
variable{P:Program}{w:World}{K:PySem.W.Frag}{mg:Str→Option Value}{base:Heap}
theorem scIsWhole:FnScope ["value", "low", "high"] ["value", "low", "high"] (qag sIsWhole):=⟨rfl,rfl,rfl,by decide +kernel,rfl,by decide +kernel,by decide +kernel⟩
theorem ok_is_whole{f:Addr}{fd:FuncData}(F:Fun K "is_whole" "is_whole" sIsWhole f fd)(T:Bn mg):FnOk P w K mg base CX0 1 f fd ["value", "low", "high"] spWhole:=by
 refine F.ok scIsWhole (fun vs H Q E h=>?_) (fun cdv A outer s H vs Q E hr h=>?_)
 ·obtain⟨v,lo,hi,rfl,_⟩:=h;rfl
 ·obtain⟨v,lo,hi,rfl,q⟩:=h;refine⟨_,(qae (qak (qbu (qcG T.isinstance (by rfl) T.int (by rfl) b_int (pv 0)) (qbu (pe_not (qcG T.isinstance (by rfl) T.bool (by rfl) b_bool (pv 0))) (qbS (pe_chain op_le op_le (pv 1) (pv 0) (pv 2))))))),?_⟩;refine⟨_,rfl,_,_,_,_,rfl,.int v,⟨_,fun u r=>r,k_ii⟩,_,rfl,iteT ?_⟩;refine⟨_,rfl,_,_,_,_,rfl,.int v,⟨_,fun u r=>r,k_ib⟩,_,rfl,_,rfl,iteT ?_⟩;refine⟨_,rfl,_,rfl,_,_,rfl,rfl,_,rfl,?_⟩;refine ite2 (fun c=>?_) (fun c=>?_)
  ·have c':lo≤v:=of_decide_eq_true c;refine⟨_,rfl,_,_,rfl,rfl,?_⟩;have e:decide (lo≤v∧v≤hi)=decide (v≤hi):=by simp[c']
   rw[e]at q;exact q
  ·have c':¬lo≤v:=fun z=>c (decide_eq_true z)
   have e:decide (lo≤v∧v≤hi)=false:=by simp[c']
   rw[e]at q;exact q
theorem scIsWordSign:FnScope ["sign"] ["sign"] (qag sIsWordSign):=⟨rfl,rfl,rfl,by decide +kernel,rfl,by decide +kernel,by decide +kernel⟩
theorem ok_is_word_sign{f:Addr}{fd:FuncData}(F:Fun K "is_word_sign" "is_word_sign" sIsWordSign f fd)(U:Glob mg):FnOk P w K mg base CX0 1 f fd ["sign"] spWSign:=by
 refine F.ok scIsWordSign (fun vs H Q E h=>?_) (fun cdv A outer s H vs Q E hr h=>?_)
 ·obtain⟨c,rfl,_⟩:=h;rfl
 ·obtain⟨c,rfl,q⟩:=h;obtain⟨_,g_SMALL_LETTERS⟩:=U.sm;obtain⟨_,g_GREAT_LETTERS⟩:=U.gr;obtain⟨_,g_FIGURES⟩:=U.fi;obtain⟨_,g_WORD_POINTS⟩:=U.po;refine⟨_,(qae (qak (qgF (qaI qdH (pv 0) (qai (v:=.str (Str.ofString "abcdefghijklmnopqrstuvwxyz")) (by rfl) g_SMALL_LETTERS ⟨_,rfl⟩) (by with_unfolding_all rfl)) (qgF (qaI qdH (pv 0) (qai (v:=.str (Str.ofString "ABCDEFGHIJKLMNOPQRSTUVWXYZ")) (by rfl) g_GREAT_LETTERS ⟨_,rfl⟩) (by with_unfolding_all rfl)) (qgF (qaI qdH (pv 0) (qai (v:=.str (Str.ofString "0123456789")) (by rfl) g_FIGURES ⟨_,rfl⟩) (by with_unfolding_all rfl)) (qbS (qaI qdH (pv 0) (qai (v:=.str (Str.ofString ".,-;:'()!?")) (by rfl) g_WORD_POINTS ⟨_,rfl⟩) (by with_unfolding_all rfl)))))))),?_⟩;rw[signs_split]at q;refine⟨_,rfl,c,small,rfl,rfl,_,rfl,?_⟩;rw[if_neg Bool.false_ne_true]
  by_cases h1:c∈small.cps.toList
  ·rw[decide_eq_true h1];rw[decide_eq_true (List.mem_append_left _ h1)]at q;exact iteT q
  rw[decide_eq_false h1];refine iteF ⟨_,rfl,c,greatS,rfl,rfl,_,rfl,?_⟩;rw[if_neg Bool.false_ne_true]
  by_cases h2:c∈greatS.cps.toList
  ·rw[decide_eq_true h2];rw[decide_eq_true (List.mem_append_right _ (List.mem_append_left _ h2))]at q;exact iteT q
  rw[decide_eq_false h2];refine iteF ⟨_,rfl,c,figS,rfl,rfl,_,rfl,?_⟩;rw[if_neg Bool.false_ne_true]
  by_cases h3:c∈figS.cps.toList
  ·rw[decide_eq_true h3];rw[decide_eq_true (List.mem_append_right _ (List.mem_append_right _ (List.mem_append_left _ h3)))]at q;exact iteT q
  rw[decide_eq_false h3];refine iteF ⟨_,rfl,c,pointS,rfl,rfl,?_⟩;rw[if_neg Bool.false_ne_true];have e:decide (c∈small.cps.toList++(greatS.cps.toList++(figS.cps.toList++pointS.cps.toList)))=decide (c∈pointS.cps.toList):=by
   simp only[List.mem_append,h1,h2,h3,false_or]
  rw[e]at q;exact q
theorem scIsWord:FnScope ["value"] ["value"] (qag sIsWord):=⟨rfl,rfl,rfl,by decide +kernel,rfl,by decide +kernel,by decide +kernel⟩
theorem ok_is_word{f:Addr}{fd:FuncData}(F:Fun K "is_word" "is_word" sIsWord f fd)(T:Bn mg)(U:Glob mg)(F_is_word_sign:Fx P w K mg base CX0 1 "is_word_sign" ["sign"] spWSign):FnOk P w K mg base CX0 2 f fd ["value"] spWordB:=by
 refine F.ok scIsWord (fun vs H Q E h=>?_) (fun cdv A outer s H vs Q E hr h=>?_)
 ·obtain⟨x,rfl,_⟩:=h;rfl
 ·obtain⟨x,rfl,lo,le,q⟩:=h;obtain⟨_,g_MOST_WORD_SIGNS⟩:=U.mw;have hr_is_word_sign:=hr;have sz:sizeLine=16777216:=by decide
  have xs:x.cps.size=x.length:=rfl;have xl:x.cps.toList.length=x.length:=Array.length_toList;refine⟨_,(qac (qaH (PW.pt (qch (qbl (qaW (qcG T.isinstance (by rfl) T.str (by rfl) b_str (pv 0)))) (qbZ (qbl (qcQ op_le op_le qaf (qal call_len_str (by rfl) T.len b_len (qaa (pv 0) pa_nil)) (qai (v:=.int 20) (by rfl) g_MOST_WORD_SIGNS ⟨_,rfl⟩)))))) (qae (qak qc3)) pss_nil)
   (qae (qak (qal (qcy (by rfl)) (by rfl) T.all b_all (qaa (qbh (own:=["sign"]) (by rfl) (CompScope.plain (by rfl) (by decide +kernel) (by decide +kernel) (by decide +kernel)) (qfO (pv 0)) (fun cl C s2 H2 fp=>(qax (i:=0) (by show(["sign"]:List Str).Nodup;decide +kernel) (by rfl) (by trivial) (by trivial))) (fun cl C s2 H2 fp=>qbC) (fun cl C s2 H2 fp=>(qar F_is_word_sign hr_is_word_sign (by rfl) qas (qaa (pv 0) pa_nil)))) pa_nil))))),?_⟩
  refine⟨_,rfl,_,_,_,_,rfl,.str x,⟨_,fun u r=>r,k_ss⟩,_,rfl,iteF ?_⟩;refine⟨_,rfl,x,rfl,by omega,_,_,rfl,rfl,_,rfl,?_⟩;have no:¬(1≤(x.length:Int)∧(x.length:Int)≤20)→Q (.bl false) H:=fun c=>by
   have:=q H (Same.refl H);unfold qcD at this;rw[decide_eq_false c,Bool.false_and]at this;exact this
  refine ite2 (fun c1=>?_) (fun c1=>?_)
  rotate_left
  ·refine⟨_,rfl,iteT ?_⟩;exact no fun z=>c1 (decide_eq_true z.1)
  refine⟨_,_,rfl,rfl,_,rfl,?_⟩
  by_cases c:1≤(x.length:Int)∧(x.length:Int)≤20
  rotate_left
  ·rw[decide_eq_false (fun z=>c ⟨of_decide_eq_true c1,z⟩:¬(x.length:Int)≤20)];exact iteT (no c)
  rw[decide_eq_true c.2];refine iteF ?_;refine⟨_,rfl,x,rfl,lo,qdl (fun i ys σ' H'=>H'=H∧ys=((x.cps.toList.take i).map fun c=>decide (c∈wordSigns)).map V.bl∧∃z,σ'=[z]) (by omega) ⟨rfl,rfl,none,rfl⟩ ?_ ?_ ?_⟩
  ·rintro i ys σ' H' hi ⟨rfl,rfl,_⟩;rw[List.length_map,List.length_map,List.length_take];exact Nat.min_le_left _ _
  ·rintro i c ys σ' H' hc ⟨rfl,rfl,z,rfl⟩;refine⟨_,rfl,c,rfl,rfl,?_,_,rfl⟩;rw[List.map_map,List.map_map,qdw (V.bl∘fun c=>decide (c∈wordSigns)) (by simpa using hc)];rfl
  ·rintro ys σ' H' ⟨rfl,rfl,_⟩ D hD;have eT:x.cps.toList.take x.cps.size=x.cps.toList:=List.take_of_length_le (by omega);rw[eT];refine⟨D,_,rfl,SqL.of qab,?_⟩;have:=q _ (qad hD (.lst ((x.cps.toList.map fun c=>decide (c∈wordSigns)).map V.bl)));unfold qcD at this;rw[decide_eq_true c,Bool.true_and]at this;exact this
theorem scIsName:FnScope ["value"] ["value"] (qag sIsName):=⟨rfl,rfl,rfl,by decide +kernel,rfl,by decide +kernel,by decide +kernel⟩
theorem ok_is_name{f:Addr}{fd:FuncData}(F:Fun K "is_name" "is_name" sIsName f fd)(T:Bn mg)(U:Glob mg):FnOk P w K mg base CX0 1 f fd ["value"] spNameB:=by
 refine F.ok scIsName (fun vs H Q E h=>?_) (fun cdv A outer s H vs Q E hr h=>?_)
 ·obtain⟨x,rfl,_⟩:=h;rfl
 ·obtain⟨x,rfl,lo,le,q⟩:=h;obtain⟨_,g_MOST_NAME_SIGNS⟩:=U.mn;obtain⟨_,g_SMALL_LETTERS⟩:=U.sm;have sz:sizeLine=16777216:=by decide
  have xs:x.cps.size=x.length:=rfl;have xl:x.cps.toList.length=x.length:=Array.length_toList;refine⟨_,(qac (qaH (PW.pt (qch (qbl (qaW (qcG T.isinstance (by rfl) T.str (by rfl) b_str (pv 0)))) (qbZ (qbl (qcQ op_le op_le qaf (qal call_len_str (by rfl) T.len b_len (qaa (pv 0) pa_nil)) (qai (v:=.int 8) (by rfl) g_MOST_NAME_SIGNS ⟨_,rfl⟩)))))) (qae (qak qc3)) pss_nil)
   (qae (qak (qal (qcy (by rfl)) (by rfl) T.all b_all (qaa (qbh (own:=["sign"]) (by rfl) (CompScope.plain (by rfl) (by decide +kernel) (by decide +kernel) (by decide +kernel)) (qfO (pv 0)) (fun cl C s2 H2 fp=>(qax (i:=0) (by show(["sign"]:List Str).Nodup;decide +kernel) (by rfl) (by trivial) (by trivial))) (fun cl C s2 H2 fp=>qbC) (fun cl C s2 H2 fp=>(qaI qdH (pv 0) (qai (v:=.str (Str.ofString "abcdefghijklmnopqrstuvwxyz")) (by rfl) g_SMALL_LETTERS ⟨_,rfl⟩) (by with_unfolding_all rfl)))) pa_nil))))),?_⟩
  refine⟨_,rfl,_,_,_,_,rfl,.str x,⟨_,fun u r=>r,k_ss⟩,_,rfl,iteF ?_⟩;refine⟨_,rfl,x,rfl,by omega,_,_,rfl,rfl,_,rfl,?_⟩;have no:¬(1≤(x.length:Int)∧(x.length:Int)≤8)→Q (.bl false) H:=fun c=>by
   have:=q H (Same.refl H);unfold qbW at this;rw[decide_eq_false c,Bool.false_and]at this;exact this
  refine ite2 (fun c1=>?_) (fun c1=>?_)
  rotate_left
  ·refine⟨_,rfl,iteT ?_⟩;exact no fun z=>c1 (decide_eq_true z.1)
  refine⟨_,_,rfl,rfl,_,rfl,?_⟩
  by_cases c:1≤(x.length:Int)∧(x.length:Int)≤8
  rotate_left
  ·rw[decide_eq_false (fun z=>c ⟨of_decide_eq_true c1,z⟩:¬(x.length:Int)≤8)];exact iteT (no c)
  rw[decide_eq_true c.2];refine iteF ?_;refine⟨_,rfl,x,rfl,lo,qdl (fun i ys σ' H'=>H'=H∧ys=((x.cps.toList.take i).map fun c=>decide (c∈small.cps.toList)).map V.bl∧∃z,σ'=[z]) (by omega) ⟨rfl,rfl,none,rfl⟩ ?_ ?_ ?_⟩
  ·rintro i ys σ' H' hi ⟨rfl,rfl,_⟩;rw[List.length_map,List.length_map,List.length_take];exact Nat.min_le_left _ _
  ·rintro i c ys σ' H' hc ⟨rfl,rfl,z,rfl⟩;refine⟨_,rfl,c,small,rfl,rfl,rfl,?_,_,rfl⟩;rw[List.map_map,List.map_map,qdw (V.bl∘fun c=>decide (c∈small.cps.toList)) (by simpa using hc)];rfl
  ·rintro ys σ' H' ⟨rfl,rfl,_⟩ D hD;have eT:x.cps.toList.take x.cps.size=x.cps.toList:=List.take_of_length_le (by omega);rw[eT];refine⟨D,_,rfl,SqL.of qab,?_⟩;have:=q _ (qad hD (.lst ((x.cps.toList.map fun c=>decide (c∈small.cps.toList)).map V.bl)));unfold qbW at this;rw[decide_eq_true c,Bool.true_and]at this;exact this
theorem scIsPiece:FnScope ["piece"] ["piece"] (qag sIsPiece):=⟨rfl,rfl,rfl,by decide +kernel,rfl,by decide +kernel,by decide +kernel⟩
theorem ok_is_piece{f:Addr}{fd:FuncData}(F:Fun K "is_piece" "is_piece" sIsPiece f fd)(T:Bn mg)(U:Glob mg)(N:Nums mg)(F_is_whole:Fx P w K mg base CX0 1 "is_whole" ["value", "low", "high"] spWhole)(F_is_word:Fx P w K mg base CX0 2 "is_word" ["value"] spWordB)(F_is_name:Fx P w K mg base CX0 1 "is_name" ["value"] spNameB):FnOk P w K mg base CX0 3 f fd ["piece"] spPieceB:=by
 refine F.ok scIsPiece (fun vs H Q E h=>?_) (fun cdv A outer s H vs Q E hr h=>?_)
 ·obtain⟨a,so,x,t,rfl,_⟩:=h;rfl
 ·obtain⟨a,so,x,t,rfl,ha,fm,q⟩:=h;obtain⟨_,g_SORT⟩:=N.sort;obtain⟨_,g_THING⟩:=N.thing;obtain⟨_,g_TONE⟩:=N.tone;obtain⟨_,g_MOST_PIECES⟩:=U.pieces;obtain⟨_,g_GREATEST_TONE⟩:=U.tone;have hr_is_whole:Room 1 _:=hr.mono (by decide);have hr_is_name:Room 1 _:=hr.mono (by decide);have hr_is_word:=hr;refine⟨_,(qac (qaH (PW.pt (qch (qbl (qaW (qcG T.isinstance (by rfl) T.tuple (by rfl) b_tuple (pv 0)))) (qbZ (qaj op_ne (qal call_len_seq (by rfl) T.len b_len (qaa (pv 0) pa_nil)) qaf (qam _))))) (qae (qak qc3)) pss_nil)
   (qac (qaH (qaj op_eq (qap ix_tup (pv 0) (qai (v:=.int 0) (by rfl) g_SORT ⟨_,rfl⟩) (fun _ _=>rfl)) qah (qam _)) (qae (qak (qbu (qar F_is_whole hr_is_whole (by rfl) qas (qaa (qap ix_tup (pv 0) (qai (v:=.int 1) (by rfl) g_THING ⟨_,rfl⟩) (fun _ _=>rfl)) (qaa qaf (qaa (qai (v:=.int 60) (by rfl) g_MOST_PIECES ⟨_,rfl⟩) pa_nil)))) (qbS (qar F_is_whole hr_is_whole (by rfl) qas (qaa (qap ix_tup (pv 0) (qai (v:=.int 2) (by rfl) g_TONE ⟨_,rfl⟩) (fun _ _=>rfl)) (qaa qaf (qaa qaf pa_nil)))))))) pss_nil)
   (qac (qaH (qbl (qaW (qar F_is_whole hr_is_whole (by rfl) qas (qaa (qap ix_tup (pv 0) (qai (v:=.int 2) (by rfl) g_TONE ⟨_,rfl⟩) (fun _ _=>rfl)) (qaa qaf (qaa (qai (v:=.int 3) (by rfl) g_GREATEST_TONE ⟨_,rfl⟩) pa_nil)))))) (qae (qak qc3)) pss_nil)
   (qac (qaH (qaj op_eq (qap ix_tup (pv 0) (qai (v:=.int 0) (by rfl) g_SORT ⟨_,rfl⟩) (fun _ _=>rfl)) qah (qam _)) (qae (qak (qar F_is_word hr_is_word (by rfl) qas (qaa (qap ix_tup (pv 0) (qai (v:=.int 1) (by rfl) g_THING ⟨_,rfl⟩) (fun _ _=>rfl)) pa_nil)))) pss_nil)
   (qae (qak (qbu (qaI op_eq (qap ix_tup (pv 0) (qai (v:=.int 0) (by rfl) g_SORT ⟨_,rfl⟩) (fun _ _=>rfl)) qah (qam _)) (qbS (qar F_is_name hr_is_name (by rfl) qas (qaa (qap ix_tup (pv 0) (qai (v:=.int 1) (by rfl) g_THING ⟨_,rfl⟩) (fun _ _=>rfl)) pa_nil)))))))))),?_⟩
  refine⟨_,rfl,_,_,_,_,rfl,.tup ha,⟨_,fun u r=>r,k_tt⟩,_,rfl,iteF ?_⟩;refine⟨_,rfl,a,_,rfl,.inr (SqT.of ha),rfl,_,rfl,iteF ?_⟩;refine⟨_,rfl,a,_,_,_,rfl,rfl,SqT.of ha,rfl,rfl,_,rfl,?_⟩;rw[show decide (V.str so.s=V.str (Str.ofString "note"))=decide (so=.note)from sot so .note];cases so<;>cases x<;>first | (exfalso;exact fm) | skip
  ·-- a word
   refine iteF ?_;refine⟨_,rfl,a,_,_,_,rfl,rfl,SqT.of ha,rfl,t,0,3,rfl,_,rfl,?_⟩
   by_cases c:0≤t∧t≤3
   rotate_left
   ·rw[decide_eq_false c];refine iteT ?_;have:=q H (Same.refl H);dsimp only[pieceB]at this;rw[decide_eq_false c,Bool.false_and]at this;exact this
   rw[decide_eq_true c];refine iteF ?_;refine⟨_,rfl,a,_,_,_,rfl,rfl,SqT.of ha,rfl,rfl,_,rfl,?_⟩;rw[show decide (V.str So.word.s=V.str (Str.ofString "word"))=decide (So.word=.word)from sot .word .word];refine iteT ?_;refine⟨_,rfl,a,_,_,_,rfl,rfl,SqT.of ha,rfl,_,rfl,fm.1,fm.2,fun H' s'=>?_⟩;have:=q H' s';dsimp only[pieceB]at this;rw[decide_eq_true c,Bool.true_and]at this;exact this
  ·-- a page
   refine iteF ?_;refine⟨_,rfl,a,_,_,_,rfl,rfl,SqT.of ha,rfl,t,0,3,rfl,_,rfl,?_⟩
   by_cases c:0≤t∧t≤3
   rotate_left
   ·rw[decide_eq_false c];refine iteT ?_;have:=q H (Same.refl H);dsimp only[pieceB]at this;rw[decide_eq_false c,Bool.false_and]at this;exact this
   rw[decide_eq_true c];refine iteF ?_;refine⟨_,rfl,a,_,_,_,rfl,rfl,SqT.of ha,rfl,rfl,_,rfl,?_⟩;rw[show decide (V.str So.page.s=V.str (Str.ofString "word"))=decide (So.page=.word)from sot .page .word];refine iteF ?_;refine⟨_,rfl,a,_,_,_,rfl,rfl,SqT.of ha,rfl,rfl,_,rfl,?_⟩;rw[show decide (V.str So.page.s=V.str (Str.ofString "page"))=decide (So.page=.page)from sot .page .page];refine iteT ?_;refine⟨_,rfl,a,_,_,_,rfl,rfl,SqT.of ha,rfl,_,rfl,fm.1,fm.2,fun H' s'=>?_⟩;have:=q H' s';dsimp only[pieceB]at this;rw[decide_eq_true c,Bool.true_and]at this;exact this
  ·-- a note
   rename_i k;refine iteT ?_;refine⟨_,rfl,a,_,_,_,rfl,rfl,SqT.of ha,rfl,k,0,60,rfl,_,rfl,?_⟩;have:=q H (Same.refl H);dsimp only[pieceB]at this
   by_cases c:0≤k∧k≤60
   ·rw[decide_eq_true c]at this⊢;refine iteT ?_;rw[Bool.true_and]at this;exact⟨_,rfl,a,_,_,_,rfl,rfl,SqT.of ha,rfl,t,0,0,rfl,this⟩
   ·rw[decide_eq_false c]at this⊢;exact iteF this
  ·-- another sort
   refine iteF ?_;have qq:=q H (Same.refl H);refine⟨_,rfl,a,_,_,_,rfl,rfl,SqT.of ha,rfl,t,0,3,rfl,_,rfl,?_⟩
   by_cases c:0≤t∧t≤3
   rotate_left
   ·rw[decide_eq_false c];exact iteT qq
   rw[decide_eq_true c];refine iteF ?_;refine⟨_,rfl,a,_,_,_,rfl,rfl,SqT.of ha,rfl,rfl,_,rfl,?_⟩;rw[show decide (V.str So.sign.s=V.str (Str.ofString "word"))=decide (So.sign=.word)from sot .sign .word];refine iteF ?_;refine⟨_,rfl,a,_,_,_,rfl,rfl,SqT.of ha,rfl,rfl,_,rfl,?_⟩;rw[show decide (V.str So.sign.s=V.str (Str.ofString "page"))=decide (So.sign=.page)from sot .sign .page];exact iteF qq
end
end K08
namespace Bk
open PySem L2
def eldR(ds:List Nd):Nat→Int→List Int
 | 0,_=>[]
 | m+1,ab=>ab::eldR ds m (match ds[ab.toNat]? with | some d=>d.e | none=>-1)
theorem qdf(ds:List Nd):∀(m:Nat) (ab:Int),(eldR ds m ab).length=m
 | 0,_=>rfl
 | m+1,ab=>by rw[eldR,List.length_cons,qdf ds m]
theorem qeV{ds:List Nd}{j m:Nat}{d:Nd}(h:ds[j]?=some d):eldR ds (m+1) (j:Int)=(j:Int)::eldR ds m d.e:=by
 rw[eldR,Int.toNat_natCast,h]
def RemE(ds:List Nd)(ab:Int)(m:Nat):Prop:=(ab=-1∧m=0)∨∃j k:Nat,ab=j∧Lev ds j k∧m=k+1
theorem qfn{ds:List Nd}{i l:Nat}{d:Nd}(h:Lev ds i l)(e':ds[i]?=some d):RemE ds d.e l:=by
 cases h with
 | top e h=>rw[e']at e;cases e;exact .inl ⟨h,rfl⟩
 | up e h1 h2 h3=>rw[e']at e;cases e;exact .inr ⟨_,_,h1,h3,rfl⟩
theorem Lev.nd{ds:List Nd}{i l:Nat}(h:Lev ds i l):∃d,ds[i]?=some d:=by
 cases h with
 | top e h=>exact⟨_,e⟩
 | up e h1 h2 h3=>exact⟨_,e⟩
theorem same_put{H H':Hp}{L:Addr}{o:HO}(s:Same H H')(h:H L=none):Same H (upd H' L o):=fun b u e=>by rw[qau (qao e h)];exact s b u e
end Bk
namespace Gen
open PySem L2 Bk
def spElders:Sp:=fun vs H Q _=>∃(p:Addr) (i l:Nat) (d:Nd) (ds:List Nd) (N:Addr→Prop),vs=[.ref p,.int i]∧BookAt N H p ds∧ds[i]?=some d∧Lev ds i l∧l≤999 ∧
 ∀(L:Addr) (H':Hp),H L=none→Same H H'→H' L=some (.lst ((eldR ds l d.e).map V.int))→Q (.ref L) H'
end Gen
namespace L2
open PySem PySem.Spec PyProof.Rows
section
variable{X:Cx}{CX:CXT}{k:Nat}{ps:List Str}{sp:Sp}{E:XK}{x:Str}{p pos:Pos}
theorem qey(F:Fx X.prog X.w X.K X.mg X.base CX k x ps sp)(hr:Room k X.A)(hg:Gl X x)(hx:qdG CX X E)(hdb:(x == ("__debug__" : Str))=false:=by decide):PE X (.Call (.Name x p) [] [] pos) (qgC sp [] E tNil):=by
 obtain⟨f,fd,G,b,kp,m⟩:=F.ex;exact pe_call0 G hr hg m kp b .nil hx hdb
end
end L2
namespace Bk
open PySem L2
theorem qde(x:Str)(l:List Str):inV (.str x) (l.map V.str)=decide (x∈l):=by
 by_cases h:x∈l
 ·rw[decide_eq_true h];unfold inV;rw[List.any_eq_true];exact⟨.str x,List.mem_map_of_mem h,by show(x == x)=true;simp⟩
 ·rw[decide_eq_false h];unfold inV;rw[List.any_eq_false];intro v hv;obtain⟨y,hy,rfl⟩:=List.mem_map.mp hv;show¬(y == x)=true;intro z;exact h ((beq_iff_eq.mp z) ▸ hy)
end Bk
namespace Bk
open PySem L2
open PySem.W (Dat kqdOk)
end Bk
namespace Gen
open PySem L2 Bk
end Gen
namespace L2
open PySem PySem.Spec PyProof.Rows
section
variable{κ:Type}[DecidableEq κ]
def valV(kvs:List (κ×V))(k:κ):Option V:=(kvs.find? fun kv=>decide (kv.1=k)).map (·.2)
def putK(kvs:List (κ×V))(k:κ)(v:V):List (κ×V) :=
 if(kvs.any fun kv=>decide (kv.1=k))=true then kvs.map (fun kv=>if kv.1=k then(kv.1,v)else kv)else kvs++[(k,v)]
theorem qbr{p:κ×V}{r:List (κ×V)}{k:κ}(e:p.1=k):valV (p::r) k=some p.2:=by simp[valV,List.find?_cons,e]
theorem qbq{p:κ×V}{r:List (κ×V)}{k:κ}(e:¬p.1=k):valV (p::r) k=valV r k:=by simp[valV,List.find?_cons,e]
theorem qdg(k:κ):∀kvs:List (κ×V),(kvs.any fun kv=>decide (kv.1=k))=(valV kvs k).isSome
 | []=>rfl
 | p :: r => by
   rw[List.any_cons]
   by_cases e:p.1=k
   · simp only[qbr e,decide_eq_true e,Bool.true_or,Option.isSome_some]
   · rw[qbq e,decide_eq_false e,Bool.false_or];exact qdg k r
theorem qfi(k j:κ)(y:V):∀kvs:List (κ×V),valV (kvs.map fun kv=>if kv.1=k then(kv.1,y)else kv) j=(valV kvs j).map fun x=>if j=k then y else x
 | []=>rfl
 | p :: r => by
   have ih:=qfi k j y r
   rw[List.map_cons]
   by_cases h:p.1=k
   · rw[if_pos h]
     by_cases e:p.1=j
     · rw[qbr (p:=(p.1,y)) e,qbr e,Option.map_some,if_pos (e.symm.trans h)]
     · rw[qbq (p:=(p.1,y)) e,qbq e,ih]
   · rw[if_neg h]
     by_cases e:p.1=j
     · rw[qbr (p:=p) e,qbr e,Option.map_some,if_neg (fun z=>h (e.trans z))]
     · rw[qbq (p:=p) e,qbq e,ih]
theorem qeO(k j:κ)(y:V):∀kvs:List (κ×V),valV kvs k=none→valV (kvs++[(k,y)]) j=if j=k then some y else valV kvs j
 | [], _ => by
   by_cases e:k=j
   · rw[if_pos e.symm];exact qbr (p:=(k,y)) e
   · rw[if_neg (fun z=>e z.symm)];exact qbq (p:=(k,y)) e
 | p :: r, hn => by
   rw[List.cons_append]
   have hk:¬p.1=k:=fun z=>by rw[qbr z]at hn;cases hn
   rw[qbq hk]at hn
   have ih:=qeO k j y r hn
   by_cases e:p.1=j
   · rw[qbr e,qbr e,if_neg (fun z=>hk (e.trans z))]
   · rw[qbq e,qbq e,ih]
theorem qfo(kvs:List (κ×V))(k j:κ)(y:V):valV (putK kvs k y) j=if j=k then some y else valV kvs j:=by
 unfold putK
 by_cases a:(kvs.any fun kv=>decide (kv.1=k))=true
 ·rw[if_pos a,qfi];rw[qdg]at a
  by_cases e:j=k
  ·obtain⟨x,hx⟩:=Option.isSome_iff_exists.mp a;rw[if_pos e,e,hx,Option.map_some,if_pos rfl]
  ·rw[if_neg e];cases valV kvs j with
   | none=>rfl
   | some x=>rw[Option.map_some,if_neg e]
 ·rw[if_neg a];refine qeO k j y kvs ?_;rw[qdg]at a;cases q:valV kvs k with
  | none=>rfl
  | some x=>rw[q]at a;exact(a rfl).elim
theorem qcc(kvs:List (κ×V))(k:κ)(v:V):(putK kvs k v).length≤kvs.length+1:=by
 unfold putK
 split
 ·rw[List.length_map];omega
 ·rw[List.length_append,List.length_cons,List.length_nil];omega
theorem RelO.isSome_eq{o:Option V}{u:Option Value}(r:RelO o u):o.isSome=u.isSome:=by
 cases o with
 | none => cases u with
   | none=>rfl
   | some _=>exact(show False from r).elim
 | some _ => cases u with
   | none=>exact(show False from r).elim
   | some _=>rfl
theorem KV.val{kvs:List (κ×V)}{vs:List (κ×Value)}(r:KV kvs vs)(k:κ):RelO (valV kvs k) (valueAt vs k):=by
 unfold KV at r
 induction r with
 | nil=>exact True.intro
 | @cons p q ps qs h t ih =>
   obtain⟨h1,h2⟩:=h
   by_cases e:p.1=k
   · have e':q.1=k:=h1.symm.trans e
     have b:valueAt (q::qs) k=some q.2:=by simp[valueAt,List.find?_cons,e']
     rw[qbr e,b];exact h2
   · have e':¬q.1=k:=fun z=>e (h1.trans z)
     have b:valueAt (q::qs) k=valueAt qs k:=by simp[valueAt,List.find?_cons,e']
     rw[qbq e,b];exact ih
theorem KV.any{kvs:List (κ×V)}{vs:List (κ×Value)}(r:KV kvs vs)(k:κ):(kvs.any fun kv=>decide (kv.1=k))=vs.any fun kv=>decide (kv.1=k):=by
 unfold KV at r
 induction r with
 | nil=>rfl
 | cons h t ih=>rw[List.any_cons,List.any_cons,ih,h.1]
theorem KV.repl{kvs:List (κ×V)}{vs:List (κ×Value)}(r:KV kvs vs)(k:κ){y:V}{u:Value}(ry:RelV y u) :
  KV (kvs.map fun kv=>if kv.1=k then(kv.1,y)else kv) (vs.map fun kv=>if kv.1=k then(kv.1,u)else kv):=by
 unfold KV at r⊢
 induction r with
 | nil=>exact .nil
 | @cons p q ps qs h t ih =>
   rw[List.map_cons,List.map_cons]
   refine .cons ?_ ih
   obtain⟨h1,h2⟩:=h
   by_cases e:p.1=k
   · rw[if_pos e,if_pos (h1.symm.trans e)];exact⟨h1,ry⟩
   · rw[if_neg e,if_neg (fun z=>e (h1.trans z))];exact⟨h1,h2⟩
theorem KV.put{kvs:List (κ×V)}{vs:List (κ×Value)}(r:KV kvs vs)(k:κ){y:V}{u:Value}(ry:RelV y u):KV (putK kvs k y) (stored vs k u):=by
 unfold putK stored;rw[r.any k]
 by_cases e:(vs.any fun kv=>decide (kv.1=k))=true
 ·rw[if_pos e,if_pos e];exact r.repl k ry
 ·rw[if_neg e,if_neg e];exact Paired.snoc r ⟨rfl,ry⟩
theorem KV.length{kvs:List (κ×V)}{vs:List (κ×Value)}(r:KV kvs vs):kvs.length=vs.length:=Paired.length r
end
theorem qgE{P:Program}{w:World}{k:Key}{u:Value}(r:RelV (kV k) u):(qa2 P w).is k u=true:=by
 cases k with
 | inl i=>obtain⟨t,e⟩:=(show∃t,u=Value.int i t from r);subst e;exact mixKind_int P w i t
 | inr x=>obtain⟨t,e⟩:=(show∃t,u=Value.str x t from r);subst e;exact qaO P w x t
theorem qeH{P:Program}{w:World}:∀{ks:List Key} {us:List Value},Vals (ks.map kV) us→ItemsAre (qa2 P w) ks us
 | [],_,r=>by rw[List.map_nil]at r;cases r;exact .nil
 | k :: ks, _, r => by
   rw[List.map_cons]at r
   cases r with
   | cons h t=>exact .cons (qgE h) (qeH t)
abbrev KT(H:Hp):List (List Key×V)→List (List Key×Addr×Value)→Prop:=Paired fun p q=>p.1=q.1∧H q.2.1=some (.tup (p.1.map kV))∧RelV p.2 q.2.2
theorem KT.val{H:Hp}{kvs:List (List Key×V)}{xs:List (List Key×Addr×Value)}(r:KT H kvs xs)(k:List Key):RelO (valV kvs k) ((atKey xs k).map (·.2)):=by
 induction r with
 | nil=>exact True.intro
 | @cons p q ps qs h t ih =>
   obtain⟨h1,_,h2⟩:=h
   by_cases e:p.1=k
   · have e':q.1=k:=h1.symm.trans e
     have b:atKey (q::qs) k=some q.2:=by simp[atKey,List.find?_cons,e']
     rw[qbr e,b];exact h2
   · have e':¬q.1=k:=fun z=>e (h1.trans z)
     have b:atKey (q::qs) k=atKey qs k:=by simp[atKey,List.find?_cons,e']
     rw[qbq e,b];exact ih
theorem KT.repl{H:Hp}{kvs:List (List Key×V)}{xs:List (List Key×Addr×Value)}(r:KT H kvs xs)(k:List Key){y:V}{u:Value}(ry:RelV y u) :
  KT H (kvs.map fun kv=>if kv.1=k then(kv.1,y)else kv) (xs.map (putAt k u)):=by
 induction r with
 | nil=>exact .nil
 | @cons p q ps qs h t ih =>
   rw[List.map_cons,List.map_cons]
   refine .cons ?_ ih
   obtain⟨h1,h2,h3⟩:=h
   unfold putAt
   by_cases e:p.1=k
   · rw[if_pos e,if_pos (h1.symm.trans e)];exact⟨h1,h2,ry⟩
   · rw[if_neg e,if_neg (fun z=>e (h1.trans z))];exact⟨h1,h2,h3⟩
theorem KT.put{H:Hp}{kvs:List (List Key×V)}{xs:List (List Key×Addr×Value)}(r:KT H kvs xs)(k:List Key){b:Addr}{y:V}{u:Value}(hb:H b=some (.tup (k.map kV)))(ry:RelV y u) :
  KT H (putK kvs k y) (storedH xs k b u):=by
 have e:(kvs.any fun kv=>decide (kv.1=k))=(atKey xs k).isSome:=by
  rw[qdg,(r.val k).isSome_eq,Option.isSome_map]
 unfold putK storedH;rw[e]
 by_cases q:(atKey xs k).isSome=true
 ·rw[if_pos q,if_pos q];exact r.repl k ry
 ·rw[if_neg q,if_neg q];exact Paired.snoc r ⟨rfl,hb,ry⟩
theorem KT.keeps{H H':Hp}{kvs:List (List Key×V)}{xs:List (List Key×Addr×Value)}(r:KT H kvs xs)(ht:∀b ys,H b=some (.tup ys)→H' b=some (.tup ys)):KT H' kvs xs :=
 Paired.mapP r fun _ _ z=>⟨z.1,ht _ _ z.2.1,z.2.2⟩
section
variable{P:Program}{w:World}{H:Hp}{h:Heap}{a:Addr}
theorem qg3{u:HO}(ok:HOk P w H h)(e:Rd H a u):ObjOk P w H h a u:=e.ok ok
theorem qgW{kvs:List (Key×V)}(ok:HOk P w H h)(e:Rd H a (.dK kvs)):kvs.length≤sizeLine∧(a == sysModules)=false∧∃vs,KV kvs vs∧h.DictOf (qa2 P w) a vs :=
 show ObjOk P w H h a (.dK kvs)from qg3 ok e
theorem qg6{kvs:List (Key×V)}(ok:HOk P w H h)(e:H a=some (.dK kvs)):kvs.length≤sizeLine∧(a == sysModules)=false∧∃vs,KV kvs vs∧h.DictOf (qa2 P w) a vs:=qgW ok (.inl e)
theorem qgk{ks:List Key}(ok:HOk P w H h)(e:H a=some (.tup (ks.map kV))):(tupleKind (qa2 P w)).is h ks a:=by
 obtain⟨_,its,r,o,h1,h2,n,h3⟩:=(show ObjOk P w H h a (.tup (ks.map kV))from ok a _ e);exact⟨o,its.toArray,n,h1,h2,h3,by simpa using qeH r⟩
theorem qgY{kvs:List (List Key×V)}(ok:HOk P w H h)(e:Rd H a (.dT kvs)):kvs.length≤sizeLine∧(a == sysModules)=false ∧
  ∃xs,KT H kvs xs∧h.DictOfH (tupleKind (qa2 P w)) a xs:=by
 obtain⟨z,y,xs,r,o,es,ep,h1,h2,h3,h4,h5⟩:=(show ObjOk P w H h a (.dT kvs)from qg3 ok e);refine⟨z,y,xs,r,o,es,ep,h1,h2,h3,h4,fun x hx=>?_,h5⟩;have all:∀{l:List (List Key×V)} {m:List (List Key×Addr×Value)},KT H l m→∀x∈m,(tupleKind (qa2 P w)).is h x.1 x.2.1:=by
  intro l m q
  induction q with
  | nil=>intro x hx;exact nomatch hx
  | @cons p q ps qs hq t ih =>
    intro x hx
    rcases List.mem_cons.mp hx with e | hx
    · subst e
      exact qgk ok (by rw[←hq.1];exact hq.2.1)
    · exact ih x hx
 exact all r x hx
theorem dt_of{kvs:List (List Key×V)}(ok:HOk P w H h)(e:H a=some (.dT kvs)):kvs.length≤sizeLine∧(a == sysModules)=false ∧
  ∃xs,KT H kvs xs∧h.DictOfH (tupleKind (qa2 P w)) a xs:=qgY ok (.inl e)
end
def DGet(H:Hp)(a:Addr)(y:V)(r:Option V):Prop :=
 (∃kvs k,Rd H a (.dK kvs)∧y=kV k∧r=valV kvs k)∨∃kvs k b,Rd H a (.dT kvs)∧y=.ref b∧H b=some (.tup (k.map kV))∧r=valV kvs k
def DPut(H:Hp)(a:Addr)(y v:V)(H':Hp):Prop :=
 (∃kvs k,H a=some (.dK kvs)∧y=kV k∧kvs.length<sizeLine∧H'=upd H a (.dK (putK kvs k v))) ∨
 ∃kvs k b,H a=some (.dT kvs)∧y=.ref b∧H b=some (.tup (k.map kV))∧kvs.length<sizeLine∧H'=upd H a (.dT (putK kvs k v))
theorem DGet.k{H:Hp}{a:Addr}{kvs:List (Key×V)}{k:Key}(e:H a=some (.dK kvs)):DGet H a (kV k) (valV kvs k):=.inl ⟨kvs,k,.inl e,rfl,rfl⟩
theorem DPut.k{H:Hp}{a:Addr}{kvs:List (Key×V)}{k:Key}{v:V}(e:H a=some (.dK kvs))(hl:kvs.length<sizeLine):DPut H a (kV k) v (upd H a (.dK (putK kvs k v))):=.inl ⟨kvs,k,e,rfl,hl,rfl⟩
section
variable{X:Cx}{pins:List (Addr×Obj)}{σ:St}{H:Hp}{s:Shared}{a:Addr}{y v:V}{u r:Value}{o:Option V}{A:Around}{E:Value→Shared→Prop}
theorem Inv.big(I:Inv X pins σ H s):sysModules<s.heap.objs.size:=by
 have h:mainGlobals<s.heap.objs.size:=(I.mod.glob.keeps I.bk).lt;exact Nat.lt_trans (by decide) h
theorem d_getItem{Q:Value→Shared→Prop}(hu:A.units+1<cLine)(I:Inv X pins σ H s)(g:DGet H a y (some v))(ry:RelV y u)(h:∀w' s',Inv X pins σ H s'→RelV v w'→Q w' s') :
  wpAny (model X.prog X.w) A (getItem (.ref a) u) Q E s:=by
 rcases g with⟨kvs,k,e,ey,l⟩ | ⟨kvs,k,b,e,ey,eb,l⟩
 ·subst ey;obtain⟨z,hd,vs,rel,dd⟩:=qgW I.hok e;obtain⟨w',hw,rw'⟩:=RelO.some_of (v:=v) (o:=valueAt vs k) (by rw[l];exact rel.val k);exact wpAny_getItem_of (qgE ry) dd.mapOf hw (h w' _ (I.tok _) rw')
 ·subst ey;cases(show u=Value.ref b from ry);obtain⟨z,hd,xs,rel,dd⟩:=qgY I.hok e;obtain⟨w',hw,rw'⟩:=RelO.some_of (v:=v) (o:=(atKey xs k).map (·.2)) (by rw[l];exact rel.val k);obtain⟨p,hp,hp2⟩:=Option.map_eq_some_iff.mp hw;refine wpAny_getItem_heap (tupleKind_room_in1 hu) (qgk I.hok eb) dd hp ?_;rw[hp2];exact h w' _ (I.tok _) rw'
theorem qfd{h':Heap}{t':Nat}{ob:HO}(I:Inv X pins σ H s)(mu:Mut (H a))(hs:Heap.SameBut a s.heap h')(he:∃q,h'.get? a=some q)(new:ObjOk X.prog X.w (upd H a ob) h' a ob) :
  Inv X pins σ (upd H a ob) {s with heap:=h',toks:=t'} :=
 I.write (x:=a) (e:=a) mu (.inl rfl) (fun b q hb z=>(hs.2 b hb).trans z) he new
theorem qgJ{P:Program}{w:World}{H':Hp}{h':Heap}{kvs:List (Key×V)}{vs:List (Key×Value)}(z:kvs.length≤sizeLine)(hd:(a == sysModules)=false)(rel:KV kvs vs)(dd:h'.DictOf (qa2 P w) a vs) :
  ObjOk P w H' h' a (.dK kvs):=⟨z,hd,vs,rel,dd⟩
theorem d_setItem{H':Hp}{Q:Unit→Shared→Prop}(hu:A.units+1<cLine)(I:Inv X pins σ H s)(g:DPut H a y v H')(ry:RelV y u)(rv:RelV v r)(h:∀s',Inv X pins σ H' s'→Q () s') :
  wpAny (model X.prog X.w) A (setItem (.ref a) u r) Q E s:=by
 rcases g with⟨kvs,k,e,ey,l,eH⟩ | ⟨kvs,k,b,e,ey,eb,l,eH⟩
 ·subst ey eH;obtain⟨z,hd,vs,rel,dd⟩:=qg6 I.hok e;have hz:vs.length≤sizeLine:=by rw[←rel.length];exact z
  have hl:(putK kvs k v).length≤sizeLine:=by have:=qcc kvs k v;omega
  refine wpAny_setItem_pairs (hsz:=hz) (qgE ry) dd fun h' dd' hs=>h _ ?_
  have he:∃q,h'.get? a=some q:=let⟨q,_,_,hq,_⟩:=dd';⟨q,hq⟩;exact qfd I (by rw[e];exact True.intro) hs he (qgJ hl hd (rel.put k rv) dd')
 ·subst ey eH;cases(show u=Value.ref b from ry);obtain⟨z,hd,xs,rel,dd⟩:=dt_of I.hok e;have hz:xs.length≤sizeLine:=by rw[←Paired.length rel];exact z
  have hl:(putK kvs k v).length≤sizeLine:=by have:=qcc kvs k v;omega
  refine wpAny_setItem_heap (hsz:=hz) (tupleKind_room_in1 hu) (qgk I.hok eb) dd fun h' dd' hs=>h _ ?_
  obtain⟨q,es,ep,hq,h2,h3,h4,_,h5⟩:=dd';refine qfd I (by rw[e];exact True.intro) hs ⟨q,hq⟩ ⟨hl,hd,_,(rel.put k eb rv).keeps fun c ys ec=>?_,q,es,ep,hq,h2,h3,h4,h5⟩;rw[qau (qf0 ec e (fun z=>nomatch z))];exact ec
end
def NoSl(i:Expr):Prop:=∀ov iv,subscripted i false ov iv=operate [ov,iv] (getItem ov iv)
theorem subD_of{prog:Program}{w:World}{A:Around}{E:Value→Shared→Prop}{s:Shared}{env:Env}{value slice:Expr}{pos:Pos}{T id:String}{Q:Value→Shared→Prop}(hl:typeLookup (.type T) "__getitem__" = pure (some (.builtin id)))(hs:NoSl slice)(h:wpAny (model prog w) A (eval value env) (fun o s₁=>wpAny (model prog w) A (eval slice env) (fun i s₂=>s₂.TypeIs o T∧wpAny (model prog w) A (getItem o i) Q E s₂) E s₁) E s) :
  wpAny (model prog w) A (eval (.Subscript value slice pos) env) Q E s:=by
 refine Subscript_ (wpAny_mono h (fun o s₁ h₁=>wpAny_mono h₁ (fun i s₂ h₂=>?_) fun _ _ x=>x) fun _ _ x=>x);obtain⟨hT,h₂⟩:=h₂;unfold subscriptTail;refine wpAny_bind ?_;rw[getitemInPython_of_ne hT.not_modules];refine wpAny_bind (wpAny_specialOf hT hl ?_);have fin:wpAny (model prog w) A (subscripted slice false o i) (fun r s₃=>wpAny (model prog w) A (letTemporaryGo value o r>>=fun _=>pure r) Q E s₃) E s₂:=by
  rw[hs o i];exact wpAny_operating (wpAny_mono h₂ (fun r s₃ h₃=>wpAny_bind (wpAny_letTemporaryGo (wpAny_pure h₃))) fun _ _ x=>x)
 first
  | exact wpAny_pure (wpAny_bind fin)
  | exact wpAny_bind (wpAny_pure (wpAny_bind fin))
  | exact wpAny_bind fin
theorem dict_typeIs{X:Cx}{pins:List (Addr×Obj)}{σ:St}{H:Hp}{s:Shared}{a:Addr}{y:V}{o:Option V}(I:Inv X pins σ H s)(g:DGet H a y o):s.TypeIs (.ref a) "dict":=by
 rcases g with⟨kvs,k,e,_,_⟩ | ⟨kvs,k,b,e,_,_,_⟩
 ·obtain⟨_,_,vs,_,dd⟩:=qgW I.hok e;exact dd.typeIs
 ·obtain⟨_,_,xs,_,dd⟩:=qgY I.hok e;exact dd.typeIs
def tDGet(td ty:TE):TE:=fun σ H Q=>td σ H fun x H1=>ty σ H1 fun y H2=>∃a v,x=.ref a∧DGet H2 a y (some v)∧Q v H2
def sDPut(td ty tv:TE):TS:=fun D σ H=>tv σ H fun v H1=>td σ H1 fun x H2=>ty σ H2 fun y H3=>∃a H4,x=.ref a∧DPut H3 a y v H4∧D.nx σ H4
section
variable{X:Cx}{o i e value:Expr}{pos pos' tpos:Pos}{td ty tv:TE}
theorem pe_dget(hu:X.A.units+1<cLine)(ho:PE X o td)(hi:PE X i ty)(hs:NoSl i):PE X (.Subscript o i pos) (tDGet td ty):=by
 intro pins s σ H Q I h;refine subD_of PySem.F.slot_dict_getitem.lookup hs (thn (ho pins s σ H _ I h) fun u s1 ⟨x,H1,I1,rx,q1⟩=>thn (hi pins s1 σ H1 _ I1 q1) fun iv s2 ⟨y,H2,I2,ry,a,v,ex,g,q2⟩=>?_);subst ex;obtain rfl:u=Value.ref a:=rx;exact⟨dict_typeIs I2 g,d_getItem hu I2 g ry fun w' s3 I3 rw'=>⟨v,H2,I3,rw',q2⟩⟩
theorem ps_dput(hu:X.A.units+1<cLine)(ho:PE X o td)(hi:PE X i ty)(hv:PE X value tv)(hs:swapsWith value (some (.Subscript o i pos')) pos.line X.env=pure false) :
  PS X (.Assign [.Subscript o i pos'] value pos) (sDPut td ty tv):=by
 intro pins s σ H D I h;refine wpAny_Assign_Subscript (thn (hv pins s σ H _ I h) fun r s1 ⟨v,H1,I1,rv,q1⟩=>thn (ho pins s1 σ H1 _ I1 q1) fun u s2 ⟨x,H2,I2,rx,q2⟩=>thn (hi pins s2 σ H2 _ I2 q2) fun iv s3 ⟨y,H3,I3,ry,a,H4,ex,g,q3⟩=>?_) hs;subst ex;obtain rfl:u=Value.ref a:=rx;exact d_setItem hu I3 g ry rv fun s4 I4=>⟨σ,H4,I4,q3⟩
end
theorem dk_empty{P:Program}{w:World}{H:Hp}(h:Heap)(hb:sysModules<h.objs.size):ObjOk P w H (h.push {cls:=.type "dict",data:=.dict #[]}) h.objs.size (.dK []) :=
 ⟨Nat.zero_le _,beq_eq_false_iff_ne.mpr (Ne.symm (Nat.ne_of_lt hb)),[],.nil,Heap.DictOf.new h⟩
end L2
namespace Gd
open PySem L2 Gen
end Gd
namespace L2
open PySem PySem.Spec PyProof.Rows
end L2
namespace Gen
open PySem L2 Bk
end Gen
namespace L2
open PySem PySem.Spec PyProof.Rows
def Itd(hi:Int)(n:Nat):It:=⟨fun i _=>i<n,fun i H x H'=>H'=H∧x=.int (hi-i),fun i _=>n≤i⟩
theorem turn_down{P:Program}{w:World}{K:PySem.W.Frag}{tg:Expr}(it:Addr)(hi:Int)(n:Nat):Turn P w K tg (Itd hi n) [it] it (fun i h=>IsRangeIter h it (hi+(i:Nat)*(-1)) ((n:Int)-(i:Nat)) (-1)) where
 mem:=by simp
 obj:=fun i h st b hb=>by
  obtain rfl:b=it:=by simpa using hb
  refine⟨_,st,fun v z=>?_⟩;have z':Data.fields _=Data.cell v:=z;cases z'
 keep:=fun i h h' st k=>k it (by simp) _ st
 item:=by
  intro X hP hw hK hc i pins s σ H E I hf st hg;subst hP hw hK;obtain⟨f0,f1,f2,f3,f4,f5⟩:=hf it (by simp);refine(Walks.range (prog:=X.prog) (w:=X.w) (I.ok.hd hc) it hi (-1) n).item i s _ _ hg st fun v h' tk hv st' kk=>?_
  obtain⟨t,rfl⟩:=hv;have I1:Inv X pins σ H {s with heap:=h',toks:=tk}:=I.turned (fun b o hb e=>kk b o (by simpa using hb) e) f0 f1 f3 f4 f5;refine⟨_,rfl,qgB (s:={s with heap:=h',toks:=tk}) (n := "range_iterator") st' rfl rfl (by decide) ⟨.int (hi-i),H,I1,⟨t,?_⟩,⟨rfl,rfl⟩,st',fun b hb=>(hf b hb).1⟩⟩;rw[show hi+(i:Int)*(-1)=hi-i by omega]
 done:=by
  intro X hP hw hK hc i pins s σ H E I hf st hg;subst hP hw hK;obtain⟨f0,f1,f2,f3,f4,f5⟩:=hf it (by simp);refine wpAny_pyNext_range_end (I.ok.hd hc) st (by have z:n≤i:=hg;omega) fun h' eb=>⟨rfl,I.turned (t':=s.toks) (fun b o hb e=>eb b o hb e) f0 f1 f3 f4 f5⟩
 self:=fun _ _ _ _ _ st h=>wpAny_pyIter_rangeiter st h
theorem qeG(a b:Int):Builtin.Range.rangeSize a b (-1)=if a>b then a-b else 0:=by
 unfold Builtin.Range.rangeSize;rw[if_neg (by decide)]
 split
 ·rw[show -(-1:Int)=1 by decide,Int.ediv_one];omega
 ·rfl
theorem small_down{a b:Int}(ha:-(2 ^ 62)≤a)(ha':a<2 ^ 62)(hb:-(2 ^ 62)≤b)(hb':b<2 ^ 62):Builtin.Range.small a b (-1)=true:=by
 unfold Builtin.Range.small;rw[qeG];rw[if_neg (show¬((-1:Int)>0) by decide)];simp only[Builtin.Range.rangeFitsLong,Bool.and_eq_true,Bool.or_eq_true,decide_eq_true_eq,beq_iff_eq]
 split<;>omega
def iRngD(ta:TA):TI:=fun σ H R=>ta σ H fun vs H1=>∃i j:Int,vs=[.int i,.int j,.int (-1)]∧(-(2 ^ 62)≤i∧i<2 ^ 62∧-(2 ^ 62)≤j∧j<2 ^ 62)∧R (Itd i (i-j).toNat) H1
section
variable{X:Cx}{tg:Expr}
theorem down_it{pins:List (Addr×Obj)}{σ:St}{H:Hp}{s:Shared}{R:It→Hp→Prop}{E:Value→Shared→Prop}{lo hi:Int}{t u v:Tok}{tk:Nat}(I:Inv X pins σ H s)(h1:-(2 ^ 62)≤lo)(h2:lo<2 ^ 62)(h3:-(2 ^ 62)≤hi)(h4:hi<2 ^ 62)(q:R (Itd lo (lo-hi).toNat) H) :
  wpAny (model X.prog X.w) X.A (pyIter (.ref s.heap.objs.size)) (PIE X pins σ tg R) E {s with heap:=s.heap.push {cls:=.type "range",data:=.fields #[.int lo t,.int hi u,.int (-1) v]},toks:=tk}:=by
 refine wpAny_pyIter_range (IsRange.new ..) (small_down h1 h2 h3 h4) ?_;have I1:Inv X pins σ H {s with heap:=s.heap.push {cls:=.type "range",data:=.fields #[.int lo t,.int hi u,.int (-1) v]},toks:=tk}:=I.kept fun b o e=>Heap.get?_push_of_some _ e
 refine⟨(s.heap.push {cls:=.type "range",data:=.fields #[.int lo t,.int hi u,.int (-1) v]}).objs.size,[(s.heap.push {cls:=.type "range",data:=.fields #[.int lo t,.int hi u,.int (-1) v]}).objs.size],_,_,H,rfl,I1.kept (t':=tk) fun b o e=>Heap.get?_push_of_some _ e,turn_down _ lo (lo-hi).toNat,?_,fun b hb=>?_,q⟩
 ·have e1:lo+((0:Nat):Int)*(-1)=lo:=by simp
  have e2:(((lo-hi).toNat:Nat):Int)-((0:Nat):Int)=Builtin.Range.rangeSize lo hi (-1):=by rw[qeG];split<;>omega
  show IsRangeIter _ _ (lo+((0:Nat):Int)*(-1)) ((((lo-hi).toNat:Nat):Int)-((0:Nat):Int)) (-1);rw[e1,e2];exact Heap.get?_push_size _ rfl
 ·obtain rfl:b=(s.heap.push {cls:=.type "range",data:=.fields #[.int lo t,.int hi u,.int (-1) v]}).objs.size:=by simpa using hb
  exact I1.fpOk (Nat.le_refl _) (I1.hok.fresh (Nat.le_refl _))
theorem pi_rangeD{a b c:Expr}{ta:TA}{p pos:Pos}(hg:Gl X "range")(hm:X.mg "range" = none)(ha:PA X [a,b,c] ta)(hs:starEach [a,b,c] X.env=[(false,eval a X.env),(false,eval b X.env),(false,eval c X.env)]:=by rfl)(hs2:starEach [b,c] X.env=[(false,eval b X.env),(false,eval c X.env)]:=by rfl) :
  PI X tg (.Call (.Name "range" p) [a,b,c] [] pos) (iRngD ta):=by
 intro pins s σ H R I h;refine Call_ (qc8 I hg hm boot_range (PyProof.Rows.callWith_type1 (thn (ha pos pins s σ H _ I h) fun us s1 ⟨vs,H1,I1,r1,q1⟩=>?_) (by rw[hs,hs2]) (by rw[hs2];rfl)));obtain⟨i,j,e,⟨q1,q2,q3,q4⟩,q⟩:=q1;subst e;cases r1 with
 | cons r rr => cases rr with
   | cons r' rr => cases rr with
     | cons r'' rr =>
       cases rr
       obtain⟨t,rfl⟩:=r
       obtain⟨t',rfl⟩:=r'
       obtain⟨t'',rfl⟩:=r''
       exact call_range_3 (by decide) (down_it I1 q1 q2 q3 q4 q) (.inl (PyProof.noPylong_small (by decide)))
end
theorem for_down{hi:Int}{n:Nat}{g:TG}{tb:TS}{D:Ends}{σ:St}{H:Hp}(Pv:Nat→St→Hp→Prop)(h0:Pv 0 σ H)(hs:∀i σ H,i<n→Pv i σ H→g (.int (hi-i)) σ H fun σ2 H2=>tb {D with nx:=Pv (i+1),ct:=Pv (i+1),bk:=D.nx} σ2 H2)(hd:∀σ H,Pv n σ H→D.nx σ H) :
  ∃W:Nat→Nat→St→Hp→Prop,(∃m,W 0 m σ H)∧∀i m σ H,W i m σ H →
   ((Itd hi n).stop i H∧D.nx σ H)∨((Itd hi n).go i H∧∃N:St→Hp→Prop,(∀σ' H',N σ' H'→∃m',m'<m∧W (i+1) m' σ' H')∧∀x H',(Itd hi n).yld i H x H'→g x σ H' fun σ2 H2=>tb {D with nx:=N,ct:=N,bk:=D.nx} σ2 H2):=by
 refine⟨fun i m σ H=>m=n-i∧i≤n∧Pv i σ H,⟨n,by simp,Nat.zero_le _,h0⟩,fun i m σ H ⟨em,hi',p⟩=>?_⟩;subst em
 by_cases hlt:i<n
 ·refine .inr ⟨hlt,Pv (i+1),fun σ' H' p'=>⟨n-(i+1),by omega,rfl,hlt,p'⟩,fun x H' ⟨e,y⟩=>?_⟩;subst e y;exact hs i σ _ hlt p
 ·obtain rfl:i=n:=by omega
  exact .inl ⟨Nat.le_refl _,hd σ H p⟩
end L2
namespace L2
open PySem PySem.Spec PyProof.Rows
end L2
namespace Bk
open PySem L2 Gen
end Bk
namespace Gen
open PySem L2 Bk
def kindsAll:List Kd:=[.body,.case,.shelf,.grid,.text,.head,.picture,.aside,.note]
def spNotesA:Sp:=fun vs H Q _=>∃(s:Addr) (st:List Th) (N:Addr→Prop),vs=[.ref s]∧StAt N H s st∧(∀x∈st,PcOk x)∧st.length≤60∧∀l H',H l=none→Same H H'→H' l=some (.lst ((qaT st).map V.int))→Q (.ref l) H'
theorem rise_eq:∀{l m:List Str},l.Perm m→(l.Pairwise fun a b=>a.cps.toList<b.cps.toList)→(m.Pairwise fun a b=>a.cps.toList<b.cps.toList)→l=m
 | [],m,p,_,_=>p.nil_eq
 | x::l,[],p,_,_=>absurd p.eq_nil (by simp)
 | x :: l, y :: m, p, h1, h2 => by
   rw[List.pairwise_cons]at h1 h2
   have e:x=y:=by
     have hx:x∈y::m:=p.subset List.mem_cons_self
     have hy:y∈x::l:=p.symm.subset List.mem_cons_self
     rcases List.mem_cons.mp hx with z | hx
     · exact z
     rcases List.mem_cons.mp hy with z | hy
     · exact z.symm
     exact absurd (h1.1 y hy) (List.lt_asymm (h2.1 x hx))
   subst e
   rw[rise_eq ((List.perm_cons x).mp p) h1.2 h2.2]
end Gen
namespace Bk
open PySem L2
end Bk
namespace L2
open PySem PySem.Spec PyProof.Rows
end L2
namespace Gen
open PySem L2 Bk
end Gen
namespace Bd
open PySem L2 Bk Gen Gd
end Bd
namespace Bd
open PySem L2 Bk Gen Gd
end Bd
namespace Br
open PySem L2 Bk Gen Gd Bd
end Br
namespace L2
open PySem PySem.Spec PyProof.Rows
end L2
namespace L2
open PySem PySem.Spec PyProof.Rows
section
variable{X:Cx}
def rIndexS(K:PySem.W.Frag):V→List V→Hp→VK→Prop:=fun x vs H Q=>∃(l:Addr) (os:List Str) (y:Str) (j:Nat),x=.ref l∧vs=[.str y]∧H l=some (.lst (os.map V.str))∧os.length≤100000∧os[j]?=some y∧(∀i:Nat,i<j→os[i]?≠some y)∧Q (.int j) H
theorem mt_indexS:MtR X "list.index" (rIndexS X.K):=by
 intro pins s σ H x xs v us Q I rx rv h;obtain⟨l,os,y,j,rfl,rfl,hH,lz,hj,hlt,q⟩:=h;cases rx;obtain⟨u,rfl,ru⟩:=Vals.one rv;obtain⟨t,rfl⟩:=ru;obtain⟨z,its,n,r,hl,e⟩:=I.lstM hH;rw[List.length_map]at hl;have at':∀(i:Nat) (hi:i<its.toArray.size),∃o t',os[i]?=some o∧its.toArray[i]=.str o t':=fun i hi=>by
  have hi':i<os.length:=by rw[hl];simpa using hi
  obtain⟨w',e2,r2⟩:=r.get (i:=i) (x:=V.str os[i]) (by rw[List.getElem?_map,List.getElem?_eq_getElem hi'];rfl);obtain⟨t',e4⟩:=r2;refine⟨os[i],t',List.getElem?_eq_getElem hi',?_⟩;have e3:its.toArray[i]=w':=by
   have:=(List.getElem?_eq_some_iff.mp e2).2;simpa using this
  rw[e3,e4]
 have jl:j<its.toArray.size:=by
  have:=(List.getElem?_eq_some_iff.mp hj).1;rw[List.size_toArray];omega
 have sl:sizeLine=16777216:=by decide
 refine call_meets F.slot_list_index ⟨_,e,rfl⟩ F.entry_list_index (F.args_list_index_2 _ _)
  (PySem.SeqAt.list_indexAt l its.toArray n none #[] (.str y t) (fun w'=>match w' with | .str i _=>i == y | _=>false) j jl (by rw[List.size_toArray]at jl;omega) ?_ (fun m hm hmj=>?_)) ⟨e,fun w' hw'=>?_,⟨.int j,H,I.tok _,⟨_,rfl⟩,q⟩⟩
 ·obtain⟨o,t',eo,ev⟩:=at' j jl;rw[hj]at eo;rw[ev,←Option.some.inj eo];show(y == y)=true;simp
 ·obtain⟨o,t',eo,ev⟩:=at' m hm;rw[ev];show(o == y)=false;rw[beq_eq_false_iff_ne];exact fun z=>hlt m hmj (by rw[eo,z])
 ·obtain⟨i,hi,rfl⟩:=Array.mem_iff_getElem.mp hw';obtain⟨o,t',eo,ev⟩:=at' i hi;rw[ev];exact PySem.SeqAt.EqAt.str_str _ _ _ _
end
end L2
namespace L2
open PySem PySem.Spec PyProof.Rows
section
variable{X:Cx}
def isNo:V→Bool
 | .non=>true
 | _=>false
theorem op_inN(hu:X.A.units+64<cLine):OpR X (compareOp .In) (fun x y H Q=>∃(p:Addr) (xs:List V),x=.non∧y=.ref p∧H p=some (.lst xs)∧(∀v∈xs,v=.non∨∃a ys,v=.ref a∧H a=some (.tup ys))∧Q (.bl (xs.any isNo)) H):=by
 intro pins s σ H x y v u Q I rx ry h;obtain⟨p,xs,rfl,rfl,hp,al,q⟩:=h;cases ry;have rx:v=Value.none:=rx;subst rx;obtain⟨z,its,n,r,hl,e⟩:=I.lstM hp;have un:X.A.in1.units<cLine:=by show X.A.units+1<cLine;omega
 have each:∀{xs:List V} {us:List Value},Vals xs us→(∀v∈xs,v=.non∨∃a ys,v=.ref a∧H a=some (.tup ys))→us.any (fun w=>match w with | .none=>true | _=>false)=xs.any isNo∧∀w∈us,SeqAt.EqAt X.A.in1 s w Value.none (match w with | .none=>true | _=>false):=by
  intro xs us r
  induction r with
  | nil=>intro _;exact⟨rfl,fun w hw=>by cases hw⟩
  | @cons y w ys us ry rt ih =>
    intro al
    obtain⟨i1,i2⟩:=ih fun v hv=>al v (List.mem_cons_of_mem _ hv)
    rcases al y List.mem_cons_self with rfl | ⟨a,zs,rfl,ha⟩
    · have ry:w=Value.none:=ry
      subst ry
      refine⟨by rw[List.any_cons,List.any_cons,i1];rfl,fun w' hw'=>?_⟩
      rcases List.mem_cons.mp hw' with rfl | hw'
      · exact SeqAt.EqAt.same _
      · exact i2 w' hw'
    · have ry:w=Value.ref a:=ry.symm ▸ rfl
      subst ry
      refine⟨by rw[List.any_cons,List.any_cons,i1];rfl,fun w' hw'=>?_⟩
      rcases List.mem_cons.mp hw' with rfl | hw'
      · obtain⟨_,ws,_,ht⟩:=I.hok a _ ha
        exact SeqAt.EqAt.tuple_none ht un
      · exact i2 w' hw'
 obtain⟨e1,e2⟩:=each r al;refine SeqAt.in_listAt (fun w=>match w with | .none=>true | _=>false) (items:=its.toArray) ⟨_,e,rfl,n,rfl⟩ (fun w hw=>e2 w (by simpa using hw)) ⟨.bl _,H,I,rfl,?_⟩;rw[show its.toArray.any (fun w=>match w with | .none=>true | _=>false)=its.any (fun w=>match w with | .none=>true | _=>false) by simp,e1];exact q
end
end L2
namespace L2
open PySem PySem.Spec PyProof.Rows
section
variable{X:Cx}
theorem mt_starts:MtR X "str.startswith" (fun x xs H Q=>∃y z:Str,x=.str y∧xs=[.str z]∧Q (.bl (Txt.startswith y z)) H):=by
 intro pins s σ H x xs v us Q I rx rv h;obtain⟨y,z,rfl,rfl,q⟩:=h;obtain⟨t,rfl⟩:=rx;obtain⟨u,rfl,ru⟩:=Vals.one rv;obtain⟨t2,rfl⟩:=ru;exact PySem.SC.startswith ⟨.bl _,H,I,rfl,q⟩
theorem mt_ends:MtR X "str.endswith" (fun x xs H Q=>∃y z:Str,x=.str y∧xs=[.str z]∧Q (.bl (Txt.endswith y z)) H):=by
 intro pins s σ H x xs v us Q I rx rv h;obtain⟨y,z,rfl,rfl,q⟩:=h;obtain⟨t,rfl⟩:=rx;obtain⟨u,rfl,ru⟩:=Vals.one rv;obtain⟨t2,rfl⟩:=ru;exact PySem.SC.endswith ⟨.bl _,H,I,rfl,q⟩
theorem mt_lstripC:MtR X "str.lstrip" (fun x xs H Q=>∃y z:Str,x=.str y∧xs=[.str z]∧y.length≤sizeLine∧Q (.str (Txt.lstripChars y z)) H):=by
 intro pins s σ H x xs v us Q I rx rv h;obtain⟨y,z,rfl,rfl,l,q⟩:=h;obtain⟨t,rfl⟩:=rx;obtain⟨u,rfl,ru⟩:=Vals.one rv;obtain⟨t2,rfl⟩:=ru;exact PySem.SC.lstripChars (fun t' k=>⟨.str _,H,I.tok k,⟨_,rfl⟩,q⟩) l
end
end L2
namespace L2
open PySem PySem.Spec PyProof.Rows Builtin Builtin.Str
theorem vals_strs:∀(l:List (Str×Tok)),Vals ((l.map (·.1)).map V.str) (strValues l)
 | []=>.nil
 | (x,t)::l=>.cons ⟨t,rfl⟩ (vals_strs l)
section
variable{X:Cx}
theorem mt_split:MtR X "str.split" (fun x xs H Q=>∃y z:Str,x=.str y∧xs=[.str z]∧(z.length == 0)=false∧y.length≤sizeLine∧(partsBetween y (occurrences y z 0 y.length (y.length+1)) z.length).length≤sizeLine ∧
  ∀l,H l=none→Q (.ref l) (upd H l (.lst ((Txt.split y z).map V.str)))):=by
 intro pins s σ H x xs v us Q I rx rv h;obtain⟨y,z,rfl,rfl,hz,ly,lp,q⟩:=h;obtain⟨t,rfl⟩:=rx;obtain⟨u,rfl,ru⟩:=Vals.one rv;obtain⟨t2,rfl⟩:=ru;have one:(1:Nat)≤sizeLine:=by decide
 have fin:∀(l:List (Str×Tok)) (k:Nat),l.map (·.1)=Txt.split y z→l.length≤sizeLine→EP X pins σ Q (.ref s.heap.objs.size) {s with toks:=k,heap:=s.heap.push {cls:=.type "list",data:=.seq (strValues l).toArray}}:=fun l k e n=>by
  refine⟨.ref s.heap.objs.size,_,I.laid (t':=k) (fun b u e=>Heap.get?_push_of_some _ e) (Nat.le_refl _) (show ObjOk X.prog X.w _ _ _ (.lst ((Txt.split y z).map V.str))from⟨?_,strValues l,0,?_,Heap.get?_push_size _ rfl⟩),rfl,q _ (I.hok.fresh (Nat.le_refl _))⟩
  ·rw[List.length_map,←e,List.length_map];exact n
  ·rw[←e];exact vals_strs l
 cases h1:(decide (y.length<z.length) || decide (strKind y<strKind z))with
 | true=>exact call_meets F.slot_str_split (typeIs_str _ _ _) F.entry_str_split (F.args_str_split_2 _ _) (meets_str_split_cannot_occur y z t t2 h1) (fin [(y,t)] s.toks (by unfold Txt.split;rw[if_pos h1];rfl) one)
 | false =>
   cases hf:(occurrences y z 0 y.length (y.length+1)).isEmpty with
   | true=>exact call_meets F.slot_str_split (typeIs_str _ _ _) F.entry_str_split (F.args_str_split_2 _ _) (meets_str_split_not_found y z t t2 h1 hz hf) (fin [(y,t)] s.toks (by unfold Txt.split;rw[if_neg (by rw[h1];decide),if_pos hf];rfl) one)
   | false =>
     refine call_meets F.slot_str_split (typeIs_str _ _ _) F.entry_str_split (F.args_str_split_2 _ _) (meets_str_split_sep y z t t2 h1 hz hf ly lp) ?_
     have w:=fin (numbered s.toks (partsBetween y (occurrences y z 0 y.length (y.length+1)) z.length)) (s.toks+(partsBetween y (occurrences y z 0 y.length (y.length+1)) z.length).length) (by rw[numbered_texts];unfold Txt.split;rw[if_neg (by rw[h1];decide),if_neg (by rw[hf];decide)]) (by rw[←List.length_map (f:=(·.1)),numbered_texts];exact lp)
     rw[←strsFrom_eq]at w
     exact w
end
end L2
namespace L2
open PySem Builtin Builtin.Str
theorem qe9(x:Str)(c:Nat):Txt.startswith x ⟨#[c]⟩=decide (x.cps.toList.head?=some c):=by
 obtain⟨a⟩:=x;obtain⟨l⟩:=a;rw[Bool.eq_iff_iff,decide_eq_true_iff];unfold Txt.startswith subAt;cases l with
 | nil=>simp[Str.length]
 | cons d l =>
   simp[Str.length]
theorem ends1(x:Str)(c:Nat):Txt.endswith x ⟨#[c]⟩=decide (x.cps.toList.getLast?=some c):=by
 obtain⟨a⟩:=x;obtain⟨l⟩:=a;rw[Bool.eq_iff_iff,decide_eq_true_iff];unfold Txt.endswith subAt;rcases List.eq_nil_or_concat l with rfl | ⟨r,d,rfl⟩
 ·simp[Str.length]
 ·simp[Str.length]
end L2
namespace L2
open PySem Builtin Builtin.Str StrLaws
def posC(c:Nat):Nat→List Nat→List Nat
 | _,[]=>[]
 | a,d::r=>if d=c then a::posC c (a+1) r else posC c (a+1) r
theorem sub1{x:Str}{a d:Nat}{r:List Nat}(h:x.cps.toList.drop a=d::r)(c:Nat):subAt x ⟨#[c]⟩ a=true↔d=c:=by
 obtain⟨⟨l⟩⟩:=x;have h:l.drop a=d::r:=h;unfold subAt;have e:(({toList:=l}:Array Nat).extract a (a+(⟨#[c]⟩:Str).length))=#[d]:=by
  apply Array.ext';simp[Str.length,h]
 show(({toList:=l}:Array Nat).extract a (a+(⟨#[c]⟩:Str).length) == #[c])=true↔_;rw[e];simp
theorem qfb(x:Str)(c:Nat):∀(r:List Nat) (a:Nat) (st:Array Nat×Nat),x.cps.toList.drop a=r→a+r.length=x.length→st.2≤a→st.1.size≤a →
  (forIn (List.range' a (r.length+1)) st (occBody x ⟨#[c]⟩ x.length (x.length+1))).run.fst.toList=st.1.toList++posC c a r
 | [], a, st, h, l, h1, h2 => by
   have l:a=x.length:=l
   rw[show List.range' a (([]:List Nat).length+1)=[a]from rfl,List.forIn_cons]
   unfold occBody
   rw[if_neg (fun z=>by have z2:a+1≤x.length:=z.1.2;omega)]
   show st.1.toList=_
   rw[posC,List.append_nil]
 | d :: r, a, st, h, l, h1, h2 => by
   rw[List.length_cons]at l
   have hd:x.cps.toList.drop (a+1)=r:=by rw[←List.drop_drop,h];rfl
   rw[List.length_cons,List.range'_succ,List.forIn_cons]
   unfold occBody
   by_cases e:d=c
   · rw[if_pos ⟨⟨⟨by show st.1.size<x.length+1;omega,h1⟩,by show a+1≤x.length;omega⟩,(sub1 h c).mpr e⟩]
     show(forIn (List.range' (a+1) (r.length+1)) (st.1.push a,a+1) (occBody x ⟨#[c]⟩ x.length (x.length+1))).run.fst.toList=_
     rw[qfb x c r (a+1) (st.1.push a,a+1) hd (by omega) (Nat.le_refl _) (by show(st.1.push a).size≤a+1;rw[Array.size_push];omega),posC,if_pos e]
     simp
   · rw[if_neg (fun z=>e ((sub1 h c).mp z.2))]
     show(forIn (List.range' (a+1) (r.length+1)) st (occBody x ⟨#[c]⟩ x.length (x.length+1))).run.fst.toList=_
     rw[qfb x c r (a+1) st hd (by omega) (by omega) (by omega),posC,if_neg e]
theorem occ1(x:Str)(c:Nat):occurrences x ⟨#[c]⟩ 0 x.length (x.length+1)=posC c 0 x.cps.toList:=by
 rw[occ_eq];have h:=qfb x c x.cps.toList 0 (#[],0) rfl (by obtain⟨⟨l⟩⟩:=x;simp[Str.length]) (Nat.le_refl _) (Nat.le_refl _);rw[show x.cps.toList.length=x.length from by obtain⟨⟨l⟩⟩:=x;rfl]at h;simpa using h
end L2
namespace L2
open PySem Builtin Builtin.Str StrLaws
def pref(a:List Nat):List (List Nat)→List (List Nat)
 | []=>[a]
 | p::q=>(a++p)::q
def qbo(c:Nat):List Nat→List (List Nat)
 | []=>[[]]
 | d::r=>if d=c then[]::qbo c r else pref [d] (qbo c r)
theorem pref_pref(a b:List Nat):∀l:List (List Nat),pref a (pref b l)=pref (a++b) l
 | []=>by simp[pref]
 | p::q=>by simp[pref]
theorem qcN(c:Nat):∀l:List Nat,∃p q,qbo c l=p::q
 | []=>⟨[],[],rfl⟩
 | d :: r => by
   obtain⟨p,q,e⟩:=qcN c r
   by_cases h:d=c
   · exact⟨[],qbo c r,by rw[qbo,if_pos h]⟩
   · exact⟨d::p,q,by rw[qbo,if_neg h,e];rfl⟩
abbrev mkS(l:List Nat):Str:=⟨l.toArray⟩
theorem qd8(x:Str)(a b:Nat):strSub x a b=mkS ((x.cps.toList.drop a).take (b-a)):=by
 obtain⟨⟨l⟩⟩:=x;unfold strSub mkS
 congr 1
 apply Array.ext';simp[List.take_drop]
theorem qcK(x:Str)(c:Nat):∀(r:List Nat) (a b:Nat),a≤b→x.cps.toList.drop b=r→b+r.length=x.length →
  partsFrom x 1 a (posC c b r)=(pref ((x.cps.toList.drop a).take (b-a)) (qbo c r)).map mkS
 | [], a, b, ab, h, l => by
   have l:b=x.length:=l
   rw[posC,partsFrom,qd8,qbo,l]
   simp[pref]
 | d :: r, a, b, ab, h, l => by
   rw[List.length_cons]at l
   have hd:x.cps.toList.drop (b+1)=r:=by rw[←List.drop_drop,h];rfl
   by_cases e:d=c
   · rw[posC,if_pos e,partsFrom,qcK x c r (b+1) (b+1) (Nat.le_refl _) hd (by omega),qd8,qbo,if_pos e]
     obtain⟨p,q,eq⟩:=qcN c r
     rw[eq]
     simp[pref]
   · rw[posC,if_neg e,qcK x c r a (b+1) (by omega) hd (by omega),qbo,if_neg e,pref_pref]
     congr 2
     have e1:b+1-a=(b-a)+1:=by omega
     rw[e1,List.take_succ]
     congr 1
     rw[List.getElem?_drop,show a+(b-a)=b by omega]
     have:x.cps.toList[b]?=some d:=by
       have:=congrArg (·[0]?) h
       simpa using this
     rw[this]
     rfl
theorem qfv(c:Nat):∀{l:List Nat},c∉l→qbo c l=[l]
 | [],_=>rfl
 | d :: r, h => by
   rw[qbo,if_neg (fun e=>h (by rw[e];exact List.mem_cons_self)),qfv c (fun m=>h (List.mem_cons_of_mem _ m))]
   rfl
theorem qgl(c:Nat):∀{l:List Nat} {a:Nat},posC c a l=[]→c∉l
 | [],_,_=>by simp
 | d :: r, a, h => by
   rw[posC]at h
   by_cases e:d=c
   · rw[if_pos e]at h;cases h
   · rw[if_neg e]at h
     intro m
     rcases List.mem_cons.mp m with z | z
     · exact e z.symm
     · exact qgl c h z
theorem split_cut(x:Str)(c:Nat)(hk:¬strKind x<strKind ⟨#[c]⟩):Txt.split x ⟨#[c]⟩=(qbo c x.cps.toList).map mkS:=by
 unfold Txt.split
 have self:[x]=[x.cps.toList].map mkS:=by obtain⟨⟨l⟩⟩:=x;rfl
 by_cases h0:x.length<(⟨#[c]⟩:Str).length
 ·rw[if_pos (by simp[h0])];have:x.cps.toList=[]:=by
   have h0:x.length<1:=h0;obtain⟨⟨l⟩⟩:=x;have h0:l.length<1:=h0;exact List.eq_nil_of_length_eq_zero (by show l.length=0;omega)
  rw[self,this];rfl
 ·rw[if_neg (by simp[h0,hk]),occ1]
  by_cases h1:posC c 0 x.cps.toList=[]
  ·rw[if_pos (by rw[h1];rfl),self,qfv c (qgl c h1)]
  ·rw[if_neg (by simpa using h1),partsBetween_eq];have:=qcK x c x.cps.toList 0 0 (Nat.le_refl _) rfl (by obtain⟨⟨l⟩⟩:=x;simp[Str.length]);rw[show(⟨#[c]⟩:Str).length=1 from rfl,this];obtain⟨p,q,e⟩:=qcN c x.cps.toList;rw[e];simp[pref]
end L2
namespace L2
open PySem Builtin Builtin.Str StrLaws
theorem kind_low(x:Str){c:Nat}(h:c<256):¬Str.strKind x<Str.strKind ⟨#[c]⟩:=by
 have e:Str.strKind ⟨#[c]⟩=1:=by unfold Str.strKind;rw[if_pos (by simp[h])]
 rw[e];unfold Str.strKind
 split
 ·decide
 ·split<;>decide
theorem split_low(x:Str){c:Nat}(h:c<256):Txt.split x ⟨#[c]⟩=(qbo c x.cps.toList).map mkS:=split_cut x c (kind_low x h)
theorem qa6(p:Nat→Bool):∀l:List Nat,l.drop (l.takeWhile p).length=l.dropWhile p
 | []=>rfl
 | d :: r => by
   cases h:p d with
   | true=>simp[List.takeWhile_cons,List.dropWhile_cons,h,qa6 p r]
   | false=>simp[List.takeWhile_cons,List.dropWhile_cons,h]
theorem qe7(x:Str)(c:Nat):Txt.lstripChars x ⟨#[c]⟩=mkS (x.cps.toList.dropWhile (·== c)):=by
 have ec:(fun d=>(#[c]:Array Nat).contains d)=fun d=>d == c:=by funext d;simp[Bool.beq_eq_decide_eq]
 unfold Txt.lstripChars Txt.stripBy;show(if stripSame (fun d=>(#[c]:Array Nat).contains d) true false x then x else stripped (fun d=>(#[c]:Array Nat).contains d) true false x)=_;rw[ec];unfold stripSame stripped stripLo stripHi;rw[if_pos rfl,if_neg Bool.false_ne_true]
 by_cases h:(x.cps.toList.takeWhile fun d=>d == c).length=0
 ·rw[if_pos (by simp[h]),←qa6,h];obtain⟨⟨l⟩⟩:=x;rfl
 ·rw[if_neg (by simp[h]),qd8,←qa6]
  congr 2
  rw[List.take_of_length_le];rw[List.length_drop];obtain⟨⟨l⟩⟩:=x;exact Nat.le_refl _
end L2
namespace L2
open PySem
def qb1(n:Nat):Bool:=n == 32 || (9≤n && n≤13)
def figI(n:Nat):Option Nat :=
 if 48≤n && n≤57 then some (n-48)else if 97≤n && n≤122 then some (n-87)else if 65≤n && n≤90 then some (n-55)else none
def qgz(q:Nat)(p:Array Nat×Bool)(n:Nat):Option (Array Nat×Bool) :=
 match p with
 | (r, f) => if n == 95 then (if f then some (r, false) else none)
   else match figI n with
     | some k=>if k<q then some (r.push k,true)else none
     | none=>none
def qg0(q:Nat)(l:List Nat):Option (Array Nat):=do
 let (r,f) ← l.foldlM (qgz q) ((#[]:Array Nat),false)
 if f then some r else none
def baseI:List Nat→Option Nat
 | 48::n::_=>if n == 120 || n == 88 then some 16 else if n == 111 || n == 79 then some 8 else if n == 98 || n == 66 then some 2 else none
 | _=>none
def qdJ(w:List Nat):Bool×List Nat:=match w with
 | 45::r=>(true,r)
 | 43::r=>(false,r)
 | _=>(false,w)
def behI(w:List Nat):List Nat:=match w.drop 2 with
 | 95::r=>r
 | r=>r
def askI(q:Nat)(w:List Nat):Nat×Bool×List Nat:=match baseI w with
 | some p=>if q == 0 || q == p then(p,false,behI w)else(q,false,w)
 | none=>if q == 0 then(10,w.head? == some 48,w)else(q,false,w)
def qg2{N:Type}(no:N)(long:Nat→N)(lib:N)(val:Int→N)(m q:Nat)(l:List Nat):N :=
 match qg0 (askI q (qdJ (l.dropWhile qb1)).2).1 ((askI q (qdJ (l.dropWhile qb1)).2).2.2.reverse.dropWhile qb1).reverse with
 | none=>no
 | some ds =>
   if ![2,4,8,16,32].contains (askI q (qdJ (l.dropWhile qb1)).2).1 && m != 0 && ds.size>m then long ds.size else
   if(askI q (qdJ (l.dropWhile qb1)).2).1 == 10 && ds.size>6000 then lib else
   if(askI q (qdJ (l.dropWhile qb1)).2).2.1 && ds.foldl (fun u d=>u*(askI q (qdJ (l.dropWhile qb1)).2).1+d) 0 != 0 then no else val (if(qdJ (l.dropWhile qb1)).1 then -((ds.foldl (fun u d=>u*(askI q (qdJ (l.dropWhile qb1)).2).1+d) 0:Nat):Int)else(ds.foldl (fun u d=>u*(askI q (qdJ (l.dropWhile qb1)).2).1+d) 0:Nat))
def Fig(n:Nat):Prop:=48≤n∧n≤57
def numI(l:List Nat):Nat:=(l.map (·- 48)).foldl (fun u d=>u*10+d) 0
theorem fig_blank{n:Nat}(h:Fig n):qb1 n=false:=by
 obtain⟨h1,h2⟩:=h;unfold qb1;simp;omega
theorem fig_val{n:Nat}(h:Fig n):figI n=some (n-48):=by
 obtain⟨h1,h2⟩:=h;unfold figI;rw[if_pos (by simp;omega)]
theorem qfA{l:List Nat}(h:∀n∈l,Fig n):l.dropWhile qb1=l:=by
 cases l with
 | nil=>rfl
 | cons a r=>rw[List.dropWhile_cons,fig_blank (h a List.mem_cons_self)];rfl
theorem step_fig{a:Nat}(ha:Fig a)(r:Array Nat)(f:Bool):qgz 10 (r,f) a=some (r.push (a-48),true):=by
 have z:a≠95:=by have:=ha.2;omega
 have y:a-48<10:=by have:=ha.2;omega
 unfold qgz;simp[fig_val ha,z,y]
theorem figs_run:∀(l:List Nat) (r:Array Nat) (f:Bool),(∀n∈l,Fig n)→l.foldlM (qgz 10) (r,f)=some (r++(l.map (·- 48)).toArray,if l=[]then f else true)
 | [],r,f,_=>by simp
 | a :: l, r, f, h => by
   rw[List.foldlM_cons,step_fig (h a List.mem_cons_self)]
   show l.foldlM (qgz 10) (r.push (a-48),true)=_
   rw[figs_run l (r.push (a-48)) true fun n hn=>h n (List.mem_cons_of_mem _ hn)]
   simp
theorem figs_all{l:List Nat}(h:∀n∈l,Fig n)(ne:l≠[]):qg0 10 l=some (l.map (·- 48)).toArray:=by
 unfold qg0;rw[figs_run l #[] false h,if_neg ne];simp
theorem no_zero:∀{l:List Nat},(∀n∈l,Fig n)→l.takeWhile (fun x=>x != 0)=l
 | [],_=>rfl
 | a :: l, h => by
   have:a≠0:=by have:=(h a List.mem_cons_self).1;omega
   rw[List.takeWhile_cons,if_pos (by simp[this]),no_zero fun n hn=>h n (List.mem_cons_of_mem _ hn)]
theorem qdc{N:Type}{no:N}{long:Nat→N}{lib:N}{val:Int→N}{l:List Nat}(h:∀n∈l,Fig n)(ne:l≠[])(h0:l.head?≠some 48)(sz:l.length≤100):qg2 no long lib val 0 10 l=val (numI l:Int):=by
 have d2:(l.reverse.dropWhile qb1).reverse=l:=by rw[qfA fun n hn=>h n (List.mem_reverse.mp hn),List.reverse_reverse]
 have s1:qdJ l=(false,l):=by
  cases l with
  | nil=>exact absurd rfl ne
  | cons a r =>
    have ha:=h a List.mem_cons_self
    have z3:a≠45:=by have:=ha.1;omega
    have z4:a≠43:=by have:=ha.1;omega
    unfold qdJ;split<;>simp_all
 have h1:baseI l=none:=by
  cases l with
  | nil=>rfl
  | cons a r =>
    have z:a≠48:=fun e=>h0 (by rw[e];rfl)
    unfold baseI;split<;>simp_all
 have k1:askI 10 l=(10,false,l):=by unfold askI;rw[h1];rfl
 unfold qg2;rw[qfA h,s1];simp only[k1,d2,figs_all h ne];have l6:¬6000<l.length:=by omega
 simp[l6,numI]
theorem sno_int:typeLookup (.type "str") "__int__" = pure none:=by rw[typeLookup_type,builtinLookup_eq_fast];kernel_rfl
theorem sno_index:typeLookup (.type "str") "__index__" = pure none:=by rw[typeLookup_type,builtinLookup_eq_fast];kernel_rfl
theorem sno_trunc:typeLookup (.type "str") "__trunc__" = pure none:=by rw[typeLookup_type,builtinLookup_eq_fast];kernel_rfl
theorem meets_int(x:Str)(u:Tok)(h:∀n∈x.cps.toList,Fig n)(ne:x.cps.toList≠[])(h0:x.cps.toList.head?≠some 48)(sz:x.cps.toList.length≤100) :
  Meets (Builtin.«int.__new__» ⟨[.type "int",.str x u],[]⟩) (Made.int (numI x.cps.toList:Int)).spec :=
 Meets.of_wp fun prog w A R s hs=>by
  obtain⟨hp,g,d,tk,os⟩:=s;have f1:=F.conv_sub_int;have f2:=F.madeHere_int;have g1:=sno_int;have g2:=sno_index;have g3:=sno_trunc;have ha:x.cps.all (·< 128)=true:=by
   rw[Array.all_eq_true'];intro c hc;have:=(h c (by simpa using hc)).2;exact decide_eq_true (by omega)
  have hT:(⟨hp,g,d,tk,os⟩:Shared).TypeIs (.str x u) "str":=rfl
  repeat (any_goals (first | assumption | wp_step))
  rw[if_pos ha];have tw:=no_zero h;rw[tw,if_pos (by omega)]
  repeat (any_goals (first | assumption | wp_step))
  split
  case h_1 n hh=>exact nomatch hh.symm.trans (qdc h ne h0 sz)
  case h_2 hh=>exact nomatch hh.symm.trans (qdc h ne h0 sz)
  case h_3 i hh =>
   have e:=hh.symm.trans (qdc h ne h0 sz);injection e with e
   subst e;rw[if_pos (by simp)]
   repeat (any_goals (first | assumption | wp_step))
   all_goals first | exact⟨_,rfl,hs⟩ | skip
  case h_4 hh=>exact nomatch hh.symm.trans (qdc h ne h0 sz)
end L2
namespace L2
open PySem PySem.Spec PyProof.Rows
section
variable{X:Cx}
theorem call_intS:qcV X (.type "int") (fun xs H Q=>∃x:Str,xs=[.str x]∧(∀n∈x.cps.toList,Fig n)∧x.cps.toList≠[]∧x.cps.toList.head?≠some 48∧x.cps.toList.length≤100∧Q (.int (numI x.cps.toList:Int)) H):=by
 intro pins s σ H xs us Q I r h;obtain⟨x,rfl,h1,ne,h0,sz,q⟩:=h;obtain⟨u,rfl,rx⟩:=qdO r;obtain⟨t,rfl⟩:=rx;exact call_int_1 (meets_int x t h1 ne h0 sz) (show(Made.int (numI x.cps.toList:Int)).post _ s from⟨rfl,⟨.int _,H,I.tok _,⟨_,rfl⟩,q⟩⟩)
end
end L2
namespace Bk
open PySem L2 Gen
theorem wordB_iff{x:Str}:qcD x=true↔Word x:=by
 refine⟨fun h=>?_,qfu⟩;unfold qcD at h;rw[Bool.and_eq_true,decide_eq_true_iff,all_map]at h;exact⟨by omega,by omega,fun c hc=>of_decide_eq_true (h.2 c hc)⟩
theorem nameB_iff{x:Str}:qbW x=true↔Name x:=by
 refine⟨fun h=>?_,qfS⟩;unfold qbW at h;rw[Bool.and_eq_true,decide_eq_true_iff,all_map]at h;exact⟨by omega,by omega,fun c hc=>(qeK c).mp (of_decide_eq_true (h.2 c hc))⟩
theorem pieceB_iff{x:Th}:pieceB x=true↔PcOk x:=by
 refine⟨fun h=>?_,qe5⟩;cases x with
 | int n=>cases h
 | tri s x t =>
   cases s<;>cases x<;>first | cases h | skip
   · have h:(decide _ && qcD _)=true:=h
     rw[Bool.and_eq_true,decide_eq_true_iff,wordB_iff]at h
     exact⟨h.2,h.1⟩
   · have h:(decide _ && qbW _)=true:=h
     rw[Bool.and_eq_true,decide_eq_true_iff,nameB_iff]at h
     exact⟨h.2,h.1⟩
   · have h:(decide _ && decide _)=true:=h
     rw[Bool.and_eq_true,decide_eq_true_iff,decide_eq_true_iff]at h
     exact⟨h.1.1,h.1.2,by omega⟩
def sideB:Th→Bool
 | .int n=>decide (1≤n∧n≤2000)
 | _=>false
def qdm(st:List Th):Prop:=(∀x∈st,PcOk x)∧(∃x r,st=x::r∧isNote x=false)∧st.length≤60
def RawSt(k:Kd)(st:List Th):Prop:=(ofPieces k=true→∀x∈st,PcForm x)∧(k=.picture→∀x∈st,∃n,x=.int n)∧st.length≤500
def qec(l:List Str):Prop:=(∀m∈l,Low m∧m.length≤1000)∧l.length≤500
theorem qeY{st:List Th}(h:st.length=2):(st.map sideB).all id=true↔Stuff .picture st:=by
 match st,h with
 | [x, y], _ =>
   cases x with
   | tri s x t=>simp[sideB,Stuff]
   | int a =>
     cases y with
     | tri s x t=>simp[sideB,Stuff]
     | int b =>
       show(decide (1≤a∧a≤2000) && (decide (1≤b∧b≤2000) && true))=true↔_
       rw[Bool.and_true,Bool.and_eq_true,decide_eq_true_iff,decide_eq_true_iff]
       constructor
       · intro z
         exact⟨a,b,rfl,z.1.1,z.1.2,z.2.1,z.2.2⟩
       · rintro⟨a',b',e,z⟩
         cases e
         exact⟨⟨z.1,z.2.1⟩,z.2.2.1,z.2.2.2⟩
theorem qc5{k:Kd}{st:List Th}(h:k∈[Kd.text,.head,.note]):qdm st↔Stuff k st:=by
 rcases List.mem_cons.mp h with rfl | h
 ·exact Iff.rfl
 rcases List.mem_cons.mp h with rfl | h
 ·exact Iff.rfl
 have:k=.note:=by simpa using h
 subst this;exact Iff.rfl
theorem stuff_none{k:Kd}{st:List Th}(h1:k≠.picture)(h2:k∉[Kd.text,.head,.note]):st=[]↔Stuff k st:=by
 cases k<;>first | exact Iff.rfl | exact absurd rfl h1 | exact absurd (by decide) h2
theorem qgI{x:Str}(h:Low x):PyData.strOk x=true:=by
 show(x.cps.all fun c=>decide (c<0x110000))=true;unfold Low at h;rw[Array.all_eq_true']at h⊢;intro c hc;have:=of_decide_eq_true (h c hc);exact decide_eq_true (by omega)
end Bk
namespace Gen
open PySem L2 Bk
def spPiecesX:Sp:=fun vs H Q _=>∃(s:Addr) (st:List Th) (N:Addr→Prop),vs=[.ref s]∧StAt N H s st∧(∀x∈st,PcForm x)∧st.length≤500∧∀b H',Same H H'→(b=true↔qdm st)→Q (.bl b) H'
def spStuffX:Sp:=fun vs H Q _=>∃(k:Kd) (s:Addr) (st:List Th) (N:Addr→Prop),vs=[.str k.s,.ref s]∧StAt N H s st∧RawSt k st∧∀b H',Same H H'→(b=true↔Stuff k st)→Q (.bl b) H'
def spMayX:Sp:=fun vs H Q _=>∃e k:Kd,vs=[.str e.s,.str k.s]∧e∈kindsAll∧Q (.bl (mayHold e k)) H
end Gen
namespace L2
theorem Same.none{H H':Hp}{b:PySem.Addr}(s:Same H H')(h:H' b=.none):H b=.none:=by
 cases e:H b with
 | none=>rfl
 | some o=>rw[s b o e]at h;cases h
end L2
namespace Gen
open PySem L2 Bk
def KTup(K:PySem.W.Frag)(a:Addr)(ks:List Kd):Prop:=∀H,SqT K H a (ks.map fun k=>V.str k.s)
theorem qb5(ks:List Kd):(ks.map fun k=>V.str k.s).all flatV=true:=by
 rw[List.all_eq_true];intro x hx;obtain⟨k,_,rfl⟩:=List.mem_map.mp hx;rfl
theorem qcm(k:Kd)(ks:List Kd):inV (.str k.s) (ks.map fun k=>V.str k.s)=decide (k∈ks):=by
 unfold inV
 induction ks with
 | nil=>simp
 | cons c ks ih =>
   rw[List.map_cons,List.any_cons,ih]
   have e:eqV (V.str c.s) (V.str k.s)=decide (c=k):=by
     show(c.s == k.s)=_
     rw[Bool.eq_iff_iff]
     simp[Kd.inj]
   rw[e]
   by_cases h:c=k
   · subst h;simp
   · have h':¬k=c:=fun z=>h z.symm
     simp[h,h']
theorem qe8{α β:Type}{f:α→β}(hf:∀a b,f a=f b→a=b):∀{l m:List α},l.map f=m.map f→l=m
 | [],[],_=>rfl
 | a :: l, b :: m, h => by
   rw[List.map_cons,List.map_cons]at h
   injection h with h1 h2
   rw[hf a b h1,qe8 hf h2]
def tl1(x:Str):Str:=⟨(x.cps.toList.drop 1).toArray⟩
def labB(c:Nat)(x:Str):Bool:=decide (x.cps.toList.head?=some c) && qbW (tl1 x)
def qci(x:Str):Nat:=(x.cps.toList.takeWhile (·== 62)).length
def qaL(x:Str):List Str:=(qbo 32 (x.cps.toList.dropWhile (·== 62))).map mkS
def qaB(ws:List Str):Nat:=ws.findIdx (·== T "|")
def qaY(ws:List Str):List Str:=(ws.drop 1).take (qaB ws-1)
def qa3(ws:List Str):List Str:=ws.drop (qaB ws+1)
def qbp(ls:List Str):Bool:=match ls with | []=>false | l::_=>labB 35 l
def qbD(ls:List Str):Bool:=((if qbp ls then ls.drop 1 else ls).map (labB 46)).all id
def qcd(ls:List Str):Str:=if qbp ls then tl1 (ls.headD noName)else noName
def qbn(ls:List Str):List Str:=(ls.filter (labB 46)).map tl1
def qaF(k:Kd):Bool:=decide (k=.picture) || decide (k∈[Kd.text,.head,.note])
def qcr(x:Str):Bool:=decide (1≤x.length∧x.length≤4) && !decide (x.cps.toList.head?=some 48) && (x.cps.toList.map fun c=>decide (c∈figS.cps.toList)).all id
def qa4(x:Str):Int:=if qcr x then(numI x.cps.toList:Int)else 0
def qej(l:List Nat):List Nat:=(l.drop 1).dropLast
def thing(x:Str):List Nat:=x.cps.toList.dropWhile (·== 42)
def qbE(x:Str):Th :=
 if(thing x).head?=some 123∧(thing x).getLast?=some 125 then .tri .page (.inl (mkS (qej (thing x)))) ((x.length:Int)-(thing x).length)
 else .tri .word (.inl (mkS (thing x))) ((x.length:Int)-(thing x).length)
def qdT(n:Int):Th:=.tri .note (.inr n) 0
def qat(x:Str):Option Th:=if x=T "{}" then some (qdT 0)else if pieceB (qbE x)=true then some (qbE x)else none
open Classical in
noncomputable def qaK(k:Kd)(ws:List Str):Option (List Th) :=
 if k=.picture then(if Stuff .picture (ws.map fun x=>Th.int (qa4 x))then some (ws.map fun x=>Th.int (qa4 x))else none)
 else if(ws.map qat).any Option.isNone || (qaF k != decide (0<ws.length))then none
 else some (ws.filterMap qat)
def kindOf(x:Str):Option Kd:=kindsAll.find? fun k=>k.s == x
noncomputable def qaG(x:Str):Option Nd :=
 match kindOf ((qaL x).headD noName)with
 | none=>none
 | some k => if !qbD (qaY (qaL x)) || (!qaF k && decide (qaB (qaL x) < (qaL x).length)) then none
   else(qaK k (qa3 (qaL x))).map fun st=>⟨(qci x:Int),k,qcd (qaY (qaL x)),qbn (qaY (qaL x)),st⟩
structure RowOk(x:Str):Prop where
 low:Low x
 len:x.length≤100000
 ws:qec (qaL x)
 labs:(qaY (qaL x)).length≤60
def spLabel:Sp:=fun vs H Q _=>∃(x:Str) (c:Nat),vs=[.str x,.str ⟨#[c]⟩]∧Low x∧x.length≤1000∧∀H',Same H H'→Q (.bl (labB c x)) H'
def spHasStuff:Sp:=fun vs H Q _=>∃k:Kd,vs=[.str k.s]∧Q (.bl (qaF k)) H
def qeI(H:Hp)(l:Addr)(ls:List Str):Prop:=H l=some (.lst (ls.map V.str))∧qec ls
def spAreLabs:Sp:=fun vs H Q _=>∃(l:Addr) (ls:List Str),vs=[.ref l]∧qeI H l ls∧∀H',Same H H'→Q (.bl (qbD ls)) H'
def spNameLab:Sp:=fun vs H Q _=>∃(l:Addr) (ls:List Str),vs=[.ref l]∧qeI H l ls∧∀H',Same H H'→Q (.str (qcd ls)) H'
def spMarkLabs:Sp:=fun vs H Q _=>∃(l:Addr) (ls:List Str),vs=[.ref l]∧qeI H l ls∧∀m H',H m=none→Same H H'→H' m=some (.lst ((qbn ls).map V.str))→Q (.ref m) H'
def spReadSide:Sp:=fun vs H Q _=>∃x:Str,vs=[.str x]∧Low x∧x.length≤1000∧∀H',Same H H'→Q (.int (qa4 x)) H'
def OpAt(N:Addr→Prop)(H:Hp)(v:V):Option Th→Prop
 | none=>v=.non
 | some th=>ItAt N H v th
def spReadPiece:Sp:=fun vs H Q _=>∃x:Str,vs=[.str x]∧Low x∧x.length≤1000∧∀v H',Same H H'→OpAt (qbL H) H' v (qat x)→Q v H'
def spReadStuff:Sp:=fun vs H Q _=>∃(k:Kd) (l:Addr) (ws:List Str),vs=[.str k.s,.ref l]∧qeI H l ws∧(qaK k ws=none→∀H',Same H H'→Q .non H')∧(∀st,qaK k ws=some st→∀s H',Same H H'→StAt (qbL H) H' s st→Q (.ref s) H')
def spRowParts:Sp:=fun vs H Q _=>∃x:Str,vs=[.str x]∧RowOk x∧(qaG x=none→∀H',Same H H'→Q .non H')∧(∀d,qaG x=some d→∀a H',Same H H'→NdAt (qbL H) H' a d→Q (.ref a) H')
theorem qdn{x:Str}{l:List Nat}(lo:Low x)(h:∀n∈l,n∈x.cps.toList):Low (mkS l):=qd2 fun n hn=>by
 have hn:n∈x.cps.toList:=h n (by simpa using hn);unfold Low at lo;rw[Array.all_eq_true']at lo;exact of_decide_eq_true (lo n (by simpa using hn))
theorem qaP(x:Str):x.cps.toList.length=x.length:=by obtain⟨⟨l⟩⟩:=x;rfl
theorem qcE(l:List Nat):(mkS l).length=l.length:=rfl
theorem qfe{x:Str}(lo:Low x):Low (tl1 x):=qdn lo fun n hn=>List.mem_of_mem_drop hn
theorem qfc{x:Str}(le:x.length≤1000):(tl1 x).length≤1000:=by
 show(x.cps.toList.drop 1).toArray.size≤1000;rw[List.size_toArray,List.length_drop,qaP];omega
theorem qcl{l m:List Str}(h:qec l)(s:∀x∈m,x∈l)(le:m.length≤l.length):qec m:=⟨fun x hx=>h.1 x (s x hx),Nat.le_trans le h.2⟩
theorem qcb{xs:List V}(n:Nat):cutV xs (some (n:Int)) none=xs.drop n:=by
 unfold cutV;rw[HT.sIx_none,HT.sIx_nat]
 by_cases h:n≤xs.length
 ·rw[Nat.min_eq_left h,List.take_of_length_le (by rw[List.length_drop];omega)]
 ·rw[Nat.min_eq_right (by omega),List.drop_of_length_le (Nat.le_refl _),List.drop_of_length_le (by omega)];simp
theorem qfM{xs:List V}(n:Nat):cutV xs none (some (n:Int))=xs.take n:=by
 unfold cutV;rw[HT.sIx_none,HT.sIx_nat];rw[Nat.sub_zero,List.drop_zero]
 by_cases h:n≤xs.length
 ·rw[Nat.min_eq_left h]
 ·rw[Nat.min_eq_right (by omega),List.take_of_length_le (Nat.le_refl _),List.take_of_length_le (by omega)]
theorem cut_mid{xs:List V}(a b:Nat)(h:b≤xs.length)(ha:a≤xs.length):cutV xs (some (a:Int)) (some (b:Int))=(xs.drop a).take (b-a):=by
 unfold cutV;rw[HT.sIx_nat,HT.sIx_nat,Nat.min_eq_left h,Nat.min_eq_left ha]
theorem qfI{x:Str}(h:1≤x.length):Txt.slice x (some 1) (some (-1))=mkS (qej x.cps.toList):=by
 obtain⟨⟨l⟩⟩:=x
 match l,h with
 | [a],_=>rfl
 | a :: b :: l, _ =>
   show StrLaws.sliceText _ (some 1) (some (-1))=_
   rw[StrLaws.sliceText_neg_hi _ _ (by decide) (by show -(((a::b::l).length:Nat):Int)≤-1;simp;omega),StrLaws.sliceText_plain ⟨by decide,by show(1:Int)≤-1+(((a::b::l).length:Nat):Int);simp;omega,by show -1+(((a::b::l).length:Nat):Int)≤_;simp;omega⟩]
   show(⟨(((a::b::l).drop 1).take (-1+(((a::b::l).length:Nat):Int)-1).toNat).toArray⟩:Str)=mkS ((b::l).dropLast)
   rw[show(-1+(((a::b::l).length:Nat):Int)-1).toNat=(b::l).length-1 by simp;omega,List.dropLast_eq_take]
   rfl
theorem qbc(p:Nat→Bool)(l:List Nat):(l.dropWhile p).length≤l.length:=(List.dropWhile_suffix p).sublist.length_le
theorem qdI(p:Nat→Bool)(l:List Nat):l.length-(l.dropWhile p).length=(l.takeWhile p).length:=by
 have:=congrArg List.length (List.takeWhile_append_dropWhile (p:=p) (l:=l));rw[List.length_append]at this;omega
theorem qge(c:Nat):∀l:List Nat,(qbo c l).length≤l.length+1
 | []=>by simp[qbo]
 | d :: r => by
   have:=qge c r
   rw[qbo]
   by_cases e:d=c
   · rw[if_pos e,List.length_cons,List.length_cons];omega
   · rw[if_neg e]
     obtain⟨p,q,eq⟩:=qcN c r
     rw[eq]at this⊢
     rw[pref,List.length_cons,List.length_cons]at *
     omega
open Builtin Builtin.Str StrLaws in
theorem qeL{X:Cx}:MtR X "str.split" (fun x xs H Q=>∃(y:Str) (c:Nat),x=.str y∧xs=[.str ⟨#[c]⟩]∧c<256∧y.length≤100000∧∀l,H l=none→Q (.ref l) (upd H l (.lst (((qbo c y.cps.toList).map mkS).map V.str)))):=by
 intro pins s σ H x xs v us Q I rx rv h;obtain⟨y,c,rfl,rfl,hc,hy,q⟩:=h;refine mt_split pins s σ H _ _ v us Q I rx rv ⟨y,⟨#[c]⟩,rfl,rfl,rfl,Nat.le_trans hy (by decide),?_,fun l hl=>?_⟩
 ·rw[occ1,partsBetween_eq,show(⟨#[c]⟩:Str).length=1 from rfl,qcK y c y.cps.toList 0 0 (Nat.le_refl _) rfl (by rw[qaP];simp),List.length_map];obtain⟨p,q',e⟩:=qcN c y.cps.toList;have:=qge c y.cps.toList;rw[qaP]at this;rw[e]at this⊢;rw[pref,List.length_cons]at *;exact Nat.le_trans this (Nat.le_trans (Nat.succ_le_succ hy) (by decide))
 ·rw[split_low y hc];exact q l hl
theorem qgp(ws:List Str):qaB ws≤ws.length:=List.findIdx_le_length
theorem qfz{ws:List Str}(h:T "|" ∈ ws):ws[qaB ws]?=some (T "|")∧(∀i:Nat,i<qaB ws→ws[i]?≠some (T "|")):=by
 unfold qaB;have hl:ws.findIdx (·== T "|")<ws.length:=List.findIdx_lt_length_of_exists ⟨_,h,by simp⟩;refine⟨?_,fun i hi e=>?_⟩
 ·rw[List.getElem?_eq_getElem hl];have:=List.findIdx_getElem (w:=hl);simpa using this
 ·have hi':i<ws.length:=Nat.lt_trans hi hl;have:=List.not_of_lt_findIdx hi;rw[List.getElem?_eq_getElem hi']at e;have e:ws[i]=T "|":=Option.some.inj e;rw[e]at this;simp at this
theorem qe6{ws:List Str}(h:T "|" ∉ ws):qaB ws=ws.length:=by
 unfold qaB;rw[List.findIdx_eq_length];intro x hx;rw[beq_eq_false_iff_ne];rintro rfl;exact h hx
theorem qga{n:Nat}(h:n∈figS.cps.toList):Fig n:=by
 have all:∀n∈figS.cps.toList,48≤n∧n≤57:=by decide +kernel
 exact all n h
theorem sg_hash:T "#" = ⟨#[35]⟩:=by decide +kernel
theorem sg_dot:T "." = ⟨#[46]⟩:=by decide +kernel
theorem sg_gt:T ">" = ⟨#[62]⟩:=by decide +kernel
theorem sg_sp:T " " = ⟨#[32]⟩:=by decide +kernel
theorem sg_star:T "*" = ⟨#[42]⟩:=by decide +kernel
theorem sg_open:T "{" = ⟨#[123]⟩:=by decide +kernel
theorem sg_close:T "}" = ⟨#[125]⟩:=by decide +kernel
theorem sg_zero:T "0" = ⟨#[48]⟩:=by decide +kernel
theorem qeW{x:Str}(h:1≤x.length):Txt.slice x (some 1) none=tl1 x:=qd5 (j:=1) (by decide) (by omega)
theorem qf3{c:Nat}{x:Str}(h:labB c x=true):1≤x.length:=by
 unfold labB at h;rw[Bool.and_eq_true,decide_eq_true_iff]at h;have h:=h.1;rw[←qaP];cases e:x.cps.toList with
 | nil=>rw[e]at h;cases h
 | cons a r=>simp
theorem qbU{x:Str}{k:Kd}(h:kindOf x=some k):k.s=x∧k∈kindsAll:=by
 unfold kindOf at h;have h1:=List.find?_some h;exact⟨by simpa using h1,List.mem_of_find?_eq_some h⟩
theorem kindOf_in(x:Str):decide (x∈kindsAll.map Kd.s)=(kindOf x).isSome:=by
 unfold kindOf;rw[Bool.eq_iff_iff,decide_eq_true_iff,List.find?_isSome,List.mem_map];simp
theorem qel{c n:Nat}:∀{l w:List Nat},w∈qbo c l→n∈w→n∈l
 | [], w, h, hn => by
   have:w=[]:=by simpa[qbo]using h
   subst this
   cases hn
 | d :: r, w, h, hn => by
   rw[qbo]at h
   by_cases e:d=c
   · rw[if_pos e]at h
     rcases List.mem_cons.mp h with rfl | h
     · cases hn
     · exact List.mem_cons_of_mem _ (qel h hn)
   · rw[if_neg e]at h
     obtain⟨p,q,eq⟩:=qcN c r
     rw[eq,pref]at h
     rcases List.mem_cons.mp h with rfl | h
     · rcases List.mem_append.mp hn with z | z
       · have:n=d:=by simpa using z
         rw[this];exact List.mem_cons_self
       · exact List.mem_cons_of_mem _ (qel (by rw[eq];exact List.mem_cons_self) z)
     · exact List.mem_cons_of_mem _ (qel (by rw[eq];exact List.mem_cons_of_mem _ h) hn)
theorem qbY{c:Nat}:∀{l w:List Nat},w∈qbo c l→w.length≤l.length
 | [], w, h => by
   have:w=[]:=by simpa[qbo]using h
   subst this
   simp
 | d :: r, w, h => by
   rw[qbo]at h
   rw[List.length_cons]
   by_cases e:d=c
   · rw[if_pos e]at h
     rcases List.mem_cons.mp h with rfl | h
     · simp
     · exact Nat.le_succ_of_le (qbY h)
   · rw[if_neg e]at h
     obtain⟨p,q,eq⟩:=qcN c r
     rw[eq,pref]at h
     rcases List.mem_cons.mp h with rfl | h
     · have:=qbY (c:=c) (l:=r) (w:=p) (by rw[eq];exact List.mem_cons_self)
       rw[List.length_append,List.length_singleton]
       omega
     · exact Nat.le_succ_of_le (qbY (by rw[eq];exact List.mem_cons_of_mem _ h))
theorem qe2(c:Nat):∀l:List Nat,(qbo c l).length=l.count c+1
 | []=>by simp[qbo]
 | d :: r => by
   have:=qe2 c r
   rw[qbo]
   by_cases e:d=c
   · rw[if_pos e,List.length_cons,this,e,List.count_cons_self]
   · rw[if_neg e,List.count_cons_of_ne (by simpa using e)]
     obtain⟨p,q,eq⟩:=qcN c r
     rw[eq]at this⊢
     rw[pref,List.length_cons]at *
     exact this
theorem rowOk_of{x:Str}(lo:Low x)(le:x.length≤1000)(sp:x.cps.toList.count 32≤59):RowOk x:=by
 have hc:=qe2 32 (x.cps.toList.dropWhile (·== 62));have hs:(x.cps.toList.dropWhile (·== 62)).count 32≤x.cps.toList.count 32:=(List.dropWhile_suffix _).sublist.count_le _;have hd:=qbc (·== 62) x.cps.toList;rw[qaP]at hd;have lw:(qaL x).length≤60:=by
  unfold qaL;rw[List.length_map];omega
 refine⟨lo,by omega,⟨fun w hw=>?_,by omega⟩,?_⟩
 ·obtain⟨l,hl,rfl⟩:=List.mem_map.mp hw;refine⟨qdn lo fun n hn=>?_,?_⟩
  ·exact(List.dropWhile_suffix _).subset (qel hl hn)
  ·rw[qcE];have:=qbY hl;omega
 ·unfold qaY;rw[List.length_take,List.length_drop];omega
theorem qfP(x:Str):1≤(qaL x).length:=by
 unfold qaL;obtain⟨p,q,e⟩:=qcN 32 (x.cps.toList.dropWhile (·== 62));rw[e];simp
theorem qdW{α β γ:Type}{F:β→γ→Prop}{f:α→β}{g:α→γ}:∀{l:List α},(∀x∈l,F (f x) (g x))→Paired F (l.map f) (l.map g)
 | [],_=>.nil
 | x::r,h=>.cons (h x List.mem_cons_self) (qdW fun y hy=>h y (List.mem_cons_of_mem _ hy))
theorem OpAt.same{N:Addr→Prop}{H H':Hp}{v:V}{o:Option Th}(h:OpAt N H v o)(s:Same H H'):OpAt N H' v o:=by
 cases o with
 | none=>exact h
 | some t=>exact ItAt.keep (N:=N) (N':=N) h s.keep fun _ n _=>n
theorem OpAt.sub{H0 H H':Hp}{v:V}{o:Option Th}(h:OpAt (qbL H) H' v o)(s:Same H0 H):OpAt (qbL H0) H' v o:=by
 cases o with
 | none=>exact h
 | some t=>exact ItAt.keep (N:=qbL H) (N':=qbL H0) h KeepN.refl fun b n _=>s.none n
theorem read_tri(x:Str):∀t,qat x=some t→∃s y n,t=.tri s y n:=by
 intro t h;unfold qat at h
 by_cases e:x=T "{}"
 ·rw[if_pos e]at h;cases h;exact⟨_,_,_,rfl⟩
 ·rw[if_neg e]at h
  by_cases e2:pieceB (qbE x)=true
  ·rw[if_pos e2]at h;cases h;unfold qbE
   split<;>exact⟨_,_,_,rfl⟩
  ·rw[if_neg e2]at h;cases h
section
variable{N:Addr→Prop}{H:Hp}{vs:List V}{os:List (Option Th)}
theorem op_kinds(p:Paired (OpAt N H) vs os):(∀o∈os,∀t,o=some t→∃s y n,t=.tri s y n)→∀v∈vs,v=.non∨∃a ys,v=.ref a∧H a=some (.tup ys):=by
 induction p with
 | nil=>intro _ v hv;cases hv
 | @cons v o vs os q t ih =>
   intro h u hu
   rcases List.mem_cons.mp hu with rfl | hu
   · cases o with
     | none=>exact .inl q
     | some th =>
       obtain⟨s,y,n,rfl⟩:=h _ List.mem_cons_self th rfl
       obtain⟨a,e,_,g⟩:=q
       exact .inr ⟨a,_,e,g⟩
   · exact ih (fun o ho=>h o (List.mem_cons_of_mem _ ho)) u hu
theorem op_any(p:Paired (OpAt N H) vs os):vs.any isNo=os.any Option.isNone:=by
 induction p with
 | nil=>rfl
 | @cons v o vs os q t ih =>
   rw[List.any_cons,List.any_cons,ih]
   congr 1
   cases o with
   | none=>rw[show v=.non from q];rfl
   | some th =>
     cases th with
     | int n=>rw[show v=.int n from q];rfl
     | tri s y n =>
       obtain⟨a,e,_⟩:=q
       rw[e];rfl
theorem op_all(p:Paired (OpAt N H) vs os):os.any Option.isNone=false→Paired (ItAt N H) vs (os.filterMap id):=by
 induction p with
 | nil=>intro _;exact .nil
 | @cons v o vs os q t ih =>
   intro h
   rw[List.any_cons,Bool.or_eq_false_iff]at h
   cases o with
   | none=>cases h.1
   | some th=>exact .cons q (ih h.2)
end
end Gen
namespace K08
open PySem L2 Bk Gen
abbrev sIsLabel:Stmt:=top 61
abbrev sHasStuff:Stmt:=top 59
abbrev sAreLabels:Stmt:=top 60
abbrev sNameLabel:Stmt:=top 62
abbrev sMarkLabels:Stmt:=top 63
abbrev sReadSide:Stmt:=top 65
section
variable{P:Program}{w:World}{K:PySem.W.Frag}{mg:Str→Option Value}{base:Heap}
theorem scIsLabel:FnScope ["label", "sign"] ["label", "sign"] (qag sIsLabel):=⟨rfl,rfl,rfl,by decide +kernel,rfl,by decide +kernel,by decide +kernel⟩
theorem ok_is_label{f:Addr}{fd:FuncData}(F:Fun K "is_label" "is_label" sIsLabel f fd)(F_is_name:Fx P w K mg base CX0 1 "is_name" ["value"] spNameB):FnOk P w K mg base CX0 2 f fd ["label", "sign"] spLabel:=by
 refine F.ok scIsLabel (fun vs H Q E h=>?_) (fun cdv A outer s H vs Q E hr h=>?_)
 ·obtain⟨x,c,rfl,_⟩:=h;rfl
 ·obtain⟨x,c,rfl,lo,le,q⟩:=h;have hr_is_name:=hr;refine⟨_,(qae (qak (qbu (qbk PySem.F.plainAttrs_str PySem.F.slot_str_startswith PySem.F.type_str_startswith mt_starts (pv 0) (qaa (pv 1) pa_nil)) (qbS (qar F_is_name hr_is_name (by rfl) qas (qaa (qav sl_str (pv 0) (qaz qaf) po_none) pa_nil)))))),?_⟩;refine⟨_,rfl,rfl,_,rfl,x,⟨#[c]⟩,rfl,rfl,_,rfl,?_⟩;rw[qe9]
  by_cases hs:x.cps.toList.head?=some c
  rotate_left
  ·rw[decide_eq_false hs];refine iteF ?_;have e:labB c x=false:=by unfold labB;rw[decide_eq_false hs];rfl
   have:=q H (Same.refl H);rw[e]at this;exact this
  rw[decide_eq_true hs];refine iteT ⟨_,rfl,1,rfl,?_⟩;have l1:1≤x.length:=by
   rw[←qaP];cases e:x.cps.toList with
   | nil=>rw[e]at hs;cases hs
   | cons a r=>simp
  refine⟨x,rfl,Nat.le_of_lt (qaC le),tl1 x,by rw[qeW l1];rfl,qfe lo,qfc le,fun H' s'=>?_⟩;have e:labB c x=qbW (tl1 x):=by unfold labB;rw[decide_eq_true hs];rfl
  rw[←e];exact q H' s'
theorem scHasStuff:FnScope ["kind"] ["kind"] (qag sHasStuff):=⟨rfl,rfl,rfl,by decide +kernel,rfl,by decide +kernel,by decide +kernel⟩
theorem ok_has_stuff{f a_KINDS_OF_PIECES:Addr}{fd:FuncData}(F:Fun K "has_stuff" "has_stuff" sHasStuff f fd)(g_KINDS_OF_PIECES:mg "KINDS_OF_PIECES" = some (.ref a_KINDS_OF_PIECES))(KP:KTup K a_KINDS_OF_PIECES [.text,.head,.note]):FnOk P w K mg base CX0 1 f fd ["kind"] spHasStuff:=by
 refine F.ok scHasStuff (fun vs H Q E h=>?_) (fun cdv A outer s H vs Q E hr h=>?_)
 ·obtain⟨k,rfl,_⟩:=h;rfl
 ·obtain⟨k,rfl,q⟩:=h;refine⟨_,(qae (qak (qgF (qaI op_eq (pv 0) qah (qam _)) (qbS (qaI op_in_seq (pv 0) (qai (v:=.ref a_KINDS_OF_PIECES) (by rfl) g_KINDS_OF_PIECES rfl) (by with_unfolding_all rfl)))))),?_⟩;refine⟨_,rfl,rfl,_,rfl,?_⟩;rw[show decide (V.str k.s=V.str (Str.ofString "picture"))=decide (k=.picture)from kdt k .picture]
  by_cases hk:k=.picture
  ·rw[decide_eq_true hk];unfold qaF at q;rw[decide_eq_true hk]at q;exact iteT q
  ·rw[decide_eq_false hk];unfold qaF at q;rw[decide_eq_false hk]at q;refine iteF ⟨_,rfl,a_KINDS_OF_PIECES,_,rfl,.inr (KP H),rfl,qb5 _,?_⟩;rw[if_neg Bool.false_ne_true,qcm];exact q
theorem scAreLabels:FnScope ["labels", "marks"] ["labels"] (qag sAreLabels):=⟨rfl,rfl,rfl,by decide +kernel,rfl,by decide +kernel,by decide +kernel⟩
theorem ok_are_labels{f:Addr}{fd:FuncData}(F:Fun K "are_labels" "are_labels" sAreLabels f fd)(T:Bn mg)(F_is_label:Fx P w K mg base CX0 2 "is_label" ["label", "sign"] spLabel):FnOk P w K mg base CX0 3 f fd ["labels"] spAreLabs:=by
 refine F.ok scAreLabels (fun vs H Q E h=>?_) (fun cdv A outer s H vs Q E hr h=>?_)
 ·obtain⟨l,ls,rfl,_⟩:=h;rfl
 ·obtain⟨l,ls,rfl,⟨hl,rk⟩,q⟩:=h;have hr_is_label:=hr;refine⟨_,(qac (qan (i:=1) scAreLabels.nd (by rfl) (by trivial) (pv 0))
   (qac (qaH (PW.pt (qcg (qaj op_gt (qal call_len_seq (by rfl) T.len b_len (qaa (pv 0) pa_nil)) qaf (qam _)) (qbG (qaW (qar F_is_label hr_is_label (by rfl) qas (qaa (qap ix_list (pv 0) qaf (fun _ _=>rfl)) (qaa qah pa_nil))))))) (qae (qan (i:=1) scAreLabels.nd (by rfl) (by trivial) (qav sl_list (pv 0) (qaz qaf) po_none))) pss_nil)
   (qae (qak (qal (qcy (by rfl)) (by rfl) T.all b_all (qaa (qbh (own:=["label"]) (by rfl) (CompScope.plain (by rfl) (by decide +kernel) (by decide +kernel) (by decide +kernel)) (qbg (pv 1)) (fun cl C s2 H2 fp=>(qax (i:=0) (by show(["label"]:List Str).Nodup;decide +kernel) (by rfl) (by trivial) (by trivial))) (fun cl C s2 H2 fp=>qbC) (fun cl C s2 H2 fp=>(qar F_is_label hr_is_label (by rfl) qas (qaa (pv 0) (qaa qah pa_nil))))) pa_nil)))))),?_⟩
  refine⟨_,rfl,?_⟩;dsimp only[tNext];refine qaN (fun σ' H'=>∃m,σ'=[some (.ref l),some (.ref m)]∧Same H H'∧qeI H' m (if qbp ls then ls.drop 1 else ls)) (fun D' k=>?_) ?_
  ·refine⟨_,rfl,l,_,rfl,.inl (SqL.of hl),_,_,rfl,rfl,_,rfl,?_⟩;cases ls with
   | nil=>exact iteF (iteF (k _ _ ⟨l,rfl,Same.refl H,hl,rk⟩))
   | cons x r =>
     rw[decide_eq_true (by simp:(0:Int)<((((x::r).map V.str).length:Nat):Int))]
     have hx:=rk.1 x List.mem_cons_self
     refine iteT ⟨_,rfl,l,_,_,_,rfl,rfl,SqL.of hl,(qbf (j:=0) rfl),x,35,by rw[←sg_hash];rfl,hx.1,hx.2,fun H2 s2=>⟨_,rfl,?_⟩⟩
     show if labB 35 x=true then _ else _
     cases e:labB 35 x with
     | false=>exact iteF (k _ _ ⟨l,rfl,s2,by rw[show qbp (x::r)=labB 35 x from rfl,e];exact⟨s2 _ _ hl,rk⟩⟩)
     | true =>
       refine iteT ⟨_,rfl,1,rfl,l,_,rfl,SqL.of (s2 _ _ hl),fun p hp=>k _ _ ⟨p,rfl,s2.trans (qad hp _),?_⟩⟩
       rw[show qbp (x::r)=labB 35 x from rfl,e]
       refine⟨?_,qcl rk (fun y hy=>List.mem_cons_of_mem _ hy) (by simp)⟩
       rw[qab]
       exact congrArg (fun z=>some (HO.lst z)) (qcb 1)
  rintro σ1 H1 ⟨m,rfl,s1,hm,rm⟩;unfold qbD at q;generalize (if qbp ls then ls.drop 1 else ls)=ms at hm rm q;have zl:(ms.map V.str).length<sizeLine:=by rw[List.length_map];exact qaC (Nat.le_trans rm.2 (by decide))
  refine⟨_,rfl,m,rfl,⟨_,SqL.of hm⟩,qaZ (fun i ys σ' H'=>Same H1 H'∧ys=((ms.take i).map (labB 46)).map V.bl∧∃z,σ'=[z]) zl ⟨Same.refl H1,rfl,none,rfl⟩ ?_ ?_ ?_⟩
  ·rintro i ys σ' H' hi ⟨s2,rfl,_⟩;exact⟨SqL.of (s2 _ _ hm),by simp;omega⟩
  ·rintro i x ys σ' H' hx ⟨s2,rfl,z,rfl⟩;rw[List.getElem?_map]at hx;cases e:ms[i]? with
   | none=>rw[e]at hx;cases hx
   | some nm =>
     rw[e]at hx
     cases hx
     have hn:=rm.1 nm (List.mem_of_getElem? e)
     refine⟨_,rfl,nm,46,by rw[←sg_dot];rfl,hn.1,hn.2,fun H3 s3=>⟨s2.trans s3,?_,_,rfl⟩⟩
     rw[List.take_succ,e,Option.toList_some,List.map_append,List.map_append]
     rfl
  ·rintro ys σ' H' ⟨s2,rfl,_⟩ D hD;rw[List.length_map,List.take_length];exact⟨D,_,rfl,SqL.of qab,q _ ((s1.trans s2).trans (qad hD _))⟩
theorem scNameLabel:FnScope ["labels"] ["labels"] (qag sNameLabel):=⟨rfl,rfl,rfl,by decide +kernel,rfl,by decide +kernel,by decide +kernel⟩
theorem ok_name_label{f:Addr}{fd:FuncData}(F:Fun K "name_label" "name_label" sNameLabel f fd)(T:Bn mg)(F_is_label:Fx P w K mg base CX0 2 "is_label" ["label", "sign"] spLabel):FnOk P w K mg base CX0 3 f fd ["labels"] spNameLab:=by
 refine F.ok scNameLabel (fun vs H Q E h=>?_) (fun cdv A outer s H vs Q E hr h=>?_)
 ·obtain⟨l,ls,rfl,_⟩:=h;rfl
 ·obtain⟨l,ls,rfl,⟨hl,rk⟩,q⟩:=h;have hr_is_label:=hr;refine⟨_,(qac (qaH (PW.pt (qcg (qaj op_gt (qal call_len_seq (by rfl) T.len b_len (qaa (pv 0) pa_nil)) qaf (qam _)) (qbG (qaW (qar F_is_label hr_is_label (by rfl) qas (qaa (qap ix_list (pv 0) qaf (fun _ _=>rfl)) (qaa qah pa_nil))))))) (qae (qak (qav sl_str (qap ix_list (pv 0) qaf (fun _ _=>rfl)) (qaz qaf) po_none))) pss_nil)
   (qae (qak qah))),?_⟩
  refine⟨_,rfl,l,_,rfl,.inl (SqL.of hl),_,_,rfl,rfl,_,rfl,?_⟩;cases ls with
  | nil=>exact iteF (iteF (q H (Same.refl H)))
  | cons x r =>
    rw[decide_eq_true (by simp:(0:Int)<((((x::r).map V.str).length:Nat):Int))]
    have hx:=rk.1 x List.mem_cons_self
    refine iteT ⟨_,rfl,l,_,_,_,rfl,rfl,SqL.of hl,(qbf (j:=0) rfl),x,35,by rw[←sg_hash];rfl,hx.1,hx.2,fun H2 s2=>⟨_,rfl,?_⟩⟩
    have q2:=q H2 s2
    unfold qcd at q2
    rw[show qbp (x::r)=labB 35 x from rfl]at q2
    cases e:labB 35 x with
    | false =>
      rw[e]at q2
      exact iteF q2
    | true =>
      rw[e]at q2
      refine iteT ⟨_,rfl,l,_,_,_,rfl,rfl,SqL.of (s2 _ _ hl),(qbf (j:=0) rfl),1,rfl,x,rfl,Nat.le_of_lt (qaC hx.2),?_⟩
      rw[qeW (qf3 e)]
      exact q2
theorem scMarkLabels:FnScope ["labels"] ["labels"] (qag sMarkLabels):=⟨rfl,rfl,rfl,by decide +kernel,rfl,by decide +kernel,by decide +kernel⟩
theorem ok_mark_labels{f:Addr}{fd:FuncData}(F:Fun K "mark_labels" "mark_labels" sMarkLabels f fd)(F_is_label:Fx P w K mg base CX0 2 "is_label" ["label", "sign"] spLabel):FnOk P w K mg base CX0 3 f fd ["labels"] spMarkLabs:=by
 refine F.ok scMarkLabels (fun vs H Q E h=>?_) (fun cdv A outer s H vs Q E hr h=>?_)
 ·obtain⟨l,ls,rfl,_⟩:=h;rfl
 ·obtain⟨l,ls,rfl,⟨hl,rk⟩,q⟩:=h;have hr_is_label:=hr;have zl:(ls.map V.str).length<sizeLine:=by rw[List.length_map];exact qaC (Nat.le_trans rk.2 (by decide))
  refine⟨_,(qae (qak (qbh (own:=["label"]) (by rfl) (CompScope.plain (by rfl) (by decide +kernel) (by decide +kernel) (by decide +kernel)) (qbg (pv 0)) (fun cl C s2 H2 fp=>(qax (i:=0) (by show(["label"]:List Str).Nodup;decide +kernel) (by rfl) (by trivial) (by trivial))) (fun cl C s2 H2 fp=>(qb3 (qaW (qar F_is_label hr_is_label (by rfl) qas (qaa (pv 0) (qaa qah pa_nil)))))) (fun cl C s2 H2 fp=>(qav sl_str (pv 0) (qaz qaf) po_none))))),?_⟩;refine⟨_,rfl,l,rfl,⟨_,SqL.of hl⟩,qaZ (fun i ys σ' H'=>Same H H'∧ys=(qbn (ls.take i)).map V.str∧∃z,σ'=[z]) zl ⟨Same.refl H,rfl,none,rfl⟩ ?_ ?_ ?_⟩
  ·rintro i ys σ' H' hi ⟨s1,rfl,_⟩;refine⟨SqL.of (s1 _ _ hl),?_⟩;unfold qbn;rw[List.length_map,List.length_map];exact Nat.le_trans (List.length_filter_le ..) (by rw[List.length_take];omega)
  ·rintro i x ys σ' H' hx ⟨s1,rfl,z,rfl⟩;rw[List.getElem?_map]at hx;cases e:ls[i]? with
   | none=>rw[e]at hx;cases hx
   | some nm =>
     rw[e]at hx
     cases hx
     have hn:=rk.1 nm (List.mem_of_getElem? e)
     have et:ls.take (i+1)=ls.take i++[nm]:=by rw[List.take_succ,e];rfl
     refine⟨_,rfl,nm,46,by rw[←sg_dot];rfl,hn.1,hn.2,fun H2 s2=>⟨_,rfl,?_⟩⟩
     cases eb:labB 46 nm with
     | false =>
       refine iteF ⟨s1.trans s2,?_,_,rfl⟩
       rw[et]
       unfold qbn
       rw[List.filter_append]
       simp[eb]
     | true =>
       refine iteT ⟨_,rfl,1,rfl,nm,rfl,Nat.le_of_lt (qaC hn.2),s1.trans s2,?_,_,rfl⟩
       rw[et,qeW (qf3 eb)]
       unfold qbn
       rw[List.filter_append]
       simp[eb]
  ·rintro ys σ' H' ⟨s1,rfl,_⟩ D hD;rw[List.length_map,List.take_length];exact q D _ (s1.none hD) (s1.trans (qad hD _)) qab
theorem scReadSide:FnScope ["word"] ["word"] (qag sReadSide):=⟨rfl,rfl,rfl,by decide +kernel,rfl,by decide +kernel,by decide +kernel⟩
theorem ok_read_side{f:Addr}{fd:FuncData}(F:Fun K "read_side" "read_side" sReadSide f fd)(T:Bn mg)(U:Glob mg)(gf:∃t,mg "MOST_SIDE_FIGURES" = some (.int 4 t)):FnOk P w K mg base CX0 1 f fd ["word"] spReadSide:=by
 refine F.ok scReadSide (fun vs H Q E h=>?_) (fun cdv A outer s H vs Q E hr h=>?_)
 ·obtain⟨x,rfl,_⟩:=h;rfl
 ·obtain⟨x,rfl,lo,le,q⟩:=h;obtain⟨_,g_MOST_SIDE_FIGURES⟩:=gf;obtain⟨_,g_FIGURES⟩:=U.fi;have zl:=qaC le;have xl:=qaP x;have no:qcr x=false→Q (.int 0) H:=fun e=>by
   have:=q H (Same.refl H);unfold qa4 at this;rw[e]at this;exact this
  refine⟨_,(qac (qaH (PW.pt (qch (qbl (qcQ op_le op_le qaf (qal call_len_str (by rfl) T.len b_len (qaa (pv 0) pa_nil)) (qai (v:=.int 4) (by rfl) g_MOST_SIDE_FIGURES ⟨_,rfl⟩))) (qbZ (qaW (qbk PySem.F.plainAttrs_str PySem.F.slot_str_startswith PySem.F.type_str_startswith mt_starts (pv 0) (qaa qah pa_nil)))))) (qae (qak qaf)) pss_nil)
   (qae (qak (qb0 (qaW (qal (qcy (by rfl)) (by rfl) T.all b_all (qaa (qbh (own:=["sign"]) (by rfl) (CompScope.plain (by rfl) (by decide +kernel) (by decide +kernel) (by decide +kernel)) (qfO (pv 0)) (fun cl C s2 H2 fp=>(qax (i:=0) (by show(["sign"]:List Str).Nodup;decide +kernel) (by rfl) (by trivial) (by trivial))) (fun cl C s2 H2 fp=>qbC) (fun cl C s2 H2 fp=>(qaI qdH (pv 0) (qai (v:=.str (Str.ofString "0123456789")) (by rfl) g_FIGURES ⟨_,rfl⟩) (by with_unfolding_all rfl)))) pa_nil))) (qbV call_intS (by rfl) T.int b_int (qaa (pv 0) pa_nil)) qaf)))),?_⟩
  refine⟨_,rfl,x,rfl,Nat.le_of_lt zl,_,_,rfl,rfl,_,rfl,?_⟩
  by_cases g1:1≤x.length
  rotate_left
  ·rw[decide_eq_false (by omega:¬(1:Int)≤(x.length:Nat))];refine iteF ⟨_,rfl,iteT (iteT (no ?_))⟩;unfold qcr;rw[decide_eq_false (fun z=>g1 z.1)];rfl
  rw[decide_eq_true (by omega:(1:Int)≤(x.length:Nat))];refine iteT ⟨_,_,rfl,rfl,_,rfl,?_⟩
  by_cases g2:x.length≤4
  rotate_left
  ·rw[decide_eq_false (by omega:¬((x.length:Nat):Int)≤4)];refine iteT (iteT (no ?_));unfold qcr;rw[decide_eq_false (fun z=>g2 z.2)];rfl
  rw[decide_eq_true (by omega:((x.length:Nat):Int)≤4)];refine iteF ⟨_,rfl,rfl,x,Str.ofString "0",rfl,rfl,_,rfl,?_⟩;rw[show Str.ofString "0" = ⟨#[48]⟩from sg_zero,qe9]
  by_cases g3:x.cps.toList.head?=some 48
  ·rw[decide_eq_true g3];refine iteT (no ?_);unfold qcr;rw[decide_eq_true g3,Bool.not_true,Bool.and_false,Bool.false_and]
  rw[decide_eq_false g3];refine iteF ?_;refine⟨_,rfl,x,rfl,lo,qdl (fun i ys σ' H'=>H'=H∧ys=((x.cps.toList.take i).map fun c=>decide (c∈figS.cps.toList)).map V.bl∧∃z,σ'=[z]) zl ⟨rfl,rfl,none,rfl⟩ ?_ ?_ ?_⟩
  ·rintro i ys σ' H' hi ⟨rfl,rfl,_⟩;rw[List.length_map,List.length_map,List.length_take];exact Nat.min_le_left _ _
  ·rintro i c ys σ' H' hc ⟨rfl,rfl,z,rfl⟩;refine⟨_,rfl,c,figS,rfl,rfl,rfl,?_,_,rfl⟩;rw[List.map_map,List.map_map,qdw (V.bl∘fun c=>decide (c∈figS.cps.toList)) (by simpa using hc)];rfl
  ·rintro ys σ' H' ⟨rfl,rfl,_⟩ D hD;have eT:x.cps.toList.take x.cps.size=x.cps.toList:=List.take_of_length_le (by rw[xl];exact Nat.le_refl _);rw[eT];refine⟨D,_,rfl,SqL.of qab,_,rfl,?_⟩;have q2:=q _ (qad hD (.lst ((x.cps.toList.map fun c=>decide (c∈figS.cps.toList)).map V.bl)));unfold qa4 qcr at q2;rw[decide_eq_true (⟨g1,g2⟩:1≤x.length∧x.length≤4),decide_eq_false g3,Bool.not_false,Bool.true_and,Bool.true_and]at q2;cases ea:(x.cps.toList.map fun c=>decide (c∈figS.cps.toList)).all id with
   | false =>
     rw[ea]at q2
     exact iteF q2
   | true =>
     rw[ea]at q2
     refine iteT ⟨_,rfl,x,rfl,fun n hn=>qga (of_decide_eq_true (all_map.mp ea n hn)),fun z=>?_,g3,by omega,q2⟩
     rw[z]at xl
     simp at xl
     omega
end
end K08
namespace K08
open PySem L2 Bk Gen
abbrev sArePieces:Stmt:=top 33
abbrev sIsStuff:Stmt:=top 32
section
variable{P:Program}{w:World}{K:PySem.W.Frag}{mg:Str→Option Value}{base:Heap}
theorem scArePieces:FnScope ["stuff"] ["stuff"] (qag sArePieces):=⟨rfl,rfl,rfl,by decide +kernel,rfl,by decide +kernel,by decide +kernel⟩
theorem ok_are_pieces{f:Addr}{fd:FuncData}(F:Fun K "are_pieces" "are_pieces" sArePieces f fd)(T:Bn mg)(U:Glob mg)(N:Nums mg)(F_is_piece:Fx P w K mg base CX0 3 "is_piece" ["piece"] spPieceB):FnOk P w K mg base CX0 4 f fd ["stuff"] spPiecesX:=by
 refine F.ok scArePieces (fun vs H Q E h=>?_) (fun cdv A outer s H vs Q E hr h=>?_)
 ·obtain⟨sf,st,N',rfl,_⟩:=h;rfl
 ·obtain⟨sf,st,N',rfl,⟨nsf,vs,hs,its⟩,fm,le,q⟩:=h;obtain⟨_,g_SORT⟩:=N.sort;obtain⟨_,g_MOST_PIECES⟩:=U.pieces;have hr_is_piece:=hr;have lv:vs.length=st.length:=its.length;have zl:vs.length<sizeLine:=qaC (by omega);refine⟨_,(qac (qaH (PW.pt (qch (qbl (qcQ op_le op_le qaf (qal call_len_seq (by rfl) T.len b_len (qaa (pv 0) pa_nil)) (qai (v:=.int 60) (by rfl) g_MOST_PIECES ⟨_,rfl⟩))) (qbZ (qbl (qaW (qal (qcy (by rfl)) (by rfl) T.all b_all (qaa (qbh (own:=["piece"]) (by rfl) (CompScope.plain (by rfl) (by decide +kernel) (by decide +kernel) (by decide +kernel)) (qbg (pv 0)) (fun cl C s2 H2 fp=>(qax (i:=0) (by show(["piece"]:List Str).Nodup;decide +kernel) (by rfl) (by trivial) (by trivial))) (fun cl C s2 H2 fp=>qbC) (fun cl C s2 H2 fp=>(qar F_is_piece hr_is_piece (by rfl) qas (qaa (pv 0) pa_nil)))) pa_nil))))))) (qae (qak qc3)) pss_nil)
   (qae (qak (qaI op_ne (qap ix_tup (qap ix_list (pv 0) qaf (fun _ _=>rfl)) (qai (v:=.int 0) (by rfl) g_SORT ⟨_,rfl⟩) (fun _ _=>rfl)) qah (qam _))))),?_⟩
  refine⟨_,rfl,sf,_,rfl,.inl (SqL.of hs),_,_,rfl,rfl,_,rfl,?_⟩
  by_cases g1:1≤st.length
  rotate_left
  ·rw[decide_eq_false (by omega:¬(1:Int)≤(vs.length:Nat))];refine iteF ⟨_,rfl,iteT (q false H (Same.refl H) ⟨fun z=>(by cases z),fun z=>?_⟩)⟩;obtain⟨_,⟨x,r,rfl,_⟩,_⟩:=z;exact absurd (by simp) g1
  rw[decide_eq_true (by omega:(1:Int)≤(vs.length:Nat))];refine iteT ⟨_,_,rfl,rfl,_,rfl,?_⟩
  by_cases g2:st.length≤60
  rotate_left
  ·rw[decide_eq_false (by omega:¬((vs.length:Nat):Int)≤60)];exact iteT (q false H (Same.refl H) ⟨fun z=>(by cases z),fun z=>absurd z.2.2 g2⟩)
  rw[decide_eq_true (by omega:((vs.length:Nat):Int)≤60)];refine iteF ?_;refine⟨_,rfl,sf,rfl,⟨_,SqL.of hs⟩,qaZ (fun i ys σ' H'=>Same H H'∧ys=((st.take i).map pieceB).map V.bl∧∃z,σ'=[z]) zl ⟨Same.refl H,rfl,none,rfl⟩ ?_ ?_ ?_⟩
  ·rintro i ys σ' H' hi ⟨s1,rfl,_⟩;exact⟨SqL.of (s1 _ _ hs),by simp;omega⟩
  ·rintro i x ys σ' H' hx ⟨s1,rfl,z,rfl⟩;obtain⟨th,et,it⟩:=qbz its hx;have pk:=fm th (List.mem_of_getElem? et);cases th with
   | int n=>cases pk
   | tri so x t =>
     obtain⟨a,rfl,_,ha⟩:=it
     refine⟨_,rfl,a,so,x,t,rfl,s1 _ _ ha,pk,fun H2 s2=>⟨s1.trans s2,?_,_,rfl⟩⟩
     rw[List.take_succ,et,Option.toList_some,List.map_append,List.map_append]
     rfl
  ·rintro ys σ' H' ⟨s1,rfl,_⟩ D hD;rw[lv,List.take_length]at *;have s2:=s1.trans (qad hD (.lst ((st.map pieceB).map V.bl)));refine⟨D,_,rfl,SqL.of qab,_,rfl,?_⟩
   by_cases al:(st.map pieceB).all id=true
   rotate_left
   ·rw[Bool.eq_false_iff.mpr al];refine iteT (q false _ s2 ⟨fun z=>(by cases z),fun z=>absurd ?_ al⟩);rw[List.all_eq_true];intro b hb;obtain⟨x,hx,rfl⟩:=List.mem_map.mp hb;exact qe5 (z.1 x hx)
   rw[al];refine iteF ?_;have ok:∀x∈st,PcOk x:=fun x hx=>pieceB_iff.mp (List.all_eq_true.mp al _ (List.mem_map.mpr ⟨x,hx,rfl⟩))
   cases its with
   | nil=>exact absurd g1 (by decide)
   | @cons v x0 vs' r it rest =>
     have pk:=ok x0 List.mem_cons_self
     cases x0 with
     | int n=>cases pk
     | tri so x t =>
       obtain⟨a,rfl,_,ha⟩:=it
       refine⟨_,rfl,sf,_,_,_,rfl,rfl,SqL.of (s2 _ _ hs),(qbf (j:=0) rfl),a,_,_,_,rfl,rfl,SqT.of (s2 _ _ ha),rfl,rfl,?_⟩
       rw[show decide (V.str so.s=V.str (Str.ofString "note"))=decide (so=.note)from sot so .note]
       refine q _ _ s2 ⟨fun z=>⟨ok,⟨_,r,rfl,?_⟩,g2⟩,fun z=>?_⟩
       · cases so<;>first | rfl | exact absurd z (by decide)
       · obtain⟨_,⟨y,r',e,nn⟩,_⟩:=z
         cases e
         cases so<;>first | rfl | cases nn
theorem scIsStuff:FnScope ["kind", "stuff"] ["kind", "stuff"] (qag sIsStuff):=⟨rfl,rfl,rfl,by decide +kernel,rfl,by decide +kernel,by decide +kernel⟩
theorem ok_is_stuff{f a_KINDS_OF_PIECES:Addr}{fd:FuncData}(F:Fun K "is_stuff" "is_stuff" sIsStuff f fd)(T:Bn mg)(U:Glob mg)(g_KINDS_OF_PIECES:mg "KINDS_OF_PIECES" = some (.ref a_KINDS_OF_PIECES))(KP:KTup K a_KINDS_OF_PIECES [.text,.head,.note])(F_is_whole:Fx P w K mg base CX0 1 "is_whole" ["value", "low", "high"] spWhole)(F_are_pieces:Fx P w K mg base CX0 4 "are_pieces" ["stuff"] spPiecesX):FnOk P w K mg base CX0 5 f fd ["kind", "stuff"] spStuffX:=by
 refine F.ok scIsStuff (fun vs H Q E h=>?_) (fun cdv A outer s H vs Q E hr h=>?_)
 ·obtain⟨k,sf,st,N',rfl,_⟩:=h;rfl
 ·obtain⟨k,sf,st,N',rfl,⟨nsf,vs,hs,its⟩,ok,q⟩:=h;obtain⟨_,g_GREATEST_PICTURE⟩:=U.pict;have hr_is_whole:Room 1 _:=hr.mono (by decide);have hr_are_pieces:=hr;have lv:vs.length=st.length:=its.length;refine⟨_,(qac (qaH (qbl (qaW (qcG T.isinstance (by rfl) T.list (by rfl) b_list (pv 1)))) (qae (qak qc3)) pss_nil)
   (qac (qaH (qaj op_eq (pv 0) qah (qam _)) (qae (qak (qbu (qaI op_eq (qal call_len_seq (by rfl) T.len b_len (qaa (pv 1) pa_nil)) qaf (qam _)) (qbS (qal (qcy (by rfl)) (by rfl) T.all b_all (qaa (qbh (own:=["side"]) (by rfl) (CompScope.plain (by rfl) (by decide +kernel) (by decide +kernel) (by decide +kernel)) (qbg (pv 1)) (fun cl C s2 H2 fp=>(qax (i:=0) (by show(["side"]:List Str).Nodup;decide +kernel) (by rfl) (by trivial) (by trivial))) (fun cl C s2 H2 fp=>qbC) (fun cl C s2 H2 fp=>(qar F_is_whole hr_is_whole (by rfl) qas (qaa (pv 0) (qaa qaf (qaa (qai (v:=.int 2000) (by rfl) g_GREATEST_PICTURE ⟨_,rfl⟩) pa_nil)))))) pa_nil)))))) pss_nil)
   (qac (qaH (qaj op_in_seq (pv 0) (qai (v:=.ref a_KINDS_OF_PIECES) (by rfl) g_KINDS_OF_PIECES rfl) (by with_unfolding_all rfl)) (qae (qak (qar F_are_pieces hr_are_pieces (by rfl) qas (qaa (pv 1) pa_nil)))) pss_nil)
   (qae (qak (qaI op_eq (qal call_len_seq (by rfl) T.len b_len (qaa (pv 1) pa_nil)) qaf (qam _))))))),?_⟩
  refine⟨_,rfl,_,_,_,_,rfl,.lst hs,⟨_,fun u r=>r,k_ll⟩,_,rfl,iteF ?_⟩;refine⟨_,rfl,rfl,_,rfl,?_⟩;rw[show decide (V.str k.s=V.str (Str.ofString "picture"))=decide (k=.picture)from kdt k .picture];have l5:=ok.2.2
  by_cases hk:k=.picture
  ·rw[decide_eq_true hk];subst hk;have zl:vs.length<sizeLine:=qaC (by omega);refine iteT ⟨_,rfl,sf,_,rfl,.inl (SqL.of hs),rfl,_,rfl,?_⟩
   by_cases l2:st.length=2
   rotate_left
   ·rw[decide_eq_false (fun z=>l2 (by injection z with z;omega):¬V.int (vs.length:Nat)=V.int 2)];refine iteF (q false H (Same.refl H) ⟨fun z=>(by cases z),fun z=>?_⟩);obtain⟨a,b,rfl,_⟩:=z;exact absurd rfl l2
   rw[decide_eq_true (by rw[lv,l2];rfl:V.int (vs.length:Nat)=V.int 2)];refine iteT ?_;refine⟨_,rfl,sf,rfl,⟨_,SqL.of hs⟩,qaZ (fun i ys σ' H'=>H'=H∧ys=((st.take i).map sideB).map V.bl∧∃z,σ'=[z]) zl ⟨rfl,rfl,none,rfl⟩ ?_ ?_ ?_⟩
   ·rintro i ys σ' H' hi ⟨rfl,rfl,_⟩;exact⟨SqL.of hs,by simp;omega⟩
   ·rintro i v ys σ' H' hx ⟨rfl,rfl,z,rfl⟩;obtain⟨th,et,it⟩:=qbz its hx;obtain⟨n,rfl⟩:=ok.2.1 rfl th (List.mem_of_getElem? et);cases it;refine⟨_,rfl,n,1,2000,rfl,rfl,?_,_,rfl⟩;rw[List.take_succ,et,Option.toList_some,List.map_append,List.map_append];rfl
   ·rintro ys σ' H' ⟨rfl,rfl,_⟩ D hD;rw[lv,List.take_length]at *;refine⟨D,_,rfl,SqL.of qab,?_⟩;exact q _ _ (qad hD _) (qeY l2)
  ·rw[decide_eq_false hk];refine iteF ⟨_,rfl,a_KINDS_OF_PIECES,_,rfl,.inr (KP H),rfl,qb5 _,_,rfl,?_⟩;rw[if_neg Bool.false_ne_true,qcm]
   by_cases hp:k∈[Kd.text,.head,.note]
   ·rw[decide_eq_true hp];refine iteT ⟨_,rfl,sf,st,N',rfl,⟨nsf,vs,hs,its⟩,ok.1 ?_,l5,fun b H2 s2 i=>q b H2 s2 (i.trans (qc5 hp))⟩;cases k<;>first | rfl | exact absurd hp (by decide)
   ·rw[decide_eq_false hp];refine iteF ⟨_,rfl,sf,_,rfl,.inl (SqL.of hs),rfl,?_⟩;refine q _ H (Same.refl H) (Iff.trans ?_ (stuff_none hk hp));rw[decide_eq_true_iff];constructor
    ·intro z;injection z with z
     exact List.eq_nil_of_length_eq_zero (by omega)
    ·rintro rfl;rw[lv];rfl
end
end K08
namespace L2
open PySem PySem.Spec PyProof.Rows
theorem qbN{t u:TS}{D:Ends}{σ:St}{H:Hp}(P:St→Hp→Prop)(h:∀N:St→Hp→Prop,(∀σ' H',P σ' H'→N σ' H')→t {D with nx:=N} σ H)(k:∀σ' H',P σ' H'→u D σ' H'):tSeq t u D σ H:=h _ k
end L2
namespace Br
open PySem L2 Bk Gen Gd Bd
end Br
namespace Br
open PySem L2 Bk Gen Gd Bd
end Br
namespace K08
open PySem L2 Bk Gen
abbrev sReadPiece:Stmt:=top 66
abbrev sReadStuff:Stmt:=top 64
abbrev sRowParts:Stmt:=top 58
section
variable{P:Program}{w:World}{K:PySem.W.Frag}{mg:Str→Option Value}{base:Heap}
theorem scReadPiece:FnScope ["word", "thing", "tone", "piece"] ["word"] (qag sReadPiece):=⟨rfl,rfl,rfl,by decide +kernel,rfl,by decide +kernel,by decide +kernel⟩
theorem ok_read_piece{f:Addr}{fd:FuncData}(F:Fun K "read_piece" "read_piece" sReadPiece f fd)(T:Bn mg)(F_is_piece:Fx P w K mg base CX0 3 "is_piece" ["piece"] spPieceB):FnOk P w K mg base CX0 4 f fd ["word"] spReadPiece:=by
 refine F.ok scReadPiece (fun vs H Q E h=>?_) (fun cdv A outer s H vs Q E hr h=>?_)
 ·obtain⟨x,rfl,_⟩:=h;rfl
 ·obtain⟨x,rfl,lo,le,q⟩:=h;have hr_is_piece:=hr;have zl:=Nat.le_of_lt (qaC le);have tl:(thing x).length≤x.length:=by
   have:=qbc (·== 42) x.cps.toList;rw[qaP]at this;exact this
  have lo1:Low (mkS (thing x)):=qdn lo fun n hn=>(List.dropWhile_suffix _).subset hn
  refine⟨_,(qac (qaH (qaj op_eq (pv 0) qah (qam _)) (qae (qak (qa8 (qaa qah (qaa qaf (qaa qaf pa_nil)))))) pss_nil)
   (qac (qan (i:=1) scReadPiece.nd (by rfl) (by trivial) (qbk PySem.F.plainAttrs_str PySem.F.slot_str_lstrip PySem.F.type_str_lstrip mt_lstripC (pv 0) (qaa qah pa_nil)))
   (qac (qan (i:=2) scReadPiece.nd (by rfl) (by trivial) (qaE op_sub (qal call_len_str (by rfl) T.len b_len (qaa (pv 0) pa_nil)) (qal call_len_str (by rfl) T.len b_len (qaa (pv 1) pa_nil))))
   (qac (qan (i:=3) scReadPiece.nd (by rfl) (by trivial) (qa8 (qaa qah (qaa (pv 1) (qaa (pv 2) pa_nil)))))
   (qac (qaH (PW.pt (qcg (qaW (qbk PySem.F.plainAttrs_str PySem.F.slot_str_startswith PySem.F.type_str_startswith mt_starts (pv 1) (qaa qah pa_nil))) (qbG (qaW (qbk PySem.F.plainAttrs_str PySem.F.slot_str_endswith PySem.F.type_str_endswith mt_ends (pv 1) (qaa qah pa_nil)))))) (qae (qan (i:=3) scReadPiece.nd (by rfl) (by trivial) (qa8 (qaa qah (qaa (qav sl_str (pv 1) (qaz qaf) (qaz (qcY un_neg qaf))) (qaa (pv 2) pa_nil)))))) pss_nil)
   (qae (qak (qb0 (qaW (qar F_is_piece hr_is_piece (by rfl) qas (qaa (pv 3) pa_nil))) (pv 3) qct)))))))),?_⟩
  refine⟨_,rfl,rfl,_,rfl,?_⟩
  by_cases e0:x=Str.ofString "{}"
  ·rw[decide_eq_true (by rw[e0]:V.str x=V.str (Str.ofString "{}"))];refine iteT ⟨(by show 3≤sizeLine;decide),fun t ht=>q _ _ (qad ht _) ?_⟩;unfold qat;rw[if_pos e0];exact⟨t,rfl,ht,qab⟩
  rw[decide_eq_false (fun z=>e0 (V.str.inj z):¬V.str x=V.str (Str.ofString "{}"))];refine iteF ⟨_,rfl,rfl,x,Str.ofString "*",rfl,rfl,zl,?_⟩;rw[show Str.ofString "*" = ⟨#[42]⟩from sg_star,qe7];refine⟨_,rfl,x,rfl,zl,_,rfl,_,rfl,Nat.le_trans tl zl,_,_,rfl,rfl,?_⟩;refine⟨_,rfl,_,rfl,(by show 3≤sizeLine;decide),fun t ht=>?_⟩;dsimp only[tNext];refine qaN (fun σ' H'=>∃(p:Addr) (so:So) (y:Str) (n:Int),σ'=[some (.str x),some (.str (mkS (thing x))),some (.int ((x.length:Int)-(thing x).length)),some (.ref p)]∧Same H H'∧H p=none∧H' p=some (.tup [.str so.s,.str y,.int n])∧qbE x=.tri so (.inl y) n∧PcForm (.tri so (.inl y) n)) (fun D' k=>?_) ?_
  ·refine⟨_,rfl,rfl,mkS (thing x),Str.ofString "{",rfl,rfl,_,rfl,?_⟩;rw[show Str.ofString "{" = ⟨#[123]⟩from sg_open,qe9];have wordCase:¬((thing x).head?=some 123∧(thing x).getLast?=some 125)→D'.nx [some (.str x),some (.str (mkS (thing x))),some (.int ((x.length:Int)-(thing x).length)),some (.ref t)] (upd H t (.tup [.str So.word.s,.str (mkS (thing x)),.int ((x.length:Int)-(thing x).length)])):=fun hn =>
    k _ _ ⟨t,.word,_,_,rfl,qad ht _,ht,qab,by unfold qbE;rw[if_neg hn],lo1,Nat.le_trans tl le⟩
   by_cases h1:(thing x).head?=some 123
   rotate_left
   ·rw[decide_eq_false h1];exact iteF (iteF (wordCase fun z=>h1 z.1))
   rw[decide_eq_true h1];refine iteT ⟨_,rfl,rfl,mkS (thing x),Str.ofString "}",rfl,rfl,_,rfl,?_⟩;rw[show Str.ofString "}" = ⟨#[125]⟩from sg_close,ends1]
   by_cases h2:(thing x).getLast?=some 125
   rotate_left
   ·rw[decide_eq_false h2];exact iteF (wordCase fun z=>h2 z.2)
   rw[decide_eq_true h2];refine iteT ⟨_,rfl,1,rfl,_,rfl,-1,rfl,mkS (thing x),rfl,Nat.le_trans tl zl,_,rfl,(by show 3≤sizeLine;decide),fun t2 ht2=>?_⟩;have l1:1≤(mkS (thing x)).length:=by
    rw[qcE];cases e:thing x with
    | nil=>rw[e]at h1;cases h1
    | cons a r=>simp
   rw[qfI l1];refine k _ _ ⟨t2,.page,mkS (qej (thing x)),(x.length:Int)-(thing x).length,rfl,(qad ht _).trans (qad ht2 _),(qad ht _).none ht2,qab,by unfold qbE;rw[if_pos ⟨h1,h2⟩],qdn lo1 fun n hn=>List.mem_of_mem_drop (List.dropLast_subset _ hn),?_⟩;rw[qcE];unfold qej;rw[List.length_dropLast,List.length_drop];omega
  rintro σ1 H1 ⟨p,so,y,n,rfl,s1,hp,hp1,ep,pf⟩;refine⟨_,rfl,p,so,.inl y,n,rfl,hp1,pf,fun H2 s2=>⟨_,rfl,?_⟩⟩;have rp:qat x=if pieceB (.tri so (.inl y) n)=true then some (.tri so (.inl y) n)else none:=by
   unfold qat;rw[if_neg e0,ep]
  cases eb:pieceB (.tri so (.inl y) n)with
  | false =>
    refine iteF (q _ _ (s1.trans s2) ?_)
    rw[rp,eb]
    exact rfl
  | true =>
    refine iteT ⟨_,rfl,q _ _ (s1.trans s2) ?_⟩
    rw[rp,eb]
    exact⟨p,rfl,hp,s2 _ _ hp1⟩
theorem scReadStuff:FnScope ["kind", "words", "sides", "pieces"] ["kind", "words"] (qag sReadStuff):=⟨rfl,rfl,rfl,by decide +kernel,rfl,by decide +kernel,by decide +kernel⟩
theorem ok_read_stuff{f:Addr}{fd:FuncData}(F:Fun K "read_stuff" "read_stuff" sReadStuff f fd)(T:Bn mg)(F_read_side:Fx P w K mg base CX0 1 "read_side" ["word"] spReadSide)(F_is_stuff:Fx P w K mg base CX0 5 "is_stuff" ["kind", "stuff"] spStuffX)(F_read_piece:Fx P w K mg base CX0 4 "read_piece" ["word"] spReadPiece)(F_has_stuff:Fx P w K mg base CX0 1 "has_stuff" ["kind"] spHasStuff):FnOk P w K mg base CX0 6 f fd ["kind", "words"] spReadStuff:=by
 refine F.ok scReadStuff (fun vs H Q E h=>?_) (fun cdv A outer s H vs Q E hr h=>?_)
 ·obtain⟨k,l,ws,rfl,_⟩:=h;rfl
 ·obtain⟨k,l,ws,rfl,⟨hl,rk⟩,qn,qs⟩:=h;have hr_read_side:Room 1 _:=hr.mono (by decide);have hr_has_stuff:Room 1 _:=hr.mono (by decide);have hr_read_piece:Room 4 _:=hr.mono (by decide);have hr_is_stuff:=hr;have hu:=hr.units;have zl:(ws.map V.str).length<sizeLine:=by rw[List.length_map];exact qaC (Nat.le_trans rk.2 (by decide))
  refine⟨_,(qac (qaH (qaj op_eq (pv 0) qah (qam _)) (qac (qdC (i:=2) (by rfl) scReadStuff.nd (by rfl) (by trivial) (own:=["word"]) (CompScope.plain (by rfl) (by decide +kernel) (by decide +kernel) (by decide +kernel)) (qbg (pv 1)) (fun cl C s2 H2 fp=>(qax (i:=0) (by show(["word"]:List Str).Nodup;decide +kernel) (by rfl) (by trivial) (by trivial))) (fun cl C s2 H2 fp=>qbC) (fun cl C s2 H2 fp=>(qar F_read_side hr_read_side (by rfl) qas (qaa (pv 0) pa_nil))))
   (qae (qak (qb0 (qaW (qar F_is_stuff hr_is_stuff (by rfl) qas (qaa (pv 0) (qaa (pv 2) pa_nil)))) (pv 2) qct)))) pss_nil)
   (qac (qdC (i:=3) (by rfl) scReadStuff.nd (by rfl) (by trivial) (own:=["word"]) (CompScope.plain (by rfl) (by decide +kernel) (by decide +kernel) (by decide +kernel)) (qbg (pv 1)) (fun cl C s2 H2 fp=>(qax (i:=0) (by show(["word"]:List Str).Nodup;decide +kernel) (by rfl) (by trivial) (by trivial))) (fun cl C s2 H2 fp=>qbC) (fun cl C s2 H2 fp=>(qar F_read_piece hr_read_piece (by rfl) qas (qaa (pv 0) pa_nil))))
   (qac (qaH (PW.pt (qch (qaj (op_inN hu) qct (pv 3) (by with_unfolding_all rfl)) (qbZ (qaj op_ne (qar F_has_stuff hr_has_stuff (by rfl) qas (qaa (pv 0) pa_nil)) (qaI op_gt (qal call_len_seq (by rfl) T.len b_len (qaa (pv 3) pa_nil)) qaf (qam _)) (qam _))))) (qae (qak qct)) pss_nil)
   (qae (qak (pv 3)))))),?_⟩
  refine⟨_,rfl,rfl,_,rfl,?_⟩;rw[show decide (V.str k.s=V.str (Str.ofString "picture"))=decide (k=.picture)from kdt k .picture]
  by_cases hk:k=.picture
  ·rw[decide_eq_true hk];subst hk;refine iteT ⟨_,rfl,l,rfl,⟨_,SqL.of hl⟩,qaZ (fun i ys σ' H'=>Same H H'∧ys=((ws.take i).map qa4).map V.int∧∃z,σ'=[z]) zl ⟨Same.refl H,rfl,none,rfl⟩ ?_ ?_ ?_⟩
   ·rintro i ys σ' H' hi ⟨s2,rfl,_⟩;exact⟨SqL.of (s2 _ _ hl),by simp;omega⟩
   ·rintro i x ys σ' H' hx ⟨s2,rfl,z,rfl⟩;rw[List.getElem?_map]at hx;cases e:ws[i]? with
    | none=>rw[e]at hx;cases hx
    | some nm =>
      rw[e]at hx
      cases hx
      have hn:=rk.1 nm (List.mem_of_getElem? e)
      refine⟨_,rfl,nm,rfl,hn.1,hn.2,fun H3 s3=>⟨s2.trans s3,?_,_,rfl⟩⟩
      rw[List.take_succ,e,Option.toList_some,List.map_append,List.map_append]
      rfl
   ·rintro ys σ' H' ⟨s2,rfl,_⟩ D hD;rw[List.length_map,List.take_length];have s3:=s2.trans (qad hD (.lst ((ws.map qa4).map V.int)));have st:StAt (qbL H) (upd H' D (.lst ((ws.map qa4).map V.int))) D (ws.map fun x=>Th.int (qa4 x)):=by
     refine⟨s2.none hD,_,qab,?_⟩;rw[List.map_map];exact qdW fun x _=>rfl
    refine⟨_,rfl,_,rfl,.picture,D,_,qbL H,rfl,st,⟨fun z=>(by cases z),fun _ x hx=>?_,?_⟩,fun b H4 s4 ib=>⟨_,rfl,?_⟩⟩
    ·obtain⟨y,_,rfl⟩:=List.mem_map.mp hx;exact⟨_,rfl⟩
    ·rw[List.length_map];exact rk.2
    ·cases b with
     | false =>
       refine iteF (qn ?_ _ (s3.trans s4))
       unfold qaK
       rw[if_pos rfl,if_neg fun z=>absurd (ib.mpr z) (by decide)]
     | true =>
       refine iteT ⟨_,rfl,qs _ ?_ _ _ (s3.trans s4) (st.keep s4.keep fun _ n _=>n)⟩
       unfold qaK
       rw[if_pos rfl,if_pos (ib.mp rfl)]
  rw[decide_eq_false hk];refine iteF ⟨_,rfl,l,rfl,⟨_,SqL.of hl⟩,qaZ (fun i ys σ' H'=>Same H H'∧Paired (OpAt (qbL H) H') ys ((ws.take i).map qat)∧∃z,σ'=[z]) zl ⟨Same.refl H,.nil,none,rfl⟩ ?_ ?_ ?_⟩
  ·rintro i ys σ' H' hi ⟨s2,pa,_⟩;exact⟨SqL.of (s2 _ _ hl),by rw[pa.length];simp;omega⟩
  ·rintro i x ys σ' H' hx ⟨s2,pa,z,rfl⟩;rw[List.getElem?_map]at hx;cases e:ws[i]? with
   | none=>rw[e]at hx;cases hx
   | some nm =>
     rw[e]at hx
     cases hx
     have hn:=rk.1 nm (List.mem_of_getElem? e)
     refine⟨_,rfl,nm,rfl,hn.1,hn.2,fun v H3 s3 o3=>⟨s2.trans s3,?_,_,rfl⟩⟩
     rw[List.take_succ,e,Option.toList_some,List.map_append]
     exact qbd (pa.mono fun v o h=>h.same s3) (.cons (o3.sub s2) .nil)
  ·rintro ys σ' H' ⟨s2,pa,_⟩ D hD;rw[List.length_map,List.take_length]at pa;have s3:=s2.trans (qad hD (.lst ys));have pa3:Paired (OpAt (qbL H) (upd H' D (.lst ys))) ys (ws.map qat):=pa.mono fun v o h=>h.same (qad hD _)
   have ly:ys.length=ws.length:=by rw[pa.length,List.length_map]
   refine⟨_,rfl,D,ys,rfl,rfl,qab,fun v hv=>op_kinds pa3 (fun o ho=>?_) v hv,_,rfl,?_⟩
   ·obtain⟨x,_,rfl⟩:=List.mem_map.mp ho;exact read_tri x
   rw[op_any pa3];have rs:qaK k ws=if(ws.map qat).any Option.isNone || (qaF k != decide (0<ws.length))then none else some (ws.filterMap qat):=by
    unfold qaK;rw[if_neg hk]
   cases e1:(ws.map qat).any Option.isNone with
   | true =>
     refine iteT (iteT (qn ?_ _ s3))
     rw[rs,e1]
     rfl
   | false =>
     refine iteF ⟨_,rfl,k,rfl,_,rfl,D,_,rfl,.inl (SqL.of qab),_,_,rfl,rfl,rfl,_,rfl,?_⟩
     rw[e1,Bool.false_or]at rs
     have e2:(!decide (V.bl (qaF k)=V.bl (decide ((0:Int)<((ys.length:Nat):Int)))))=(qaF k != decide (0<ws.length)):=by
       rw[ly,show decide ((0:Int)<((ws.length:Nat):Int))=decide (0<ws.length)from by rw[Bool.eq_iff_iff];simp]
       cases qaF k<;>cases decide (0<ws.length)<;>rfl
     rw[e2]
     cases e3:(qaF k != decide (0<ws.length))with
     | true =>
       refine iteT (qn ?_ _ s3)
       rw[rs,e3]
       rfl
     | false =>
       refine iteF ⟨_,rfl,qs _ (by rw[rs,e3];rfl) _ _ s3 ⟨s2.none hD,ys,qab,?_⟩⟩
       have:=op_all pa3 e1
       rw[List.filterMap_map]at this
       exact this
theorem scRowParts:FnScope ["row", "level", "words", "kind", "bar", "stuff"] ["row"] (qag sRowParts):=⟨rfl,rfl,rfl,by decide +kernel,rfl,by decide +kernel,by decide +kernel⟩
theorem ok_row_parts{f a_KINDS:Addr}{fd:FuncData}(F:Fun K "row_parts" "row_parts" sRowParts f fd)(T:Bn mg)(g_KINDS:mg "KINDS" = some (.ref a_KINDS))(KP:KTup K a_KINDS kindsAll)(F_are_labels:Fx P w K mg base CX0 3 "are_labels" ["labels"] spAreLabs)(F_has_stuff:Fx P w K mg base CX0 1 "has_stuff" ["kind"] spHasStuff)(F_read_stuff:Fx P w K mg base CX0 6 "read_stuff" ["kind", "words"] spReadStuff)(F_name_label:Fx P w K mg base CX0 3 "name_label" ["labels"] spNameLab)(F_mark_labels:Fx P w K mg base CX0 3 "mark_labels" ["labels"] spMarkLabs):FnOk P w K mg base CX0 7 f fd ["row"] spRowParts:=by
 refine F.ok scRowParts (fun vs H Q E h=>?_) (fun cdv A outer s H vs Q E hr h=>?_)
 ·obtain⟨x,rfl,_⟩:=h;rfl
 ·obtain⟨x,rfl,ok,qn,qs⟩:=h;have hr_are_labels:Room 3 _:=hr.mono (by decide);have hr_name_label:Room 3 _:=hr.mono (by decide);have hr_mark_labels:Room 3 _:=hr.mono (by decide);have hr_has_stuff:Room 1 _:=hr.mono (by decide);have hr_read_stuff:=hr;have zl:x.length≤sizeLine:=Nat.le_trans ok.len (by decide);have dl:=qbc (·== 62) x.cps.toList;rw[qaP]at dl;have rk:=ok.ws;have wne:=qfP x;have bl:=qgp (qaL x);have rp:qaG x=match kindOf ((qaL x).headD noName)with
   | none=>none
   | some k => if !qbD (qaY (qaL x)) || (!qaF k && decide (qaB (qaL x) < (qaL x).length)) then none
     else(qaK k (qa3 (qaL x))).map fun st=>⟨(qci x:Int),k,qcd (qaY (qaL x)),qbn (qaY (qaL x)),st⟩:=rfl
  have ew:(qbo 32 (x.cps.toList.dropWhile (·== 62))).map mkS=qaL x:=rfl;refine⟨_,(qac (qan (i:=1) scRowParts.nd (by rfl) (by trivial) (qaE op_sub (qal call_len_str (by rfl) T.len b_len (qaa (pv 0) pa_nil)) (qal call_len_str (by rfl) T.len b_len (qaa (qbk PySem.F.plainAttrs_str PySem.F.slot_str_lstrip PySem.F.type_str_lstrip mt_lstripC (pv 0) (qaa qah pa_nil)) pa_nil))))
   (qac (qan (i:=2) scRowParts.nd (by rfl) (by trivial) (qbk PySem.F.plainAttrs_str PySem.F.slot_str_split PySem.F.type_str_split qeL (qav sl_str (pv 0) (qaz (pv 1)) po_none) (qaa qah pa_nil)))
   (qac (qan (i:=3) scRowParts.nd (by rfl) (by trivial) (qap ix_list (pv 2) qaf (fun _ _=>rfl)))
   (qac (qan (i:=4) scRowParts.nd (by rfl) (by trivial) (qb0 (qaj op_in_seq qah (pv 2) (by with_unfolding_all rfl)) (qbk PySem.F.plainAttrs_list PySem.F.slot_list_index PySem.F.type_list_index mt_indexS (pv 2) (qaa qah pa_nil)) (qal call_len_seq (by rfl) T.len b_len (qaa (pv 2) pa_nil))))
   (qac (qaH (PW.pt (qch (qaj op_notIn_seq (pv 3) (qai (v:=.ref a_KINDS) (by rfl) g_KINDS rfl) (by with_unfolding_all rfl)) (qbZ (qbl (qaW (qar F_are_labels hr_are_labels (by rfl) qas (qaa (qav sl_list (pv 2) (qaz qaf) (qaz (pv 4))) pa_nil))))))) (qae (qak qct)) pss_nil)
   (qac (qaH (PW.pt (qcg (qbl (qaW (qar F_has_stuff hr_has_stuff (by rfl) qas (qaa (pv 3) pa_nil)))) (qbG (qaj op_lt (pv 4) (qal call_len_seq (by rfl) T.len b_len (qaa (pv 2) pa_nil)) (qam _))))) (qae (qak qct)) pss_nil)
   (qac (qan (i:=5) scRowParts.nd (by rfl) (by trivial) (qar F_read_stuff hr_read_stuff (by rfl) qas (qaa (pv 3) (qaa (qav sl_list (pv 2) (qaz (qaE op_add (pv 4) qaf)) po_none) pa_nil))))
   (qac (qaH (qgU (qgn (pv 5))) (qae (qak qct)) pss_nil)
   (qae (qak (qa8 (qaa (pv 1) (qaa (pv 3) (qaa (qar F_name_label hr_name_label (by rfl) qas (qaa (qav sl_list (pv 2) (qaz qaf) (qaz (pv 4))) pa_nil)) (qaa (qar F_mark_labels hr_mark_labels (by rfl) qas (qaa (qav sl_list (pv 2) (qaz qaf) (qaz (pv 4))) pa_nil)) (qaa (pv 5) pa_nil)))))))))))))))),?_⟩
  refine⟨_,rfl,x,rfl,zl,_,rfl,rfl,x,Str.ofString ">",rfl,rfl,zl,_,rfl,?_⟩;rw[show Str.ofString ">" = ⟨#[62]⟩from sg_gt,qe7];refine⟨Nat.le_trans dl zl,_,_,rfl,rfl,?_⟩;have el:(x.length:Int)-((mkS (x.cps.toList.dropWhile (·== 62))).length:Nat)=(qci x:Nat):=by
   have:=qdI (·== 62) x.cps.toList;rw[qaP]at this;rw[qcE (x.cps.toList.dropWhile (·== 62))];unfold qci;omega
  have ll:qci x≤x.length:=by omega
  dsimp only[qbR];rw[el];have es:Txt.slice x (some ((qci x:Nat):Int)) none=mkS (x.cps.toList.dropWhile (·== 62)):=by
   rw[qd5 (by omega) (by omega),Int.toNat_natCast];unfold qci;rw[qa6]
  refine⟨_,rfl,_,rfl,_,rfl,x,rfl,zl,rfl,mkS (x.cps.toList.dropWhile (·== 62)),32,by rw[es],by rw[←sg_sp],by decide,by rw[qcE];exact Nat.le_trans dl ok.len,fun l hl=>?_⟩;dsimp only[mkS];rw[List.toList_toArray,ew];clear ew el es dl;generalize qaL x=ws at rp rk wne bl⊢;have h1:upd H l (.lst (ws.map V.str)) l=some (.lst (ws.map V.str)):=qab;have s1:Same H (upd H l (.lst (ws.map V.str))):=qad hl _;generalize upd H l (.lst (ws.map V.str))=H1 at h1 s1⊢;cases ws with
  | nil=>exact absurd wne (by decide)
  | cons w0 ws =>
  refine⟨_,rfl,l,_,_,_,rfl,rfl,SqL.of h1,(qbf (j:=0) rfl),?_⟩;dsimp only[qbR];refine qaN (fun σ' H'=>σ'=[some (.str x),some (.int (qci x:Nat)),some (.ref l),some (.str w0),some (.int (qaB (w0::ws):Nat)),none]∧H'=H1) (fun D' k=>?_) ?_
  ·refine⟨_,rfl,l,_,rfl,.inl (SqL.of h1),rfl,qdy _,_,rfl,?_⟩;rw[if_neg Bool.false_ne_true,qde]
   by_cases hb:Str.ofString "|" ∈ w0::ws
   ·rw[decide_eq_true hb];exact iteT ⟨_,rfl,.inl ⟨rfl,_,SqL.of h1⟩,l,w0::ws,_,qaB (w0::ws),rfl,rfl,h1,Nat.le_trans rk.2 (by decide),(qfz hb).1,(qfz hb).2,k _ _ ⟨rfl,rfl⟩⟩
   ·rw[decide_eq_false hb];refine iteF ⟨_,rfl,l,_,rfl,.inl (SqL.of h1),k _ _ ⟨?_,rfl⟩⟩;rw[qe6 hb,List.length_map];rfl
  rintro _ H1 ⟨rfl,rfl⟩;have eb:∀ws:List Str,cutV ((w0::ws).map V.str) (some 1) (some ((qaB (w0::ws):Nat):Int))=(qaY (w0::ws)).map V.str:=fun ws=>by
   rw[show(1:Int)=((1:Nat):Int)from rfl,cut_mid 1 _ (by rw[List.length_map];exact qgp _) (by simp),←List.map_drop,←List.map_take];rfl
  have rl:qec (qaY (w0::ws)):=qcl rk (fun y hy=>List.mem_of_mem_drop (List.mem_of_mem_take hy)) (by unfold qaY;rw[List.length_take,List.length_drop];omega);have rr:qec (qa3 (w0::ws)):=qcl rk (fun y hy=>List.mem_of_mem_drop hy) (by unfold qa3;rw[List.length_drop];omega);refine⟨_,rfl,a_KINDS,_,rfl,.inr (KP H1),rfl,qb5 _,_,rfl,?_⟩;rw[if_pos rfl,show(kindsAll.map fun k=>V.str k.s)=(kindsAll.map Kd.s).map V.str by rw[List.map_map];rfl,qde,kindOf_in];rw[show(w0::ws).headD noName=w0 from rfl]at rp;cases ek:kindOf w0 with
  | none =>
    rw[ek]at rp
    exact iteT (iteT (qn rp _ s1))
  | some k =>
  rw[ek]at rp;obtain⟨rfl,hk⟩:=qbU ek;refine iteF ⟨_,rfl,1,rfl,_,rfl,_,rfl,l,_,rfl,SqL.of h1,fun p2 hp2=>?_⟩;rw[eb];refine⟨p2,_,rfl,⟨qab,rl⟩,fun H2 s2=>⟨_,rfl,?_⟩⟩;have s12:=s1.trans ((qad hp2 _).trans s2);have h2:H2 l=_:=s2 _ _ (qad hp2 _ _ _ h1);dsimp only at rp;cases ea:qbD (qaY (k.s::ws))with
  | false =>
    rw[ea]at rp
    exact iteT (qn rp _ s12)
  | true =>
  rw[ea,Bool.not_true,Bool.false_or]at rp;refine iteF ?_;dsimp only[tNext];refine qbN (fun σ' H'=>σ'=[some (.str x),some (.int (qci x:Nat)),some (.ref l),some (.str k.s),some (.int (qaB (k.s::ws):Nat)),none]∧H'=H2∧(!qaF k && decide (qaB (k.s::ws)<(k.s::ws).length))=false) (fun N0 kk=>?_) ?_
  ·refine⟨_,rfl,k,rfl,_,rfl,?_⟩;cases e1:qaF k with
   | true=>exact iteF (iteF (kk _ _ ⟨rfl,rfl,by rw[e1];rfl⟩))
   | false =>
     refine iteT ⟨_,rfl,_,rfl,l,_,rfl,.inl (SqL.of h2),_,_,rfl,rfl,_,rfl,?_⟩
     rw[List.length_map]
     by_cases e2:qaB (k.s::ws)<(k.s::ws).length
     · rw[decide_eq_true (by omega:((qaB (k.s::ws):Nat):Int)<((k.s::ws).length:Nat))]
       refine iteT (qn ?_ _ s12)
       rw[rp,e1,decide_eq_true e2]
       rfl
     · rw[decide_eq_false (by omega:¬((qaB (k.s::ws):Nat):Int)<((k.s::ws).length:Nat))]
       exact iteF (kk _ _ ⟨rfl,rfl,by rw[e1,decide_eq_false e2];rfl⟩)
  rintro _ H2 ⟨rfl,rfl,eh⟩;rw[eh]at rp;have er:cutV ((k.s::ws).map V.str) (some (((qaB (k.s::ws):Nat):Int)+1)) none=(qa3 (k.s::ws)).map V.str:=by
   rw[show((qaB (k.s::ws):Nat):Int)+1=((qaB (k.s::ws)+1:Nat):Int) by omega,qcb,←List.map_drop];rfl
  refine⟨_,rfl,_,rfl,_,rfl,_,_,rfl,rfl,_,rfl,l,_,rfl,SqL.of h2,fun p3 hp3=>?_⟩;dsimp only;rw[er];have s3:=s12.trans (qad hp3 (.lst ((qa3 (k.s::ws)).map V.str)));refine⟨k,p3,_,rfl,⟨qab,rr⟩,fun en H4 s4=>?_,fun st est sa H4 s4 hst=>?_⟩
  ·refine⟨_,rfl,_,rfl,iteT (qn ?_ _ (s3.trans s4))⟩;rw[rp,en];rfl
  ·refine⟨_,rfl,_,rfl,iteF ?_⟩;have s14:=s3.trans s4;have h4:H4 l=_:=s4 _ _ (qad hp3 _ _ _ h2);refine⟨_,rfl,_,rfl,_,rfl,1,rfl,_,rfl,_,rfl,l,_,rfl,SqL.of h4,fun p5 hp5=>?_⟩;rw[eb];refine⟨p5,_,rfl,⟨qab,rl⟩,fun H6 s6=>?_⟩;have s46:=(qad hp5 (.lst ((qaY (k.s::ws)).map V.str))).trans s6;refine⟨_,rfl,1,rfl,_,rfl,_,rfl,l,_,rfl,SqL.of (s46 _ _ h4),fun p7 hp7=>?_⟩;rw[eb];refine⟨p7,_,rfl,⟨qab,rl⟩,fun m H8 hm s8 em=>?_⟩;have s68:=(qad hp7 (.lst ((qaY (k.s::ws)).map V.str))).trans s8;refine⟨_,rfl,(by show 5≤sizeLine;decide),fun a ha=>?_⟩;have s48:=s46.trans s68;have s18:=(s14.trans s48).trans (qad ha (.tup [.int (qci x:Nat),.str k.s,.str (qcd (qaY (k.s::ws))),.ref m,.ref sa]));refine qs ⟨(qci x:Int),k,qcd (qaY (k.s::ws)),qbn (qaY (k.s::ws)),st⟩ (by rw[rp,est];rfl) a _ s18 ⟨(s14.trans s48).none ha,m,sa,qab,?_,?_,?_⟩
   ·exact(s14.trans (s46.trans (qad hp7 _))).none hm
   ·rw[qau (qao em ha)];exact em
   ·exact hst.keep (s48.trans (qad ha _)).keep fun b n _=>s3.none n
end
end K08
namespace L2
open PySem PySem.Spec PyProof.Rows
end L2
namespace K08
open PySem L2 Bk Gen
abbrev sNoteNumbers:Stmt:=top 37
abbrev sMayHold:Stmt:=top 36
abbrev sElders:Stmt:=top 35
abbrev sHolds:Stmt:=top 38
section
variable{P:Program}{w:World}{K:PySem.W.Frag}{mg:Str→Option Value}{base:Heap}
theorem scNoteNumbers:FnScope ["stuff"] ["stuff"] (qag sNoteNumbers):=⟨rfl,rfl,rfl,by decide +kernel,rfl,by decide +kernel,by decide +kernel⟩
theorem ok_note_numbers{f:Addr}{fd:FuncData}(F:Fun K "note_numbers" "note_numbers" sNoteNumbers f fd)(N:Nums mg):FnOk P w K mg base CX0 1 f fd ["stuff"] spNotesA:=by
 refine F.ok scNoteNumbers (fun vs H Q E h=>?_) (fun cdv A outer s H vs Q E hr h=>?_)
 ·obtain⟨sf,st,N',rfl,_⟩:=h;rfl
 ·obtain⟨sf,st,N',rfl,⟨nsf,vs,hs,its⟩,ok,le,q⟩:=h;obtain⟨_,g_SORT⟩:=N.sort;obtain⟨_,g_THING⟩:=N.thing;have lv:vs.length=st.length:=its.length;have zl:vs.length<sizeLine:=qaC (by omega);refine⟨_,(qae (qak (qbh (own:=["piece"]) (by rfl) (CompScope.plain (by rfl) (by decide +kernel) (by decide +kernel) (by decide +kernel)) (qbg (pv 0)) (fun cl C s2 H2 fp=>(qax (i:=0) (by show(["piece"]:List Str).Nodup;decide +kernel) (by rfl) (by trivial) (by trivial))) (fun cl C s2 H2 fp=>(qb3 (qaj op_eq (qap (r:=rIxT K) ix_tup (pv 0) (qai (v:=.int 0) (by rfl) g_SORT ⟨_,rfl⟩) (fun _ _=>rfl)) qah (qam _)))) (fun cl C s2 H2 fp=>(qap (r:=rIxT K) ix_tup (pv 0) (qai (v:=.int 1) (by rfl) g_THING ⟨_,rfl⟩) (fun _ _=>rfl)))))),?_⟩;refine⟨_,rfl,sf,rfl,⟨_,SqL.of hs⟩,qaZ (fun i ys σ' H'=>H'=H∧ys=(qaT (st.take i)).map V.int∧∃z,σ'=[z]) zl ⟨rfl,rfl,none,rfl⟩ ?_ ?_ ?_⟩
  ·rintro i ys σ' H' hi ⟨rfl,rfl,_⟩;refine⟨SqL.of hs,?_⟩;rw[List.length_map];unfold qaT;exact Nat.le_trans (List.length_filterMap_le ..) (by rw[List.length_take];exact Nat.min_le_left _ _)
  ·rintro i x ys σ' H' hx ⟨rfl,rfl,z,rfl⟩;obtain⟨th,et,it⟩:=qbz its hx;have pk:=ok th (List.mem_of_getElem? et);have tk:qaT (st.take (i+1))=qaT (st.take i)++qaT [th]:=by
    rw[List.take_succ,et,Option.toList_some,notes_app]
   cases th with
   | int n=>cases pk
   | tri so x t =>
     obtain⟨a,rfl,_,ha⟩:=it
     refine⟨_,rfl,a,_,_,_,rfl,rfl,SqT.of ha,rfl,rfl,_,rfl,?_⟩
     rw[show decide (V.str so.s=V.str (Str.ofString "note"))=decide (so=.note)from sot so .note]
     rw[tk,List.map_append]
     cases so<;>cases x<;>first | (exfalso;exact pk) | skip
     · exact iteF ⟨rfl,by simp[qaT,noteNum],_,rfl⟩
     · exact iteF ⟨rfl,by simp[qaT,noteNum],_,rfl⟩
     · exact iteT ⟨_,rfl,a,_,_,_,rfl,rfl,SqT.of ha,rfl,rfl,by simp[qaT,noteNum,thV],_,rfl⟩
  ·rintro ys σ' H' ⟨rfl,rfl,_⟩ D hD;refine q D _ hD (qad hD _) ?_;rw[qab,lv,List.take_length]
def MayX(P:Program)(w:World)(K:PySem.W.Frag)(a:Addr):Prop:=∃kvs,KDict P w K a kvs∧∀e∈kindsAll,∃q ks,valueAt kvs (.inr e.s)=some (.ref q)∧KTup K q ks∧∀k,mayHold e k=decide (k∈ks)
theorem scMayHold:FnScope ["elder_kind", "kind"] ["elder_kind", "kind"] (qag sMayHold):=⟨rfl,rfl,rfl,by decide +kernel,rfl,by decide +kernel,by decide +kernel⟩
theorem ok_may_hold{f a_MAY_HOLD:Addr}{fd:FuncData}(F:Fun K "may_hold" "may_hold" sMayHold f fd)(g_MAY_HOLD:mg "MAY_HOLD" = some (.ref a_MAY_HOLD))(MD:MayX P w K a_MAY_HOLD):FnOk P w K mg base CX0 1 f fd ["elder_kind", "kind"] spMayX:=by
 refine F.ok scMayHold (fun vs H Q E h=>?_) (fun cdv A outer s H vs Q E hr h=>?_)
 ·obtain⟨e,k,rfl,_⟩:=h;rfl
 ·obtain⟨e,k,rfl,he,q⟩:=h;obtain⟨kvs,KD,all⟩:=MD;obtain⟨t,ks,hv,kt,hk⟩:=all e he;refine⟨_,(qae (qak (qaI op_in_seq (pv 1) (qap (r:=rIxD P w K) ix_kdict (qai (v:=.ref a_MAY_HOLD) (by rfl) g_MAY_HOLD rfl) (pv 0) (fun _ _=>rfl)) (by with_unfolding_all rfl)))),?_⟩;refine⟨_,rfl,_,rfl,a_MAY_HOLD,e.s,kvs,.ref t,.ref t,rfl,rfl,KD,hv,rfl,t,_,rfl,.inr (kt H),rfl,qb5 _,?_⟩;rw[if_neg Bool.false_ne_true,qcm,←hk k];exact q
theorem scElders:FnScope ["book", "node", "elders", "above"] ["book", "node"] (qag sElders):=⟨rfl,rfl,rfl,by decide +kernel,rfl,by decide +kernel,by decide +kernel⟩
theorem ok_elders_of{f:Addr}{fd:FuncData}(F:Fun K "elders_of" "elders_of" sElders f fd)(U:∃t,mg "ELDER" = some (.int 0 t)):FnOk P w K mg base CX0 1 f fd ["book", "node"] spElders:=by
 refine F.ok scElders (fun vs H Q E h=>?_) (fun cdv A outer s H vs Q E hr h=>?_)
 ·obtain⟨p,i,l,d,ds,N,rfl,_⟩:=h;rfl
 ·obtain⟨p,i,l,d,ds,N,rfl,⟨as,hp,nd⟩,ed,lv,ll,q⟩:=h;obtain⟨_,g_ELDER⟩:=U;refine⟨_,(qac (qan (i:=2) scElders.nd (by rfl) (by trivial) (qaD pa_nil))
   (qac (qan (i:=3) scElders.nd (by rfl) (by trivial) (qap ix_tup (qap ix_list (pv 0) (pv 1) (fun _ _=>rfl)) (qai (v:=.int 0) (by rfl) g_ELDER ⟨_,rfl⟩) (fun _ _=>rfl)))
   (qac (qdb PassesOwn.never (qaj op_ne (pv 3) (qcY un_neg qaf) (qam _)) (qac (qa5 (qbk PySem.F.plainAttrs_list PySem.F.slot_list_append PySem.F.type_list_append mt_append (pv 2) (qaa (pv 3) pa_nil)))
   (qae (qan (i:=3) scElders.nd (by rfl) (by trivial) (qap ix_tup (qap ix_list (pv 0) (pv 3) (fun _ _=>rfl)) (qai (v:=.int 0) (by rfl) g_ELDER ⟨_,rfl⟩) (fun _ _=>rfl))))))
   (qae (qak (pv 2)))))),?_⟩
  refine⟨by show 0≤sizeLine;decide,fun L hL=>?_⟩;have s1:=qad hL (.lst []);have rm:=qfn lv ed;obtain⟨a,ea,na⟩:=nd.get ed;obtain⟨m',s',ha,_⟩:=na.ex;refine⟨_,rfl,_,rfl,p,_,_,_,rfl,rfl,SqL.of (s1 _ _ hp),qcq ea,a,_,_,_,rfl,rfl,SqT.of (s1 _ _ ha),rfl,?_⟩;refine⟨fun m σ H'=>Same H H'∧∃(pre:List Int) (ab:Int),σ=[some (.ref p),some (.int i),some (.ref L),some (.int ab)]∧H' L=some (.lst (pre.map V.int))∧RemE ds ab m∧pre++eldR ds m ab=eldR ds l d.e,⟨l,s1,[],_,rfl,qab,rm,rfl⟩,?_⟩;rintro m σ H' ⟨s2,pre,ab,rfl,hl,rm,eq⟩;refine⟨_,rfl,_,rfl,rfl,_,rfl,?_⟩;rcases rm with⟨rfl,rfl⟩ | ⟨j,k',rfl,lj,rfl⟩
  ·rw[decide_eq_true (rfl:V.int (-1)=V.int (-1))];refine iteF ⟨_,rfl,?_⟩;rw[eldR,List.append_nil]at eq;subst eq;exact q L H' hL s2 hl
  ·rw[decide_eq_false (fun z=>by have:=V.int.inj z;omega:¬V.int (j:Int)=V.int (-1))];refine iteT ⟨fun σ' H''=>Same H H''∧∃(ab:Int),σ'=[some (.ref p),some (.int i),some (.ref L),some (.int ab)]∧H'' L=some (.lst ((pre++[(j:Int)]).map V.int))∧RemE ds ab k'∧(pre++[(j:Int)])++eldR ds k' ab=eldR ds l d.e,?_,?_⟩
   ·rintro σ' H'' ⟨s3,ab,rfl,h3,rm,eq'⟩;exact⟨k',Nat.lt_succ_self _,s3,pre++[(j:Int)],ab,rfl,h3,rm,eq'⟩
   ·obtain⟨d2,ed2⟩:=lj.nd;have rm2:=qfn lj ed2;obtain⟨a2,ea2,na2⟩:=nd.get ed2;obtain⟨m3,s3,ha2,_⟩:=na2.ex;have pl:pre.length≤999:=by have:=congrArg List.length eq;rw[List.length_append,qdf,qdf]at this;omega
    have s4:Same H (upd H' L (.lst (pre.map V.int++[.int (j:Int)]))):=same_put s2 hL;refine⟨_,rfl,.inl ⟨rfl,_,SqL.of hl⟩,_,rfl,L,_,_,rfl,rfl,hl,qaC (by rw[List.length_map];omega),?_⟩;refine⟨_,rfl,_,rfl,p,_,_,_,rfl,rfl,SqL.of (s4 _ _ hp),qcq ea2,a2,_,_,_,rfl,rfl,SqT.of (s4 _ _ ha2),rfl,?_⟩;exact⟨s4,_,rfl,by rw[qab];simp,rm2,by rw[qeV ed2]at eq;rw[←eq];simp⟩
theorem scHolds:FnScope ["book", "node"] ["book", "node"] (qag sHolds):=⟨rfl,rfl,rfl,by decide +kernel,rfl,by decide +kernel,by decide +kernel⟩
theorem ok_holds{f C:Addr}{fd:FuncData}{bm:List Value}{B newId initId:String}(F:FunD K "holds" "holds" sHolds f fd)(T:Bn mg)(tE:∃t,mg "ELDER" = some (.int 0 t))(O_NoNode:PyProof.Rows.OwnCls "NoNode" C bm newId mg base)(FB:ExcBaseFacts B newId initId bm):FnOk P w K mg base (CX1 P w) 1 f fd ["book", "node"] (qcW C):=by
 refine F.ok scHolds (fun vs H Q E h=>?_) (fun cdv A outer s H vs Q E hr h=>?_)
 ·obtain⟨p,n,ds,N,rfl,_⟩:=h;rfl
 ·obtain⟨p,n,ds,N,rfl,⟨as,hp,nd⟩,le,nb,alt⟩:=h;obtain⟨tE,g_ELDER⟩:=tE;refine⟨_,(qac (qaH (qbl (qcQ op_le op_lt qaf (pv 1) (qal call_len_seq (by rfl) T.len b_len (qaa (pv 0) pa_nil)))) (qae (ps_raise O_NoNode FB (show A.handled=none from hr.hd) (by rfl) (qaa (pe_joined (qgt qah (qgt (pe_fmtI (pv 1)) pj_nil))) pa_nil))) pss_nil)
   (qae (qak (qbh (own:=["number", "other"]) (by rfl) (ix:=[1]) (frees:=["node"]) (CompScope.frees (by rfl) (by decide +kernel) (by decide +kernel) (by decide +kernel) (by rfl) (by decide +kernel) (by first | exact qfg (by rfl) | exact free2 (by rfl) (by rfl))) (qdr (by rfl) T.enumerate (qaa (pv 0) pa_nil)) (fun cl C s2 H2 fp=>(qgu K (n:=2) (by rfl) (by rfl) (qbm (qax (i:=0) (by show(["number", "other", "node"]:List Str).Nodup;decide +kernel) (by rfl) (by trivial) (by trivial)) (qbm (qax (i:=1) (by show(["number", "other", "node"]:List Str).Nodup;decide +kernel) (by rfl) (by trivial) (by trivial)) pgs_nil)))) (fun cl C s2 H2 fp=>(qb3 (qaj op_eq (qap (r:=rIxT K) ix_tup (pv 1) (qai (v:=.int 0) (by rfl) g_ELDER ⟨_,rfl⟩) (fun _ _=>rfl)) (pv 2) (qam _)))) (fun cl C s2 H2 fp=>(pv 0)))))),?_⟩
  have lenas:as.length=ds.length:=nd.length;have el:(((as.map V.ref).length:Nat):Int)=ds.length:=by rw[List.length_map,lenas]
  have zl:(as.map V.ref).length<sizeLine:=by rw[List.length_map];exact qaC (by omega)
  have raised:¬(0≤n∧n<ds.length)→qgN (qgo (fun σ H Q=>qgm (tC (V.str (Str.ofString "there is no node "))) (qgm (fun σ H Q=>tVar 1 σ H fun x H1=>∃i:Int,x=V.int i∧i.natAbs<10 ^ 100∧((Str.ofString (toString i)).length≤1921→Q (V.str (Str.ofString (toString i))) H1)) tJnil) Str.empty σ H Q) tNil) C E {nx:=fun _ _=>False,rt:=Q} [some (.ref p),some (.int n)] H:=fun c=>by
   have bad:∀H',Same H H'→E (.ref C) none H':=by
    rcases alt with a | a
    ·exact a.2
    ·exact absurd a.1 c
   refine⟨_,rfl,by decide +kernel,_,rfl,n,rfl,Nat.lt_trans nb (by decide +kernel),fun hl=>?_⟩;have l1:(Str.empty++Str.ofString "there is no node " ++ Str.ofString (toString n)).length≤sizeLine:=by
    rw[qcu];have e1:(Str.empty++Str.ofString "there is no node ").length=17:=by decide +kernel
    have e2:3000≤sizeLine:=by decide +kernel
    omega
   exact⟨_,rfl,l1,l1,by show 1≤sizeLine;decide,bad H (Same.refl H)⟩
  refine⟨_,rfl,_,_,rfl,rfl,_,rfl,?_⟩;refine ite2 (fun c0=>?_) (fun c0=>?_)
  rotate_left
  ·refine⟨_,rfl,iteT ?_⟩;exact raised fun z=>c0 (decide_eq_true z.1)
  refine⟨_,rfl,p,_,rfl,.inl (SqL.of hp),_,_,rfl,rfl,_,rfl,?_⟩
  by_cases c:0≤n∧n<ds.length
  rotate_left
  ·have e:decide (n<(((as.map V.ref).length:Nat):Int))=false:=decide_eq_false fun z=>c ⟨of_decide_eq_true c0,by rw[el]at z;exact z⟩
   rw[e];exact iteT (raised c)
  ·rcases alt with a | a
   ·exact absurd c a.1
   obtain⟨_,q⟩:=a;have e:decide (n<(((as.map V.ref).length:Nat):Int))=true:=decide_eq_true (by rw[el];exact c.2);rw[e];refine iteF ?_;refine⟨_,rfl,p,rfl,⟨_,SqL.of hp⟩,comp_enum (fun i ys σ' H'=>Same H H'∧ys=(qa0 ds n i).map V.int∧∃a b,σ'=[a,b,some (.int n)]) zl ⟨Same.refl H,rfl,none,none,rfl⟩ ?_ ?_ ?_⟩
   ·rintro i ys σ' H' hi ⟨s1,rfl,_⟩;exact⟨SqL.of (s1 _ _ hp),by rw[List.length_map];exact qcR _ _ _⟩
   ·rintro i x ys σ' H' t hx ht ⟨s1,rfl,a,b,rfl⟩;obtain⟨a',ea,rfl⟩:=qeD hx;obtain⟨d,ed,nad⟩:=nd.at ea;obtain⟨m',s',ha',_⟩:=nad.ex;have s2:=s1.trans (qad ht (.tup [.int (i:Nat),.ref a']));refine⟨t,_,rfl,SqT.of qab,rfl,_,_,rfl,_,_,rfl,rfl,?_⟩;refine⟨_,rfl,a',_,_,_,rfl,rfl,SqT.of (s2 _ _ ha'),rfl,_,rfl,rfl,_,rfl,?_⟩
    by_cases he:d.e=n
    ·rw[decide_eq_true (congrArg V.int he)];refine iteT ⟨_,rfl,s2,?_,_,_,rfl⟩;rw[kidsTo_yes ed he,List.map_append];rfl
    ·rw[decide_eq_false fun z=>he (V.int.inj z)];refine iteF ⟨s2,?_,_,_,rfl⟩;rw[kidsTo_no ed he]
   ·rintro ys σ' H' ⟨s1,rfl,_⟩ D hD;refine q D _ (s1.free hD) (s1.trans (qad hD _)) ?_;rw[qab,List.length_map,lenas]
end
end K08
namespace Gen
open PySem L2 Bk
def Down(ds:List Nd):List Nat→Prop
 | []=>False
 | [a]=>∃d,ds[a]?=some d∧d.e=-1
 | b::a::r=>(∃d,ds[b]?=some d∧d.e=(a:Int)∧a<b)∧Down ds (a::r)
theorem Down.lev{ds:List Nd}:∀{r:List Nat} {b:Nat},Down ds (b::r)→Lev ds b r.length∧∃d,ds[b]?=some d∧eldR ds r.length d.e=r.map fun(n:Nat)=>(n:Int)
 | [], b, h => by
   obtain⟨d,e,he⟩:=h
   exact⟨.top e he,d,e,rfl⟩
 | a :: r, b, h => by
   obtain⟨⟨d,e,he,lt⟩,h⟩:=h
   obtain⟨l,d',e',q⟩:=Down.lev h
   refine⟨.up e he lt l,d,e,?_⟩
   rw[List.length_cons,he,qeV e',q]
   rfl
theorem Down.len{ds:List Nd}:∀{r:List Nat} {b:Nat},Down ds (b::r)→r.length≤b
 | [],b,h=>Nat.zero_le _
 | a :: r, b, h => by
   obtain⟨⟨d,e,he,lt⟩,h⟩:=h
   have:=Down.len h
   rw[List.length_cons]
   omega
theorem Down.mem{ds:List Nd}:∀{r:List Nat},Down ds r→∀n∈r,∃d,ds[n]?=some d
 | [a], h, n, hn => by
   obtain⟨d,e,_⟩:=h
   have:n=a:=by simpa using hn
   exact⟨d,by rw[this];exact e⟩
 | b :: a :: r, h, n, hn => by
   obtain⟨⟨d,e,_⟩,h⟩:=h
   rcases List.mem_cons.mp hn with rfl | hn
   · exact⟨d,e⟩
   · exact Down.mem h n hn
theorem Down.app{ds:List Nd}(more:List Nd):∀{r:List Nat},Down ds r→Down (ds++more) r
 | [a], h => by
   obtain⟨d,e,q⟩:=h
   exact⟨d,by rw[List.getElem?_append_left (List.getElem?_eq_some_iff.mp e).1];exact e,q⟩
 | b :: a :: r, h => by
   obtain⟨⟨d,e,q⟩,h⟩:=h
   exact⟨⟨d,by rw[List.getElem?_append_left (List.getElem?_eq_some_iff.mp e).1];exact e,q⟩,Down.app more h⟩
theorem Down.drop{ds:List Nd}:∀{r:List Nat} {n:Nat},Down ds r→n<r.length→Down ds (r.drop n)
 | r,0,h,_=>h
 | [a],n+1,h,l=>absurd l (by simp)
 | b::a::r,n+1,h,l=>Down.drop (r:=a::r) h.2 (by simpa using l)
def qc6(ds:List Nd):Nat→Nat→List Nat
 | 0,_=>[]
 | f + 1, b => match ds[b]? with
   | none=>[]
   | some d=>if d.e=-1 then[b]else b::qc6 ds f d.e.toNat
theorem Down.is{ds:List Nd}:∀{r:List Nat} {b f:Nat},Down ds (b::r)→r.length<f→qc6 ds f b=b::r
 | _,_,0,_,l=>absurd l (Nat.not_lt_zero _)
 | [], b, f + 1, h, _ => by
   obtain⟨d,e,he⟩:=h
   rw[qc6,e]
   simp[he]
 | a :: r, b, f + 1, h, l => by
   obtain⟨⟨d,e,he,lt⟩,h⟩:=h
   rw[qc6,e]
   have n1:¬d.e=-1:=by omega
   simp only[n1,if_false]
   rw[he,Int.toNat_natCast,Down.is h (by simpa using l)]
def upL(ds:List Nd):List Nat:=qc6 ds ds.length (ds.length-1)
def qbA(ds:List Nd):List Nat:=(upL ds).reverse
def qeF(ds:List Nd)(n:Nat):Kd:=match ds[n]? with | some d=>d.k | none=>.no
def qda(ok:Nat→Bool):Nat→Nat
 | 0=>0
 | t+1=>if ok (t+1)then t+1 else qda ok t
def okLv(ds:List Nd)(k:Kd)(t:Nat):Bool:=decide (t≤(qbA ds).length) && mayHold (qeF ds ((qbA ds).getD (t-1) 0)) k
def qba(ds:List Nd)(k:Kd)(lv:Nat):Nat:=qda (okLv ds k) (min (max lv 1) 6)
def qcI(ds:List Nd)(lv:Nat):Nat:=(qbA ds).getD (lv-1) 0
def qaS(ds:List Nd)(nm:Str):Str:=if nm∈ds.map Nd.nm then noName else nm
def MarksOf(mks ms:List Str):Prop:=∃ss:List Str,ss.Perm (once mks)∧Rise ss∧ms=ss.take 4
theorem MarksOf.uniq{mks a b:List Str}(h:MarksOf mks a)(h':MarksOf mks b):a=b:=by
 obtain⟨s,p,r,rfl⟩:=h;obtain⟨s',p',r',rfl⟩:=h';rw[rise_eq (p.trans p'.symm) r r']
open Classical in
noncomputable def qaJ(mks:List Str):List Str:=if h:∃ms,MarksOf mks ms then h.choose else[]
theorem qc9{mks ms:List Str}(h:MarksOf mks ms):qaJ mks=ms:=by
 unfold qaJ;rw[dif_pos ⟨ms,h⟩];exact(Exists.choose_spec (p:=fun ms=>MarksOf mks ms) ⟨ms,h⟩).uniq h
def qaq(k:Kd)(st:List Th):List Th:=(if k=.note then st.filter (fun x=>!isNote x)else st.dropWhile isNote).take 60
def bareSt:List Th:=[.tri .word (.inl (T "?")) 0]
def qff(k:Kd)(st:List Th):List Th:=if ofPieces k then(if qaq k st=[]then bareSt else qaq k st)else st
noncomputable def qcC(ds:List Nd)(e:Int)(d:Nd):Nd:=⟨e,d.k,qaS ds d.nm,qaJ d.mks,qff d.k d.st⟩
open Classical in
noncomputable def wd(p:Prop)(x:Str):List Str:=if p then[x]else[]
noncomputable def qa1(ds:List Nd)(d:Nd):List Str :=
 wd (qaS ds d.nm≠d.nm) (T "name")++wd (qaJ d.mks≠d.mks) (T "marks")++wd (ofPieces d.k=true∧qaq d.k d.st≠d.st) (T "pieces")++wd (ofPieces d.k=true∧qaq d.k d.st=[]) (T "bare")
noncomputable def qaX(d:Nd)(lv:Nat):List Str:=wd ((lv:Int)≠d.e) (T "level")
noncomputable def qaA(ds:List Nd)(d:Nd):List Nd×List Str :=
 if qba ds d.k d.e.toNat=0 then([],[T "place"])else([qcC ds (qcI ds (qba ds d.k d.e.toNat)) d],qaX d (qba ds d.k d.e.toNat)++qa1 ds d)
noncomputable def qbi(d:Nd):List Nd×List Str :=
 if d.k=.body then([qcC [] (-1) d],qaX d 0++qa1 [] d)else(bodyNd::(qaA [bodyNd] d).1,T "body" :: (qaA [bodyNd] d).2)
noncomputable def qa9(ds:List Nd)(x:Str):List Nd×List Str :=
 match qaG x with
 | none=>([],[T "form"])
 | some d => if 60 ≤ ds.length then ([], [T "many"]) else if ds = [] then qbi d
   else if d.k=.body then((qaA ds {d with k:=.case}).1,T "body" :: (qaA ds {d with k:=.case}).2)else qaA ds d
noncomputable def rdTo(rows:List Str):Nat→List Nd×List (Int×Str)
 | 0=>([],[])
 | i + 1 => match rows[i]? with
   | none=>rdTo rows i
   | some x=>((rdTo rows i).1++(qa9 (rdTo rows i).1 x).1,(rdTo rows i).2++(qa9 (rdTo rows i).1 x).2.map fun y=>((i:Int),y))
def kids(ds:List Nd)(n:Int):List Int:=qa0 ds n ds.length
def qcf(ds:List Nd)(n:Nat)(d:Nd):Bool:=mayHold d.k .note && decide ((qaT d.st).length≠(kids ds n).length)
def qbI(m:Nat):Nat→List Th→List Th
 | _,[]=>[]
 | c,x::r=>if isNote x then(if c<m then qdT c::qbI m (c+1) r else qbI m c r)else x::qbI m c r
def cntN(m:Nat):Nat→List Th→Nat
 | c,[]=>c
 | c,x::r=>if isNote x∧c<m then cntN m (c+1) r else cntN m c r
def addN(c:Nat):Nat→List Th
 | 0=>[]
 | j+1=>addN c j++[qdT (c+j:Nat)]
def qbs(m:Nat)(st:List Th):List Th:=qbI m 0 st++addN (cntN m 0 st) (min (m-cntN m 0 st) (60-(qbI m 0 st).length))
def noted(ds:List Nd)(n:Nat)(d:Nd):Nd:=if mayHold d.k .note then {d with st:=qbs (kids ds n).length d.st}else d
def qcn(ds:List Nd)(n:Nat)(d:Nd):List Int:=if mayHold d.k .note then(kids ds n).drop (qaT (qbs (kids ds n).length d.st)).length else[]
def atTo{α β:Type}(ds:List α)(f:Nat→α→List β):Nat→List β
 | 0=>[]
 | i + 1 => match ds[i]? with
   | none=>atTo ds f i
   | some d=>atTo ds f i++f i d
def qdM(ds:List Nd):List Nd:=atTo ds (fun i d=>[noted ds i d]) ds.length
def qbO(ds:List Nd):List Int:=atTo ds (fun i d=>qcn ds i d) ds.length
def qbH(sp:List Int):Nat→Nat
 | 0=>0
 | i+1=>if(i:Int)∈sp then qbH sp i else qbH sp i+1
def qcH(sp:List Int)(j:Int):Int:=if j=-1 then -1 else(qbH sp j.toNat:Int)
def qei(ds:List Nd)(sp:List Int)(i:Nat):List Nd:=atTo ds (fun i d=>if(i:Int)∈sp then[]else[{d with e:=qcH sp d.e}]) i
def qaw(ds:List Nd):List Nd:=qei (qdM ds) (qbO ds) (qdM ds).length
def qca(ds:List Nd)(n:Nat)(d:Nd):Kd:=match (kids ds d.e).filter (fun j=>decide ((n:Int)<j))with
 | []=>.no
 | j::_=>qeF ds j.toNat
def qaQ(ds:List Nd)(n:Nat)(d:Nd):Bool:=(decide (d.k=.aside) && decide (qca ds n d≠.text)) || (decide (d.k∈[Kd.aside,.shelf,.grid]) && decide (kids ds n=[]))
def qbb(ds:List Nd):List Nd:=atTo ds (fun i d=>[{d with k:=if qaQ ds i d then .case else d.k}]) ds.length
def begun(ds:List Nd):List Nd:=if ds=[]then[bodyNd]else ds
def bareText:Nd:=⟨0,.text,noName,[],bareSt⟩
def qfB(ds:List Nd):List Nd:=if kids (qbb (qaw (begun ds))) 0=[]then qbb (qaw (begun ds))++[bareText]else qbb (qaw (begun ds))
noncomputable def qbK(ds:List Nd):List Str:=wd (ds=[]) (T "body")++atTo (begun ds) (fun i d=>if qcf (begun ds) i d then[T "notes"]else[]) (begun ds).length
 ++ atTo (qaw (begun ds)) (fun i d=>if qaQ (qaw (begun ds)) i d then[T "case"]else[]) (qaw (begun ds)).length++wd (kids (qbb (qaw (begun ds))) 0=[]) (T "bare")
noncomputable def qes(rows:List Str):List Nd×List (Int×Str):=(qfB (rdTo rows rows.length).1,(rdTo rows rows.length).2++(qbK (rdTo rows rows.length).1).map fun y=>((-1:Int),y))
structure PartsOk(d:Nd):Prop where
 k:d.k∈kindsAll
 e:0≤d.e∧d.e≤100000
 nm:d.nm=noName∨Name d.nm
 mks:(∀m∈d.mks,Name m)∧d.mks.length≤60
 pc:ofPieces d.k=true→(∀x∈d.st,PcOk x)∧d.st.length≤500
 st:ofPieces d.k=false→Stuff d.k d.st
structure NodesOk(ds:List Nd):Prop where
 form:∀d∈ds,Form d∧d.k∈kindsAll
 down:ds≠[]→Down ds (upL ds)∧(upL ds).head?=some (ds.length-1)
 le:ds.length≤60
 hung:∀n d,ds[n]?=some d→(n=0∧d.e=-1∧d.k=.body)∨(0<n∧∃(j:Nat) (c:Nd),d.e=(j:Int)∧j<n∧ds[j]?=some c∧mayHold c.k d.k=true)
end Gen
namespace L2
open PySem PySem.Spec PyProof.Rows
theorem lri_no_len:typeLookup (.type "list_reverseiterator") "__len__" = pure none:=by rw[typeLookup_type,builtinLookup_eq_fast];kernel_rfl
theorem slot_lri_hint:Slot "list_reverseiterator" "__length_hint__" "list_reverseiterator.__length_hint__" :=
 .of (owner := "list_reverseiterator") (n := "__length_hint__") (by rw[typeLookup_type,builtinLookup_eq_fast];kernel_rfl) (by decide +kernel) (by decide +kernel) (by decide +kernel)
  (by first | exact .inl (by decide +kernel) | exact .inr (by decide +kernel)) (by rw[isSubtype_type];kernel_rfl)
section
variable{prog:Program}{w:World}{A:Around}{E:Value→Shared→Prop}{s:Shared}
theorem hint_rev{I l:Addr}{i:Int}{Q:Bool→Shared→Prop}(hit:s.heap.IsRevIter I l i)(h:Q false s):wpAny (model prog w) A (Builtin.List.listLengthHint (.ref I)) Q E s:=by
 unfold Builtin.List.listLengthHint;refine wpAny_bind (wpAny_specialOf hit.typeIs lri_no_len ?_);show wpAny _ _ (specialOf (Value.ref I) (Str.ofString "__length_hint__")>>=_) _ _ _;refine wpAny_bind (wpAny_specialOf hit.typeIs slot_lri_hint.lookup ?_);generalize hid:("list_reverseiterator.__length_hint__" : String)=id0
 wp_delta
 rw[show splitId id0=some ("list_reverseiterator", "__length_hint__")from by subst hid;decide +kernel];subst hid;refine wpAny_bind (wpAny_isInstance (T := "list_reverseiterator") (b:=true) hit.typeIs (by rw[isSubtype_type];kernel_rfl) ?_);refine wpAny_ite_split (fun hab=>absurd hab (by decide)) (fun _=>?_);refine wpAny_ite_split (fun _=>?_) (fun hab=>absurd (by decide +kernel) hab);refine wpAny_ite_split (fun hab=>absurd hab (by decide +kernel)) (fun _=>?_);exact wpAny_pure h
theorem call_list_rev{Q:Value→Shared→Prop}{I l:Addr}{items:Array Value}(hh:A.handled=none)(hit:s.heap.IsRevIter I l ((items.size:Int) - 1))(hl:s.heap.IsList l items)(hne:l≠I)(hlen:items.size≤sizeLine)(hQ:∀ h' tk acc' c',(∀ b o,b≠I→s.heap.get? b=some o→h'.get? b=some o)→h'.get? s.heap.objs.size=some { cls:=.type "list",dict:=none,data:=.seq acc' c',slots:=#[] }→ItemsOf (fun i v=>items[items.size - 1 - i]?=some v) acc' items.size→Q (.ref s.heap.objs.size) { s with heap:=h',toks:=tk }) :
  wpAny (model prog w) A (call (.type "list") [.ref I]) Q E s:=by
 have hIlt:I < s.heap.objs.size:=by obtain ⟨o,ho,_⟩:=hit; exact Heap.lt_size ho
 have hllt:l < s.heap.objs.size:=by obtain ⟨o,ho,_⟩:=hl; exact Heap.lt_size ho
 refine callType_codes (Q₁:=fun obj s₁=>obj=.ref s.heap.objs.size∧s₁={ s with heap:=s.heap.push { cls:=.type "list",data:=.seq #[] } }) F.called_list (F.typeCall_list_1 _) F.entry_list_init
  (code_list_new _ ⟨rfl,rfl⟩) fun obj s₁ h₁=>?_
 obtain ⟨rfl,rfl⟩:=h₁
 have hS:(s.heap.push { cls:=.type "list",data:=.seq #[] }).get? s.heap.objs.size=some { cls:=.type "list",data:=.seq #[] }:=Heap.get?_push_size _ rfl
 refine ⟨⟨_,hS,rfl⟩,F.args_list_init_2 _ _,?_⟩
 show wpAny _ _ (do let old ← Builtin.List.listItems (.ref s.heap.objs.size); Builtin.List.listUpdate (.ref s.heap.objs.size) (fun _=>#[]); letGo old.toList.reverse; Builtin.List.listExtendWith (.ref s.heap.objs.size) (.ref I) .none) _ _ _
 refine wpAny_bind ?_
 unfold Builtin.List.listItems
 refine wpAny_bind (wpAny_seqItems hS rfl (wpAny_pure ?_))
 show wpAny _ _ (updateSeq s.heap.objs.size (fun _=>#[]) >>= fun _=>letGo (#[]:Array Value).toList.reverse >>= fun _=>Builtin.List.listExtendWith (.ref s.heap.objs.size) (.ref I) .none) _ _ _
 refine wpAny_bind (wpAny_updateSeq hS rfl ?_)
 have hS₂:=Heap.get?_update_self (Obj.mapSeq (fun _=>(#[]:Array Value))) hS rfl
 have oth:∀ b o,s.heap.get? b=some o→((s.heap.push { cls:=.type "list",data:=.seq #[] }).update s.heap.objs.size (Obj.mapSeq (fun _=>(#[]:Array Value)))).get? b=some o :=
  fun b o e=>(Heap.get?_update_other _ _ (Nat.ne_of_gt (Heap.lt_size e))).trans (Heap.get?_push_of_some _ e)
 refine wpAny_bind (wpAny_letGo ?_)
 unfold Builtin.List.listExtendWith
 have hit2:Heap.IsRevIter ((s.heap.push { cls:=.type "list",data:=.seq #[] }).update s.heap.objs.size (Obj.mapSeq (fun _=>(#[]:Array Value)))) I l ((items.size:Int) - 1):=hit.at fun o e=>oth _ _ e
 have hl2:Heap.IsList ((s.heap.push { cls:=.type "list",data:=.seq #[] }).update s.heap.objs.size (Obj.mapSeq (fun _=>(#[]:Array Value)))) l items:=hl.at fun o e=>oth _ _ e
 refine wpAny_bind (wpAny_typeOf (T := "list_reverseiterator") hit2.typeIs ?_)
 have hSI:s.heap.objs.size≠I:=Nat.ne_of_gt hIlt
 have h1:Builtin.List.listSameRef (.ref s.heap.objs.size) (.ref I)=false:=by simp [Builtin.List.listSameRef,hSI]
 have h2:(Value.type "list_reverseiterator" == Value.type "list")=false:=by decide
 have h3:(Value.type "list_reverseiterator" == Value.type "tuple")=false:=by decide
 simp only [h1,h2,h3,Bool.or_false,Bool.false_eq_true,if_false]
 refine wpAny_bind (wpAny_pyIter_revIter hit2 ?_)
 refine wpAny_bind (wpAny_holding (hint_rev hit2 ?_))
 refine wpAny_ite_split (fun hab=>absurd hab (by decide +kernel)) (fun _=>?_)
 have W:=(Walks.listRev (prog:=prog) (w:=w) (A:=A.in1.in1) hh I l hne items).toS
 refine wpAny_pure ⟨plainId_quiet F.plain_extend_loop _,codeAny_extend_loopS W hlen s.heap.objs.size (fun hm=>?_) .none items.size 0 _ #[] _ rfl (Nat.zero_le _) ⟨Nat.zero_le _,by simpa using hit2,hl2⟩ hS₂ (ItemsOf.nil _) fun s' acc' c' hm hS' hacc=>?_⟩
 ·rcases List.mem_cons.mp hm with e | hm
  ·exact hSI e
  ·exact Nat.ne_of_gt hllt (List.mem_singleton.mp hm)
 ·rw [Moved.eq_with hm]
  refine ⟨rfl,hQ s'.heap s'.toks acc' c' (fun b o hb e=>hm.heap b o (fun hmem=>?_) (oth b o e)) hS' hacc⟩
  rcases List.mem_cons.mp hmem with e' | hmem
  ·exact absurd (Heap.lt_size e) (by rw [e']; exact Nat.lt_irrefl _)
  ·exact hb (List.mem_singleton.mp hmem)
end
theorem rev_vals{xs:List V}{its:List Value}(r:Vals xs its){acc:Array Value}(h:ItemsOf (fun i v=>its.toArray[its.toArray.size-1-i]?=some v) acc its.toArray.size):Vals xs.reverse acc.toList:=by
 have e:acc.toList=its.reverse:=by
  obtain⟨h1,h2⟩:=h;refine List.ext_getElem? fun i=>?_
  by_cases hi:i<its.length
  ·have hi':i<acc.size:=by rw[h1];simpa using hi
   have:=h2 i _ (Array.getElem?_eq_getElem hi');rw[Array.getElem?_toList,Array.getElem?_eq_getElem hi'];rw[List.getElem?_reverse hi];simpa using this.symm
  ·rw[List.getElem?_eq_none_iff.mpr (by simp[h1];omega),List.getElem?_eq_none_iff.mpr (by simp;omega)]
 rw[e];clear h e
 induction r with
 | nil=>exact .nil
 | cons h t ih =>
   rw[List.reverse_cons,List.reverse_cons]
   exact ih.append (.cons h .nil)
def tListRev(K:PySem.W.Frag)(ta:TA):TE:=fun σ H Q=>ta σ H fun vs H1=>∃(a:Addr) (xs:List V),vs=[.ref a]∧SqL K H1 a xs∧∀l,H1 l=none→Q (.ref l) (upd H1 l (.lst xs.reverse))
theorem b_reversed:bootBuiltins "reversed" = some (.type "reversed"):=by decide +kernel
section
variable{X:Cx}{e:Expr}{ta:TA}{p p2 pos pos2:Pos}
theorem pe_listRev(hc:X.calm=true)(hg:Gl X "list")(hm:X.mg "list" = none)(hg2:Gl X "reversed")(hm2:X.mg "reversed" = none)(hv:bootBuiltins "list" = some (.type "list"))(ha:PA X [e] ta)(he:starEach [e] X.env=[(false,eval e X.env)]:=by rfl)(he2:starEach [.Call (.Name "reversed" p2) [e] [] pos2] X.env=[(false,eval (.Call (.Name "reversed" p2) [e] [] pos2) X.env)]:=by rfl) :
  PE X (.Call (.Name "list" p) [.Call (.Name "reversed" p2) [e] [] pos2] [] pos) (tListRev X.K ta):=by
 intro pins s σ H Q I h;refine wpAny_Call_Name_kw (qc8 I hg hm hv ?_ (by decide) (by decide));refine PyProof.Rows.callWith_type1 ?_ he2 (by rfl);rw[he2];show wpAny _ _ (spliced ((false,eval (.Call (.Name "reversed" p2) [e] [] pos2) X.env)::backTo pos [])) _ _ s;refine Calls.spliced_cons ?_;refine wpAny_Call_Name_kw (qc8 I hg2 hm2 b_reversed ?_ (by decide) (by decide));refine PyProof.Rows.callWith_type1 (thn (ha pos2 pins s σ H _ I h) fun us s1 ⟨vs,H1,I1,r1,q1⟩=>?_) he (by rfl);obtain⟨a,xs,rfl,hp,q⟩:=q1;obtain⟨u,rfl,rx⟩:=qdO r1;cases rx;obtain⟨its,rv,pl,hz⟩:=I1.list hp;have hh:=I1.ok.hd hc;have lp:a<s1.heap.objs.size:=by
  obtain⟨o,e,_⟩:=pl.isList;exact Heap.lt_size e
 refine call_reversed_list pl.isList ?_;refine Calls.spliced_nil ?_;refine call_list_rev (I:=s1.heap.objs.size) (l:=a) (items:=its.toArray) hh ⟨_,Heap.get?_push_size _ rfl,rfl,rfl⟩ (pl.isList.push _) (Nat.ne_of_lt lp) (by rw[List.size_toArray,←rv.length];exact hz) fun h' tk acc c kp e' it=>?_
 have kp':∀b o,s1.heap.get? b=some o→h'.get? b=some o:=fun b o eo=>kp b o (Nat.ne_of_lt (Heap.lt_size eo)) (Heap.get?_push_of_some _ eo)
 have hsz:(s1.heap.push (revObj a ((its.toArray.size:Int)-1))).objs.size=s1.heap.objs.size+1:=Heap.size_push ..;refine⟨.ref (s1.heap.push (revObj a ((its.toArray.size:Int)-1))).objs.size,upd H1 (s1.heap.push (revObj a ((its.toArray.size:Int)-1))).objs.size (.lst xs.reverse),I1.laid kp' (by rw[hsz];exact Nat.le_succ _) ?_,rfl,q _ (I1.hok.fresh (by rw[hsz];exact Nat.le_succ _))⟩;exact⟨by rw[List.length_reverse];exact hz,acc.toList,c,rev_vals rv it,by simpa using e'⟩
end
end L2
namespace Gen
open PySem L2 Bk
structure BnZ(mg:Str→Option Value):Prop extends Bn mg where
 min:mg "min" = none
 max:mg "max" = none
 reversed:mg "reversed" = none
theorem b_min:bootBuiltins "min" = some (.builtin "min"):=by decide +kernel
theorem b_max:bootBuiltins "max" = some (.builtin "max"):=by decide +kernel
def Up0(N:Addr→Prop)(H:Hp):Prop:=∀b,H b=none→N b
theorem Up0.same{N:Addr→Prop}{H H':Hp}(u:Up0 N H)(s:Same H H'):Up0 N H':=fun b h=>u b (s.none h)
def qeM(N:Addr→Prop)(H:Hp)(t:Addr)(r:List Nd×List Str):Prop:=∃l m,H t=some (.tup [.ref l,.ref m])∧N l∧BookAt N H l r.1∧N m∧H m=some (.lst (r.2.map V.str))
def spBareBody:Sp:=fun vs H Q _=>vs=[]∧∀a H',Same H H'→NdAt (qbL H) H' a bodyNd→Q (.ref a) H'
def spBareStuff:Sp:=fun vs H Q _=>vs=[]∧∀s H',Same H H'→StAt (qbL H) H' s bareSt→Q (.ref s) H'
def spOpen:Sp:=fun vs H Q _=>∃(p:Addr) (ds:List Nd) (N:Addr→Prop),vs=[.ref p]∧BookAt N H p ds∧NodesOk ds∧ds≠[]∧∀l H',H l=none→Same H H'→H' l=some (.lst (((qbA ds).map fun(n:Nat)=>(n:Int)).map V.int))→Q (.ref l) H'
def spMendLv:Sp:=fun vs H Q _=>∃(p:Addr) (ds:List Nd) (lv:Nat) (k:Kd) (N:Addr→Prop),vs=[.ref p,.int lv,.str k.s]∧BookAt N H p ds∧NodesOk ds∧ds≠[]∧lv≤100000∧∀H',Same H H'→Q (.int (qba ds k lv:Nat)) H'
def spMendName:Sp:=fun vs H Q _=>∃(p:Addr) (ds:List Nd) (nm:Str) (N:Addr→Prop),vs=[.ref p,.str nm]∧BookAt N H p ds∧ds.length≤100∧∀H',Same H H'→Q (.str (qaS ds nm)) H'
def spMendMarks:Sp:=fun vs H Q _=>∃(m:Addr) (mks:List Str),vs=[.ref m]∧H m=some (.lst (mks.map V.str))∧mks.length≤60∧∀l H',H l=none→Same H H'→H' l=some (.lst ((qaJ mks).map V.str))→MarksOf mks (qaJ mks)→Q (.ref l) H'
def spNotesBeg:Sp:=fun vs H Q _=>∃(s:Addr) (st:List Th) (N:Addr→Prop),vs=[.ref s]∧StAt N H s st∧(∀x∈st,PcOk x)∧st.length≤500∧Q (.int ((st.takeWhile isNote).length:Nat)) H
def spMendPieces:Sp:=fun vs H Q _=>∃(k:Kd) (s:Addr) (st:List Th) (N:Addr→Prop),vs=[.str k.s,.ref s]∧StAt N H s st∧Up0 N H∧(∀x∈st,PcOk x)∧st.length≤500∧∀s' H',H s'=none→Same H H'→StAt N H' s' (qaq k st)→Q (.ref s') H'
def spLacks:Sp:=fun vs H Q _=>∃(p:Addr) (n:Nat) (d:Nd) (ds:List Nd) (N:Addr→Prop),vs=[.ref p,.int n]∧BookAt N H p ds∧ds.length≤60∧ds[n]?=some d∧Form d∧d.k∈kindsAll∧∀H',Same H H'→Q (.bl (qcf ds n d)) H'
theorem Paired.dropP{α β:Type}{F:α→β→Prop}:∀{a:List α} {b:List β} (n:Nat),Paired F a b→Paired F (a.drop n) (b.drop n)
 | _,_,0,h=>h
 | _,_,_+1,.nil=>.nil
 | _,_,n+1,.cons _ t=>Paired.dropP n t
theorem Paired.takeP{α β:Type}{F:α→β→Prop}:∀{a:List α} {b:List β} (n:Nat),Paired F a b→Paired F (a.take n) (b.take n)
 | _,_,0,_=>.nil
 | _,_,_+1,.nil=>.nil
 | _,_,n+1,.cons q t=>.cons q (Paired.takeP n t)
theorem qcO(p:Th→Bool):∀l:List Th,l.drop (l.takeWhile p).length=l.dropWhile p
 | []=>rfl
 | x :: r => by
   rw[List.takeWhile_cons,List.dropWhile_cons]
   cases p x with
   | true=>simpa using qcO p r
   | false=>rfl
theorem qd3{ok:Nat→Bool}{t:Nat}(h:ok (t+1)=true):qda ok (t+1)=t+1:=by rw[qda,if_pos h]
theorem qea{ok:Nat→Bool}{t:Nat}(h:ok (t+1)=false):qda ok (t+1)=qda ok t:=by rw[qda,if_neg (by rw[h];decide)]
theorem qf8{x:Th}(h:PcOk x):∃s y n,x=.tri s y n∧isNote x=decide (s=.note):=by
 cases x with
 | int n=>cases h
 | tri s y n=>exact⟨s,y,n,rfl,by cases s<;>rfl⟩
theorem qc2{k:Kd}(h:mayHold k .note=true):k=.text∨k=.head:=by cases k<;>first | exact .inl rfl | exact .inr rfl | cases h
theorem qgi{d:Nd}(h:Form d)(k:ofPieces d.k=true):(∀x∈d.st,PcOk x)∧d.st.length≤60:=by
 have:=h.st;obtain⟨e,k',nm,mks,st⟩:=d;cases k'<;>first | exact⟨this.1,this.2.2⟩ | cases k
end Gen
namespace K08
open PySem L2 Bk Gen
abbrev sBareBody:Stmt:=top 40
abbrev sBareStuff:Stmt:=top 41
abbrev sOpen:Stmt:=top 43
abbrev sMendLevel:Stmt:=top 42
abbrev sMendName:Stmt:=top 44
abbrev sMendMarks:Stmt:=top 45
abbrev sNotesBeg:Stmt:=top 47
abbrev sMendPieces:Stmt:=top 46
abbrev sLacks:Stmt:=top 48
section
variable{P:Program}{w:World}{K:PySem.W.Frag}{mg:Str→Option Value}{base:Heap}
theorem scBareBody:FnScope [] [] (qag sBareBody):=⟨rfl,rfl,rfl,by decide +kernel,rfl,by decide +kernel,by decide +kernel⟩
theorem ok_bare_body{f:Addr}{fd:FuncData}(F:Fun K "bare_body" "bare_body" sBareBody f fd):FnOk P w K mg base CX0 1 f fd [] spBareBody:=by
 refine F.ok scBareBody (fun vs H Q E h=>?_) (fun cdv A outer s H vs Q E hr h=>?_)
 ·obtain⟨rfl,_⟩:=h;rfl
 ·obtain⟨rfl,q⟩:=h;refine⟨_,(qae (qak (qa8 (qaa (qcY un_neg qaf) (qaa qah (qaa qah (qaa (qaD pa_nil) (qaa (qaD pa_nil) pa_nil)))))))),?_⟩;refine⟨_,rfl,by show 0≤sizeLine;decide,fun m hm=>⟨by show 0≤sizeLine;decide,fun s hs=>⟨by show 5≤sizeLine;decide,fun a ha=>?_⟩⟩⟩;have s1:=qad hm (.lst []);have s2:=s1.trans (qad hs (.lst []));refine q a _ (s2.trans (qad ha _)) ⟨s2.none ha,m,s,qab,hm,?_,s1.none hs,[],?_,.nil⟩
  ·exact(qad hs _).trans (qad ha _) _ _ qab
  ·exact qad ha _ _ _ qab
theorem scBareStuff:FnScope [] [] (qag sBareStuff):=⟨rfl,rfl,rfl,by decide +kernel,rfl,by decide +kernel,by decide +kernel⟩
theorem ok_bare_stuff{f:Addr}{fd:FuncData}(F:Fun K "bare_stuff" "bare_stuff" sBareStuff f fd):FnOk P w K mg base CX0 1 f fd [] spBareStuff:=by
 refine F.ok scBareStuff (fun vs H Q E h=>?_) (fun cdv A outer s H vs Q E hr h=>?_)
 ·obtain⟨rfl,_⟩:=h;rfl
 ·obtain⟨rfl,q⟩:=h;refine⟨_,(qae (qak (qaD (qaa (qa8 (qaa qah (qaa qah (qaa qaf pa_nil)))) pa_nil)))),?_⟩;refine⟨by show 3≤sizeLine;decide,fun t ht=>⟨by show 1≤sizeLine;decide,fun s hs=>?_⟩⟩;have s1:=qad ht (.tup [.str So.word.s,.str (Str.ofString "?"),.int 0]);exact q s _ (s1.trans (qad hs _)) ⟨s1.none hs,_,qab,.cons ⟨t,rfl,ht,qad hs _ _ _ qab⟩ .nil⟩
theorem scOpen:FnScope ["nodes", "last"] ["nodes"] (qag sOpen):=⟨rfl,rfl,rfl,by decide +kernel,rfl,by decide +kernel,by decide +kernel⟩
theorem ok_open_nodes{f:Addr}{fd:FuncData}(F:Fun K "open_nodes" "open_nodes" sOpen f fd)(T:BnZ mg)(F_elders_of:Fx P w K mg base CX0 1 "elders_of" ["book", "node"] spElders):FnOk P w K mg base CX0 2 f fd ["nodes"] spOpen:=by
 refine F.ok scOpen (fun vs H Q E h=>?_) (fun cdv A outer s H vs Q E hr h=>?_)
 ·obtain⟨p,ds,N,rfl,_⟩:=h;rfl
 ·obtain⟨p,ds,N,rfl,B,ok,ne,q⟩:=h;have hr_elders_of:=hr;obtain⟨as,hp,nd⟩:=B;have la:as.length=ds.length:=nd.length;obtain⟨dn,hd⟩:=ok.down ne;have le:=ok.le;have g1:1≤ds.length:=by
   cases ds with
   | nil=>exact absurd rfl ne
   | cons=>simp
  refine⟨_,(qac (qan (i:=1) scOpen.nd (by rfl) (by trivial) (qaE op_sub (qal call_len_seq (by rfl) T.len b_len (qaa (pv 0) pa_nil)) qaf))
   (qae (qak (pe_listRev (by rfl) (by rfl) T.list (by rfl) T.reversed b_list (qaa (qaE op_cat (qaD (qaa (pv 1) pa_nil)) (qar F_elders_of hr_elders_of (by rfl) qas (qaa (pv 0) (qaa (pv 1) pa_nil)))) pa_nil))))),?_⟩
  refine⟨_,rfl,p,_,rfl,.inl (SqL.of hp),_,_,rfl,rfl,?_⟩;dsimp only[qbR];rw[List.length_map,la,show((ds.length:Nat):Int)-1=((ds.length-1:Nat):Int) by omega];refine⟨_,rfl,by show 1≤sizeLine;decide,fun o ho=>?_⟩;have s1:=qad ho (.lst [.int (ds.length-1:Nat)]);cases eu:upL ds with
  | nil=>rw[eu]at hd;cases hd
  | cons b r =>
  rw[eu]at dn hd;have eb:b=ds.length-1:=by simpa using hd
  subst eb;obtain⟨lv,d,ed,el⟩:=dn.lev;have ll:=dn.len;refine⟨_,rfl,_,rfl,p,ds.length-1,r.length,d,ds,N,rfl,⟨as,s1 _ _ hp,nd.keep s1.keep fun _ n _=>n⟩,ed,lv,by omega,fun L H2 hL s2 h2=>?_⟩;refine⟨o,L,_,_,rfl,rfl,s2 _ _ qab,h2,?_,fun z hz=>?_⟩
  ·rw[List.length_map,qdf];exact Nat.le_trans (show 1+r.length≤1000 by omega) (by decide)
  refine⟨z,_,rfl,SqL.of qab,fun l hl=>?_⟩;have s3:=((s1.trans s2).trans (qad hz (.lst (V.int (ds.length-1:Nat)::(eldR ds r.length d.e).map V.int))));refine q l _ (s3.none hl) (s3.trans (qad hl _)) ?_;rw[qab];unfold qbA;rw[eu,el];simp
theorem scMendLevel:FnScope ["nodes", "level", "kind", "above", "tried"] ["nodes", "level", "kind"] (qag sMendLevel):=⟨rfl,rfl,rfl,by decide +kernel,rfl,by decide +kernel,by decide +kernel⟩
theorem ok_mended_level{f:Addr}{fd:FuncData}(F:Fun K "mended_level" "mended_level" sMendLevel f fd)(T:BnZ mg)(U:Glob mg)(NU:Nums mg)(F_open_nodes:Fx P w K mg base CX0 2 "open_nodes" ["nodes"] spOpen)(F_may_hold:Fx P w K mg base CX0 1 "may_hold" ["elder_kind", "kind"] spMayX):FnOk P w K mg base CX0 3 f fd ["nodes", "level", "kind"] spMendLv:=by
 refine F.ok scMendLevel (fun vs H Q E h=>?_) (fun cdv A outer s H vs Q E hr h=>?_)
 ·obtain⟨p,ds,lv,k,N,rfl,_⟩:=h;rfl
 ·obtain⟨p,ds,lv,k,N,rfl,B,ok,ne,ll,q⟩:=h;obtain⟨_,g_GREATEST_LEVEL⟩:=U.level;obtain⟨_,g_KIND⟩:=NU.kind;have hr_open_nodes:=hr;have hr_may_hold:Room 1 _:=hr.mono (by decide);obtain⟨dn,hd⟩:=ok.down ne;refine⟨_,(qac (qan (i:=3) scMendLevel.nd (by rfl) (by trivial) (qar F_open_nodes hr_open_nodes (by rfl) qas (qaa (pv 0) pa_nil)))
   (qac (qb4 PassesOwn.never (by rfl) (pi_rangeD (by rfl) T.range (qaa (qal (call_min2 (by rfl)) (by rfl) T.min b_min (qaa (qal (call_max2 (by rfl)) (by rfl) T.max b_max (qaa (pv 1) (qaa qaf pa_nil))) (qaa (qai (v:=.int 6) (by rfl) g_GREATEST_LEVEL ⟨_,rfl⟩) pa_nil))) (qaa qaf (qaa (qcY un_neg qaf) pa_nil)))) (qax (i:=4) scMendLevel.nd (by rfl) (by trivial))
   (qae (qaH (PW.pt (qcg (qaj op_le (pv 4) (qal call_len_seq (by rfl) T.len b_len (qaa (pv 3) pa_nil)) (qam _)) (qbG (qaW (qar F_may_hold hr_may_hold (by rfl) qas (qaa (qap ix_tup (qap ix_list (pv 0) (qap ix_list (pv 3) (qaE op_sub (pv 4) qaf) (fun _ _=>rfl)) (fun _ _=>rfl)) (qai (v:=.int 1) (by rfl) g_KIND ⟨_,rfl⟩) (fun _ _=>rfl)) (qaa (pv 2) pa_nil))))))) (qae (qak (pv 4))) pss_nil)))
   (qae (qak qaf)))),?_⟩
  refine⟨_,rfl,p,ds,N,rfl,B,ok,ne,fun l H1 hl s1 h1=>?_⟩;obtain⟨as,hp,nd⟩:=B;refine⟨_,rfl,_,_,rfl,_,_,rfl,_,rfl,_,_,rfl,?_⟩;have en:∃n0:Nat,n0=min (max lv 1) 6∧(if(6:Int)<(if(1:Int)>(lv:Int)then(1:Int)else(lv:Int))then(6:Int)else(if(1:Int)>(lv:Int)then(1:Int)else(lv:Int)))=(n0:Int):=⟨_,rfl,by omega⟩;obtain⟨n0,e0,en⟩:=en;rw[en];refine⟨⟨by omega,by omega,by decide,by decide⟩,for_down (fun i σ' H'=>Same H H'∧H' l=some (.lst (((qbA ds).map fun(n:Nat)=>(n:Int)).map V.int))∧(∃z,σ'=[some (.ref p),some (.int lv),some (.str k.s),some (.ref l),z])∧qba ds k lv=qda (okLv ds k) (n0-i)) ⟨s1,h1,⟨none,rfl⟩,by unfold qba;rw[←e0];rfl⟩ ?_ ?_⟩
  ·rintro i σ' H' hi ⟨s2,h2,⟨z,rfl⟩,em⟩;obtain⟨t,et⟩:∃t,n0-i=t+1:=⟨n0-i-1,by omega⟩;rw[show(n0:Int)-(i:Nat)=((t+1:Nat):Int) by omega];rw[et]at em;have et':n0-(i+1)=t:=by omega
   refine⟨_,rfl,_,rfl,l,_,rfl,.inl (SqL.of h2),_,_,rfl,rfl,_,rfl,?_⟩;rw[List.length_map,List.length_map]
   by_cases hl2:t+1≤(qbA ds).length
   rotate_left
   ·rw[decide_eq_false (by omega:¬((t+1:Nat):Int)≤((qbA ds).length:Nat))];refine iteF (iteF ⟨s2,h2,⟨_,rfl⟩,?_⟩);rw[em,et',qea];unfold okLv;rw[decide_eq_false hl2,Bool.false_and]
   rw[decide_eq_true (by omega:((t+1:Nat):Int)≤((qbA ds).length:Nat))];have hb:t<(qbA ds).length:=by omega
   have mb:(qbA ds)[t]∈upL ds:=List.mem_reverse.mp (List.getElem_mem hb);obtain⟨c,ec⟩:=dn.mem _ mb;obtain⟨a,ea,na⟩:=nd.get ec;obtain⟨m',s',ha,_⟩:=na.ex;have hk:=(ok.form c (List.mem_of_getElem? ec)).2;have ek:okLv ds k (t+1)=mayHold c.k k:=by
    unfold okLv;rw[decide_eq_true hl2,Bool.true_and,Nat.add_sub_cancel,List.getD_eq_getElem?_getD,List.getElem?_eq_getElem hb,Option.getD_some];unfold qeF;rw[ec]
   refine iteT ⟨_,rfl,_,rfl,_,rfl,_,_,rfl,rfl,l,_,_,_,rfl,rfl,SqL.of h2,(by
    rw[show((t+1:Nat):Int)-1=((t:Nat):Int) by omega];exact qbf (v:=V.int ((qbA ds)[t]:Nat)) (by rw[List.getElem?_map,List.getElem?_map,List.getElem?_eq_getElem hb];rfl)),p,_,_,_,rfl,rfl,SqL.of (s2 _ _ hp),qcq ea,a,_,_,_,rfl,rfl,SqT.of (s2 _ _ ha),rfl,_,rfl,c.k,k,rfl,hk,_,rfl,?_⟩
   cases eb:mayHold c.k k with
   | false =>
     refine iteF ⟨s2,h2,⟨_,rfl⟩,?_⟩
     rw[em,et',qea (by rw[ek,eb])]
   | true =>
     refine iteT ⟨_,rfl,?_⟩
     have:=q H' s2
     rw[em,qd3 (by rw[ek,eb])]at this
     exact this
  ·rintro σ' H' ⟨s2,h2,⟨z,rfl⟩,em⟩;rw[show n0-((n0:Int)-0).toNat=0 by omega]at em;have:=q H' s2;rw[em]at this;exact this
theorem scMendName:FnScope ["nodes", "name"] ["nodes", "name"] (qag sMendName):=⟨rfl,rfl,rfl,by decide +kernel,rfl,by decide +kernel,by decide +kernel⟩
theorem ok_mended_name{f:Addr}{fd:FuncData}(F:Fun K "mended_name" "mended_name" sMendName f fd)(NU:Nums mg):FnOk P w K mg base CX0 1 f fd ["nodes", "name"] spMendName:=by
 refine F.ok scMendName (fun vs H Q E h=>?_) (fun cdv A outer s H vs Q E hr h=>?_)
 ·obtain⟨p,ds,nm,N,rfl,_⟩:=h;rfl
 ·obtain⟨p,ds,nm,N,rfl,⟨as,hp,nd⟩,le,q⟩:=h;obtain⟨_,g_NAME⟩:=NU.name;have la:as.length=ds.length:=nd.length;have zl:(as.map V.ref).length<sizeLine:=by rw[List.length_map];exact qaC (by omega)
  refine⟨_,(qae (qak (qb0 (qaj op_in_seq (pv 1) (qbh (own:=["node"]) (by rfl) (CompScope.plain (by rfl) (by decide +kernel) (by decide +kernel) (by decide +kernel)) (qbg (pv 0)) (fun cl C s2 H2 fp=>(qax (i:=0) (by show(["node"]:List Str).Nodup;decide +kernel) (by rfl) (by trivial) (by trivial))) (fun cl C s2 H2 fp=>qbC) (fun cl C s2 H2 fp=>(qap (r:=rIxT K) ix_tup (pv 0) (qai (v:=.int 2) (by rfl) g_NAME ⟨_,rfl⟩) (fun _ _=>rfl)))) (by with_unfolding_all rfl)) qah (pv 1)))),?_⟩;refine⟨_,rfl,_,rfl,p,rfl,⟨_,SqL.of hp⟩,qaZ (fun i ys σ' H'=>H'=H∧ys=((ds.take i).map Nd.nm).map V.str∧∃z,σ'=[z]) zl ⟨rfl,rfl,none,rfl⟩ ?_ ?_ ?_⟩
  ·rintro i ys σ' H' hi ⟨rfl,rfl,_⟩;exact⟨SqL.of hp,by simp;omega⟩
  ·rintro i x ys σ' H' hx ⟨rfl,rfl,z,rfl⟩;obtain⟨a,ea,rfl⟩:=qeD hx;obtain⟨d,ed,na⟩:=nd.at ea;obtain⟨m',s',ha,_⟩:=na.ex;refine⟨_,rfl,a,_,_,_,rfl,rfl,SqT.of ha,rfl,rfl,?_,_,rfl⟩;rw[List.take_succ,ed,Option.toList_some,List.map_append,List.map_append];rfl
  ·rintro ys σ' H' ⟨rfl,rfl,_⟩ D hD;rw[List.length_map,la,List.take_length];refine⟨D,_,rfl,.inl (SqL.of qab),rfl,qdy _,_,rfl,?_⟩;rw[if_neg Bool.false_ne_true,qde];have q2:=q _ (qad hD (.lst ((ds.map Nd.nm).map V.str)));unfold qaS at q2
   by_cases hm:nm∈ds.map Nd.nm
   ·rw[if_pos hm]at q2;rw[decide_eq_true hm];exact iteT q2
   ·rw[if_neg hm]at q2;rw[decide_eq_false hm];exact iteF ⟨_,rfl,q2⟩
theorem scMendMarks:FnScope ["marks"] ["marks"] (qag sMendMarks):=⟨rfl,rfl,rfl,by decide +kernel,rfl,by decide +kernel,by decide +kernel⟩
theorem ok_mended_marks{f:Addr}{fd:FuncData}(F:Fun K "mended_marks" "mended_marks" sMendMarks f fd)(T:Bn mg)(U:Glob mg):FnOk P w K mg base CX0 1 f fd ["marks"] spMendMarks:=by
 refine F.ok scMendMarks (fun vs H Q E h=>?_) (fun cdv A outer s H vs Q E hr h=>?_)
 ·obtain⟨m,mks,rfl,_⟩:=h;rfl
 ·obtain⟨m,mks,rfl,hm,le,q⟩:=h;obtain⟨_,g_MOST_MARKS⟩:=U.marks;refine⟨_,(qae (qak (qav sl_list (qal (call_sortedS (by rfl) (by rfl)) (by rfl) T.sorted b_sorted (qaa (qbV (call_setS (by rfl)) (by rfl) T.set b_set (qaa (pv 0) pa_nil)) pa_nil)) po_none (qaz (qai (v:=.int 4) (by rfl) g_MOST_MARKS ⟨_,rfl⟩))))),?_⟩;refine⟨_,rfl,m,mks,rfl,SqL.of hm,by unfold scanBound;omega,fun d hd=>?_⟩;have s3:=qad hd (setS w d (once mks));have l6:=once_le mks;refine⟨d,once mks,rfl,qab,by omega,fun D2 ss hD2 pm so=>?_⟩;have s4:=s3.trans (qad hD2 (.lst (ss.map V.str)));have ri:=rise_of so (pm.symm.nodup (qfa mks));have mo:MarksOf mks (ss.take 4):=⟨ss,pm,ri,rfl⟩;have em:=qc9 mo;refine⟨4,rfl,D2,_,rfl,SqL.of qab,fun l hl=>?_⟩;rw[show cutV (ss.map V.str) none (some 4)=(qaJ mks).map V.str by rw[em,show(4:Int)=((4:Nat):Int)from rfl,qfM,List.map_take]];exact q l _ (s4.none hl) (s4.trans (qad hl _)) qab (by rw[em];exact mo)
theorem scNotesBeg:FnScope ["stuff", "count"] ["stuff"] (qag sNotesBeg):=⟨rfl,rfl,rfl,by decide +kernel,rfl,by decide +kernel,by decide +kernel⟩
theorem ok_notes_at_beginning{f:Addr}{fd:FuncData}(F:Fun K "notes_at_beginning" "notes_at_beginning" sNotesBeg f fd)(T:Bn mg)(NU:Nums mg):FnOk P w K mg base CX0 1 f fd ["stuff"] spNotesBeg:=by
 refine F.ok scNotesBeg (fun vs H Q E h=>?_) (fun cdv A outer s H vs Q E hr h=>?_)
 ·obtain⟨sa,st,N,rfl,_⟩:=h;rfl
 ·obtain⟨sa,st,N,rfl,⟨_,vs,hs,its⟩,pc,le,q⟩:=h;obtain⟨_,g_SORT⟩:=NU.sort;have lv:vs.length=st.length:=its.length;refine⟨_,(qac (qan (i:=1) scNotesBeg.nd (by rfl) (by trivial) qaf)
   (qac (qdb PassesOwn.never (PW.pt (qcg (qaj op_lt (pv 1) (qal call_len_seq (by rfl) T.len b_len (qaa (pv 0) pa_nil)) (qam _)) (qbG (qaj op_eq (qap ix_tup (qap ix_list (pv 0) (pv 1) (fun _ _=>rfl)) (qai (v:=.int 0) (by rfl) g_SORT ⟨_,rfl⟩) (fun _ _=>rfl)) qah (qam _))))) (qae (qgs (i:=1) scNotesBeg.nd (by rfl) (by trivial) qaf ip_add)))
   (qae (qak (pv 1))))),?_⟩
  refine⟨fun m σ' H'=>∃i:Nat,σ'=[some (.ref sa),some (.int (i:Nat))]∧H'=H∧i≤st.length∧m=st.length-i∧(st.takeWhile isNote).length=i+((st.drop i).takeWhile isNote).length,⟨_,0,rfl,rfl,Nat.zero_le _,rfl,by simp⟩,?_⟩;rintro m σ' H' ⟨i,rfl,rfl,hi,rfl,ei⟩;refine⟨_,rfl,_,rfl,sa,_,rfl,.inl (SqL.of hs),_,_,rfl,rfl,_,rfl,?_⟩;rw[lv]
  by_cases hl:i<st.length
  rotate_left
  ·rw[decide_eq_false (by omega:¬((i:Nat):Int)<(st.length:Nat))];refine iteF (iteF ⟨_,rfl,?_⟩);rw[List.drop_of_length_le (by omega)]at ei;rw[ei]at q;exact q
  rw[decide_eq_true (by omega:((i:Nat):Int)<(st.length:Nat))];have ev:vs[i]?=some vs[i]:=List.getElem?_eq_getElem (by omega);obtain⟨th,et,it⟩:=qbz its ev;obtain⟨so,y,n,rfl,en⟩:=qf8 (pc th (List.mem_of_getElem? et));obtain⟨a,eva,_,ha⟩:=it;rw[eva]at ev;have ed:st.drop i=Th.tri so y n::st.drop (i+1):=by
   rw[List.getElem?_eq_getElem hl]at et;rw[List.drop_eq_getElem_cons hl,Option.some.inj et]
  refine iteT ⟨_,rfl,_,rfl,sa,_,_,_,rfl,rfl,SqL.of hs,qbf ev,a,_,_,_,rfl,rfl,SqT.of ha,rfl,rfl,_,rfl,?_⟩;rw[show decide (V.str so.s=V.str (Str.ofString "note"))=decide (so=.note)from sot so .note,←en];rw[ed,List.takeWhile_cons]at ei;cases eb:isNote (.tri so y n)with
  | false =>
    rw[eb]at ei
    refine iteF ⟨_,rfl,?_⟩
    rw[ei]at q
    exact q
  | true =>
    rw[eb,if_pos rfl,List.length_cons]at ei
    refine iteT ⟨fun σ' H2=>∃i':Nat,i'=i+1∧σ'=[some (.ref sa),some (.int (i':Nat))]∧H2=H',?_,?_⟩
    · rintro σ' H'' ⟨i',rfl,rfl,rfl⟩
      exact⟨st.length-(i+1),by omega,i+1,rfl,rfl,by omega,rfl,by omega⟩
    · exact⟨_,rfl,_,_,rfl,rfl,i+1,rfl,rfl,rfl⟩
theorem scMendPieces:FnScope ["kind", "stuff", "kept"] ["kind", "stuff"] (qag sMendPieces):=⟨rfl,rfl,rfl,by decide +kernel,rfl,by decide +kernel,by decide +kernel⟩
theorem ok_mended_pieces{f:Addr}{fd:FuncData}(F:Fun K "mended_pieces" "mended_pieces" sMendPieces f fd)(U:Glob mg)(NU:Nums mg)(F_notes_at_beginning:Fx P w K mg base CX0 1 "notes_at_beginning" ["stuff"] spNotesBeg):FnOk P w K mg base CX0 2 f fd ["kind", "stuff"] spMendPieces:=by
 refine F.ok scMendPieces (fun vs H Q E h=>?_) (fun cdv A outer s H vs Q E hr h=>?_)
 ·obtain⟨k,sa,st,N,rfl,_⟩:=h;rfl
 ·obtain⟨k,sa,st,N,rfl,⟨nsa,vs,hs,its⟩,up,pc,le,q⟩:=h;obtain⟨_,g_SORT⟩:=NU.sort;obtain⟨_,g_MOST_PIECES⟩:=U.pieces;have hr_notes_at_beginning:=hr;have lv:vs.length=st.length:=its.length;have zl:vs.length<sizeLine:=qaC (by omega);refine⟨_,(qac (qaH (qaj op_eq (pv 0) qah (qam _)) (qae (qdC (i:=2) (by rfl) scMendPieces.nd (by rfl) (by trivial) (own:=["piece"]) (CompScope.plain (by rfl) (by decide +kernel) (by decide +kernel) (by decide +kernel)) (qbg (pv 1)) (fun cl C s2 H2 fp=>(qax (i:=0) (by show(["piece"]:List Str).Nodup;decide +kernel) (by rfl) (by trivial) (by trivial))) (fun cl C s2 H2 fp=>(qb3 (qaj op_ne (qap (r:=rIxT K) ix_tup (pv 0) (qai (v:=.int 0) (by rfl) g_SORT ⟨_,rfl⟩) (fun _ _=>rfl)) qah (qam _)))) (fun cl C s2 H2 fp=>(pv 0)))) (qae (qan (i:=2) scMendPieces.nd (by rfl) (by trivial) (qav sl_list (pv 1) (qaz (qar F_notes_at_beginning hr_notes_at_beginning (by rfl) qas (qaa (pv 1) pa_nil))) po_none))))
   (qae (qak (qav sl_list (pv 2) po_none (qaz (qai (v:=.int 60) (by rfl) g_MOST_PIECES ⟨_,rfl⟩)))))),?_⟩
  refine qaN (fun σ' H'=>∃c,σ'=[some (.str k.s),some (.ref sa),some (.ref c)]∧Same H H'∧StAt N H' c (if k=.note then st.filter (fun x=>!isNote x)else st.dropWhile isNote)) (fun D' kk=>?_) ?_
  ·refine⟨_,rfl,rfl,_,rfl,?_⟩;rw[show decide (V.str k.s=V.str (Str.ofString "note"))=decide (k=.note)from kdt k .note]
   by_cases hk:k=.note
   ·rw[decide_eq_true hk];refine iteT ⟨_,rfl,sa,rfl,⟨_,SqL.of hs⟩,qaZ (fun i ys σ' H'=>H'=H∧Paired (ItAt N H) ys ((st.take i).filter fun x=>!isNote x)∧∃z,σ'=[z]) zl ⟨rfl,.nil,none,rfl⟩ ?_ ?_ ?_⟩
    ·rintro i ys σ' H' hi ⟨rfl,pa,_⟩;refine⟨SqL.of hs,?_⟩;rw[pa.length];exact Nat.le_trans (List.length_filter_le ..) (by rw[List.length_take];omega)
    ·rintro i x ys σ' H' hx ⟨rfl,pa,z,rfl⟩;obtain⟨th,et,it⟩:=qbz its hx;have tk:st.take (i+1)=st.take i++[th]:=by rw[List.take_succ,et];rfl
     obtain⟨so,y,n,rfl,en⟩:=qf8 (pc th (List.mem_of_getElem? et));have it':=it;obtain⟨a,rfl,_,ha⟩:=it;refine⟨_,rfl,a,_,_,_,rfl,rfl,SqT.of ha,rfl,rfl,_,rfl,?_⟩;rw[show decide (V.str so.s=V.str (Str.ofString "note"))=decide (so=.note)from sot so .note,←en];rw[tk,List.filter_append];cases eb:isNote (.tri so y n)with
     | true=>exact iteF ⟨rfl,by simpa[eb]using pa,_,rfl⟩
     | false =>
       refine iteT ⟨_,rfl,rfl,?_,_,rfl⟩
       rw[show([Th.tri so y n].filter fun x=>!isNote x)=[Th.tri so y n] by simp[eb]]
       exact qbd pa (.cons it' .nil)
    ·rintro ys σ' H' ⟨rfl,pa,_⟩ D hD;rw[lv,List.take_length]at pa;refine kk _ _ ⟨D,rfl,qad hD _,up D hD,_,qab,?_⟩;rw[if_pos hk];exact pa.mono fun v x h=>h.keep (qad hD _).keep fun _ n _=>n
   ·rw[decide_eq_false hk];refine iteF ⟨_,rfl,_,rfl,sa,st,N,rfl,⟨nsa,vs,hs,its⟩,pc,le,_,rfl,sa,_,rfl,SqL.of hs,fun c hc=>?_⟩;rw[qcb];refine kk _ _ ⟨c,rfl,qad hc _,up c hc,_,qab,?_⟩;rw[if_neg hk,←qcO];exact(Gen.Paired.dropP _ its).mono fun v x h=>h.keep (qad hc _).keep fun _ n _=>n
  rintro σ1 H1 ⟨c,rfl,s1,nc,ws,hc,pa⟩;refine⟨_,rfl,60,rfl,c,_,rfl,SqL.of hc,fun z hz=>?_⟩;rw[show cutV ws none (some 60)=ws.take 60 from qfM 60];refine q z _ (s1.none hz) (s1.trans (qad hz _)) ⟨up z (s1.none hz),_,qab,?_⟩;unfold qaq;exact(Gen.Paired.takeP 60 pa).mono fun v x h=>h.keep (qad hz _).keep fun _ n _=>n
theorem scLacks:FnScope ["nodes", "number"] ["nodes", "number"] (qag sLacks):=⟨rfl,rfl,rfl,by decide +kernel,rfl,by decide +kernel,by decide +kernel⟩
theorem ok_lacks_notes{f C:Addr}{fd:FuncData}(F:Fun K "lacks_notes" "lacks_notes" sLacks f fd)(T:Bn mg)(NU:Nums mg)(F_may_hold:Fx P w K mg base CX0 1 "may_hold" ["elder_kind", "kind"] spMayX)(F_note_numbers:Fx P w K mg base CX0 1 "note_numbers" ["stuff"] spNotesA)(F_holds:Fx P w K mg base (CX1 P w) 1 "holds" ["book", "node"] (qcW C)):FnOk P w K mg base CX0 2 f fd ["nodes", "number"] spLacks:=by
 refine F.ok scLacks (fun vs H Q E h=>?_) (fun cdv A outer s H vs Q E hr h=>?_)
 ·obtain⟨p,n,d,ds,N,rfl,_⟩:=h;rfl
 ·obtain⟨p,n,d,ds,N,rfl,⟨as,hp,nd⟩,le,ed,fm,hk,q⟩:=h;obtain⟨_,g_KIND⟩:=NU.kind;obtain⟨_,g_STUFF⟩:=NU.stuff;have hr_may_hold:=hr;have hr_note_numbers:=hr;have hr_holds:=hr;have ln:n<ds.length:=(List.getElem?_eq_some_iff.mp ed).1;obtain⟨a,ea,na⟩:=nd.get ed;obtain⟨m',s',ha,_,_,st'⟩:=na.ex;refine⟨_,(qac (qaH (qbl (qaW (qar F_may_hold hr_may_hold (by rfl) qas (qaa (qap ix_tup (qap ix_list (pv 0) (pv 1) (fun _ _=>rfl)) (qai (v:=.int 1) (by rfl) g_KIND ⟨_,rfl⟩) (fun _ _=>rfl)) (qaa qah pa_nil))))) (qae (qak qc3)) pss_nil)
   (qae (qak (qaI op_ne (qal call_len_seq (by rfl) T.len b_len (qaa (qar F_note_numbers hr_note_numbers (by rfl) qas (qaa (qap ix_tup (qap ix_list (pv 0) (pv 1) (fun _ _=>rfl)) (qai (v:=.int 4) (by rfl) g_STUFF ⟨_,rfl⟩) (fun _ _=>rfl)) pa_nil)) pa_nil)) (qal call_len_seq (by rfl) T.len b_len (qaa (qar F_holds hr_holds (by rfl) qf1 (qaa (pv 0) (qaa (pv 1) pa_nil))) pa_nil)) (qam _))))),?_⟩
  refine⟨_,rfl,_,rfl,p,_,_,_,rfl,rfl,SqL.of hp,qcq ea,a,_,_,_,rfl,rfl,SqT.of ha,rfl,d.k,.note,rfl,hk,_,rfl,?_⟩;cases eb:mayHold d.k .note with
  | false =>
    have:=q H (Same.refl H)
    unfold qcf at this
    rw[eb]at this
    exact iteT this
  | true =>
    have fp:=qgi fm (by rcases qc2 eb with z | z<;>rw[z]<;>rfl)
    refine iteF ⟨_,rfl,_,rfl,p,_,_,_,rfl,rfl,SqL.of hp,qcq ea,a,_,_,_,rfl,rfl,SqT.of ha,rfl,s',d.st,N,rfl,st',fp.1,fp.2,fun l H1 hl s1 h1=>?_⟩
    refine⟨l,_,rfl,.inl (SqL.of h1),_,rfl,_,rfl,p,n,ds,N,rfl,⟨as,s1 _ _ hp,nd.keep s1.keep fun _ n _=>n⟩,by omega,Nat.lt_trans (show((n:Int)).natAbs<1000 by omega) (by decide +kernel),.inr ⟨⟨by omega,by omega⟩,fun l2 H2 hl2 s2 h2=>?_⟩⟩
    refine⟨l2,_,rfl,.inl (SqL.of h2),rfl,?_⟩
    have:=q H2 (s1.trans s2)
    unfold qcf at this
    rw[eb,Bool.true_and]at this
    rw[List.length_map,List.length_map]
    have e:(!decide (V.int ((qaT d.st).length:Nat)=V.int ((qa0 ds n ds.length).length:Nat)))=decide ((qaT d.st).length≠(kids ds n).length):=by
      unfold kids
      by_cases h:(qaT d.st).length=(qa0 ds n ds.length).length
      · rw[decide_eq_true (by rw[h]:V.int ((qaT d.st).length:Nat)=V.int ((qa0 ds n ds.length).length:Nat)),decide_eq_false (fun z=>z h)]
        rfl
      · rw[decide_eq_false (fun z=>h (by have:=V.int.inj z;omega):¬V.int ((qaT d.st).length:Nat)=V.int ((qa0 ds n ds.length).length:Nat)),decide_eq_true h]
        rfl
    rw[e]
    exact this
end
end K08
namespace L2
open PySem PySem.Spec PyProof.Rows
def tPairs:List (TE×TE)→St→Hp→(List (V×V)→Hp→Prop)→Prop
 | [],_,H,Q=>Q [] H
 | (tk,tv)::r,σ,H,Q=>tk σ H fun x H1=>tv σ H1 fun y H2=>tPairs r σ H2 fun ps H3=>Q ((x,y)::ps) H3
abbrev VV:List (V×V)→List (Value×Value)→Prop:=Paired fun p q=>RelV p.1 q.1∧RelV p.2 q.2
def PPs(X:Cx)(pos:Pos)(keys:List (Option Expr))(values:List Expr)(trs:List (TE×TE)):Prop :=
 ∀(pins:List (Addr×Obj)) (s:Shared) (σ:St) (H:Hp) (Q:List (V×V)→Hp→Prop),Inv X pins σ H s→tPairs trs σ H Q →
  wpAny (model X.prog X.w) X.A (evalPairs (pairTrees keys values X.env pos)) (fun vs s'=>∃ps H',Inv X pins σ H' s'∧VV ps vs∧Q ps H') X.xe s
theorem pps_nil{X:Cx}{pos:Pos}:PPs X pos [] [] []:=fun pins s σ H Q I h=>pairTrees_nil_walk ⟨[],H,I,.nil,h⟩
theorem pps_cons{X:Cx}{pos:Pos}{k v:Expr}{ks:List (Option Expr)}{vs:List Expr}{tk tv:TE}{trs:List (TE×TE)}(hk:PE X k tk)(hv:PE X v tv)(hr:PPs X pos ks vs trs) :
  PPs X pos (some k::ks) (v::vs) ((tk,tv)::trs):=fun pins s σ H Q I h =>
 pairTrees_cons_walk (thn (hk pins s σ H _ I h) fun u s1 ⟨x,H1,I1,rx,q1⟩=>thn (hv pins s1 σ H1 _ I1 q1) fun w2 s2 ⟨y,H2,I2,ry,q2⟩ =>
  thn (hr pins s2 σ H2 _ I2 q2) fun ws s3 ⟨ps,H3,I3,rel,q3⟩=>⟨(x,y)::ps,H3,I3,.cons ⟨rx,ry⟩ rel,q3⟩)
def qcF(kvs more:List (Key×V)):List (Key×V):=more.foldl (fun acc kv=>putK acc kv.1 kv.2) kvs
theorem KV.merge:∀{more:List (Key×V)} {rs:List (Key×Value)} {kvs:List (Key×V)} {vs:List (Key×Value)},KV more rs→KV kvs vs→KV (qcF kvs more) (merged vs rs):=by
 intro more rs kvs vs r;unfold KV at r
 induction r generalizing kvs vs with
 | nil=>intro q;exact q
 | @cons p q ps qs h t ih =>
   intro r0
   have e:KV (putK kvs p.1 p.2) (stored vs q.1 q.2):=by
     have:=r0.put p.1 h.2
     rw[←h.1];exact this
   exact ih e
theorem length_mergeK:∀(more kvs:List (Key×V)),(qcF kvs more).length≤kvs.length+more.length
 | [],kvs=>by show kvs.length≤kvs.length+0;omega
 | p :: r, kvs => by
   have h1:=length_mergeK r (putK kvs p.1 p.2)
   have h2:=qcc kvs p.1 p.2
   show(qcF (putK kvs p.1 p.2) r).length≤_
   rw[List.length_cons];omega
theorem qdV{P:Program}{w:World}:∀{kvs:List (Key×V)} {ws:List (Value×Value)},VV (kvs.map fun kv=>(kV kv.1,kv.2)) ws→∃rs,Carries (qa2 P w) ws rs∧KV kvs rs
 | [],_,r=>by rw[List.map_nil]at r;cases r;exact⟨[],True.intro,.nil⟩
 | p :: kvs, _, r => by
   rw[List.map_cons]at r
   cases r with
   | @cons a b as bs h t =>
     obtain⟨rs,c,q⟩:=qdV (P:=P) (w:=w) t
     obtain⟨b1,b2⟩:=b
     exact⟨(p.1,b2)::rs,⟨qgE h.1,rfl,c⟩,.cons ⟨rfl,h.2⟩ q⟩
def tDisp(trs:List (TE×TE)):TE:=fun σ H Q=>∀p,H p=none→tPairs trs σ (upd H p (.dK [])) fun ps H2=>H2 p=some (.dK [])∧∃kvs:List (Key×V),ps=kvs.map (fun kv=>(kV kv.1,kv.2))∧kvs.length≤15∧Q (.ref p) (upd H2 p (.dK (qcF [] kvs)))
theorem pe_disp{X:Cx}{pos:Pos}{keys:List (Option Expr)}{values:List Expr}{trs:List (TE×TE)}(h:PPs X pos keys values trs)(hall:keys.all (·.isSome)=true)(hl:keys.length=values.length)(h0:keys≠[])(h15:keys.length≤15):PE X (.Dict keys values pos) (tDisp trs):=by
 intro pins s σ H Q I q;have hn:=I.hok.fresh (Nat.le_refl s.heap.objs.size);have I1:=I.laid (a:=s.heap.objs.size) (o:=.dK []) (h':=s.heap.push {cls:=.type "dict",data:=.dict #[]}) (t':=s.toks) (fun _ _ q=>Heap.get?_push_of_some _ q) (Nat.le_refl _) (dk_empty s.heap I.big);refine wpAny_Dict_walk (knd:=qa2 X.prog X.w) hall hl h0 h15 (thn (h pins _ σ _ _ I1 (q _ hn)) fun ws s2 ⟨ps,H2,I2,rel,e,kvs,ep,lk,q2⟩=>?_);subst ep;obtain⟨rs,c,rk⟩:=qdV (P:=X.prog) (w:=X.w) rel;obtain⟨z,hd,vs0,r0,dd⟩:=qg6 I2.hok e;cases r0;refine⟨rs,c,dd,fun h' dd' hs=>⟨.ref s.heap.objs.size,_,?_,rfl,q2⟩⟩;have hz:(qcF [] kvs).length≤sizeLine:=by
  have h1:=length_mergeK kvs [];rw[List.length_nil]at h1;rw[sizeLine_eq];omega
 have he:∃q,h'.get? s.heap.objs.size=some q:=let⟨q,_,_,hq,_⟩:=dd';⟨q,hq⟩;exact qfd I2 (by rw[e];exact True.intro) hs he (qgJ hz hd (rk.merge .nil) dd')
end L2
namespace Gen
open PySem L2 Bk
theorem qb8(m:Nat)(x:Th):∀(l:List Th) (c:Nat),qbI m c (l++[x])=qbI m c l++(if isNote x then(if cntN m c l<m then[qdT (cntN m c l:Nat)]else[])else[x])
 | [], c => by
   show qbI m c [x]=_
   rw[qbI,qbI,qbI,cntN,List.nil_append]
   split
   · split<;>rfl
   · rfl
 | y :: l, c => by
   rw[List.cons_append,qbI,qbI,cntN,qb8 m x l,qb8 m x l]
   by_cases hy:isNote y=true
   · by_cases hc:c<m
     · simp only[hy,hc,if_true,and_self,List.cons_append]
     · simp only[hy,hc,if_true,if_false,and_false]
   · simp only[hy,if_false,false_and,List.cons_append,Bool.false_eq_true]
theorem qco(m:Nat)(x:Th):∀(l:List Th) (c:Nat),cntN m c (l++[x])=if isNote x∧cntN m c l<m then cntN m c l+1 else cntN m c l
 | [], c => by
   show cntN m c [x]=_
   rw[cntN,cntN,cntN,cntN]
 | y :: l, c => by
   rw[List.cons_append,cntN,cntN,qco m x l,qco m x l]
   split<;>rfl
theorem qew(m:Nat):∀(l:List Th) (c:Nat),c≤m→cntN m c l≤m
 | [],c,h=>h
 | x :: l, c, h => by
   rw[cntN]
   split
   · rename_i z
     exact qew m l _ z.2
   · exact qew m l _ h
theorem qb6(m:Nat):∀(l:List Th) (c:Nat),(qbI m c l).length≤l.length
 | [],c=>Nat.le_refl _
 | x :: l, c => by
   rw[qbI]
   split
   · split
     · rw[List.length_cons,List.length_cons];exact Nat.succ_le_succ (qb6 m l _)
     · exact Nat.le_succ_of_le (qb6 m l _)
   · rw[List.length_cons,List.length_cons];exact Nat.succ_le_succ (qb6 m l _)
theorem qer(c:Nat):∀j,(addN c j).length=j
 | 0=>rfl
 | j+1=>by rw[addN,List.length_append,qer c j];rfl
theorem numP_len{m:Nat}{st:List Th}(h:st.length≤60):(qbs m st).length≤60:=by
 unfold qbs;rw[List.length_append,qer];have:=qb6 m st 0;omega
theorem qgq{n:Nat}(h:n≤60):PcOk (qdT n):=⟨by omega,by omega,rfl⟩
theorem qdk{m:Nat}(hm:m≤60):∀(l:List Th) (c:Nat),(∀x∈l,PcOk x)→∀x∈qbI m c l,PcOk x
 | [],c,_,x,hx=>nomatch hx
 | y :: l, c, h, x, hx => by
   have h':∀x∈l,PcOk x:=fun x hx=>h x (List.mem_cons_of_mem _ hx)
   rw[qbI]at hx
   split at hx
   · split at hx
     · rcases List.mem_cons.mp hx with rfl | hx
       · exact qgq (by omega)
       · exact qdk hm l _ h' x hx
     · exact qdk hm l _ h' x hx
   · rcases List.mem_cons.mp hx with rfl | hx
     · exact h x List.mem_cons_self
     · exact qdk hm l _ h' x hx
theorem qfG{c:Nat}{x:Th}:∀{j:Nat},x∈addN c j→∃i,i<j∧x=qdT (c+i:Nat)
 | 0,h=>nomatch h
 | j + 1, h => by
   rw[addN]at h
   rcases List.mem_append.mp h with h | h
   · obtain⟨i,hi,e⟩:=qfG h
     exact⟨i,by omega,e⟩
   · exact⟨j,by omega,by simpa using h⟩
theorem numP_pc{m:Nat}{st:List Th}(hm:m≤60)(h:∀x∈st,PcOk x):∀x∈qbs m st,PcOk x:=fun x hx=>by
 unfold qbs at hx;rcases List.mem_append.mp hx with hx | hx
 ·exact qdk hm st 0 h x hx
 ·obtain⟨i,hi,rfl⟩:=qfG hx;have:=qew m st 0 (Nat.zero_le _);exact qgq (by omega)
theorem qaR{α β:Type}{ds:List α}{f:Nat→α→List β}{i:Nat}{d:α}(h:ds[i]?=some d):atTo ds f (i+1)=atTo ds f i++f i d:=by rw[atTo,h]
theorem qbX{α β:Type}{ds:List α}{f:Nat→α→β}:∀{i:Nat},i≤ds.length→(atTo ds (fun i d=>[f i d]) i).length=i
 | 0,_=>rfl
 | i + 1, h => by
   rw[qaR (List.getElem?_eq_getElem (by omega)),List.length_append,qbX (by omega)]
   rfl
theorem qfJ{α β:Type}{ds:List α}{f:Nat→α→β}:∀{i j:Nat},i≤ds.length→j<i→(atTo ds (fun i d=>[f i d]) i)[j]?=ds[j]?.map (f j)
 | 0,j,_,h=>absurd h (Nat.not_lt_zero _)
 | i + 1, j, hi, h => by
   rw[qaR (List.getElem?_eq_getElem (by omega))]
   by_cases e:j<i
   · rw[List.getElem?_append_left (by rw[qbX (by omega)];exact e),qfJ (by omega) e]
   · have:j=i:=by omega
     subst this
     rw[List.getElem?_append_right (by rw[qbX (by omega)];exact Nat.le_refl _),qbX (by omega),Nat.sub_self,List.getElem?_eq_getElem (l:=ds) (by omega)]
     rfl
theorem qcw{α β:Type}{ds:List α}{f:Nat→α→List β}{y:β}:∀{i:Nat},y∈atTo ds f i→∃j d,j<i∧ds[j]?=some d∧y∈f j d
 | 0,h=>nomatch h
 | i + 1, h => by
   rw[atTo]at h
   cases e:ds[i]? with
   | none =>
     rw[e]at h
     obtain⟨j,d,hj,q⟩:=qcw h
     exact⟨j,d,by omega,q⟩
   | some d =>
     rw[e]at h
     rcases List.mem_append.mp h with h | h
     · obtain⟨j,d,hj,q⟩:=qcw h
       exact⟨j,d,by omega,q⟩
     · exact⟨i,d,by omega,e,h⟩
theorem qb2{α β:Type}{ds:List α}{f:Nat→α→List β}{B:Nat}(hf:∀i d,(f i d).length≤B):∀i,(atTo ds f i).length≤B*i
 | 0=>Nat.zero_le _
 | i + 1 => by
   rw[atTo,Nat.mul_succ]
   have:=qb2 (ds:=ds) hf i
   split
   · omega
   · rename_i d _
     have:=hf i d
     rw[List.length_append]
     omega
theorem qdx(ds:List Nd)(sp:List Int):∀{i:Nat},i≤ds.length→(qei ds sp i).length=qbH sp i
 | 0,_=>rfl
 | i + 1, h => by
   unfold qei
   rw[qaR (List.getElem?_eq_getElem (by omega)),List.length_append]
   have:=qdx ds sp (i:=i) (by omega)
   unfold qei at this
   rw[this,qbH]
   split<;>rfl
theorem qd7(sp:List Int):∀i,qbH sp i≤i
 | 0=>Nat.le_refl _
 | i + 1 => by
   have:=qd7 sp i
   rw[qbH]
   split<;>omega
def Nw(N:Addr→Prop)(L:Addr):Addr→Prop:=fun b=>N b∧b≠L
theorem keep_nw{N:Addr→Prop}{H:Hp}{L:Addr}{o:HO}:KeepN (Nw N L) H (upd H L o):=fun b u n e=>by rw[qau n.2];exact e
theorem qc7{N:Addr→Prop}{H:Hp}{L:Addr}(h:H L=none):∀b,N b→(H b).isSome=true→Nw N L b:=fun b n e=>⟨n,fun z=>by rw[z,h]at e;cases e⟩
theorem qcj{N:Addr→Prop}{H:Hp}{L b:Addr}{o:HO}(n:N b)(hL:H L=some o)(hb:H b=none):Nw N L b:=⟨n,fun z=>by rw[z,hL]at hb;cases hb⟩
theorem qay{H H':Hp}{L:Addr}{o:HO}(s:Same H H')(h:H L=none):Same H (upd H' L o):=fun b u e=>by rw[qau (qao e h)];exact s b u e
theorem qbv{n:Nat}(h:n≤1000):n<sizeLine:=qaC h
theorem inV_intD(x:Int)(l:List Int):inV (.int x) (l.map V.int)=decide (x∈l):=by
 unfold inV
 induction l with
 | nil=>simp
 | cons y r ih =>
   rw[List.map_cons,List.any_cons,ih]
   have:eqV (.int y) (.int x)=decide (y=x):=by
     show(y == x)=_
     rw[Bool.eq_iff_iff];simp
   rw[this]
   by_cases h:y=x
   · simp[h]
   · have h':¬x=y:=fun z=>h z.symm
     simp[h,h']
theorem flat_ints(l:List Int):(l.map V.int).all flatV=true:=by
 rw[List.all_eq_true];intro v hv;obtain⟨x,_,rfl⟩:=List.mem_map.mp hv;rfl
theorem qfV{ds:List Nd}{n x:Int}(h:x∈kids ds n):∃(j:Nat) (d:Nd),x=(j:Int)∧ds[j]?=some d∧d.e=n:=by
 unfold kids qa0 at h;obtain⟨j,hj,rfl⟩:=List.mem_map.mp h;obtain⟨_,hj⟩:=List.mem_filter.mp hj;have hj:=of_decide_eq_true hj;cases e:ds[j]? with
 | none=>rw[e]at hj;cases hj
 | some d=>rw[e]at hj;exact⟨j,d,rfl,e,Option.some.inj hj⟩
theorem qfX(ds:List Nd)(n:Int):(kids ds n).length≤ds.length:=qcR ds n ds.length
theorem qen(ds:List Nd)(n:Nat)(d:Nd):(noted ds n d).e=d.e∧(noted ds n d).k=d.k∧(noted ds n d).nm=d.nm∧(noted ds n d).mks=d.mks:=by
 unfold noted
 split<;>exact⟨rfl,rfl,rfl,rfl⟩
theorem qcv(ds:List Nd):(qdM ds).length=ds.length:=qbX (Nat.le_refl _)
theorem qd1{ds:List Nd}{n:Nat}(h:n<ds.length):(qdM ds)[n]?=ds[n]?.map (noted ds n):=qfJ (Nat.le_refl _) h
theorem qc1{ds:List Nd}(ok:NodesOk ds){x:Int}(h:x∈qbO ds):∃(j:Nat) (d:Nd),x=(j:Int)∧ds[j]?=some d∧d.k=.note:=by
 obtain⟨k,c,_,ec,hx⟩:=qcw h;unfold qcn at hx
 by_cases hn:mayHold c.k .note=true
 ·rw[if_pos hn]at hx;obtain⟨j,d,rfl,ed,ee⟩:=qfV (List.mem_of_mem_drop hx);refine⟨j,d,rfl,ed,?_⟩;rcases ok.hung j d ed with⟨_,z,_⟩ | ⟨_,i,c',e1,_,ec',m⟩
  ·rw[z]at ee;omega
  ·have:i=k:=by rw[e1]at ee;omega
   subst this;rw[ec]at ec';cases ec';rcases qc2 hn with z | z<;>rw[z]at m<;>cases e:d.k<;>rw[e]at m<;>first | rfl | cases m
 ·rw[if_neg hn]at hx;cases hx
def WOk(ds:List Nd)(sp:List Int):Prop:=∀(n:Nat) (d:Nd),ds[n]?=some d→(n:Int)∉sp→d.e=-1∨∃j:Nat,d.e=(j:Int)∧j<n∧(j:Int)∉sp
theorem notes_wok{ds:List Nd}(ok:NodesOk ds):WOk (qdM ds) (qbO ds):=by
 intro n d h _;have hn:n<ds.length:=by rw[←qcv ds];exact(List.getElem?_eq_some_iff.mp h).1
 rw[qd1 hn]at h;cases e:ds[n]? with
 | none=>rw[e]at h;cases h
 | some c =>
   rw[e]at h
   cases h
   rw[(qen ds n c).1]
   rcases ok.hung n c e with⟨_,z,_⟩ | ⟨_,j,c',e1,lt,ec',m⟩
   · exact .inl z
   · refine .inr ⟨j,e1,lt,fun hj=>?_⟩
     obtain⟨j',d',e2,ed',kd⟩:=qc1 ok hj
     have:j=j':=by omega
     subst this
     rw[ec']at ed'
     cases ed'
     rw[kd]at m
     cases e:c.k<;>rw[e]at m<;>cases m
def AsOk(ds:List Nd):Prop:=∀d∈ds,d.k=.aside→0≤d.e∧d.e<ds.length
def spNumbered:Sp:=fun vs H Q _=>∃(s:Addr) (st:List Th) (m:Nat) (N:Addr→Prop),vs=[.ref s,.int m]∧StAt N H s st∧Up0 N H∧(∀x∈st,PcOk x)∧st.length≤60∧m≤60∧∀s' H',H s'=none→Same H H'→StAt N H' s' (qbs m st)→Q (.ref s') H'
def spWithout:Sp:=fun vs H Q _=>∃(p s:Addr) (ds:List Nd) (sp:List Int) (N:Addr→Prop),vs=[.ref p,.ref s]∧BookAt N H p ds∧H s=some (.lst (sp.map V.int))∧Up0 N H∧ds.length≤60∧WOk ds sp∧∀l H',H l=none→Same H H'→BookAt N H' l (qei ds sp ds.length)→Q (.ref l) H'
def spMendNotes:Sp:=fun vs H Q _=>∃(p:Addr) (ds:List Nd) (N:Addr→Prop),vs=[.ref p]∧BookAt N H p ds∧Up0 N H∧NodesOk ds∧∀l H',H l=none→Same H H'→BookAt N H' l (qaw ds)→Q (.ref l) H'
def spNextKind:Sp:=fun vs H Q _=>∃(p:Addr) (n:Nat) (d:Nd) (ds:List Nd) (N:Addr→Prop),vs=[.ref p,.int n]∧BookAt N H p ds∧ds.length≤100∧ds[n]?=some d∧0≤d.e∧d.e<ds.length∧∀H',Same H H'→Q (.str (qca ds n d).s) H'
def spWants:Sp:=fun vs H Q _=>∃(p:Addr) (n:Nat) (d:Nd) (ds:List Nd) (N:Addr→Prop),vs=[.ref p,.int n]∧BookAt N H p ds∧ds.length≤100∧ds[n]?=some d∧AsOk ds∧∀H',Same H H'→Q (.bl (qaQ ds n d)) H'
def spMendKinds:Sp:=fun vs H Q _=>∃(p:Addr) (ds:List Nd) (N:Addr→Prop),vs=[.ref p]∧BookAt N H p ds∧Up0 N H∧ds.length≤100∧AsOk ds∧∀l H',H l=none→Same H H'→BookAt (Nw N l) H' l (qbb ds)→Q (.ref l) H'
end Gen
namespace K08
open PySem L2 Bk Gen
abbrev sNumbered:Stmt:=top 50
abbrev sWithout:Stmt:=top 51
abbrev sMendNotes:Stmt:=top 49
abbrev sNextKind:Stmt:=top 53
abbrev sWants:Stmt:=top 52
abbrev sMendKinds:Stmt:=top 54
section
variable{P:Program}{w:World}{K:PySem.W.Frag}{mg:Str→Option Value}{base:Heap}
theorem scNumbered:FnScope ["stuff", "notes", "pieces", "count", "piece"] ["stuff", "notes"] (qag sNumbered):=⟨rfl,rfl,rfl,by decide +kernel,rfl,by decide +kernel,by decide +kernel⟩
theorem ok_numbered_pieces{f:Addr}{fd:FuncData}(F:Fun K "numbered_pieces" "numbered_pieces" sNumbered f fd)(T:Bn mg)(U:Glob mg)(NU:Nums mg):FnOk P w K mg base CX0 1 f fd ["stuff", "notes"] spNumbered:=by
 refine F.ok scNumbered (fun vs H Q E h=>?_) (fun cdv A outer s H vs Q E hr h=>?_)
 ·obtain⟨sa,st,m,N,rfl,_⟩:=h;rfl
 ·obtain⟨sa,st,m,N,rfl,⟨nsa,vs,hs,its⟩,up,pc,le,m6,q⟩:=h;obtain⟨_,g_SORT⟩:=NU.sort;obtain⟨_,g_MOST_PIECES⟩:=U.pieces;have lv:vs.length=st.length:=its.length;refine⟨_,(qac (qan (i:=2) scNumbered.nd (by rfl) (by trivial) (qaD pa_nil))
   (qac (qan (i:=3) scNumbered.nd (by rfl) (by trivial) qaf)
   (qac (qb4 PassesOwn.never (by rfl) (qbg (pv 0)) (qax (i:=4) scNumbered.nd (by rfl) (by trivial))
   (qae (qaH (qaj op_ne (qap ix_tup (pv 4) (qai (v:=.int 0) (by rfl) g_SORT ⟨_,rfl⟩) (fun _ _=>rfl)) qah (qam _)) (qae (qa5 (qbk PySem.F.plainAttrs_list PySem.F.slot_list_append PySem.F.type_list_append mt_append (pv 2) (qaa (pv 4) pa_nil)))) (qae (qaH (qaj op_lt (pv 3) (pv 1) (qam _)) (qac (qa5 (qbk PySem.F.plainAttrs_list PySem.F.slot_list_append PySem.F.type_list_append mt_append (pv 2) (qaa (qa8 (qaa qah (qaa (pv 3) (qaa qaf pa_nil)))) pa_nil)))
   (qae (qgs (i:=3) scNumbered.nd (by rfl) (by trivial) qaf ip_add))) pss_nil)))))
   (qac (qdb PassesOwn.never (PW.pt (qcg (qaj op_lt (pv 3) (pv 1) (qam _)) (qbG (qaj op_lt (qal call_len_seq (by rfl) T.len b_len (qaa (pv 2) pa_nil)) (qai (v:=.int 60) (by rfl) g_MOST_PIECES ⟨_,rfl⟩) (qam _))))) (qac (qa5 (qbk PySem.F.plainAttrs_list PySem.F.slot_list_append PySem.F.type_list_append mt_append (pv 2) (qaa (qa8 (qaa qah (qaa (pv 3) (qaa qaf pa_nil)))) pa_nil)))
   (qae (qgs (i:=3) scNumbered.nd (by rfl) (by trivial) qaf ip_add))))
   (qae (qak (pv 2))))))),?_⟩
  refine⟨by show 0≤sizeLine;decide,fun L hL=>?_⟩;have s1:=qad hL (.lst []);dsimp only[qbR];refine qaN (fun σ' H'=>σ'=[some (.ref sa),some (.int m),some (.ref L),some (.int (0:Nat)),none]∧H'=upd H L (.lst [])) (fun D' kk=>kk _ _ ⟨rfl,rfl⟩) ?_;rintro _ _ ⟨rfl,rfl⟩;refine qaN (fun σ' H'=>∃ys z,σ'=[some (.ref sa),some (.int m),some (.ref L),some (.int (cntN m 0 st:Nat)),z]∧Same H H'∧H' L=some (.lst ys)∧Paired (ItAt (Nw N L) H') ys (qbI m 0 st)) (fun D' kk=>?_) ?_
  ·refine⟨_,rfl,sa,rfl,⟨_,SqL.of (s1 _ _ hs)⟩,qdd (xs:=vs) (fun i σ' H'=>∃ys z,∃c:Nat,σ'=[some (.ref sa),some (.int m),some (.ref L),some (.int c),z]∧c=cntN m 0 (st.take i)∧Same H H'∧H' L=some (.lst ys)∧Paired (ItAt (Nw N L) H') ys (qbI m 0 (st.take i))) ⟨[],none,0,rfl,rfl,s1,qab,.nil⟩ ?_ ?_ ?_⟩
   ·rintro i σ' H' hi ⟨ys,z,c,rfl,_,s2,_⟩;exact SqL.of (s2 _ _ hs)
   ·rintro i x σ' H' hx ⟨ys,z,c,rfl,rfl,s2,hL2,pa⟩;obtain⟨th,et,it⟩:=qbz its hx;have tk:st.take (i+1)=st.take i++[th]:=by rw[List.take_succ,et];rfl
    obtain⟨so,y,n,rfl,en⟩:=qf8 (pc th (List.mem_of_getElem? et));have hi':i<st.length:=(List.getElem?_eq_some_iff.mp et).1;have it':=it;obtain⟨a,rfl,_,ha⟩:=it;have ly:ys.length≤60:=by
     have h1:=pa.length;have h2:=qb6 m (st.take i) 0;rw[List.length_take]at h2;omega
    have itn:ItAt (Nw N L) (upd H' L (.lst (ys++[.ref a]))) (.ref a) (.tri so y n):=it'.keep (qay s2 hL).keep (qc7 hL);refine⟨_,rfl,a,_,_,_,rfl,rfl,SqT.of (s2 _ _ ha),rfl,rfl,_,rfl,?_⟩;rw[show decide (V.str so.s=V.str (Str.ofString "note"))=decide (so=.note)from sot so .note,←en];cases eb:isNote (.tri so y n)with
    | false =>
      refine iteT ⟨_,rfl,.inl ⟨rfl,_,SqL.of hL2⟩,_,rfl,L,_,_,rfl,rfl,hL2,qbv (by omega),?_⟩
      refine⟨ys++[.ref a],_,_,rfl,?_,qay s2 hL,qab,?_⟩
      · rw[tk,qco,if_neg (fun z=>by rw[eb]at z;exact absurd z.1 (by decide))]
      · rw[tk,qb8,eb]
        exact qbd (pa.mono fun v x h=>h.keep keep_nw fun _ n _=>n) (.cons itn .nil)
    | true =>
      refine iteF ⟨_,rfl,_,rfl,_,_,rfl,rfl,_,rfl,?_⟩
      by_cases hc:cntN m 0 (st.take i)<m
      · rw[decide_eq_true (by omega:((cntN m 0 (st.take i):Nat):Int)<(m:Nat))]
        refine iteT ⟨_,rfl,.inl ⟨rfl,_,SqL.of hL2⟩,_,rfl,(by show 3≤sizeLine;decide),fun t ht=>?_⟩
        have s3:=s2.trans (qad ht (.tup [.str So.note.s,.int (cntN m 0 (st.take i):Nat),.int 0]))
        have hL3:=qad ht (.tup [.str So.note.s,.int (cntN m 0 (st.take i):Nat),.int 0]) _ _ hL2
        refine⟨L,_,_,rfl,rfl,hL3,qbv (by omega),_,rfl,_,_,rfl,rfl,?_⟩
        refine⟨ys++[.ref t],_,cntN m 0 (st.take i)+1,rfl,?_,qay s3 hL,qab,?_⟩
        · rw[tk,qco,if_pos ⟨eb,hc⟩]
        · rw[tk,qb8,eb,if_pos rfl,if_pos hc]
          refine qbd (pa.mono fun v x h=>(h.keep (qad ht _).keep fun _ n _=>n).keep keep_nw fun _ n _=>n) (.cons ⟨t,rfl,qcj (up t (s2.none ht)) hL2 ht,?_⟩ .nil)
          rw[qau (qao hL2 ht).symm,qab]
          rfl
      · rw[decide_eq_false (by omega:¬((cntN m 0 (st.take i):Nat):Int)<(m:Nat))]
        refine iteF ⟨ys,_,_,rfl,?_,s2,hL2,?_⟩
        · rw[tk,qco,if_neg fun z=>hc z.2]
        · rw[tk,qb8,eb,if_pos rfl,if_neg hc,List.append_nil]
          exact pa
   ·rintro σ' H' ⟨ys,z,c,rfl,rfl,s2,hL2,pa⟩;rw[lv,List.take_length]at pa⊢;exact kk _ _ ⟨ys,z,rfl,s2,hL2,pa⟩
  rintro σ1 H1 ⟨ys,z,rfl,s1,hL1,pa⟩;have rl:=qb6 m st 0;have cl:=qew m st 0 (Nat.zero_le _);refine⟨fun k σ' H'=>∃zs,∃j:Nat,σ'=[some (.ref sa),some (.int m),some (.ref L),some (.int (cntN m 0 st+j:Nat)),z]∧Same H H'∧H' L=some (.lst zs)∧Paired (ItAt (Nw N L) H') zs (qbI m 0 st++addN (cntN m 0 st) j)∧j≤min (m-cntN m 0 st) (60-(qbI m 0 st).length)∧k=60-j,⟨_,ys,0,rfl,s1,hL1,by rw[addN,List.append_nil];exact pa,by omega,rfl⟩,?_⟩;rintro k σ' H' ⟨zs,j,rfl,s2,hL2,pz,hj,rfl⟩;have lz:zs.length=(qbI m 0 st).length+j:=by rw[pz.length,List.length_append,qer]
  refine⟨_,rfl,_,rfl,_,_,rfl,rfl,_,rfl,?_⟩;have done:j=min (m-cntN m 0 st) (60-(qbI m 0 st).length)→Q (.ref L) H':=fun e=>q L H' hL s2 ⟨up L hL,zs,hL2,by
   unfold qbs;rw[←e];exact pz.mono fun v x h=>h.keep KeepN.refl fun _ n _=>n.1⟩
  by_cases h1:cntN m 0 st+j<m
  rotate_left
  ·rw[decide_eq_false (by omega:¬((cntN m 0 st+j:Nat):Int)<(m:Nat))];exact iteF (iteF ⟨_,rfl,done (by omega)⟩)
  rw[decide_eq_true (by omega:((cntN m 0 st+j:Nat):Int)<(m:Nat))];refine iteT ⟨_,rfl,L,_,rfl,.inl (SqL.of hL2),_,_,rfl,rfl,_,rfl,?_⟩
  by_cases h2:zs.length<60
  rotate_left
  ·rw[decide_eq_false (by omega:¬((zs.length:Nat):Int)<60)];exact iteF ⟨_,rfl,done (by omega)⟩
  rw[decide_eq_true (by omega:((zs.length:Nat):Int)<60)];refine iteT ⟨fun σ' H2=>∃zs,σ'=[some (.ref sa),some (.int m),some (.ref L),some (.int (cntN m 0 st+(j+1):Nat)),z]∧Same H H2∧H2 L=some (.lst zs)∧Paired (ItAt (Nw N L) H2) zs (qbI m 0 st++addN (cntN m 0 st) (j+1)),?_,?_⟩
  ·rintro σ' H2 ⟨zs',rfl,s3,hL3,pz3⟩;exact⟨60-(j+1),by omega,zs',j+1,rfl,s3,hL3,pz3,by omega,rfl⟩
  ·refine⟨_,rfl,.inl ⟨rfl,_,SqL.of hL2⟩,_,rfl,(by show 3≤sizeLine;decide),fun t ht=>?_⟩;have s3:=s2.trans (qad ht (.tup [.str So.note.s,.int (cntN m 0 st+j:Nat),.int 0]));have hL3:=qad ht (.tup [.str So.note.s,.int (cntN m 0 st+j:Nat),.int 0]) _ _ hL2;refine⟨L,_,_,rfl,rfl,hL3,qbv (by omega),_,rfl,_,_,rfl,rfl,?_⟩;refine⟨zs++[.ref t],rfl,qay s3 hL,qab,?_⟩;rw[addN,←List.append_assoc];refine qbd (pz.mono fun v x h=>(h.keep (qad ht _).keep fun _ n _=>n).keep keep_nw fun _ n _=>n) (.cons ⟨t,rfl,qcj (up t (s2.none ht)) hL2 ht,?_⟩ .nil);rw[qau (qao hL2 ht).symm,qab];rfl
theorem scWithout:FnScope ["nodes", "spare", "kept", "new_numbers", "number", "node"] ["nodes", "spare"] (qag sWithout):=⟨rfl,rfl,rfl,by decide +kernel,rfl,by decide +kernel,by decide +kernel⟩
theorem ok_without_nodes{f:Addr}{fd:FuncData}(F:Fun K "without_nodes" "without_nodes" sWithout f fd)(T:Bn mg)(NU:Nums mg):FnOk P w K mg base CX0 1 f fd ["nodes", "spare"] spWithout:=by
 refine F.ok scWithout (fun vs H Q E h=>?_) (fun cdv A outer s H vs Q E hr h=>?_)
 ·obtain⟨p,sa,ds,sp,N,rfl,_⟩:=h;rfl
 ·obtain⟨p,sa,ds,sp,N,rfl,⟨as,hp,nd⟩,hs,up,le,wo,q⟩:=h;obtain⟨_,g_ELDER⟩:=NU.elder;obtain⟨_,g_KIND⟩:=NU.kind;obtain⟨_,g_NAME⟩:=NU.name;obtain⟨_,g_MARKS⟩:=NU.marks;obtain⟨_,g_STUFF⟩:=NU.stuff;have hu1:=hu_of hr;refine⟨_,(qac (qan (i:=2) scWithout.nd (by rfl) (by trivial) (qaD pa_nil))
   (qac (qan (i:=3) scWithout.nd (by rfl) (by trivial) (pe_disp (pps_cons (qcY un_neg qaf) (qcY un_neg qaf) pps_nil) rfl rfl (by simp) (by decide)))
   (qac (qb4 PassesOwn.never (by rfl) (qdr (by rfl) T.enumerate (qaa (pv 0) pa_nil)) (qe4 (by rfl) (qbm (qax (i:=4) scWithout.nd (by rfl) (by trivial)) (qbm (qax (i:=5) scWithout.nd (by rfl) (by trivial)) pgs_nil)))
   (qae (qaH (qaj op_notIn_seq (pv 4) (pv 1) (by with_unfolding_all rfl)) (qac (ps_dput hu1 (pv 3) (pv 4) (qal call_len_seq (by rfl) T.len b_len (qaa (pv 2) pa_nil)) (by rfl))
   (qae (qa5 (qbk PySem.F.plainAttrs_list PySem.F.slot_list_append PySem.F.type_list_append mt_append (pv 2) (qaa (qa8 (qaa (pe_dget hu1 (pv 3) (qap ix_tup (pv 5) (qai (v:=.int 0) (by rfl) g_ELDER ⟨_,rfl⟩) (fun _ _=>rfl)) (fun _ _=>rfl)) (qaa (qap ix_tup (pv 5) (qai (v:=.int 1) (by rfl) g_KIND ⟨_,rfl⟩) (fun _ _=>rfl)) (qaa (qap ix_tup (pv 5) (qai (v:=.int 2) (by rfl) g_NAME ⟨_,rfl⟩) (fun _ _=>rfl)) (qaa (qap ix_tup (pv 5) (qai (v:=.int 3) (by rfl) g_MARKS ⟨_,rfl⟩) (fun _ _=>rfl)) (qaa (qap ix_tup (pv 5) (qai (v:=.int 4) (by rfl) g_STUFF ⟨_,rfl⟩) (fun _ _=>rfl)) pa_nil)))))) pa_nil))))) pss_nil)))
   (qae (qak (pv 2)))))),?_⟩
  refine⟨by show 0≤sizeLine;decide,fun L hL=>?_⟩;have s1:=qad hL (.lst []);refine fun dd hdd=>⟨_,rfl,_,rfl,qab,[(Sum.inl (-1),.int (-1))],rfl,by decide,?_⟩
  have hdd0:H dd=none:=s1.none hdd;have s2:Same H (upd (upd (upd H L (.lst [])) dd (.dK [])) dd (.dK (qcF [] [(Sum.inl (-1),.int (-1))]))):=qay (s1.trans (qad hdd _)) hdd0;have hL2:upd (upd (upd H L (.lst [])) dd (.dK [])) dd (.dK (qcF [] [(Sum.inl (-1),.int (-1))])) L=some (.lst []):=by
   rw[upd_upd,qau (qao qab hdd),qab]
  have hd2:upd (upd (upd H L (.lst [])) dd (.dK [])) dd (.dK (qcF [] [(Sum.inl (-1),.int (-1))])) dd=some (.dK (qcF [] [(Sum.inl (-1),.int (-1))])):=qab;generalize upd (upd (upd H L (.lst [])) dd (.dK [])) dd (.dK (qcF [] [(Sum.inl (-1),.int (-1))]))=H2 at s2 hL2 hd2⊢;have old:∀b,N b→(H b).isSome=true→Nw (Nw N L) dd b:=fun b n e=>qc7 hdd0 b (qc7 hL b n e) e
  have la:as.length=ds.length:=nd.length;refine⟨_,rfl,p,rfl,⟨_,SqL.of (s2 _ _ hp)⟩,qdj (xs:=as.map V.ref) (fun i σ' H'=>∃z1 z2 kvs bs,σ'=[some (.ref p),some (.ref sa),some (.ref L),some (.ref dd),z1,z2]∧Same H H'∧H' L=some (.lst (bs.map V.ref))∧NdsAt (Nw (Nw N L) dd) H' bs (qei ds sp i)∧H' dd=some (.dK kvs)∧kvs.length≤i+1∧∀j:Int,(j=-1∨∃n:Nat,j=(n:Int)∧n<i∧(n:Int)∉sp)→valV kvs (Sum.inl j)=some (.int (qcH sp j))) ⟨none,none,_,[],rfl,s2,hL2,.nil,hd2,by decide,?_⟩ ?_ ?_ ?_⟩
  ·rintro j (rfl | ⟨n,_,h,_⟩)
   ·rfl
   ·exact absurd h (Nat.not_lt_zero _)
  ·rintro i σ' H' hi ⟨z1,z2,kvs,bs,rfl,s3,_⟩;exact SqL.of (s3 _ _ hp)
  ·rintro i x σ' H' t hx ht ⟨z1,z2,kvs,bs,rfl,s3,hL3,nds,hd3,lk,inv⟩;obtain⟨a,ea,rfl⟩:=qeD hx;obtain⟨d,ed,nad⟩:=nd.at ea;have hi':i<ds.length:=(List.getElem?_eq_some_iff.mp ed).1;have k4:=qad ht (.tup [.int (i:Nat),.ref a]);have s4:=s3.trans k4;obtain⟨m',s',ha,_⟩:=nad.ex;refine⟨t,_,rfl,SqT.of qab,rfl,_,_,rfl,_,_,rfl,rfl,?_⟩;refine⟨_,rfl,_,rfl,sa,_,rfl,.inl (SqL.of (s4 _ _ hs)),rfl,flat_ints _,_,rfl,?_⟩;rw[if_pos rfl,inV_intD]
   by_cases hsp:(i:Int)∈sp
   ·rw[decide_eq_true hsp];refine iteF ⟨_,_,kvs,bs,rfl,s4,k4 _ _ hL3,?_,k4 _ _ hd3,by omega,fun j hj=>inv j (hj.imp id ?_)⟩
    ·unfold qei;rw[qaR ed,if_pos hsp,List.append_nil];exact nds.keep k4.keep fun _ n _=>n
    ·rintro⟨n,e,lt,nn⟩;refine⟨n,e,?_,nn⟩;have:n≠i:=fun z=>nn (by rw[z];exact hsp)
     omega
   ·rw[decide_eq_false hsp];have lb:bs.length=qbH sp i:=by rw[nds.length,qdx ds sp (by omega)]
    have cl:=qd7 sp i;have hL4:=k4 _ _ hL3;have hd4:=k4 _ _ hd3;refine iteT ⟨_,rfl,L,_,rfl,.inl (SqL.of hL4),_,rfl,_,rfl,dd,_,rfl,DPut.k (k:=Sum.inl (i:Int)) hd4 (qbv (by omega)),?_⟩;rw[List.length_map,lb];have k5:KeepN (Nw (Nw N L) dd) (upd H' t (.tup [.int (i:Nat),.ref a])) (upd (upd H' t (.tup [.int (i:Nat),.ref a])) dd (.dK (putK kvs (Sum.inl (i:Int)) (.int (qbH sp i:Nat))))):=keep_nw;have s5:=qay (o:=.dK (putK kvs (Sum.inl (i:Int)) (.int (qbH sp i:Nat)))) s4 hdd0;have hd5:upd (upd H' t (.tup [.int (i:Nat),.ref a])) dd (.dK (putK kvs (Sum.inl (i:Int)) (.int (qbH sp i:Nat)))) dd=some (.dK (putK kvs (Sum.inl (i:Int)) (.int (qbH sp i:Nat)))):=qab;have hL5:upd (upd H' t (.tup [.int (i:Nat),.ref a])) dd (.dK (putK kvs (Sum.inl (i:Int)) (.int (qbH sp i:Nat)))) L=some (.lst (bs.map V.ref)):=by rw[qau (qf0 hL4 hd4 (by intro z;cases z))];exact hL4
    generalize upd (upd H' t (.tup [.int (i:Nat),.ref a])) dd (.dK (putK kvs (Sum.inl (i:Int)) (.int (qbH sp i:Nat))))=H5 at k5 s5 hd5 hL5⊢;have ha5:=s5 _ _ ha;have ev:valV (putK kvs (Sum.inl (i:Int)) (.int (qbH sp i:Nat))) (Sum.inl d.e)=some (.int (qcH sp d.e)):=by
     have lt:d.e=-1∨∃n:Nat,d.e=(n:Int)∧n<i∧(n:Int)∉sp:=wo i d ed hsp;rw[qfo,if_neg]
     ·exact inv _ lt
     ·intro z;have z:=Sum.inl.inj z;rcases lt with h | ⟨n,h,l2,_⟩<;>omega
    have dg:DGet H5 dd (.int d.e) (some (.int (qcH sp d.e))):=by
     have:=DGet.k (k:=Sum.inl d.e) hd5;rw[ev]at this;exact this
    refine⟨_,rfl,.inl ⟨rfl,_,SqL.of hL5⟩,_,rfl,_,rfl,a,_,_,_,rfl,rfl,SqT.of ha5,rfl,dd,_,rfl,dg,_,rfl,a,_,_,_,rfl,rfl,SqT.of ha5,rfl,_,rfl,a,_,_,_,rfl,rfl,SqT.of ha5,rfl,_,rfl,a,_,_,_,rfl,rfl,SqT.of ha5,rfl,_,rfl,a,_,_,_,rfl,rfl,SqT.of ha5,rfl,(by show 5≤sizeLine;decide),fun u hu=>?_⟩;have k6:=qad hu (.tup [.int (qcH sp d.e),.str d.k.s,.str d.nm,.ref m',.ref s']);have s6:=s5.trans k6;have hL6:=k6 _ _ hL5;have hd6:=k6 _ _ hd5;refine⟨L,_,_,rfl,rfl,hL6,qbv (by rw[List.length_map];omega),?_⟩;have k7:KeepN (Nw (Nw N L) dd) (upd H5 u (.tup [.int (qcH sp d.e),.str d.k.s,.str d.nm,.ref m',.ref s'])) (upd (upd H5 u (.tup [.int (qcH sp d.e),.str d.k.s,.str d.nm,.ref m',.ref s'])) L (.lst (bs.map V.ref++[.ref u]))):=keep_nw.mono fun b n=>n.1
    refine⟨_,_,_,bs++[u],rfl,qay s6 hL,by rw[qab];simp,?_,by rw[qau (qf0 hd6 hL6 (by intro z;cases z))];exact hd6,?_,fun j hj=>?_⟩
    ·unfold qei;rw[qaR ed,if_neg hsp];have kk:=((k4.keep (N:=Nw (Nw N L) dd)).trans k5).trans (k6.keep.trans k7);refine NdsAt.append (nds.keep kk fun _ n _=>n) (.cons ?_ .nil);obtain⟨_,m2,s2',ha2,nm,hm,st⟩:=nad.keep (N':=Nw (Nw N L) dd) (qay (o:=.lst (bs.map V.ref++[.ref u])) s6 hL).keep old;have e2:upd (upd H5 u (.tup [.int (qcH sp d.e),.str d.k.s,.str d.nm,.ref m',.ref s'])) L (.lst (bs.map V.ref++[.ref u])) a=some (.tup [.int d.e,.str d.k.s,.str d.nm,.ref m',.ref s']):=qay s6 hL _ _ ha;rw[e2]at ha2;cases ha2;refine⟨qcj (qcj (up u (s5.none hu)) hL5 hu) hd5 hu,m',s',?_,nm,hm,st⟩;rw[qau (qao hL5 hu).symm,qab]
    ·have:=qcc kvs (Sum.inl (i:Int)) (.int (qbH sp i:Nat));omega
    ·rw[qfo]
     by_cases e:j=(i:Int)
     ·rw[if_pos (by rw[e])];subst e;unfold qcH;rw[if_neg (by omega),Int.toNat_natCast]
     ·rw[if_neg (fun z=>e (Sum.inl.inj z))];refine inv j (hj.imp id ?_);rintro⟨n,e1,l2,nn⟩;exact⟨n,e1,by omega,nn⟩
  ·rintro σ' H' ⟨z1,z2,kvs,bs,rfl,s3,hL3,nds,_⟩;rw[List.length_map,la]at nds;exact⟨_,rfl,q L H' hL s3 ⟨bs,hL3,nds.keep KeepN.refl fun _ n _=>n.1.1⟩⟩
theorem scMendNotes:FnScope ["nodes", "mended", "spare", "number", "node", "stuff", "held"] ["nodes"] (qag sMendNotes):=⟨rfl,rfl,rfl,by decide +kernel,rfl,by decide +kernel,by decide +kernel⟩
theorem ok_mended_notes{f C:Addr}{fd:FuncData}(F:Fun K "mended_notes" "mended_notes" sMendNotes f fd)(T:Bn mg)(NU:Nums mg)(F_may_hold:Fx P w K mg base CX0 1 "may_hold" ["elder_kind", "kind"] spMayX)(F_holds:Fx P w K mg base (CX1 P w) 1 "holds" ["book", "node"] (qcW C))(F_numbered_pieces:Fx P w K mg base CX0 1 "numbered_pieces" ["stuff", "notes"] spNumbered)(F_note_numbers:Fx P w K mg base CX0 1 "note_numbers" ["stuff"] spNotesA)(F_without_nodes:Fx P w K mg base CX0 1 "without_nodes" ["nodes", "spare"] spWithout):FnOk P w K mg base CX0 2 f fd ["nodes"] spMendNotes:=by
 refine F.ok scMendNotes (fun vs H Q E h=>?_) (fun cdv A outer s H vs Q E hr h=>?_)
 ·obtain⟨p,ds,N,rfl,_⟩:=h;rfl
 ·obtain⟨p,ds,N,rfl,⟨as,hp,nd⟩,up,ok,q⟩:=h;obtain⟨_,g_ELDER⟩:=NU.elder;obtain⟨_,g_KIND⟩:=NU.kind;obtain⟨_,g_NAME⟩:=NU.name;obtain⟨_,g_MARKS⟩:=NU.marks;obtain⟨_,g_STUFF⟩:=NU.stuff;have hr_may_hold:=hr;have hr_holds:=hr;have hr_numbered_pieces:=hr;have hr_note_numbers:=hr;have hr_without_nodes:=hr;refine⟨_,(qac (qan (i:=1) scMendNotes.nd (by rfl) (by trivial) (qaD pa_nil))
   (qac (qan (i:=2) scMendNotes.nd (by rfl) (by trivial) (qaD pa_nil))
   (qac (qb4 PassesOwn.never (by rfl) (qdr (by rfl) T.enumerate (qaa (pv 0) pa_nil)) (qe4 (by rfl) (qbm (qax (i:=3) scMendNotes.nd (by rfl) (by trivial)) (qbm (qax (i:=4) scMendNotes.nd (by rfl) (by trivial)) pgs_nil)))
   (qac (qan (i:=5) scMendNotes.nd (by rfl) (by trivial) (qap ix_tup (pv 4) (qai (v:=.int 4) (by rfl) g_STUFF ⟨_,rfl⟩) (fun _ _=>rfl)))
   (qac (qaH (qaW (qar F_may_hold hr_may_hold (by rfl) qas (qaa (qap ix_tup (pv 4) (qai (v:=.int 1) (by rfl) g_KIND ⟨_,rfl⟩) (fun _ _=>rfl)) (qaa qah pa_nil)))) (qac (qan (i:=6) scMendNotes.nd (by rfl) (by trivial) (qar F_holds hr_holds (by rfl) qf1 (qaa (pv 0) (qaa (pv 3) pa_nil))))
   (qac (qan (i:=5) scMendNotes.nd (by rfl) (by trivial) (qar F_numbered_pieces hr_numbered_pieces (by rfl) qas (qaa (pv 5) (qaa (qal call_len_seq (by rfl) T.len b_len (qaa (pv 6) pa_nil)) pa_nil))))
   (qae (qa5 (qbk PySem.F.plainAttrs_list PySem.F.slot_list_extend PySem.F.type_list_extend mt_extend (pv 2) (qaa (qav sl_list (pv 6) (qaz (qal call_len_seq (by rfl) T.len b_len (qaa (qar F_note_numbers hr_note_numbers (by rfl) qas (qaa (pv 5) pa_nil)) pa_nil))) po_none) pa_nil)))))) pss_nil)
   (qae (qa5 (qbk PySem.F.plainAttrs_list PySem.F.slot_list_append PySem.F.type_list_append mt_append (pv 1) (qaa (qa8 (qaa (qap ix_tup (pv 4) (qai (v:=.int 0) (by rfl) g_ELDER ⟨_,rfl⟩) (fun _ _=>rfl)) (qaa (qap ix_tup (pv 4) (qai (v:=.int 1) (by rfl) g_KIND ⟨_,rfl⟩) (fun _ _=>rfl)) (qaa (qap ix_tup (pv 4) (qai (v:=.int 2) (by rfl) g_NAME ⟨_,rfl⟩) (fun _ _=>rfl)) (qaa (qap ix_tup (pv 4) (qai (v:=.int 3) (by rfl) g_MARKS ⟨_,rfl⟩) (fun _ _=>rfl)) (qaa (pv 5) pa_nil)))))) pa_nil)))))))
   (qae (qak (qar F_without_nodes hr_without_nodes (by rfl) qas (qaa (pv 1) (qaa (pv 2) pa_nil)))))))),?_⟩
  refine⟨by show 0≤sizeLine;decide,fun L hL=>⟨by show 0≤sizeLine;decide,fun S hS=>?_⟩⟩;have s1:=qad hL (.lst []);have hS0:H S=none:=s1.none hS;have s2:=s1.trans (qad hS (.lst []));have hL2:upd (upd H L (.lst [])) S (.lst []) L=some (.lst []):=by rw[qau (qao qab hS),qab]
  have hS2:upd (upd H L (.lst [])) S (.lst []) S=some (.lst []):=qab;have neLS:L≠S:=qao qab hS;generalize upd (upd H L (.lst [])) S (.lst [])=H2 at s2 hL2 hS2⊢;have old:∀b,N b→(H b).isSome=true→Nw (Nw N L) S b:=fun b n e=>qc7 hS0 b (qc7 hL b n e) e
  have la:as.length=ds.length:=nd.length;have le:=ok.le;refine⟨_,rfl,p,rfl,⟨_,SqL.of (s2 _ _ hp)⟩,qdj (xs:=as.map V.ref) (fun i σ' H'=>∃z1 z2 z3 z4 bs,σ'=[some (.ref p),some (.ref L),some (.ref S),z1,z2,z3,z4]∧Same H H'∧H' L=some (.lst (bs.map V.ref))∧NdsAt (Nw (Nw N L) S) H' bs (atTo ds (fun i d=>[noted ds i d]) i)∧H' S=some (.lst ((atTo ds (fun i d=>qcn ds i d) i).map V.int))) ⟨none,none,none,none,[],rfl,s2,hL2,.nil,hS2⟩ ?_ ?_ ?_⟩
  ·rintro i σ' H' hi ⟨z1,z2,z3,z4,bs,rfl,s3,_⟩;exact SqL.of (s3 _ _ hp)
  ·rintro i x σ' H' t hx ht ⟨z1,z2,z3,z4,bs,rfl,s3,hL3,nds,hS3⟩;obtain⟨a,ea,rfl⟩:=qeD hx;obtain⟨d,ed,nad⟩:=nd.at ea;have hi':i<ds.length:=(List.getElem?_eq_some_iff.mp ed).1;obtain⟨fm,hk⟩:=ok.form d (List.mem_of_getElem? ed);have k4:=qad ht (.tup [.int (i:Nat),.ref a]);have s4:=s3.trans k4;obtain⟨m',s',ha,nm',hm',st'⟩:=nad.ex;have lb:bs.length=i:=by rw[nds.length,qbX (by omega)]
   have upN:∀{H':Hp},Same H H'→(∃o,H' L=some o)→(∃o,H' S=some o)→Up0 (Nw (Nw N L) S) H':=fun {H'} sa hl hs b hb=>by
    obtain⟨o1,e1⟩:=hl;obtain⟨o2,e2⟩:=hs;exact qcj (qcj (up b (sa.none hb)) e1 hb) e2 hb
   refine⟨t,_,rfl,SqT.of qab,rfl,_,_,rfl,_,_,rfl,rfl,?_⟩;refine⟨_,rfl,a,_,_,_,rfl,rfl,SqT.of (s4 _ _ ha),rfl,?_⟩;dsimp only[qbR];refine qaN (fun σ' H5=>∃s5 z,σ'=[some (.ref p),some (.ref L),some (.ref S),some (.int (i:Nat)),some (.ref a),some (.ref s5),z]∧Same H H5∧KeepN (Nw (Nw N L) S) H' H5∧H5 L=some (.lst (bs.map V.ref))∧H5 S=some (.lst ((atTo ds (fun i d=>qcn ds i d) (i+1)).map V.int))∧StAt (Nw (Nw N L) S) H5 s5 (noted ds i d).st) (fun D' kk=>?_) ?_
   ·refine⟨_,rfl,a,_,_,_,rfl,rfl,SqT.of (s4 _ _ ha),rfl,d.k,.note,rfl,hk,_,rfl,?_⟩;cases eb:mayHold d.k .note with
    | false =>
      refine iteF (kk _ _ ⟨s',_,rfl,s4,k4.keep,k4 _ _ hL3,?_,?_⟩)
      · rw[qaR ed]
        unfold qcn
        rw[if_neg (by rw[eb];decide),List.append_nil]
        exact k4 _ _ hS3
      · unfold noted
        rw[if_neg (by rw[eb];decide)]
        exact st'.keep s4.keep old
    | true =>
      have fp:=qgi fm (by rcases qc2 eb with z | z<;>rw[z]<;>rfl)
      have kl:=qfX ds i
      refine iteT ⟨_,rfl,_,rfl,p,i,ds,N,rfl,⟨as,s4 _ _ hp,nd.keep s4.keep fun _ n _=>n⟩,by omega,Nat.lt_trans (show((i:Int)).natAbs<1000 by omega) (by decide +kernel),.inr ⟨⟨by omega,by omega⟩,fun h5 H5 hh5 s5 e5=>?_⟩⟩
      have s45:=s4.trans s5
      have hL5:=s5 _ _ (k4 _ _ hL3)
      have hS5:=s5 _ _ (k4 _ _ hS3)
      refine⟨_,rfl,_,rfl,h5,_,rfl,.inl (SqL.of e5),?_⟩
      rw[List.length_map]
      refine⟨s',d.st,(kids ds i).length,Nw (Nw N L) S,rfl,st'.keep s45.keep old,upN s45 ⟨_,hL5⟩ ⟨_,hS5⟩,fp.1,fp.2,by omega,fun s6 H6 hs6 k6 st6=>?_⟩
      have s46:=s45.trans k6
      refine⟨_,rfl,.inl ⟨rfl,_,SqL.of (k6 _ _ hS5)⟩,_,rfl,_,rfl,s6,_,_,rfl,st6,numP_pc (by omega) fp.1,numP_len fp.2,fun l7 H7 hl7 k7 e7=>?_⟩
      refine⟨l7,_,rfl,.inl (SqL.of e7),_,rfl,h5,_,rfl,SqL.of (k7 _ _ (k6 _ _ e5)),fun c8 hc8=>?_⟩
      rw[List.length_map,qcb,←List.map_drop]
      have k8:=qad hc8 (.lst (((qa0 ds i ds.length).drop (qaT (qbs (kids ds i).length d.st)).length).map V.int))
      have s48:=(s46.trans k7).trans k8
      have hS8:=k8 _ _ (k7 _ _ (k6 _ _ hS5))
      have hL8:=k8 _ _ (k7 _ _ (k6 _ _ hL5))
      have ls:(atTo ds (fun i d=>qcn ds i d) i).length≤60*i:=qb2 (fun i d=>by
        unfold qcn
        have:=qfX ds i
        split
        · rw[List.length_drop];omega
        · exact Nat.zero_le _) i
      refine⟨S,c8,_,_,rfl,rfl,hS8,qab,?_,kk _ _ ⟨s6,_,rfl,qay s48 hS0,?_,?_,?_,?_⟩⟩
      · rw[List.length_map,List.length_map,List.length_drop]
        have:(qa0 ds i ds.length).length≤ds.length:=qcR ds i ds.length
        exact Nat.le_trans (show _≤10000 by omega) (by decide)
      · exact(k4.keep.trans (s5.keep.trans (k6.keep.trans (k7.keep.trans k8.keep)))).trans keep_nw
      · rw[qau neLS];exact hL8
      · rw[qab,qaR ed,List.map_append]
        unfold qcn
        rw[if_pos eb]
        rfl
      · unfold noted
        rw[if_pos eb]
        exact st6.keep ((k7.trans k8).keep.trans keep_nw) fun _ n _=>n
   rintro σ5 H5 ⟨s5,z,rfl,s05,k5,hL5,hS5,st5⟩;have ha5:=s05 _ _ ha;refine⟨_,rfl,.inl ⟨rfl,_,SqL.of hL5⟩,_,rfl,a,_,_,_,rfl,rfl,SqT.of ha5,rfl,_,rfl,a,_,_,_,rfl,rfl,SqT.of ha5,rfl,_,rfl,a,_,_,_,rfl,rfl,SqT.of ha5,rfl,_,rfl,a,_,_,_,rfl,rfl,SqT.of ha5,rfl,_,rfl,(by show 5≤sizeLine;decide),fun u hu=>?_⟩;have k6:=qad hu (.tup [.int d.e,.str d.k.s,.str d.nm,.ref m',.ref s5]);have s6:=s05.trans k6;have hL6:=k6 _ _ hL5;have k7:KeepN (Nw (Nw N L) S) (upd H5 u (.tup [.int d.e,.str d.k.s,.str d.nm,.ref m',.ref s5])) (upd (upd H5 u (.tup [.int d.e,.str d.k.s,.str d.nm,.ref m',.ref s5])) L (.lst (bs.map V.ref++[.ref u]))):=keep_nw.mono fun b n=>n.1
   refine⟨L,_,_,rfl,rfl,hL6,qbv (by rw[List.length_map];omega),?_⟩;refine⟨_,_,_,_,bs++[u],rfl,qay s6 hL,by rw[qab];simp,?_,by rw[qau neLS.symm];exact k6 _ _ hS5⟩;rw[qaR ed];refine NdsAt.append (nds.keep (k5.trans (k6.keep.trans k7)) fun _ n _=>n) (.cons ?_ .nil);have nk:=qen ds i d;have hm6:upd (upd H5 u (.tup [.int d.e,.str d.k.s,.str d.nm,.ref m',.ref s5])) L (.lst (bs.map V.ref++[.ref u])) m'=some (.lst (d.mks.map V.str)):=qay s6 hL _ _ hm';refine⟨upN s05 ⟨_,hL5⟩ ⟨_,hS5⟩ u hu,m',s5,?_,old m' nm' (by rw[hm'];rfl),by rw[nk.2.2.2];exact hm6,st5.keep (k6.keep.trans k7) fun _ n _=>n⟩;rw[nk.1,nk.2.1,nk.2.2.1,qau (qao hL5 hu).symm,qab]
  ·rintro σ' H' ⟨z1,z2,z3,z4,bs,rfl,s3,hL3,nds,hS3⟩;rw[List.length_map,la]at nds hS3;have ll:(qdM ds).length≤60:=by rw[qcv];exact le
   refine⟨_,rfl,_,rfl,L,S,qdM ds,qbO ds,N,rfl,⟨bs,hL3,nds.keep KeepN.refl fun _ n _=>n.1.1⟩,hS3,up.same s3,ll,notes_wok ok,fun l H4 hl s4 B=>q l H4 (s3.none hl) (s3.trans s4) B⟩
theorem scNextKind:FnScope ["nodes", "number", "behind"] ["nodes", "number"] (qag sNextKind):=⟨rfl,rfl,rfl,by decide +kernel,rfl,by decide +kernel,by decide +kernel⟩
theorem ok_next_kind{f C:Addr}{fd:FuncData}(F:Fun K "next_kind" "next_kind" sNextKind f fd)(T:Bn mg)(NU:Nums mg)(F_holds:Fx P w K mg base (CX1 P w) 1 "holds" ["book", "node"] (qcW C)):FnOk P w K mg base CX0 2 f fd ["nodes", "number"] spNextKind:=by
 refine F.ok scNextKind (fun vs H Q E h=>?_) (fun cdv A outer s H vs Q E hr h=>?_)
 ·obtain⟨p,n,d,ds,N,rfl,_⟩:=h;rfl
 ·obtain⟨p,n,d,ds,N,rfl,⟨as,hp,nd⟩,le,ed,e0,e1,q⟩:=h;obtain⟨_,g_ELDER⟩:=NU.elder;obtain⟨_,g_KIND⟩:=NU.kind;have hr_holds:=hr;have ln:n<ds.length:=(List.getElem?_eq_some_iff.mp ed).1;obtain⟨a,ea,na⟩:=nd.get ed;obtain⟨m',s',ha,_⟩:=na.ex;refine⟨_,(qac (qdC (i:=2) (by rfl) scNextKind.nd (by rfl) (by trivial) (own:=["one"]) (ix:=[1]) (frees:=["number"]) (CompScope.frees (by rfl) (by decide +kernel) (by decide +kernel) (by decide +kernel) (by rfl) (by decide +kernel) (by first | exact qfg (by rfl) | exact free2 (by rfl) (by rfl))) (qbg (qar F_holds hr_holds (by rfl) qf1 (qaa (pv 0) (qaa (qap ix_tup (qap ix_list (pv 0) (pv 1) (fun _ _=>rfl)) (qai (v:=.int 0) (by rfl) g_ELDER ⟨_,rfl⟩) (fun _ _=>rfl)) pa_nil)))) (fun cl C s2 H2 fp=>(qax (i:=0) (by show(["one", "number"]:List Str).Nodup;decide +kernel) (by rfl) (by trivial) (by trivial))) (fun cl C s2 H2 fp=>(qb3 (qaj op_gt (pv 0) (pv 1) (qam _)))) (fun cl C s2 H2 fp=>(pv 0)))
   (qae (qak (qb0 (qaj op_gt (qal call_len_seq (by rfl) T.len b_len (qaa (pv 2) pa_nil)) qaf (qam _)) (qap ix_tup (qap ix_list (pv 0) (qap ix_list (pv 2) qaf (fun _ _=>rfl)) (fun _ _=>rfl)) (qai (v:=.int 1) (by rfl) g_KIND ⟨_,rfl⟩) (fun _ _=>rfl)) qah)))),?_⟩
  refine⟨_,rfl,_,rfl,_,rfl,p,_,_,_,rfl,rfl,SqL.of hp,qcq ea,a,_,_,_,rfl,rfl,SqT.of ha,rfl,p,d.e,ds,N,rfl,⟨as,hp,nd⟩,by omega,Nat.lt_trans (show(d.e).natAbs<1000 by omega) (by decide +kernel),.inr ⟨⟨e0,e1⟩,fun l H1 hl s1 h1=>?_⟩⟩;have kl:(qa0 ds d.e ds.length).length≤ds.length:=qcR ds d.e ds.length;refine⟨l,rfl,⟨_,SqL.of h1⟩,qaZ (xs:=(qa0 ds d.e ds.length).map V.int) (fun i ys σ' H'=>H'=H1∧ys=(((qa0 ds d.e ds.length).take i).filter fun j=>decide ((n:Int)<j)).map V.int∧∃z,σ'=[z,some (.int (n:Nat))]) (by rw[List.length_map];exact qbv (by omega)) ⟨rfl,rfl,none,rfl⟩ ?_ ?_ ?_⟩
  ·rintro i ys σ' H' hi ⟨rfl,rfl,_⟩;refine⟨SqL.of h1,?_⟩;rw[List.length_map];exact Nat.le_trans (List.length_filter_le ..) (by rw[List.length_take];omega)
  ·rintro i x ys σ' H' hx ⟨rfl,rfl,z,rfl⟩;rw[List.getElem?_map]at hx;cases e:(qa0 ds d.e ds.length)[i]? with
   | none=>rw[e]at hx;cases hx
   | some j =>
     rw[e]at hx
     cases hx
     refine⟨_,rfl,_,rfl,_,_,rfl,rfl,_,rfl,?_⟩
     rw[List.take_succ,e,Option.toList_some,List.filter_append]
     by_cases hj:(n:Int)<j
     · rw[decide_eq_true hj]
       exact iteT ⟨_,rfl,rfl,by simp[hj],_,rfl⟩
     · rw[decide_eq_false hj]
       exact iteF ⟨rfl,by simp[hj],_,rfl⟩
  ·rintro ys σ' H' ⟨rfl,rfl,_⟩ D hD;rw[List.length_map,List.take_length];have s2:=s1.trans (qad hD (.lst (((qa0 ds d.e ds.length).filter fun j=>decide ((n:Int)<j)).map V.int)));refine⟨_,rfl,D,_,rfl,.inl (SqL.of qab),_,_,rfl,rfl,_,rfl,?_⟩;have q2:=q _ s2;unfold qca kids at q2;cases ef:(qa0 ds d.e ds.length).filter fun j=>decide ((n:Int)<j)with
   | nil =>
     rw[ef]at q2
     exact iteF q2
   | cons j r =>
     rw[ef]at q2
     have hj:j∈kids ds d.e:=(List.mem_filter.mp (show j∈(qa0 ds d.e ds.length).filter _ by rw[ef];exact List.mem_cons_self)).1
     obtain⟨jn,dj,rfl,ej,_⟩:=qfV hj
     obtain⟨b,eb,nb⟩:=nd.get ej
     obtain⟨m2,s2',hb,_⟩:=nb.ex
     rw[ef]at s2
     rw[decide_eq_true (by simp:(0:Int)<(((((jn:Int)::r).map V.int).length:Nat):Int))]
     refine iteT ⟨_,rfl,_,rfl,D,_,_,_,rfl,rfl,SqL.of qab,(qbf (j:=0) rfl),p,_,_,_,rfl,rfl,SqL.of (s2 _ _ hp),qcq eb,b,_,_,_,rfl,rfl,SqT.of (s2 _ _ hb),rfl,?_⟩
     dsimp only at q2
     rw[show qeF ds ((jn:Int)).toNat=dj.k by unfold qeF;rw[Int.toNat_natCast,ej]]at q2
     exact q2
theorem scWants:FnScope ["nodes", "number", "kind"] ["nodes", "number"] (qag sWants):=⟨rfl,rfl,rfl,by decide +kernel,rfl,by decide +kernel,by decide +kernel⟩
theorem ok_wants_case{f C:Addr}{fd:FuncData}(F:Fun K "wants_case" "wants_case" sWants f fd)(T:Bn mg)(NU:Nums mg)(F_holds:Fx P w K mg base (CX1 P w) 1 "holds" ["book", "node"] (qcW C))(F_next_kind:Fx P w K mg base CX0 2 "next_kind" ["nodes", "number"] spNextKind):FnOk P w K mg base CX0 3 f fd ["nodes", "number"] spWants:=by
 refine F.ok scWants (fun vs H Q E h=>?_) (fun cdv A outer s H vs Q E hr h=>?_)
 ·obtain⟨p,n,d,ds,N,rfl,_⟩:=h;rfl
 ·obtain⟨p,n,d,ds,N,rfl,⟨as,hp,nd⟩,le,ed,ao,q⟩:=h;obtain⟨_,g_KIND⟩:=NU.kind;have hr_holds:Room 1 _:=hr.mono (by decide);have hr_next_kind:=hr;have ln:n<ds.length:=(List.getElem?_eq_some_iff.mp ed).1;obtain⟨a,ea,na⟩:=nd.get ed;obtain⟨m',s',ha,_⟩:=na.ex;refine⟨_,(qac (qan (i:=2) scWants.nd (by rfl) (by trivial) (qap ix_tup (qap ix_list (pv 0) (pv 1) (fun _ _=>rfl)) (qai (v:=.int 1) (by rfl) g_KIND ⟨_,rfl⟩) (fun _ _=>rfl)))
   (qac (qaH (PW.pt (qcg (qaj op_eq (pv 2) qah (qam _)) (qbG (qaj op_ne (qar F_next_kind hr_next_kind (by rfl) qas (qaa (pv 0) (qaa (pv 1) pa_nil))) qah (qam _))))) (qae (qak qc3)) pss_nil)
   (qae (qak (qbu (qaI op_in_seq (pv 2) (qa8 (qaa qah (qaa qah (qaa qah pa_nil)))) (by with_unfolding_all rfl)) (qbS (qaI op_eq (qal call_len_seq (by rfl) T.len b_len (qaa (qar F_holds hr_holds (by rfl) qf1 (qaa (pv 0) (qaa (pv 1) pa_nil))) pa_nil)) qaf (qam _)))))))),?_⟩
  refine⟨_,rfl,_,rfl,p,_,_,_,rfl,rfl,SqL.of hp,qcq ea,a,_,_,_,rfl,rfl,SqT.of ha,rfl,?_⟩;dsimp only[qbR];refine qbN (fun σ' H'=>σ'=[some (.ref p),some (.int (n:Nat)),some (.str d.k.s)]∧Same H H'∧(decide (d.k=.aside) && decide (qca ds n d≠.text))=false) (fun N0 kk=>?_) ?_
  ·refine⟨_,rfl,rfl,_,rfl,?_⟩;rw[show decide (V.str d.k.s=V.str (Str.ofString "aside"))=decide (d.k=.aside)from kdt d.k .aside]
   by_cases hk:d.k=.aside
   ·rw[decide_eq_true hk];obtain⟨e0,e1⟩:=ao d (List.mem_of_getElem? ed) hk;refine iteT ⟨_,rfl,_,rfl,p,n,d,ds,N,rfl,⟨as,hp,nd⟩,le,ed,e0,e1,fun H2 s2=>⟨rfl,_,rfl,?_⟩⟩;rw[show decide (V.str (qca ds n d).s=V.str (Str.ofString "text"))=decide (qca ds n d=.text)from kdt _ .text]
    by_cases ht:qca ds n d=.text
    ·rw[decide_eq_true ht];exact iteF (kk _ _ ⟨rfl,s2,by rw[ht];simp⟩)
    ·rw[decide_eq_false ht];refine iteT ?_;have:=q H2 s2;unfold qaQ at this;rw[decide_eq_true hk,decide_eq_true ht]at this;exact this
   ·rw[decide_eq_false hk];exact iteF (iteF (kk _ _ ⟨rfl,Same.refl H,by rw[decide_eq_false hk];rfl⟩))
  rintro _ H1 ⟨rfl,s1,e1⟩;have q1:∀H',Same H H'→Q (.bl (decide (d.k∈[Kd.aside,.shelf,.grid]) && decide (kids ds n=[]))) H':=fun H' s=>by
   have:=q H' s;unfold qaQ at this;rw[e1,Bool.false_or]at this;exact this
  refine⟨_,rfl,(by show 3≤sizeLine;decide),fun t ht=>⟨t,_,rfl,.inr (SqT.of qab),rfl,rfl,_,rfl,?_⟩⟩;rw[if_neg Bool.false_ne_true,show inV (V.str d.k.s) [V.str (Str.ofString "aside"),V.str (Str.ofString "shelf"),V.str (Str.ofString "grid")]=decide (d.k∈[Kd.aside,.shelf,.grid])from qcm d.k [Kd.aside,.shelf,.grid]];have s2:=s1.trans (qad ht (.tup [.str (Str.ofString "aside"),.str (Str.ofString "shelf"),.str (Str.ofString "grid")]))
  by_cases hk:d.k∈[Kd.aside,.shelf,.grid]
  ·rw[decide_eq_true hk];refine iteT ⟨_,rfl,_,rfl,p,n,ds,N,rfl,⟨as,s2 _ _ hp,nd.keep s2.keep fun _ n _=>n⟩,by omega,Nat.lt_trans (show((n:Int)).natAbs<1000 by omega) (by decide +kernel),.inr ⟨⟨by omega,by omega⟩,fun l H3 hl s3 h3=>?_⟩⟩;refine⟨l,_,rfl,.inl (SqL.of h3),rfl,?_⟩;have:=q1 H3 (s2.trans s3);rw[decide_eq_true hk,Bool.true_and]at this;rw[List.length_map];have e:decide (V.int ((qa0 ds n ds.length).length:Nat)=V.int 0)=decide (kids ds n=[]):=by
    unfold kids;rw[Bool.eq_iff_iff,decide_eq_true_iff,decide_eq_true_iff];constructor
    ·intro z;have:=V.int.inj z;exact List.eq_nil_of_length_eq_zero (by omega)
    ·intro z;rw[z];rfl
   rw[e];exact this
  ·rw[decide_eq_false hk];have:=q1 _ s2;rw[decide_eq_false hk]at this;exact iteF this
theorem scMendKinds:FnScope ["nodes", "mended", "number", "node", "kind"] ["nodes"] (qag sMendKinds):=⟨rfl,rfl,rfl,by decide +kernel,rfl,by decide +kernel,by decide +kernel⟩
theorem ok_mended_kinds{f:Addr}{fd:FuncData}(F:Fun K "mended_kinds" "mended_kinds" sMendKinds f fd)(T:Bn mg)(NU:Nums mg)(F_wants_case:Fx P w K mg base CX0 3 "wants_case" ["nodes", "number"] spWants):FnOk P w K mg base CX0 4 f fd ["nodes"] spMendKinds:=by
 refine F.ok scMendKinds (fun vs H Q E h=>?_) (fun cdv A outer s H vs Q E hr h=>?_)
 ·obtain⟨p,ds,N,rfl,_⟩:=h;rfl
 ·obtain⟨p,ds,N,rfl,⟨as,hp,nd⟩,up,le,ao,q⟩:=h;obtain⟨_,g_ELDER⟩:=NU.elder;obtain⟨_,g_KIND⟩:=NU.kind;obtain⟨_,g_NAME⟩:=NU.name;obtain⟨_,g_MARKS⟩:=NU.marks;obtain⟨_,g_STUFF⟩:=NU.stuff;have hr_wants_case:=hr;refine⟨_,(qac (qan (i:=1) scMendKinds.nd (by rfl) (by trivial) (qaD pa_nil))
   (qac (qb4 PassesOwn.never (by rfl) (qdr (by rfl) T.enumerate (qaa (pv 0) pa_nil)) (qe4 (by rfl) (qbm (qax (i:=2) scMendKinds.nd (by rfl) (by trivial)) (qbm (qax (i:=3) scMendKinds.nd (by rfl) (by trivial)) pgs_nil)))
   (qac (qan (i:=4) scMendKinds.nd (by rfl) (by trivial) (qb0 (qaW (qar F_wants_case hr_wants_case (by rfl) qas (qaa (pv 0) (qaa (pv 2) pa_nil)))) qah (qap ix_tup (pv 3) (qai (v:=.int 1) (by rfl) g_KIND ⟨_,rfl⟩) (fun _ _=>rfl))))
   (qae (qa5 (qbk PySem.F.plainAttrs_list PySem.F.slot_list_append PySem.F.type_list_append mt_append (pv 1) (qaa (qa8 (qaa (qap ix_tup (pv 3) (qai (v:=.int 0) (by rfl) g_ELDER ⟨_,rfl⟩) (fun _ _=>rfl)) (qaa (pv 4) (qaa (qap ix_tup (pv 3) (qai (v:=.int 2) (by rfl) g_NAME ⟨_,rfl⟩) (fun _ _=>rfl)) (qaa (qap ix_tup (pv 3) (qai (v:=.int 3) (by rfl) g_MARKS ⟨_,rfl⟩) (fun _ _=>rfl)) (qaa (qap ix_tup (pv 3) (qai (v:=.int 4) (by rfl) g_STUFF ⟨_,rfl⟩) (fun _ _=>rfl)) pa_nil)))))) pa_nil))))))
   (qae (qak (pv 1))))),?_⟩
  refine⟨by show 0≤sizeLine;decide,fun L hL=>?_⟩;have s2:=qad hL (.lst []);have la:as.length=ds.length:=nd.length;have old:∀b,N b→(H b).isSome=true→Nw N L b:=qc7 hL;refine⟨_,rfl,p,rfl,⟨_,SqL.of (s2 _ _ hp)⟩,qdj (xs:=as.map V.ref) (fun i σ' H'=>∃z1 z2 z3 bs,σ'=[some (.ref p),some (.ref L),z1,z2,z3]∧Same H H'∧H' L=some (.lst (bs.map V.ref))∧NdsAt (Nw N L) H' bs (atTo ds (fun i d=>[{d with k:=if qaQ ds i d then .case else d.k}]) i)) ⟨none,none,none,[],rfl,s2,qab,.nil⟩ ?_ ?_ ?_⟩
  ·rintro i σ' H' hi ⟨z1,z2,z3,bs,rfl,s3,_⟩;exact SqL.of (s3 _ _ hp)
  ·rintro i x σ' H' t hx ht ⟨z1,z2,z3,bs,rfl,s3,hL3,nds⟩;obtain⟨a,ea,rfl⟩:=qeD hx;obtain⟨d,ed,nad⟩:=nd.at ea;have hi':i<ds.length:=(List.getElem?_eq_some_iff.mp ed).1;have k4:=qad ht (.tup [.int (i:Nat),.ref a]);have s4:=s3.trans k4;obtain⟨m',s',ha,nm',hm',st'⟩:=nad.ex;have lb:bs.length=i:=by rw[nds.length,qbX (by omega)]
   refine⟨t,_,rfl,SqT.of qab,rfl,_,_,rfl,_,_,rfl,rfl,?_⟩;refine qaN (fun σ' H5=>σ'=[some (.ref p),some (.ref L),some (.int (i:Nat)),some (.ref a),some (.str (if qaQ ds i d then Kd.case else d.k).s)]∧Same (upd H' t (.tup [.int (i:Nat),.ref a])) H5) (fun D' kk=>?_) ?_
   ·refine⟨_,rfl,_,rfl,p,i,d,ds,N,rfl,⟨as,s4 _ _ hp,nd.keep s4.keep fun _ n _=>n⟩,le,ed,ao,fun H5 s5=>⟨_,rfl,?_⟩⟩;cases eb:qaQ ds i d with
    | true=>exact iteT (kk _ _ ⟨by rw[eb];rfl,s5⟩)
    | false=>exact iteF ⟨_,rfl,a,_,_,_,rfl,rfl,SqT.of (s5 _ _ (s4 _ _ ha)),rfl,kk _ _ ⟨by rw[eb];rfl,s5⟩⟩
   rintro _ H5 ⟨rfl,s5⟩;have s05:=s4.trans s5;have ha5:=s05 _ _ ha;have hL5:=s5 _ _ (k4 _ _ hL3);refine⟨_,rfl,.inl ⟨rfl,_,SqL.of hL5⟩,_,rfl,a,_,_,_,rfl,rfl,SqT.of ha5,rfl,_,rfl,_,rfl,a,_,_,_,rfl,rfl,SqT.of ha5,rfl,_,rfl,a,_,_,_,rfl,rfl,SqT.of ha5,rfl,_,rfl,a,_,_,_,rfl,rfl,SqT.of ha5,rfl,(by show 5≤sizeLine;decide),fun u hu=>?_⟩;have k6:=qad hu (.tup [.int d.e,.str (if qaQ ds i d then Kd.case else d.k).s,.str d.nm,.ref m',.ref s']);have s6:=s05.trans k6;have hL6:=k6 _ _ hL5;refine⟨L,_,_,rfl,rfl,hL6,qbv (by rw[List.length_map];omega),?_⟩;refine⟨_,_,_,bs++[u],rfl,qay s6 hL,by rw[qab];simp,?_⟩;rw[qaR ed];refine NdsAt.append (nds.keep (k4.keep.trans (s5.keep.trans (k6.keep.trans keep_nw))) fun _ n _=>n) (.cons ?_ .nil);refine⟨qcj (up u (s05.none hu)) hL5 hu,m',s',?_,old m' nm' (by rw[hm'];rfl),qay s6 hL _ _ hm',st'.keep (qay s6 hL).keep old⟩;rw[qau (qao hL5 hu).symm,qab]
  ·rintro σ' H' ⟨z1,z2,z3,bs,rfl,s3,hL3,nds⟩;rw[List.length_map,la]at nds;exact⟨_,rfl,q L H' hL s3 ⟨bs,hL3,nds⟩⟩
end
end K08
namespace Gen
open PySem L2 Bk
open Classical in
noncomputable def insS(x:Str):List Str→List Str
 | []=>[x]
 | y::r=>if x.cps.toList<y.cps.toList then x::y::r else y::insS x r
theorem qdF(x:Str):∀l,(insS x l).Perm (x::l)
 | []=>.refl _
 | y :: r => by
   rw[insS]
   split
   · exact .refl _
   · exact((qdF x r).cons y).trans (.swap x y r)
theorem qe1{x:Str}:∀{l:List Str},Rise l→x∉l→Rise (insS x l)
 | [],_,_=>List.pairwise_singleton _ _
 | y :: r, h, n => by
   have h':=List.pairwise_cons.mp h
   rw[insS]
   split
   · rename_i lt
     exact List.pairwise_cons.mpr ⟨fun z hz=>by
       rcases List.mem_cons.mp hz with rfl | hz
       · exact lt
       · exact List.lt_trans lt (h'.1 z hz),h⟩
   · rename_i nl
     refine List.pairwise_cons.mpr ⟨fun z hz=>?_,qe1 h'.2 fun m=>n (List.mem_cons_of_mem _ m)⟩
     rcases List.mem_cons.mp ((qdF x r).subset hz)with rfl | hz
     · by_cases q:y.cps.toList<z.cps.toList
       · exact q
       · exact absurd (qdN (List.le_antisymm (List.not_lt.mp nl) (List.not_lt.mp q))) (fun e=>n (by rw[e];exact List.mem_cons_self))
     · exact h'.1 z hz
theorem sort_ex:∀{l:List Str},l.Nodup→∃ss:List Str,ss.Perm l∧Rise ss
 | [],_=>⟨[],.refl _,List.Pairwise.nil⟩
 | x :: r, h => by
   have h':=List.nodup_cons.mp h
   obtain⟨ss,p,q⟩:=sort_ex h'.2
   exact⟨insS x ss,(qdF x ss).trans (p.cons x),qe1 q fun m=>h'.1 (p.subset m)⟩
theorem marks_ex(mks:List Str):MarksOf mks (qaJ mks):=by
 obtain⟨ss,p,r⟩:=sort_ex (qfa mks);have:MarksOf mks (ss.take 4):=⟨ss,p,r,rfl⟩;rw[qc9 this];exact this
theorem qdU{mks:List Str}(h:∀m∈mks,Name m):qg5 (qaJ mks):=by
 obtain⟨ss,p,r,e⟩:=marks_ex mks;rw[e];refine⟨by rw[List.length_take];omega,fun m hm=>h m ((once_mem mks m).mp (p.subset (List.mem_of_mem_take hm))),r.sublist (List.take_sublist ..)⟩
theorem mendName_form{ds:List Nd}{nm:Str}(h:nm=noName∨Name nm):qaS ds nm=noName∨Name (qaS ds nm):=by
 unfold qaS
 split
 ·exact .inl rfl
 ·exact h
theorem bare_ok:qdm bareSt:=by
 refine⟨fun x hx=>?_,⟨_,_,rfl,rfl⟩,by decide⟩;have:x=.tri .word (.inl (T "?")) 0:=by simpa[bareSt]using hx
 subst this;exact⟨⟨by decide +kernel,by decide +kernel,by decide +kernel⟩,by decide,by decide⟩
theorem qfR{k:Kd}{st:List Th}(h:∀x∈st,PcOk x):∀x∈qaq k st,PcOk x:=fun x hx=>by
 unfold qaq at hx;have hx:=List.mem_of_mem_take hx
 split at hx
 ·exact h x (List.mem_filter.mp hx).1
 ·exact h x ((List.dropWhile_suffix _).subset hx)
theorem mendP_ok{k:Kd}{st:List Th}(h:∀x∈st,PcOk x)(ne:qaq k st≠[]):qdm (qaq k st):=by
 refine⟨qfR h,?_,by unfold qaq;rw[List.length_take];omega⟩;cases e:qaq k st with
 | nil=>exact absurd e ne
 | cons x r =>
   refine⟨x,r,rfl,?_⟩
   unfold qaq at e
   cases e2:(if k=.note then st.filter (fun x=>!isNote x)else st.dropWhile isNote)with
   | nil=>rw[e2]at e;cases e
   | cons y r2 =>
     rw[e2]at e
     have:y=x:=by
       rw[List.take_succ_cons]at e
       exact(List.cons.inj e).1
     subst this
     split at e2
     · have hy:y∈st.filter (fun x=>!isNote x):=by rw[e2];exact List.mem_cons_self
       simpa using(List.mem_filter.mp hy).2
     · have:=List.head?_dropWhile_not isNote st
       rw[e2]at this
       simpa using this
theorem newSt_form{k:Kd}{st:List Th}(pc:ofPieces k=true→∀x∈st,PcOk x)(o:ofPieces k=false→Stuff k st):Stuff k (qff k st):=by
 unfold qff;cases e:ofPieces k with
 | false=>exact o e
 | true =>
   rw[if_pos rfl]
   have hk:k∈[Kd.text,.head,.note]:=by cases k<;>first | (cases e;done) | decide
   refine(qc5 hk).mp ?_
   split
   · exact bare_ok
   · rename_i ne
     exact mendP_ok (pc e) ne
theorem qeE{ds:List Nd}{e:Int}{d:Nd}(h:PartsOk d):Form (qcC ds e d)∧(qcC ds e d).k∈kindsAll :=
 ⟨⟨mendName_form h.nm,qdU h.mks.1,newSt_form (fun z=>(h.pc z).1) h.st⟩,h.k⟩
theorem qfl{c:Nat}{x:Str}(h:labB c x=true):Name (tl1 x):=by
 unfold labB at h;rw[Bool.and_eq_true]at h;exact nameB_iff.mp h.2
theorem nameLab_form(ls:List Str):qcd ls=noName∨Name (qcd ls):=by
 unfold qcd;cases ls with
 | nil=>exact .inl rfl
 | cons x r =>
   cases e:qbp (x::r)with
   | false=>exact .inl rfl
   | true=>exact .inr (qfl e)
theorem markLabs_form(ls:List Str):(∀m∈qbn ls,Name m)∧(qbn ls).length≤ls.length:=by
 unfold qbn;refine⟨fun m hm=>?_,by rw[List.length_map];exact List.length_filter_le ..⟩;obtain⟨x,hx,rfl⟩:=List.mem_map.mp hm;exact qfl (List.mem_filter.mp hx).2
theorem readPiece_pc{x:Str}{t:Th}(h:qat x=some t):PcOk t:=by
 unfold qat at h
 by_cases e:x=T "{}"
 ·rw[if_pos e]at h;cases h;exact⟨by decide,by decide,rfl⟩
 ·rw[if_neg e]at h
  by_cases e2:pieceB (qbE x)=true
  ·rw[if_pos e2]at h;cases h;exact pieceB_iff.mp e2
  ·rw[if_neg e2]at h;cases h
theorem qdP{x:Str}{d:Nd}(ok:RowOk x)(h:qaG x=some d):PartsOk d:=by
 unfold qaG at h;cases ek:kindOf ((qaL x).headD noName)with
 | none=>rw[ek]at h;cases h
 | some k =>
   rw[ek]at h
   dsimp only at h
   have hk:=(qbU ek).2
   split at h
   · cases h
   cases es:qaK k (qa3 (qaL x))with
   | none=>rw[es]at h;cases h
   | some st =>
     rw[es]at h
     cases h
     have ml:=markLabs_form (qaY (qaL x))
     have lab:=ok.labs
     have rl:(qa3 (qaL x)).length≤500:=by
       have:=ok.ws.2
       unfold qa3
       rw[List.length_drop]
       omega
     have ll:qci x≤100000:=by
       have h1:=ok.len
       have h2:qci x≤x.cps.toList.length:=(List.takeWhile_prefix _).length_le
       rw[qaP]at h2
       omega
     refine⟨hk,⟨by show(0:Int)≤(qci x:Nat);omega,by show((qci x:Nat):Int)≤100000;omega⟩,nameLab_form _,⟨ml.1,by show(qbn _).length≤60;omega⟩,fun hp=>?_,fun hp=>?_⟩
     · unfold qaK at es
       by_cases kp:k=.picture
       · rw[kp]at hp;cases hp
       rw[if_neg kp]at es
       split at es
       · cases es
       · cases es
         refine⟨fun t ht=>?_,Nat.le_trans (List.length_filterMap_le ..) rl⟩
         obtain⟨y,_,ey⟩:=List.mem_filterMap.mp ht
         exact readPiece_pc ey
     · show Stuff k st
       unfold qaK at es
       by_cases kp:k=.picture
       · rw[if_pos kp]at es
         subst kp
         split at es
         · cases es;assumption
         · cases es
       rw[if_neg kp]at es
       split at es
       · cases es
       · rename_i z
         cases es
         have hs:qaF k=false:=by
           unfold qaF
           have hp:ofPieces k=false:=hp
           cases k<;>first | exact absurd rfl kp | rfl | cases hp
         rw[hs,Bool.or_eq_true,not_or]at z
         have z2:¬0<(qa3 (qaL x)).length:=by
           intro q
           exact z.2 (by rw[decide_eq_true q];rfl)
         have e0:qa3 (qaL x)=[]:=List.eq_nil_of_length_eq_zero (by omega)
         rw[e0]
         have hp:ofPieces k=false:=hp
         cases k<;>first | exact absurd rfl kp | rfl | cases hp
theorem qfr{ok:Nat→Bool}:∀{n:Nat},qda ok n≠0→ok (qda ok n)=true∧qda ok n≤n
 | 0,h=>absurd rfl h
 | n + 1, h => by
   cases e:ok (n+1)with
   | true=>rw[qd3 e];exact⟨e,Nat.le_refl _⟩
   | false =>
     rw[qea e]at h⊢
     obtain⟨a,b⟩:=qfr h
     exact⟨a,by omega⟩
theorem qe3{ds:List Nd}{k:Kd}{lv:Nat}(h:qba ds k lv≠0):1≤qba ds k lv∧qba ds k lv≤6∧qba ds k lv≤(upL ds).length∧(upL ds)[(upL ds).length-qba ds k lv]?=some (qcI ds (qba ds k lv))∧mayHold (qeF ds (qcI ds (qba ds k lv))) k=true:=by
 have hh:qba ds k lv=qda (okLv ds k) (min (max lv 1) 6):=rfl;obtain⟨a,b⟩:=qfr (ok:=okLv ds k) (n:=min (max lv 1) 6) h;rw[←hh]at a b;generalize qba ds k lv=t at *;unfold okLv at a;rw[Bool.and_eq_true,decide_eq_true_iff]at a;obtain⟨a1,a2⟩:=a;have lp:(qbA ds).length=(upL ds).length:=by unfold qbA;rw[List.length_reverse]
 refine⟨by omega,by omega,by omega,?_,a2⟩;unfold qcI qbA;rw[List.getD_eq_getElem?_getD,List.getElem?_reverse (by omega),show(upL ds).length-1-(t-1)=(upL ds).length-t by omega,List.getElem?_eq_getElem (by omega)];rfl
theorem qdQ{α:Type}{l:List α}{n:Nat}{a:α}(h:l[n]?=some a):l.drop n=a::l.drop (n+1):=by
 obtain⟨hn,e⟩:=List.getElem?_eq_some_iff.mp h;rw[List.drop_eq_getElem_cons hn,e]
theorem nodes_push{ds:List Nd}(ok:NodesOk ds)(ne:ds≠[])(l59:ds.length≤59){c:Nd}{t:Nat}(h1:1≤t)(ht:t≤(upL ds).length){j:Nat}(hj:(upL ds)[(upL ds).length-t]?=some j)(may:mayHold (qeF ds j) c.k=true)(ce:c.e=(j:Int))(cf:Form c∧c.k∈kindsAll) :
  NodesOk (ds++[c])∧upL (ds++[c])=ds.length::(upL ds).drop ((upL ds).length-t):=by
 obtain⟨dn,hd⟩:=ok.down ne;have lt:(upL ds).length-t<(upL ds).length:=by omega
 have dj:=dn.drop lt;rw[qdQ hj]at dj;obtain⟨dd,ed⟩:=dn.mem j (List.mem_of_getElem? hj);have jl:j<ds.length:=(List.getElem?_eq_some_iff.mp ed).1;have D:Down (ds++[c]) (ds.length::j::(upL ds).drop ((upL ds).length-t+1)):=⟨⟨c,by rw[List.getElem?_append_right (Nat.le_refl _)];simp,ce,jl⟩,dj.app [c]⟩;have ul:upL (ds++[c])=ds.length::(upL ds).drop ((upL ds).length-t):=by
  unfold upL;rw[List.length_append,List.length_singleton,Nat.add_sub_cancel];have:=D.len;rw[Down.is D (by omega)];rw[show qc6 ds ds.length (ds.length-1)=upL ds from rfl,qdQ hj]
 have km:mayHold dd.k c.k=true:=by
  unfold qeF at may;rw[ed]at may;exact may
 refine⟨⟨fun d hd=>?_,fun _=>?_,by rw[List.length_append];exact Nat.succ_le_succ l59,fun n d h=>?_⟩,ul⟩
 ·rcases List.mem_append.mp hd with h | h
  ·exact ok.form d h
  ·have:d=c:=by simpa using h
   rw[this];exact cf
 ·rw[ul,qdQ hj];exact⟨D,by simp⟩
 ·by_cases hn:n<ds.length
  ·rw[List.getElem?_append_left hn]at h;rcases ok.hung n d h with z | ⟨a,i,c',e1,e2,e3,e4⟩
   ·exact .inl z
   ·exact .inr ⟨a,i,c',e1,e2,by rw[List.getElem?_append_left (by omega)];exact e3,e4⟩
  ·rw[List.getElem?_append_right (by omega)]at h;have hz:n-ds.length=0:=by
    have:=(List.getElem?_eq_some_iff.mp h).1;simp at this;omega
   rw[hz]at h;cases h;have g1:1≤ds.length:=by omega
   exact .inr ⟨by omega,j,dd,ce,by omega,by rw[List.getElem?_append_left jl];exact ed,km⟩
theorem up1(c:Nd)(h:c.e=-1):upL [c]=[0]:=by
 unfold upL;show qc6 [c] 1 0=[0];rw[qc6];simp[h]
theorem qeQ{c:Nd}(e:c.e=-1)(k:c.k=.body)(f:Form c):NodesOk [c]:=by
 refine⟨fun d hd=>?_,fun _=>?_,by simp,fun n d h=>?_⟩
 ·have:d=c:=by simpa using hd
  subst this;exact⟨f,by rw[k];decide⟩
 ·rw[up1 c e];exact⟨⟨c,rfl,e⟩,rfl⟩
 ·cases n with
  | zero=>cases h;exact .inl ⟨rfl,e,k⟩
  | succ n=>cases h
theorem nodes_nil:NodesOk []:=⟨(fun d hd=>nomatch hd),(fun h=>absurd rfl h),by decide,(fun n d h=>by cases h)⟩
theorem nodes_body:NodesOk [bodyNd]:=qeQ rfl rfl body_form
theorem qdh{ds:List Nd}(ok:NodesOk ds)(ne:ds≠[])(l59:ds.length≤59){d:Nd}(pd:PartsOk d):NodesOk (ds++(qaA ds d).1)∧(qaA ds d).1.length≤1:=by
 unfold qaA
 split
 ·rw[List.append_nil];exact⟨ok,by decide⟩
 ·rename_i h;obtain⟨a1,_,a3,a4,a5⟩:=qe3 h;exact⟨(nodes_push ok ne l59 a1 a3 a4 (c:=qcC ds (qcI ds (qba ds d.k d.e.toNat)) d) a5 rfl (qeE pd)).1,by show 1≤1;decide⟩
theorem qdX{d:Nd}(h:PartsOk d)(k:d.k=.body):PartsOk {d with k:=.case}:=by
 have st:=h.st (by rw[k];rfl);rw[k]at st;exact⟨by show Kd.case∈kindsAll;decide,h.e,h.nm,h.mks,(fun z=>by cases z),fun _=>st⟩
theorem first_ok{d:Nd}(pd:PartsOk d):NodesOk (qbi d).1∧(qbi d).1.length≤2:=by
 unfold qbi
 split
 ·rename_i k;exact⟨qeQ rfl k (qeE pd).1,by show 1≤2;decide⟩
 ·obtain⟨a,b⟩:=qdh nodes_body (by simp) (by decide) pd;exact⟨a,by show(qaA [bodyNd] d).1.length+1≤2;omega⟩
theorem qgh{ds:List Nd}{x:Str}(ok:NodesOk ds)(rx:RowOk x):NodesOk (ds++(qa9 ds x).1):=by
 unfold qa9;cases e:qaG x with
 | none=>rw[List.append_nil];exact ok
 | some d =>
   have pd:=qdP rx e
   dsimp only
   split
   · rw[List.append_nil];exact ok
   · split
     · rename_i h
       subst h
       exact(first_ok pd).1
     · rename_i h1 h2
       split
       · rename_i k
         exact(qdh ok h2 (by omega) (qdX pd k)).1
       · exact(qdh ok h2 (by omega) pd).1
theorem qgD{rows:List Str}(h:∀x∈rows,RowOk x):∀i,NodesOk (rdTo rows i).1
 | 0=>nodes_nil
 | i + 1 => by
   rw[rdTo]
   cases e:rows[i]? with
   | none=>exact qgD h i
   | some x=>exact qgh (qgD h i) (h x (List.mem_of_getElem? e))
theorem qfE{ds:List Nd}(ok:NodesOk ds):NodesOk (begun ds)∧begun ds≠[]:=by
 unfold begun
 split
 ·exact⟨nodes_body,by simp⟩
 ·rename_i h;exact⟨ok,h⟩
theorem qfY(sp:List Int):∀{i j:Nat},i≤j→qbH sp i≤qbH sp j
 | i, 0, h => by have : i = 0 := by omega
                 rw[this];exact Nat.le_refl _
 | i, j + 1, h => by
   by_cases e:i=j+1
   · rw[e];exact Nat.le_refl _
   · have:=qfY sp (i:=i) (j:=j) (by omega)
     rw[qbH]
     split<;>omega
theorem qgK{sp:List Int}{j n:Nat}(h:(j:Int)∉sp)(lt:j<n):qbH sp j<qbH sp n:=by
 have h1:=qfY sp (i:=j+1) (j:=n) lt;rw[qbH,if_neg h]at h1;omega
theorem qek{ds:List Nd}:(qaw ds).length=qbH (qbO ds) ds.length:=by
 unfold qaw;rw[qdx _ _ (Nat.le_refl _),qcv]
theorem qgc(ds:List Nd):(qaw ds).length≤ds.length:=by rw[qek];exact qd7 ..
theorem mend_mem{ds:List Nd}{c:Nd}(h:c∈qaw ds):∃(n:Nat) (d:Nd),ds[n]?=some d∧(n:Int)∉qbO ds∧c={noted ds n d with e:=qcH (qbO ds) d.e}:=by
 unfold qaw qei at h;obtain⟨n,d',hn,ed,hc⟩:=qcw h;rw[qcv]at hn;rw[qd1 hn]at ed;cases e:ds[n]? with
 | none=>rw[e]at ed;cases ed
 | some d =>
   rw[e]at ed
   cases ed
   refine⟨n,d,e,?_⟩
   by_cases hs:(n:Int)∈qbO ds
   · rw[if_pos hs]at hc;cases hc
   · rw[if_neg hs]at hc
     refine⟨hs,?_⟩
     have:c={noted ds n d with e:=qcH (qbO ds) (noted ds n d).e}:=by simpa using hc
     rw[this,(qen ds n d).1]
theorem mend_as{ds:List Nd}(ok:NodesOk ds):AsOk (qaw ds):=by
 intro c hc hk;obtain⟨n,d,ed,hs,rfl⟩:=mend_mem hc;have hk:(noted ds n d).k=.aside:=hk;rw[(qen ds n d).2.1]at hk;have ln:n<ds.length:=(List.getElem?_eq_some_iff.mp ed).1;rcases ok.hung n d ed with⟨_,_,z⟩ | ⟨_,j,c',e1,lt,ec',m⟩
 ·rw[z]at hk;cases hk
 ·have nj:(j:Int)∉qbO ds:=fun hj=>by
   obtain⟨j',d',e2,ed',kd⟩:=qc1 ok hj;have:j=j':=by omega
   subst this;rw[ec']at ed';cases ed';rw[kd]at m;cases e:d.k<;>rw[e]at m<;>cases m
  have e3:qcH (qbO ds) d.e=(qbH (qbO ds) j:Nat):=by
   unfold qcH;rw[e1,if_neg (by omega),Int.toNat_natCast]
  show 0≤qcH (qbO ds) d.e∧qcH (qbO ds) d.e<_;rw[e3,qek];have:=qgK nj (show j<ds.length by omega);omega
theorem mend_ne{ds:List Nd}(ok:NodesOk ds)(ne:ds≠[]):1≤(qaw ds).length:=by
 rw[qek];have l:0<ds.length:=by cases ds with | nil=>exact absurd rfl ne | cons=>simp
 have n0:((0:Nat):Int)∉qbO ds:=fun h=>by
  obtain⟨j,d,e,ed,k⟩:=qc1 ok h;have:j=0:=by omega
  subst this;rcases ok.hung 0 d ed with⟨_,_,z⟩ | ⟨z,_⟩
  ·rw[z]at k;cases k
  ·exact absurd z (by decide)
 have:=qgK n0 l;omega
theorem kinds_len(ds:List Nd):(qbb ds).length=ds.length:=qbX (Nat.le_refl _)
theorem thgD_inj:∀{x y:Sum Str Int},thgD x=thgD y→x=y
 | .inl a,.inl b,h=>by injection h with h;rw[h]
 | .inl a,.inr b,h=>nomatch h
 | .inr a,.inl b,h=>nomatch h
 | .inr a,.inr b,h=>by injection h with h;rw[h]
theorem thD_inj:∀x y:Th,thD x=thD y→x=y
 | .int a,.int b,h=>by injection h with h;rw[h]
 | .int a,.tri _ _ _,h=>nomatch h
 | .tri _ _ _,.int b,h=>nomatch h
 | .tri s x t, .tri s' x' t', h => by
   injection h with h
   injection h with h1 h
   injection h with h2 h
   injection h with h3 _
   injection h1 with h1
   injection h3 with h3
   rw[(So.inj s s').mp h1,thgD_inj h2,h3]
theorem qgT{l:List Th}(h:∀x∈l,PcOk x):PySem.W.kqdOk 9 (.list (l.map thD))=true:=by
 simp only[PySem.W.kqdOk,List.all_eq_true,List.mem_map];rintro x ⟨t,ht,rfl⟩;exact pc_ok8 (h t ht)
theorem BookAt.same{N:Addr→Prop}{H H':Hp}{p:Addr}{ds:List Nd}(h:BookAt N H p ds)(s:Same H H'):BookAt N H' p ds:=by
 obtain⟨as,e,q⟩:=h;exact⟨as,s _ _ e,q.keep s.keep fun _ n _=>n⟩
theorem qeU(p:Prop)(x:Str):(wd p x).length≤1:=by unfold wd;split<;>simp
theorem qdp(d:Nd)(lv:Nat):(qaX d lv).length≤1:=qeU _ _
theorem qdS(ds:List Nd)(d:Nd):(qa1 ds d).length≤4:=by
 unfold qa1;rw[List.length_append,List.length_append,List.length_append];have h1:=qeU (qaS ds d.nm≠d.nm) (T "name");have h2:=qeU (qaJ d.mks≠d.mks) (T "marks");have h3:=qeU (ofPieces d.k=true∧qaq d.k d.st≠d.st) (T "pieces");have h4:=qeU (ofPieces d.k=true∧qaq d.k d.st=[]) (T "bare");omega
theorem qbP(ds:List Nd)(d:Nd):(qaA ds d).2.length≤5:=by
 unfold qaA
 split
 ·show 1≤5;decide
 ·show(qaX d _++qa1 ds d).length≤5;rw[List.length_append];have:=qdp d (qba ds d.k d.e.toNat);have:=qdS ds d;omega
theorem BookAt.put{N:Addr→Prop}{H:Hp}{p W:Addr}{ds:List Nd}{o:HO}(h:BookAt (Nw N W) H p ds)(ne:p≠W):BookAt (Nw N W) (upd H W o) p ds:=by
 obtain⟨as,e,q⟩:=h;exact⟨as,by rw[qau ne];exact e,q.keep keep_nw fun _ n _=>n⟩
theorem qcM(ds:List Nd)(x:Str):(qa9 ds x).2.length≤7:=by
 unfold qa9;cases qaG x with
 | none=>show 1≤7;decide
 | some d =>
   dsimp only
   split
   · show 1≤7;decide
   · split
     · unfold qbi
       split
       · show(qaX d 0++qa1 [] d).length≤7
         rw[List.length_append]
         have h1:(qaX d 0).length≤1:=by unfold qaX wd;split<;>simp
         have h2:(qa1 [] d).length≤4:=by
           unfold qa1
           rw[List.length_append,List.length_append,List.length_append]
           have w:∀(p:Prop) (x:Str),(wd p x).length≤1:=fun p x=>by unfold wd;split<;>simp
           have h1:=w (qaS [] d.nm≠d.nm) (T "name")
           have h2:=w (qaJ d.mks≠d.mks) (T "marks")
           have h3:=w (ofPieces d.k=true∧qaq d.k d.st≠d.st) (T "pieces")
           have h4:=w (ofPieces d.k=true∧qaq d.k d.st=[]) (T "bare")
           omega
         omega
       · show(qaA [bodyNd] d).2.length+1≤7
         have:=qbP [bodyNd] d
         omega
     · split
       · show(qaA ds _).2.length+1≤7
         have:=qbP ds {d with k:=.case}
         omega
       · have:=qbP ds d
         omega
theorem qef{rows:List Str}{i:Nat}{x:Str}(h:rows[i]?=some x):rdTo rows (i+1)=((rdTo rows i).1++(qa9 (rdTo rows i).1 x).1,(rdTo rows i).2++(qa9 (rdTo rows i).1 x).2.map fun y=>((i:Int),y)):=by rw[rdTo,h]
theorem qdi(rows:List Str):∀i,(rdTo rows i).2.length≤7*i
 | 0=>Nat.zero_le _
 | i + 1 => by
   have h:=qdi rows i
   cases e:rows[i]? with
   | none =>
     rw[rdTo,e]
     show(rdTo rows i).2.length≤_
     omega
   | some x =>
     rw[qef e]
     show((rdTo rows i).2++(qa9 (rdTo rows i).1 x).2.map fun y=>((i:Int),y)).length≤_
     rw[List.length_append,List.length_map]
     have:=qcM (rdTo rows i).1 x
     omega
theorem qdK{p:Prop}{x:Str}(h:p):wd p x=[x]:=if_pos h
theorem qeo{p:Prop}{x:Str}(h:¬p):wd p x=[]:=if_neg h
theorem qdL{ds:List Nd}(ok:NodesOk ds):(qbK ds).length≤122:=by
 obtain⟨okb,_⟩:=qfE ok;have le:=okb.le;have lm:=qgc (begun ds);unfold qbK;rw[List.length_append,List.length_append,List.length_append];have h1:=qeU (ds=[]) (T "body");have h2:=qeU (kids (qbb (qaw (begun ds))) 0=[]) (T "bare");have h3:=qb2 (ds:=begun ds) (f:=fun i d=>if qcf (begun ds) i d then[T "notes"]else[]) (B:=1) (fun i d=>by split<;>simp) (begun ds).length;have h4:=qb2 (ds:=qaw (begun ds)) (f:=fun i d=>if qaQ (qaw (begun ds)) i d then[T "case"]else[]) (B:=1) (fun i d=>by split<;>simp) (qaw (begun ds)).length;omega
theorem pieces_mem(k:Kd):decide (k∈[Kd.text,.head,.note])=ofPieces k:=by cases k<;>rfl
def spLevelWords:Sp:=fun vs H Q _=>∃(a:Addr) (d:Nd) (lv:Nat) (N:Addr→Prop),vs=[.ref a,.int lv]∧NdAt N H a d∧∀m H',H m=none→Same H H'→H' m=some (.lst ((qaX d lv).map V.str))→Q (.ref m) H'
def spMadeNode:Sp:=fun vs H Q _=>∃(p a:Addr) (e:Int) (d:Nd) (ds:List Nd) (N:Addr→Prop),vs=[.ref p,.int e,.ref a]∧BookAt N H p ds∧ds.length≤60∧NdAt N H a d∧PartsOk d∧Up0 N H∧∀t H',Same H H'→qeM N H' t ([qcC ds e d],qa1 ds d)→Q (.ref t) H'
def spLater:Sp:=fun vs H Q _=>∃(p a:Addr) (d:Nd) (ds:List Nd) (N:Addr→Prop),vs=[.ref p,.ref a]∧BookAt N H p ds∧NodesOk ds∧ds≠[]∧NdAt N H a d∧PartsOk d∧Up0 N H∧∀t H',Same H H'→qeM N H' t (qaA ds d)→Q (.ref t) H'
def spFirst:Sp:=fun vs H Q _=>∃(a:Addr) (d:Nd) (N:Addr→Prop),vs=[.ref a]∧NdAt N H a d∧PartsOk d∧Up0 N H∧∀t H',Same H H'→qeM N H' t (qbi d)→Q (.ref t) H'
def spReadRow:Sp:=fun vs H Q _=>∃(p:Addr) (x:Str) (ds:List Nd) (N:Addr→Prop),vs=[.ref p,.str x]∧BookAt N H p ds∧NodesOk ds∧RowOk x∧Up0 N H∧∀t H',Same H H'→qeM N H' t (qa9 ds x)→Q (.ref t) H'
def spFinished:Sp:=fun vs H Q _=>∃(p:Addr) (ds:List Nd) (N:Addr→Prop),vs=[.ref p]∧BookAt N H p ds∧NodesOk ds∧Up0 N H∧∀t H',Same H H'→qeM N H' t (qfB ds,qbK ds)→Q (.ref t) H'
def MdAt(N:Addr→Prop)(H:Hp)(v:V)(p:Int×Str):Prop:=∃a,v=.ref a∧N a∧H a=some (.tup [.int p.1,.str p.2])
def qeh(N:Addr→Prop)(H:Hp)(m:Addr)(ms:List (Int×Str)):Prop:=∃vs,H m=some (.lst vs)∧Paired (MdAt N H) vs ms
theorem MdAt.keep{N N':Addr→Prop}{H H':Hp}{v:V}{p:Int×Str}(h:MdAt N H v p)(k:KeepN N H H')(sub:∀b,N b→(H b).isSome=true→N' b):MdAt N' H' v p:=by
 obtain⟨a,e,n,g⟩:=h;exact⟨a,e,sub a n (by rw[g];rfl),k _ _ n g⟩
def spReadBook:Sp:=fun vs H Q _=>∃(p:Addr) (rows:List Str),vs=[.ref p]∧H p=some (.lst (rows.map V.str))∧rows.length≤200∧(∀x∈rows,RowOk x) ∧
 ∀t b m H',Same H H'→H t=none→H' t=some (.tup [.ref b,.ref m])→H b=none→BookAt (qbL H) H' b (qes rows).1→H m=none→qeh (qbL H) H' m (qes rows).2→b≠m→Q (.ref t) H'
end Gen
namespace K08
open PySem L2 Bk Gen
abbrev sLevelWords:Stmt:=top 73
abbrev sMadeNode:Stmt:=top 74
abbrev sLater:Stmt:=top 72
abbrev sFirst:Stmt:=top 71
abbrev sReadRow:Stmt:=top 70
section
variable{P:Program}{w:World}{K:PySem.W.Frag}{mg:Str→Option Value}{base:Heap}
theorem scLevelWords:FnScope ["parts", "level"] ["parts", "level"] (qag sLevelWords):=⟨rfl,rfl,rfl,by decide +kernel,rfl,by decide +kernel,by decide +kernel⟩
theorem ok_level_words{f:Addr}{fd:FuncData}(F:Fun K "level_words" "level_words" sLevelWords f fd)(gl:∃t,mg "LEVEL" = some (.int 0 t)):FnOk P w K mg base CX0 1 f fd ["parts", "level"] spLevelWords:=by
 refine F.ok scLevelWords (fun vs H Q E h=>?_) (fun cdv A outer s H vs Q E hr h=>?_)
 ·obtain⟨a,d,lv,N,rfl,_⟩:=h;rfl
 ·obtain⟨a,d,lv,N,rfl,na,q⟩:=h;obtain⟨_,g_LEVEL⟩:=gl;obtain⟨m',s',ha,_⟩:=na.ex;refine⟨_,(qae (qak (qb0 (qaj op_ne (pv 1) (qap ix_tup (pv 0) (qai (v:=.int 0) (by rfl) g_LEVEL ⟨_,rfl⟩) (fun _ _=>rfl)) (qam _)) (qaD (qaa qah pa_nil)) (qaD pa_nil)))),?_⟩;refine⟨_,rfl,_,rfl,a,_,_,_,rfl,rfl,SqT.of ha,rfl,rfl,_,rfl,?_⟩;unfold qaX at q
  by_cases h:(lv:Int)=d.e
  ·rw[decide_eq_true (by rw[h]:V.int (lv:Nat)=V.int d.e)];rw[qeo (fun z=>z h)]at q;exact iteF ⟨by show 0≤sizeLine;decide,fun m hm=>q m _ hm (qad hm _) qab⟩
  ·rw[decide_eq_false (fun z=>h (V.int.inj z):¬V.int (lv:Nat)=V.int d.e)];rw[qdK h]at q;exact iteT ⟨by show 1≤sizeLine;decide,fun m hm=>q m _ hm (qad hm _) qab⟩
theorem scMadeNode:FnScope ["nodes", "elder", "parts", "words", "name", "marks", "stuff"] ["nodes", "elder", "parts"] (qag sMadeNode):=⟨rfl,rfl,rfl,by decide +kernel,rfl,by decide +kernel,by decide +kernel⟩
theorem ok_made_node{f a_KINDS_OF_PIECES:Addr}{fd:FuncData}(F:Fun K "made_node" "made_node" sMadeNode f fd)(T:Bn mg)(NU:Nums mg)(g_KINDS_OF_PIECES:mg "KINDS_OF_PIECES" = some (.ref a_KINDS_OF_PIECES))(KP:KTup K a_KINDS_OF_PIECES [.text,.head,.note])(F_mended_name:Fx P w K mg base CX0 1 "mended_name" ["nodes", "name"] spMendName)(F_mended_marks:Fx P w K mg base CX0 1 "mended_marks" ["marks"] spMendMarks)(F_mended_pieces:Fx P w K mg base CX0 2 "mended_pieces" ["kind", "stuff"] spMendPieces)(F_bare_stuff:Fx P w K mg base CX0 1 "bare_stuff" [] spBareStuff):FnOk P w K mg base CX0 3 f fd ["nodes", "elder", "parts"] spMadeNode:=by
 refine F.ok scMadeNode (fun vs H Q E h=>?_) (fun cdv A outer s H vs Q E hr h=>?_)
 ·obtain⟨p,a,e,d,ds,N,rfl,_⟩:=h;rfl
 ·obtain⟨p,a,e,d,ds,N,rfl,B,le,na,pd,up,q⟩:=h;obtain⟨_,g_KIND⟩:=NU.kind;obtain⟨_,g_NAME⟩:=NU.name;obtain⟨_,g_MARKS⟩:=NU.marks;obtain⟨_,g_STUFF⟩:=NU.stuff;have hr_mended_name:Room 1 _:=hr.mono (by decide);have hr_mended_marks:Room 1 _:=hr.mono (by decide);have hr_bare_stuff:Room 1 _:=hr.mono (by decide);have hr_mended_pieces:=hr;have hu:=hr.units;obtain⟨m',s',ha,nm',hm',st'⟩:=na.ex;refine⟨_,(qac (qan (i:=3) scMadeNode.nd (by rfl) (by trivial) (qaD pa_nil))
   (qac (qan (i:=4) scMadeNode.nd (by rfl) (by trivial) (qar F_mended_name hr_mended_name (by rfl) qas (qaa (pv 0) (qaa (qap ix_tup (pv 2) (qai (v:=.int 2) (by rfl) g_NAME ⟨_,rfl⟩) (fun _ _=>rfl)) pa_nil))))
   (qac (qaH (qaj op_ne (pv 4) (qap ix_tup (pv 2) (qai (v:=.int 2) (by rfl) g_NAME ⟨_,rfl⟩) (fun _ _=>rfl)) (qam _)) (qae (qa5 (qbk PySem.F.plainAttrs_list PySem.F.slot_list_append PySem.F.type_list_append mt_append (pv 3) (qaa qah pa_nil)))) pss_nil)
   (qac (qan (i:=5) scMadeNode.nd (by rfl) (by trivial) (qar F_mended_marks hr_mended_marks (by rfl) qas (qaa (qap ix_tup (pv 2) (qai (v:=.int 3) (by rfl) g_MARKS ⟨_,rfl⟩) (fun _ _=>rfl)) pa_nil)))
   (qac (qaH (qaj (qfq hu) (pv 5) (qap ix_tup (pv 2) (qai (v:=.int 3) (by rfl) g_MARKS ⟨_,rfl⟩) (fun _ _=>rfl)) (qam _)) (qae (qa5 (qbk PySem.F.plainAttrs_list PySem.F.slot_list_append PySem.F.type_list_append mt_append (pv 3) (qaa qah pa_nil)))) pss_nil)
   (qac (qan (i:=6) scMadeNode.nd (by rfl) (by trivial) (qap ix_tup (pv 2) (qai (v:=.int 4) (by rfl) g_STUFF ⟨_,rfl⟩) (fun _ _=>rfl)))
   (qac (qaH (qaj op_in_seq (qap ix_tup (pv 2) (qai (v:=.int 1) (by rfl) g_KIND ⟨_,rfl⟩) (fun _ _=>rfl)) (qai (v:=.ref a_KINDS_OF_PIECES) (by rfl) g_KINDS_OF_PIECES rfl) (by with_unfolding_all rfl)) (qac (qan (i:=6) scMadeNode.nd (by rfl) (by trivial) (qar F_mended_pieces hr_mended_pieces (by rfl) qas (qaa (qap ix_tup (pv 2) (qai (v:=.int 1) (by rfl) g_KIND ⟨_,rfl⟩) (fun _ _=>rfl)) (qaa (qap ix_tup (pv 2) (qai (v:=.int 4) (by rfl) g_STUFF ⟨_,rfl⟩) (fun _ _=>rfl)) pa_nil))))
   (qac (qaH (qaj (qfq hu) (pv 6) (qap ix_tup (pv 2) (qai (v:=.int 4) (by rfl) g_STUFF ⟨_,rfl⟩) (fun _ _=>rfl)) (qam _)) (qae (qa5 (qbk PySem.F.plainAttrs_list PySem.F.slot_list_append PySem.F.type_list_append mt_append (pv 3) (qaa qah pa_nil)))) pss_nil)
   (qae (qaH (qaj op_eq (qal call_len_seq (by rfl) T.len b_len (qaa (pv 6) pa_nil)) qaf (qam _)) (qac (qan (i:=6) scMadeNode.nd (by rfl) (by trivial) (qey F_bare_stuff hr_bare_stuff (by rfl) qas))
   (qae (qa5 (qbk PySem.F.plainAttrs_list PySem.F.slot_list_append PySem.F.type_list_append mt_append (pv 3) (qaa qah pa_nil))))) pss_nil)))) pss_nil)
   (qae (qak (qa8 (qaa (qaD (qaa (qa8 (qaa (pv 1) (qaa (qap ix_tup (pv 2) (qai (v:=.int 1) (by rfl) g_KIND ⟨_,rfl⟩) (fun _ _=>rfl)) (qaa (pv 4) (qaa (pv 5) (qaa (pv 6) pa_nil)))))) pa_nil)) (qaa (pv 3) pa_nil)))))))))))),?_⟩
  refine⟨by show 0≤sizeLine;decide,fun W hW=>?_⟩;have s1:=qad hW (.lst []);refine⟨_,rfl,_,rfl,a,_,_,_,rfl,rfl,SqT.of (s1 _ _ ha),rfl,p,ds,d.nm,N,rfl,BookAt.same B s1,by omega,fun H2 k2=>?_⟩;have s2:=s1.trans k2;have hW2:H2 W=some (.lst ([]:List V)):=k2 _ _ qab;dsimp only[qbR];refine qaN (fun σ' H'=>σ'=[some (.ref p),some (.int e),some (.ref a),some (.ref W),some (.str (qaS ds d.nm)),none,none]∧Same H H'∧H' W=some (.lst ((wd (qaS ds d.nm≠d.nm) (Str.ofString "name")).map V.str))) (fun D' kk=>?_) ?_
  ·refine⟨_,rfl,_,rfl,a,_,_,_,rfl,rfl,SqT.of (s2 _ _ ha),rfl,rfl,_,rfl,?_⟩
   by_cases h:qaS ds d.nm=d.nm
   ·rw[decide_eq_true (by rw[h]:V.str (qaS ds d.nm)=V.str d.nm)];exact iteF (kk _ _ ⟨rfl,s2,by rw[qeo (fun z=>z h)];exact hW2⟩)
   ·rw[decide_eq_false (fun z=>h (V.str.inj z):¬V.str (qaS ds d.nm)=V.str d.nm)];exact iteT ⟨_,rfl,.inl ⟨rfl,_,SqL.of hW2⟩,W,_,_,rfl,rfl,hW2,by decide,kk _ _ ⟨rfl,qay s2 hW,by rw[qdK h,qab];rfl⟩⟩
  rintro _ H3 ⟨rfl,s3,hW3⟩;have l3:(wd (qaS ds d.nm≠d.nm) (Str.ofString "name")).length≤1:=by unfold wd;split<;>simp
  generalize e3:wd (qaS ds d.nm≠d.nm) (Str.ofString "name")=w1 at hW3 l3;refine⟨_,rfl,a,_,_,_,rfl,rfl,SqT.of (s3 _ _ ha),rfl,m',d.mks,rfl,s3 _ _ hm',pd.mks.2,fun l H4 hl k4 el mo=>?_⟩;have s4:=s3.trans k4;have hW4:=k4 _ _ hW3;have hl0:H l=none:=s3.none hl;have neW:l≠W:=(qao hW3 hl).symm;have mf:=qdU pd.mks.1;dsimp only[qbR];refine qaN (fun σ' H'=>σ'=[some (.ref p),some (.int e),some (.ref a),some (.ref W),some (.str (qaS ds d.nm)),some (.ref l),none]∧Same H H'∧H' W=some (.lst ((w1++wd (qaJ d.mks≠d.mks) (Str.ofString "marks")).map V.str))∧H' l=some (.lst ((qaJ d.mks).map V.str))) (fun D' kk=>?_) ?_
  ·refine⟨_,rfl,_,rfl,a,_,_,_,rfl,rfl,SqT.of (s4 _ _ ha),rfl,_,_,.lst el (qfZ _),.lst (s4 _ _ hm') (qfZ _),qgd mf.2.1,qgd pd.mks.1,fun ee=>⟨_,rfl,?_⟩,fun ee=>⟨_,rfl,?_⟩⟩
   ·injection ee with ee
    have ee:qaJ d.mks=d.mks:=qe8 (fun a b h=>by injection h) ee;exact iteF (kk _ _ ⟨rfl,s4,by rw[qeo (fun z=>z ee),List.append_nil];exact hW4,el⟩)
   ·have ne:qaJ d.mks≠d.mks:=fun z=>ee (by rw[z])
    exact iteT ⟨_,rfl,.inl ⟨rfl,_,SqL.of hW4⟩,W,_,_,rfl,rfl,hW4,qbv (by rw[List.length_map];omega),kk _ _ ⟨rfl,qay s4 hW,by rw[qdK ne,qab,List.map_append];rfl,by rw[qau neW];exact el⟩⟩
  rintro _ H5 ⟨rfl,s5,hW5,el5⟩;have l5:(w1++wd (qaJ d.mks≠d.mks) (Str.ofString "marks")).length≤2:=by
   rw[List.length_append];have:(wd (qaJ d.mks≠d.mks) (Str.ofString "marks")).length≤1:=by unfold wd;split<;>simp
   omega
  generalize e5:w1++wd (qaJ d.mks≠d.mks) (Str.ofString "marks")=w2 at hW5 l5;refine⟨_,rfl,a,_,_,_,rfl,rfl,SqT.of (s5 _ _ ha),rfl,?_⟩;dsimp only[qbR];have oldW:∀b,N b→(H b).isSome=true→Nw N W b:=qc7 hW;refine qaN (fun σ' H'=>∃sx,σ'=[some (.ref p),some (.int e),some (.ref a),some (.ref W),some (.str (qaS ds d.nm)),some (.ref l),some (.ref sx)]∧Same H H'∧H' W=some (.lst ((w2++wd (ofPieces d.k=true∧qaq d.k d.st≠d.st) (Str.ofString "pieces")++wd (ofPieces d.k=true∧qaq d.k d.st=[]) (Str.ofString "bare")).map V.str))∧H' l=some (.lst ((qaJ d.mks).map V.str))∧StAt N H' sx (qff d.k d.st)) (fun D' kk=>?_) ?_
  ·refine⟨_,rfl,a,_,_,_,rfl,rfl,SqT.of (s5 _ _ ha),rfl,a_KINDS_OF_PIECES,_,rfl,.inr (KP H5),rfl,qb5 _,_,rfl,?_⟩;rw[if_neg Bool.false_ne_true,qcm,pieces_mem];cases eo:ofPieces d.k with
   | false =>
     refine iteF (kk _ _ ⟨s',rfl,s5,?_,el5,?_⟩)
     · rw[qeo (fun z=>by rw[eo]at z;exact absurd z.1 (by decide)),qeo (fun z=>by rw[eo]at z;exact absurd z.1 (by decide)),List.append_nil,List.append_nil]
       exact hW5
     · unfold qff
       rw[eo]
       exact st'.keep s5.keep fun _ n _=>n
   | true =>
     have pc:=pd.pc eo
     refine iteT ⟨_,rfl,a,_,_,_,rfl,rfl,SqT.of (s5 _ _ ha),rfl,_,rfl,a,_,_,_,rfl,rfl,SqT.of (s5 _ _ ha),rfl,d.k,s',d.st,N,rfl,st'.keep s5.keep (fun _ n _=>n),up.same s5,pc.1,pc.2,fun s6 H6 hs6 k6 st6=>?_⟩
     have s06:=s5.trans k6
     have hW6:=k6 _ _ hW5
     have el6:=k6 _ _ el5
     have ne6:s6≠W:=(qao hW5 hs6).symm
     dsimp only[qbR]
     refine qaN (fun σ' H'=>σ'=[some (.ref p),some (.int e),some (.ref a),some (.ref W),some (.str (qaS ds d.nm)),some (.ref l),some (.ref s6)]∧Same H H'∧H' W=some (.lst ((w2++wd (ofPieces d.k=true∧qaq d.k d.st≠d.st) (Str.ofString "pieces")).map V.str))∧H' l=some (.lst ((qaJ d.mks).map V.str))∧StAt N H' s6 (qaq d.k d.st)) (fun D2 k2=>?_) ?_
     · obtain⟨n6,vs6,hs6',pa6⟩:=st6
       obtain⟨ns',vs',hs',pa'⟩:=st'.keep s06.keep (fun _ n _=>n)
       refine⟨_,rfl,_,rfl,a,_,_,_,rfl,rfl,SqT.of (s06 _ _ ha),rfl,_,_,.lst hs6' (qgM pa6),.lst hs' (qgM pa'),qgT (qfR pc.1),qgT pc.1,fun ee=>⟨_,rfl,?_⟩,fun ee=>⟨_,rfl,?_⟩⟩
       · injection ee with ee
         have ee:qaq d.k d.st=d.st:=qe8 thD_inj ee
         exact iteF (k2 _ _ ⟨rfl,s06,by rw[qeo (fun z=>z.2 ee),List.append_nil];exact hW6,el6,n6,vs6,hs6',pa6⟩)
       · have ne:qaq d.k d.st≠d.st:=fun z=>ee (by rw[z])
         refine iteT ⟨_,rfl,.inl ⟨rfl,_,SqL.of hW6⟩,W,_,_,rfl,rfl,hW6,qbv (by rw[List.length_map];omega),k2 _ _ ⟨rfl,qay s06 hW,by rw[qdK ⟨eo,ne⟩,qab,List.map_append];rfl,by rw[qau neW];exact el6,n6,vs6,by rw[qau ne6];exact hs6',?_⟩⟩
         refine pa6.mono fun v x h=>?_
         cases x with
         | int n=>exact h
         | tri so y n =>
           obtain⟨b,eb,nb,hb⟩:=h
           exact⟨b,eb,nb,by rw[qau (qf0 hb hW6 (by intro z;cases z))];exact hb⟩
     rintro _ H7 ⟨rfl,s7,hW7,el7,n7,vs7,hs7,pa7⟩
     have l7:(w2++wd (ofPieces d.k=true∧qaq d.k d.st≠d.st) (Str.ofString "pieces")).length≤3:=by
       rw[List.length_append]
       have:(wd (ofPieces d.k=true∧qaq d.k d.st≠d.st) (Str.ofString "pieces")).length≤1:=by unfold wd;split<;>simp
       omega
     generalize w2++wd (ofPieces d.k=true∧qaq d.k d.st≠d.st) (Str.ofString "pieces")=w3 at hW7 l7 kk
     have lp:vs7.length=(qaq d.k d.st).length:=pa7.length
     refine⟨_,rfl,s6,_,rfl,.inl (SqL.of hs7),rfl,_,rfl,?_⟩
     by_cases he:qaq d.k d.st=[]
     · rw[decide_eq_true (by rw[lp,he];rfl:V.int (vs7.length:Nat)=V.int 0)]
       refine iteT ⟨rfl,fun sb H8 k8 stb=>?_⟩
       have s8:=s7.trans k8
       have hW8:=k8 _ _ hW7
       have el8:=k8 _ _ el7
       refine⟨_,rfl,.inl ⟨rfl,_,SqL.of hW8⟩,W,_,_,rfl,rfl,hW8,qbv (by rw[List.length_map];omega),kk _ _ ⟨sb,rfl,qay s8 hW,by rw[qdK ⟨eo,he⟩,qab,List.map_append];rfl,by rw[qau neW];exact el8,?_⟩⟩
       unfold qff
       rw[if_pos eo,if_pos he]
       refine stb.keep (N':=N) (fun b o n eb=>by rw[qau];exact eb;rintro rfl;have n:H7 b=none:=n;rw[hW7]at n;cases n) fun b n _=>up b (s7.none n)
     · rw[decide_eq_false (fun z=>he (List.eq_nil_of_length_eq_zero (by have:=V.int.inj z;omega)):¬V.int (vs7.length:Nat)=V.int 0)]
       refine iteF (kk _ _ ⟨s6,rfl,s7,by rw[qeo (fun z=>he z.2),List.append_nil];exact hW7,el7,?_⟩)
       unfold qff
       rw[if_pos eo,if_neg he]
       exact⟨n7,vs7,hs7,pa7⟩
  rintro _ H9 ⟨sx,rfl,s9,hW9,el9,st9⟩;refine⟨_,rfl,_,rfl,a,_,_,_,rfl,rfl,SqT.of (s9 _ _ ha),rfl,_,rfl,_,rfl,_,rfl,(by show 5≤sizeLine;decide),fun u hu=>⟨by show 1≤sizeLine;decide,fun L hL=>⟨_,rfl,by show 2≤sizeLine;decide,fun t ht=>?_⟩⟩⟩;have k10:=qad hu (.tup [.int e,.str d.k.s,.str (qaS ds d.nm),.ref l,.ref sx]);have k11:=qad hL (.lst [.ref u]);have k12:=qad ht (.tup [.ref L,.ref W]);have k:=(k10.trans k11).trans k12;refine q t _ (s9.trans k) ⟨L,W,qab,up L (s9.none (k10.none hL)),⟨[u],k12 _ _ qab,.cons ?_ .nil⟩,up W hW,?_⟩
  ·exact⟨up u (s9.none hu),l,sx,(k11.trans k12) _ _ qab,up l hl0,k _ _ el9,st9.keep k.keep fun _ n _=>n⟩
  ·rw[k _ _ hW9];unfold qa1;rw[←e5,←e3]
theorem scLater:FnScope ["nodes", "parts", "level", "told"] ["nodes", "parts"] (qag sLater):=⟨rfl,rfl,rfl,by decide +kernel,rfl,by decide +kernel,by decide +kernel⟩
theorem ok_later_nodes{f:Addr}{fd:FuncData}(F:Fun K "later_nodes" "later_nodes" sLater f fd)(NU:Nums mg)(gl:∃t,mg "LEVEL" = some (.int 0 t))(F_mended_level:Fx P w K mg base CX0 3 "mended_level" ["nodes", "level", "kind"] spMendLv)(F_open_nodes:Fx P w K mg base CX0 2 "open_nodes" ["nodes"] spOpen)(F_made_node:Fx P w K mg base CX0 3 "made_node" ["nodes", "elder", "parts"] spMadeNode)(F_level_words:Fx P w K mg base CX0 1 "level_words" ["parts", "level"] spLevelWords):FnOk P w K mg base CX0 4 f fd ["nodes", "parts"] spLater:=by
 refine F.ok scLater (fun vs H Q E h=>?_) (fun cdv A outer s H vs Q E hr h=>?_)
 ·obtain⟨p,a,d,ds,N,rfl,_⟩:=h;rfl
 ·obtain⟨p,a,d,ds,N,rfl,B,ok,ne,na,pd,up,q⟩:=h;obtain⟨_,g_LEVEL⟩:=gl;obtain⟨_,g_KIND⟩:=NU.kind;have hr_mended_level:=hr;have hr_made_node:=hr;have hr_open_nodes:Room 2 _:=hr.mono (by decide);have hr_level_words:Room 1 _:=hr.mono (by decide);obtain⟨m',s',ha,_⟩:=na.ex;have ee:d.e=((d.e.toNat:Nat):Int):=by have:=pd.e.1;omega
  have el:d.e.toNat≤100000:=by have:=pd.e.2;omega
  have le:=ok.le;refine⟨_,(qac (qan (i:=2) scLater.nd (by rfl) (by trivial) (qar F_mended_level hr_mended_level (by rfl) qas (qaa (pv 0) (qaa (qap ix_tup (pv 1) (qai (v:=.int 0) (by rfl) g_LEVEL ⟨_,rfl⟩) (fun _ _=>rfl)) (qaa (qap ix_tup (pv 1) (qai (v:=.int 1) (by rfl) g_KIND ⟨_,rfl⟩) (fun _ _=>rfl)) pa_nil)))))
   (qac (qaH (qaj op_eq (pv 2) qaf (qam _)) (qae (qak (qa8 (qaa (qaD pa_nil) (qaa (qaD (qaa qah pa_nil)) pa_nil))))) pss_nil)
   (qac (qan (i:=3) scLater.nd (by rfl) (by trivial) (qar F_made_node hr_made_node (by rfl) qas (qaa (pv 0) (qaa (qap ix_list (qar F_open_nodes hr_open_nodes (by rfl) qas (qaa (pv 0) pa_nil)) (qaE op_sub (pv 2) qaf) (fun _ _=>rfl)) (qaa (pv 1) pa_nil)))))
   (qae (qak (qa8 (qaa (qap ix_tup (pv 3) qaf (fun _ _=>rfl)) (qaa (qaE op_cat (qar F_level_words hr_level_words (by rfl) qas (qaa (pv 1) (qaa (pv 2) pa_nil))) (qap ix_tup (pv 3) qaf (fun _ _=>rfl))) pa_nil)))))))),?_⟩
  refine⟨_,rfl,_,rfl,a,_,_,_,rfl,rfl,SqT.of ha,rfl,_,rfl,a,_,_,_,rfl,rfl,SqT.of ha,rfl,p,ds,d.e.toNat,d.k,N,by rw[←ee];rfl,B,ok,ne,el,fun H1 s1=>?_⟩;refine⟨_,rfl,rfl,_,rfl,?_⟩;unfold qaA at q
  by_cases h0:qba ds d.k d.e.toNat=0
  ·rw[if_pos h0]at q;rw[decide_eq_true (by rw[h0];rfl:V.int (qba ds d.k d.e.toNat:Nat)=V.int 0)];refine iteT ⟨by show 0≤sizeLine;decide,fun l hl=>⟨by show 1≤sizeLine;decide,fun m hm=>⟨by show 2≤sizeLine;decide,fun t ht=>?_⟩⟩⟩;have k1:=qad hl (.lst []);have k2:=qad hm (.lst [.str (Str.ofString "place")]);have k3:=qad ht (.tup [.ref l,.ref m]);exact q t _ (s1.trans ((k1.trans k2).trans k3)) ⟨l,m,qab,up l (s1.none hl),⟨[],(k2.trans k3) _ _ qab,.nil⟩,up m (s1.none (k1.none hm)),k3 _ _ qab⟩
  rw[if_neg h0]at q;obtain⟨a1,a2,a3,a4,a5⟩:=qe3 h0;rw[decide_eq_false (fun z=>h0 (by have:=V.int.inj z;omega):¬V.int (qba ds d.k d.e.toNat:Nat)=V.int 0)];refine iteF ⟨_,rfl,_,rfl,p,ds,N,rfl,BookAt.same B s1,ok,ne,fun l H2 hl k2 h2=>?_⟩;have s2:=s1.trans k2;have hp:(qbA ds)[qba ds d.k d.e.toNat-1]?=some (qcI ds (qba ds d.k d.e.toNat)):=by
   unfold qbA;rw[List.getElem?_reverse (by omega),show(upL ds).length-1-(qba ds d.k d.e.toNat-1)=(upL ds).length-qba ds d.k d.e.toNat by omega];exact a4
  generalize qba ds d.k d.e.toNat=lv at *;generalize qcI ds lv=el' at *;refine⟨_,rfl,_,_,rfl,rfl,l,_,_,_,rfl,rfl,SqL.of h2,(by
   rw[show((lv:Nat):Int)-1=((lv-1:Nat):Int) by omega];exact qbf (v:=V.int (el':Nat)) (by rw[List.getElem?_map,List.getElem?_map,hp];rfl)),_,rfl,p,a,(el':Nat),d,ds,N,rfl,BookAt.same B s2,le,na.keep s2.keep (fun _ n _=>n),pd,up.same s2,fun t H3 k3 T3=>?_⟩
  have s3:=s2.trans k3;obtain⟨L,W,et,nL,BL,nW,eW⟩:=T3;refine⟨_,rfl,t,_,_,_,rfl,rfl,SqT.of et,rfl,_,rfl,_,rfl,a,d,lv,N,rfl,na.keep s3.keep (fun _ n _=>n),fun m H4 hm k4 e4=>?_⟩;refine⟨_,rfl,t,_,_,_,rfl,rfl,SqT.of (k4 _ _ et),rfl,m,W,_,_,rfl,rfl,e4,k4 _ _ eW,?_,fun m2 hm2=>⟨by show 2≤sizeLine;decide,fun t2 ht2=>?_⟩⟩
  ·rw[List.length_map,List.length_map];exact Nat.le_trans (Nat.add_le_add (qdp d lv) (qdS ds d)) (by decide)
  have k5:=qad hm2 (.lst ((qaX d lv).map V.str++(qa1 ds d).map V.str));have k6:=qad ht2 (.tup [.ref L,.ref m2]);have k:=k4.trans (k5.trans k6);exact q t2 _ (s3.trans k) ⟨L,m2,qab,nL,BookAt.same BL k,up m2 ((s3.trans k4).none hm2),by rw[k6 _ _ qab,List.map_append]⟩
theorem scFirst:FnScope ["parts", "told"] ["parts"] (qag sFirst):=⟨rfl,rfl,rfl,by decide +kernel,rfl,by decide +kernel,by decide +kernel⟩
theorem ok_first_nodes{f:Addr}{fd:FuncData}(F:Fun K "first_nodes" "first_nodes" sFirst f fd)(NU:Nums mg)(F_later_nodes:Fx P w K mg base CX0 4 "later_nodes" ["nodes", "parts"] spLater)(F_bare_body:Fx P w K mg base CX0 1 "bare_body" [] spBareBody)(F_made_node:Fx P w K mg base CX0 3 "made_node" ["nodes", "elder", "parts"] spMadeNode)(F_level_words:Fx P w K mg base CX0 1 "level_words" ["parts", "level"] spLevelWords):FnOk P w K mg base CX0 5 f fd ["parts"] spFirst:=by
 refine F.ok scFirst (fun vs H Q E h=>?_) (fun cdv A outer s H vs Q E hr h=>?_)
 ·obtain⟨a,d,N,rfl,_⟩:=h;rfl
 ·obtain⟨a,d,N,rfl,na,pd,up,q⟩:=h;obtain⟨_,g_KIND⟩:=NU.kind;have hr_later_nodes:=hr;have hr_made_node:Room 3 _:=hr.mono (by decide);have hr_bare_body:Room 1 _:=hr.mono (by decide);have hr_level_words:Room 1 _:=hr.mono (by decide);obtain⟨m',s',ha,_⟩:=na.ex;refine⟨_,(qac (qaH (qaj op_ne (qap ix_tup (pv 0) (qai (v:=.int 1) (by rfl) g_KIND ⟨_,rfl⟩) (fun _ _=>rfl)) qah (qam _)) (qac (qan (i:=1) scFirst.nd (by rfl) (by trivial) (qar F_later_nodes hr_later_nodes (by rfl) qas (qaa (qaD (qaa (qey F_bare_body hr_bare_body (by rfl) qas) pa_nil)) (qaa (pv 0) pa_nil))))
   (qae (qak (qa8 (qaa (qaE op_cat (qaD (qaa (qey F_bare_body hr_bare_body (by rfl) qas) pa_nil)) (qap ix_tup (pv 1) qaf (fun _ _=>rfl))) (qaa (qaE op_cat (qaD (qaa qah pa_nil)) (qap ix_tup (pv 1) qaf (fun _ _=>rfl))) pa_nil)))))) pss_nil)
   (qac (qan (i:=1) scFirst.nd (by rfl) (by trivial) (qar F_made_node hr_made_node (by rfl) qas (qaa (qaD pa_nil) (qaa (qcY un_neg qaf) (qaa (pv 0) pa_nil)))))
   (qae (qak (qa8 (qaa (qap ix_tup (pv 1) qaf (fun _ _=>rfl)) (qaa (qaE op_cat (qar F_level_words hr_level_words (by rfl) qas (qaa (pv 0) (qaa qaf pa_nil))) (qap ix_tup (pv 1) qaf (fun _ _=>rfl))) pa_nil))))))),?_⟩
  refine⟨_,rfl,a,_,_,_,rfl,rfl,SqT.of ha,rfl,rfl,_,rfl,?_⟩;rw[show decide (V.str d.k.s=V.str (Str.ofString "body"))=decide (d.k=.body)from kdt d.k .body];unfold qbi at q
  by_cases hk:d.k=.body
  ·rw[if_pos hk]at q;rw[decide_eq_true hk];refine iteF ⟨by show 0≤sizeLine;decide,fun o ho=>⟨_,rfl,_,rfl,o,a,-1,d,[],N,rfl,⟨[],qab,.nil⟩,by decide,na.keep (qad ho _).keep (fun _ n _=>n),pd,up.same (qad ho _),fun t H3 k3 T3=>?_⟩⟩;have s3:=(qad ho _).trans k3;obtain⟨L,W,et,nL,BL,nW,eW⟩:=T3;refine⟨_,rfl,t,_,_,_,rfl,rfl,SqT.of et,rfl,_,rfl,a,d,0,N,rfl,na.keep s3.keep (fun _ n _=>n),fun m H4 hm k4 e4=>?_⟩;refine⟨_,rfl,t,_,_,_,rfl,rfl,SqT.of (k4 _ _ et),rfl,m,W,_,_,rfl,rfl,e4,k4 _ _ eW,?_,fun m2 hm2=>⟨by show 2≤sizeLine;decide,fun t2 ht2=>?_⟩⟩
   ·rw[List.length_map,List.length_map];exact Nat.le_trans (Nat.add_le_add (qdp d 0) (qdS [] d)) (by decide)
   have k5:=qad hm2 (.lst ((qaX d 0).map V.str++(qa1 [] d).map V.str));have k6:=qad ht2 (.tup [.ref L,.ref m2]);have k:=k4.trans (k5.trans k6);exact q t2 _ (s3.trans k) ⟨L,m2,qab,nL,BookAt.same BL k,up m2 ((s3.trans k4).none hm2),by rw[k6 _ _ qab,List.map_append]⟩
  ·rw[if_neg hk]at q;rw[decide_eq_false hk];refine iteT ⟨rfl,fun b H1 k1 nb=>⟨by show 1≤sizeLine;decide,fun o ho=>⟨_,rfl,o,a,d,[bodyNd],N,rfl,⟨[b],qab,.cons (nb.keep (qad ho _).keep fun c n _=>up c n) .nil⟩,nodes_body,by simp,na.keep (k1.trans (qad ho _)).keep (fun _ n _=>n),pd,up.same (k1.trans (qad ho _)),fun t H3 k3 T3=>?_⟩⟩⟩;have s3:=(k1.trans (qad ho _)).trans k3;obtain⟨L,W,et,nL,BL,nW,eW⟩:=T3;refine⟨rfl,fun b2 H4 k4 nb2=>⟨by show 1≤sizeLine;decide,fun o2 ho2=>?_⟩⟩;have s4:=s3.trans k4;have k5:=qad ho2 (.lst [.ref b2]);have k45:=k4.trans k5;obtain⟨as,eL,nds⟩:=BL;have ll:as.length≤1:=by rw[nds.length];exact(qdh nodes_body (by simp) (by decide) pd).2
   refine⟨_,rfl,t,_,_,_,rfl,rfl,SqT.of (k45 _ _ et),rfl,o2,L,_,_,rfl,rfl,qab,k45 _ _ eL,?_,fun o3 ho3=>?_⟩
   ·rw[List.length_map];exact Nat.le_trans (show 1+as.length≤2 by omega) (by decide)
   have k6:=qad ho3 (.lst ([.ref b2]++as.map V.ref));refine⟨by show 1≤sizeLine;decide,fun o4 ho4=>?_⟩;have k7:=qad ho4 (.lst [.str (Str.ofString "body")]);have k47:=(k45.trans k6).trans k7;refine⟨_,rfl,t,_,_,_,rfl,rfl,SqT.of (k47 _ _ et),rfl,o4,W,_,_,rfl,rfl,qab,k47 _ _ eW,?_,fun o5 ho5=>⟨by show 2≤sizeLine;decide,fun t2 ht2=>?_⟩⟩
   ·rw[List.length_map];exact Nat.le_trans (Nat.add_le_add (Nat.le_refl 1) (qbP [bodyNd] d)) (by decide)
   have k8:=qad ho5 (.lst ([.str (Str.ofString "body")]++(qaA [bodyNd] d).2.map V.str));have k9:=qad ht2 (.tup [.ref o3,.ref o5]);have k79:=k7.trans (k8.trans k9);have k49:=k47.trans (k8.trans k9);refine q t2 _ (s3.trans k49) ⟨o3,o5,qab,up o3 ((s4.trans k5).none ho3),⟨b2::as,k79 _ _ qab,.cons (nb2.keep (k5.trans (k6.trans k79)).keep fun c n _=>up c (s3.none n)) (nds.keep k49.keep fun _ n _=>n)⟩,up o5 ((s3.trans k47).none ho5),by rw[k9 _ _ qab];rfl⟩
theorem scReadRow:FnScope ["nodes", "row", "parts", "told"] ["nodes", "row"] (qag sReadRow):=⟨rfl,rfl,rfl,by decide +kernel,rfl,by decide +kernel,by decide +kernel⟩
theorem ok_read_row{f:Addr}{fd:FuncData}(F:Fun K "read_row" "read_row" sReadRow f fd)(T:Bn mg)(U:Glob mg)(NU:Nums mg)(gl:∃t,mg "LEVEL" = some (.int 0 t))(F_row_parts:Fx P w K mg base CX0 7 "row_parts" ["row"] spRowParts)(F_first_nodes:Fx P w K mg base CX0 5 "first_nodes" ["parts"] spFirst)(F_later_nodes:Fx P w K mg base CX0 4 "later_nodes" ["nodes", "parts"] spLater):FnOk P w K mg base CX0 8 f fd ["nodes", "row"] spReadRow:=by
 refine F.ok scReadRow (fun vs H Q E h=>?_) (fun cdv A outer s H vs Q E hr h=>?_)
 ·obtain⟨p,x,ds,N,rfl,_⟩:=h;rfl
 ·obtain⟨p,x,ds,N,rfl,B,ok,rx,up,q⟩:=h;obtain⟨_,g_LEVEL⟩:=gl;obtain⟨_,g_KIND⟩:=NU.kind;obtain⟨_,g_NAME⟩:=NU.name;obtain⟨_,g_MARKS⟩:=NU.marks;obtain⟨_,g_STUFF⟩:=NU.stuff;obtain⟨_,g_MOST_NODES⟩:=U.nodes;have hr_row_parts:=hr;have hr_first_nodes:Room 5 _:=hr.mono (by decide);have hr_later_nodes:Room 4 _:=hr.mono (by decide);have one:∀(wx:Str) (H1:Hp) (l m t:Addr),Same H H1→H1 l=none→upd H1 l (.lst []) m=none→upd (upd H1 l (.lst [])) m (.lst [.str wx]) t=none→qa9 ds x=([],[wx])→Q (.ref t) (upd (upd (upd H1 l (.lst [])) m (.lst [.str wx])) t (.tup [.ref l,.ref m])):=fun wx H1 l m t s1 hl hm ht er=>by
   have k1:=qad hl (.lst []);have k2:=qad hm (.lst [.str wx]);have k3:=qad ht (.tup [.ref l,.ref m]);refine q t _ (s1.trans ((k1.trans k2).trans k3)) ?_;rw[er];exact⟨l,m,qab,up l (s1.none hl),⟨[],(k2.trans k3) _ _ qab,.nil⟩,up m (s1.none (k1.none hm)),k3 _ _ qab⟩
  refine⟨_,(qac (qan (i:=2) scReadRow.nd (by rfl) (by trivial) (qar F_row_parts hr_row_parts (by rfl) qas (qaa (pv 1) pa_nil)))
   (qac (qaH (qgU (qgn (pv 2))) (qae (qak (qa8 (qaa (qaD pa_nil) (qaa (qaD (qaa qah pa_nil)) pa_nil))))) pss_nil)
   (qac (qaH (qaj op_ge (qal call_len_seq (by rfl) T.len b_len (qaa (pv 0) pa_nil)) (qai (v:=.int 60) (by rfl) g_MOST_NODES ⟨_,rfl⟩) (qam _)) (qae (qak (qa8 (qaa (qaD pa_nil) (qaa (qaD (qaa qah pa_nil)) pa_nil))))) pss_nil)
   (qac (qaH (qaj op_eq (qal call_len_seq (by rfl) T.len b_len (qaa (pv 0) pa_nil)) qaf (qam _)) (qae (qak (qar F_first_nodes hr_first_nodes (by rfl) qas (qaa (pv 2) pa_nil)))) pss_nil)
   (qac (qaH (qaj op_eq (qap ix_tup (pv 2) (qai (v:=.int 1) (by rfl) g_KIND ⟨_,rfl⟩) (fun _ _=>rfl)) qah (qam _)) (qac (qan (i:=3) scReadRow.nd (by rfl) (by trivial) (qar F_later_nodes hr_later_nodes (by rfl) qas (qaa (pv 0) (qaa (qa8 (qaa (qap ix_tup (pv 2) (qai (v:=.int 0) (by rfl) g_LEVEL ⟨_,rfl⟩) (fun _ _=>rfl)) (qaa qah (qaa (qap ix_tup (pv 2) (qai (v:=.int 2) (by rfl) g_NAME ⟨_,rfl⟩) (fun _ _=>rfl)) (qaa (qap ix_tup (pv 2) (qai (v:=.int 3) (by rfl) g_MARKS ⟨_,rfl⟩) (fun _ _=>rfl)) (qaa (qap ix_tup (pv 2) (qai (v:=.int 4) (by rfl) g_STUFF ⟨_,rfl⟩) (fun _ _=>rfl)) pa_nil)))))) pa_nil))))
   (qae (qak (qa8 (qaa (qap ix_tup (pv 3) qaf (fun _ _=>rfl)) (qaa (qaE op_cat (qaD (qaa qah pa_nil)) (qap ix_tup (pv 3) qaf (fun _ _=>rfl))) pa_nil)))))) pss_nil)
   (qae (qak (qar F_later_nodes hr_later_nodes (by rfl) qas (qaa (pv 0) (qaa (pv 2) pa_nil)))))))))),?_⟩
  refine⟨_,rfl,x,rfl,rx,fun en H1 s1=>?_,fun d ed a H1 s1 na=>?_⟩
  ·refine⟨_,rfl,_,rfl,iteT ⟨by show 0≤sizeLine;decide,fun l hl=>⟨by show 1≤sizeLine;decide,fun m hm=>⟨by show 2≤sizeLine;decide,fun t ht=>one _ _ _ _ _ s1 hl hm ht ?_⟩⟩⟩⟩;unfold qa9;rw[en]
  have na:NdAt N H1 a d:=na.keep KeepN.refl fun b n _=>up b n
  have pd:=qdP rx ed;have er:qa9 ds x=if 60≤ds.length then([],[Str.ofString "many"])else if ds=[]then qbi d
    else if d.k=.body then((qaA ds {d with k:=.case}).1,Str.ofString "body" :: (qaA ds {d with k:=.case}).2)else qaA ds d:=by
   unfold qa9;rw[ed]
  obtain⟨as,hp,nds⟩:=B;have la:as.length=ds.length:=nds.length;obtain⟨m',s',ha,nm',hm',st'⟩:=na.ex;refine⟨_,rfl,_,rfl,iteF ?_⟩;refine⟨_,rfl,p,_,rfl,.inl (SqL.of (s1 _ _ hp)),_,_,rfl,rfl,_,rfl,?_⟩;rw[List.length_map,la]
  by_cases h60:60≤ds.length
  ·rw[decide_eq_true (by omega:(60:Int)≤(ds.length:Nat))];refine iteT ⟨by show 0≤sizeLine;decide,fun l hl=>⟨by show 1≤sizeLine;decide,fun m hm=>⟨by show 2≤sizeLine;decide,fun t ht=>one _ _ _ _ _ s1 hl hm ht ?_⟩⟩⟩;rw[er,if_pos h60]
  rw[decide_eq_false (by omega:¬(60:Int)≤(ds.length:Nat))];rw[if_neg h60]at er;refine iteF ⟨_,rfl,p,_,rfl,.inl (SqL.of (s1 _ _ hp)),rfl,_,rfl,?_⟩;rw[List.length_map,la]
  by_cases h0:ds=[]
  ·rw[decide_eq_true (by rw[h0];rfl:V.int (ds.length:Nat)=V.int 0)];rw[if_pos h0]at er;exact iteT ⟨_,rfl,a,d,N,rfl,na,pd,up.same s1,fun t H2 k2 T2=>q t H2 (s1.trans k2) (by rw[er];exact T2)⟩
  rw[decide_eq_false (fun z=>h0 (List.eq_nil_of_length_eq_zero (by have:=V.int.inj z;omega)):¬V.int (ds.length:Nat)=V.int 0)];rw[if_neg h0]at er;refine iteF ⟨_,rfl,a,_,_,_,rfl,rfl,SqT.of ha,rfl,rfl,_,rfl,?_⟩;rw[show decide (V.str d.k.s=V.str (Str.ofString "body"))=decide (d.k=.body)from kdt d.k .body]
  by_cases hk:d.k=.body
  rotate_left
  ·rw[decide_eq_false hk];rw[if_neg hk]at er;exact iteF ⟨_,rfl,_,rfl,p,a,d,ds,N,rfl,⟨as,s1 _ _ hp,nds.keep s1.keep fun _ n _=>n⟩,ok,h0,na,pd,up.same s1,fun t H2 k2 T2=>q t H2 (s1.trans k2) (by rw[er];exact T2)⟩
  rw[decide_eq_true hk];rw[if_pos hk]at er;refine iteT ⟨_,rfl,_,rfl,a,_,_,_,rfl,rfl,SqT.of ha,rfl,_,rfl,a,_,_,_,rfl,rfl,SqT.of ha,rfl,_,rfl,a,_,_,_,rfl,rfl,SqT.of ha,rfl,_,rfl,a,_,_,_,rfl,rfl,SqT.of ha,rfl,(by show 5≤sizeLine;decide),fun u hu=>?_⟩;have k1:=qad hu (.tup [.int d.e,.str Kd.case.s,.str d.nm,.ref m',.ref s']);have s2:=s1.trans k1;refine⟨p,u,{d with k:=.case},ds,N,rfl,⟨as,s2 _ _ hp,nds.keep s2.keep fun _ n _=>n⟩,ok,h0,⟨up u (s1.none hu),m',s',qab,nm',k1 _ _ hm',st'.keep k1.keep fun _ n _=>n⟩,qdX pd hk,up.same s2,fun t H3 k3 T3=>?_⟩;have s3:=s2.trans k3;obtain⟨L,W,et,nL,BL,nW,eW⟩:=T3;refine⟨_,rfl,t,_,_,_,rfl,rfl,SqT.of et,rfl,(by show 1≤sizeLine;decide),fun o4 ho4=>?_⟩;have k4:=qad ho4 (.lst [.str (Str.ofString "body")]);refine⟨_,rfl,t,_,_,_,rfl,rfl,SqT.of (k4 _ _ et),rfl,o4,W,_,_,rfl,rfl,qab,k4 _ _ eW,?_,fun o5 ho5=>⟨by show 2≤sizeLine;decide,fun t2 ht2=>?_⟩⟩
  ·rw[List.length_map];exact Nat.le_trans (Nat.add_le_add (Nat.le_refl 1) (qbP ds {d with k:=.case})) (by decide)
  have k5:=qad ho5 (.lst ([.str (Str.ofString "body")]++(qaA ds {d with k:=.case}).2.map V.str));have k6:=qad ht2 (.tup [.ref L,.ref o5]);have k:=k4.trans (k5.trans k6);refine q t2 _ (s3.trans k) ?_;rw[er];exact⟨L,o5,qab,nL,BookAt.same BL k,up o5 ((s3.trans k4).none ho5),by rw[k6 _ _ qab];rfl⟩
end
end K08
namespace K08
open PySem L2 Bk Gen
abbrev sFinished:Stmt:=top 75
abbrev sReadBook:Stmt:=top 69
section
variable{P:Program}{w:World}{K:PySem.W.Frag}{mg:Str→Option Value}{base:Heap}
theorem scFinished:FnScope ["nodes", "words", "begun", "noted", "book"] ["nodes"] (qag sFinished):=⟨rfl,rfl,rfl,by decide +kernel,rfl,by decide +kernel,by decide +kernel⟩
theorem ok_finished_book{f C:Addr}{fd:FuncData}(F:Fun K "finished_book" "finished_book" sFinished f fd)(T:Bn mg)(F_bare_body:Fx P w K mg base CX0 1 "bare_body" [] spBareBody)(F_lacks_notes:Fx P w K mg base CX0 2 "lacks_notes" ["nodes", "number"] spLacks)(F_mended_notes:Fx P w K mg base CX0 2 "mended_notes" ["nodes"] spMendNotes)(F_wants_case:Fx P w K mg base CX0 3 "wants_case" ["nodes", "number"] spWants)(F_mended_kinds:Fx P w K mg base CX0 4 "mended_kinds" ["nodes"] spMendKinds)(F_holds:Fx P w K mg base (CX1 P w) 1 "holds" ["book", "node"] (qcW C))(F_bare_stuff:Fx P w K mg base CX0 1 "bare_stuff" [] spBareStuff):FnOk P w K mg base CX0 5 f fd ["nodes"] spFinished:=by
 refine F.ok scFinished (fun vs H Q E h=>?_) (fun cdv A outer s H vs Q E hr h=>?_)
 ·obtain⟨p,ds,N,rfl,_⟩:=h;rfl
 ·obtain⟨p,ds,N,rfl,B,ok,up,q⟩:=h;have hr_bare_body:Room 1 _:=hr.mono (by decide);have hr_bare_stuff:Room 1 _:=hr.mono (by decide);have hr_holds:Room 1 _:=hr.mono (by decide);have hr_lacks_notes:Room 2 _:=hr.mono (by decide);have hr_mended_notes:Room 2 _:=hr.mono (by decide);have hr_wants_case:Room 3 _:=hr.mono (by decide);have hr_mended_kinds:=hr;obtain⟨okb,neb⟩:=qfE ok;have le:=okb.le;obtain⟨as,hp,nds⟩:=B;have la:as.length=ds.length:=nds.length;refine⟨_,(qac (qan (i:=1) scFinished.nd (by rfl) (by trivial) (qaD pa_nil))
   (qac (qan (i:=2) scFinished.nd (by rfl) (by trivial) (pv 0))
   (qac (qaH (qaj op_eq (qal call_len_seq (by rfl) T.len b_len (qaa (pv 0) pa_nil)) qaf (qam _)) (qac (qan (i:=2) scFinished.nd (by rfl) (by trivial) (qaD (qaa (qey F_bare_body hr_bare_body (by rfl) qas) pa_nil)))
   (qae (qa5 (qbk PySem.F.plainAttrs_list PySem.F.slot_list_append PySem.F.type_list_append mt_append (pv 1) (qaa qah pa_nil))))) pss_nil)
   (qac (qa5 (qbk PySem.F.plainAttrs_list PySem.F.slot_list_extend PySem.F.type_list_extend mt_extend (pv 1) (qaa (qbh (own:=["number"]) (by rfl) (ix:=[2]) (frees:=["begun"]) (CompScope.frees (by rfl) (by decide +kernel) (by decide +kernel) (by decide +kernel) (by rfl) (by decide +kernel) (by first | exact qfg (by rfl) | exact free2 (by rfl) (by rfl))) (qbQ (by rfl) T.range (qaa (qal call_len_seq (by rfl) T.len b_len (qaa (pv 2) pa_nil)) pa_nil)) (fun cl C s2 H2 fp=>(qax (i:=0) (by show(["number", "begun"]:List Str).Nodup;decide +kernel) (by rfl) (by trivial) (by trivial))) (fun cl C s2 H2 fp=>(qb3 (qaW (qar F_lacks_notes hr_lacks_notes (by rfl) qas (qaa (pv 1) (qaa (pv 0) pa_nil)))))) (fun cl C s2 H2 fp=>qah)) pa_nil)))
   (qac (qan (i:=3) scFinished.nd (by rfl) (by trivial) (qar F_mended_notes hr_mended_notes (by rfl) qas (qaa (pv 2) pa_nil)))
   (qac (qa5 (qbk PySem.F.plainAttrs_list PySem.F.slot_list_extend PySem.F.type_list_extend mt_extend (pv 1) (qaa (qbh (own:=["number"]) (by rfl) (ix:=[3]) (frees:=["noted"]) (CompScope.frees (by rfl) (by decide +kernel) (by decide +kernel) (by decide +kernel) (by rfl) (by decide +kernel) (by first | exact qfg (by rfl) | exact free2 (by rfl) (by rfl))) (qbQ (by rfl) T.range (qaa (qal call_len_seq (by rfl) T.len b_len (qaa (pv 3) pa_nil)) pa_nil)) (fun cl C s2 H2 fp=>(qax (i:=0) (by show(["number", "noted"]:List Str).Nodup;decide +kernel) (by rfl) (by trivial) (by trivial))) (fun cl C s2 H2 fp=>(qb3 (qaW (qar F_wants_case hr_wants_case (by rfl) qas (qaa (pv 1) (qaa (pv 0) pa_nil)))))) (fun cl C s2 H2 fp=>qah)) pa_nil)))
   (qac (qan (i:=4) scFinished.nd (by rfl) (by trivial) (qar F_mended_kinds hr_mended_kinds (by rfl) qas (qaa (pv 3) pa_nil)))
   (qac (qaH (qaj op_eq (qal call_len_seq (by rfl) T.len b_len (qaa (qar F_holds hr_holds (by rfl) qf1 (qaa (pv 4) (qaa qaf pa_nil))) pa_nil)) qaf (qam _)) (qac (qa5 (qbk PySem.F.plainAttrs_list PySem.F.slot_list_append PySem.F.type_list_append mt_append (pv 4) (qaa (qa8 (qaa qaf (qaa qah (qaa qah (qaa (qaD pa_nil) (qaa (qey F_bare_stuff hr_bare_stuff (by rfl) qas) pa_nil)))))) pa_nil)))
   (qae (qa5 (qbk PySem.F.plainAttrs_list PySem.F.slot_list_append PySem.F.type_list_append mt_append (pv 1) (qaa qah pa_nil))))) pss_nil)
   (qae (qak (qa8 (qaa (pv 4) (qaa (pv 1) pa_nil))))))))))))),?_⟩
  refine⟨by show 0≤sizeLine;decide,fun W hW=>?_⟩;have s1:=qad hW (.lst []);refine⟨_,rfl,?_⟩;dsimp only[qbR];have oldW:∀b,N b→(H b).isSome=true→Nw N W b:=qc7 hW;have upW:∀{H':Hp},Same H H'→(∃o,H' W=some o)→Up0 (Nw N W) H':=fun {H'} sa hw b hb=>by
   obtain⟨o,e⟩:=hw;exact qcj (up b (sa.none hb)) e hb
  refine qaN (fun σ' H'=>∃b,σ'=[some (.ref p),some (.ref W),some (.ref b),none,none]∧b≠W∧Same H H'∧H' W=some (.lst ((wd (ds=[]) (Str.ofString "body")).map V.str))∧BookAt (Nw N W) H' b (begun ds)) (fun D' kk=>?_) ?_
  ·refine⟨_,rfl,p,_,rfl,.inl (SqL.of (s1 _ _ hp)),rfl,_,rfl,?_⟩;rw[List.length_map,la]
   by_cases h0:ds=[]
   ·rw[decide_eq_true (by rw[h0];rfl:V.int (ds.length:Nat)=V.int 0)];refine iteT ⟨rfl,fun b H2 k2 nb=>⟨by show 1≤sizeLine;decide,fun o ho=>?_⟩⟩;have k3:=qad ho (.lst [.ref b]);have s3:=(s1.trans k2).trans k3;have hW3:upd H2 o (.lst [.ref b]) W=some (.lst []):=k3 _ _ (k2 _ _ qab);have neo:o≠W:=(qao (k2 _ _ qab) ho).symm;refine⟨_,rfl,.inl ⟨rfl,_,SqL.of hW3⟩,W,_,_,rfl,rfl,hW3,by decide,kk _ _ ⟨o,rfl,neo,qay s3 hW,by rw[qdK h0,qab];rfl,?_⟩⟩;have:BookAt (Nw N W) (upd H2 o (.lst [.ref b])) o (begun ds):=by
     unfold begun;rw[if_pos h0];refine⟨[b],qab,.cons (nb.keep k3.keep fun c n _=>?_) .nil⟩;exact qcj (up c (s1.none n)) qab n
    exact BookAt.put this neo
   ·rw[decide_eq_false (fun z=>h0 (List.eq_nil_of_length_eq_zero (by have:=V.int.inj z;omega)):¬V.int (ds.length:Nat)=V.int 0)];refine iteF (kk _ _ ⟨p,rfl,qao hp hW,s1,by rw[qeo h0];exact qab,?_⟩);unfold begun;rw[if_neg h0];exact⟨as,s1 _ _ hp,nds.keep s1.keep oldW⟩
  rintro _ H2 ⟨b,rfl,neb',s2,hW2,B2⟩;have l2:(wd (ds=[]) (Str.ofString "body")).length≤1:=qeU _ _;have eW:qbK ds=wd (ds=[]) (Str.ofString "body")++atTo (begun ds) (fun i d=>if qcf (begun ds) i d then[Str.ofString "notes"]else[]) (begun ds).length
   ++ atTo (qaw (begun ds)) (fun i d=>if qaQ (qaw (begun ds)) i d then[Str.ofString "case"]else[]) (qaw (begun ds)).length++wd (kids (qbb (qaw (begun ds))) 0=[]) (Str.ofString "bare"):=rfl
  have eB:qfB ds=if kids (qbb (qaw (begun ds))) 0=[]then qbb (qaw (begun ds))++[bareText]else qbb (qaw (begun ds)):=rfl
  rw[eW,eB]at q;clear eW eB;generalize wd (ds=[]) (Str.ofString "body")=w0 at hW2 l2 q;generalize begun ds=bs at *;have le1:∀(b:Bool) (x:Str),(if b then[x]else[]).length≤1:=fun b x=>by cases b<;>simp
  obtain⟨as2,hb2,nds2⟩:=B2;have la2:as2.length=bs.length:=nds2.length;have l3:(atTo bs (fun i d=>if qcf bs i d then[Str.ofString "notes"]else[]) bs.length).length≤60:=by
   have:=qb2 (ds:=bs) (f:=fun i d=>if qcf bs i d then[Str.ofString "notes"]else[]) (B:=1) (fun i d=>le1 _ _) bs.length;omega
  refine⟨_,rfl,.inl ⟨rfl,_,SqL.of hW2⟩,_,rfl,b,_,rfl,.inl (SqL.of hb2),_,rfl,?_⟩;rw[List.length_map,la2];refine⟨by omega,by omega,qc0 (fun i ys σ' H'=>Same H2 H'∧ys=(atTo bs (fun i d=>if qcf bs i d then[Str.ofString "notes"]else[]) i).map V.str∧∃z,σ'=[z,some (.ref b)]) (by rw[Int.toNat_natCast];exact qbv (by omega)) ⟨Same.refl H2,rfl,none,rfl⟩ ?_ ?_ ?_⟩
  ·rintro i ys σ' H' hi ⟨_,rfl,_⟩;rw[List.length_map];have:=qb2 (ds:=bs) (f:=fun i d=>if qcf bs i d then[Str.ofString "notes"]else[]) (B:=1) (fun i d=>le1 _ _) i;omega
  ·rintro i ys σ' H' hi ⟨k3,rfl,z,rfl⟩;rw[Int.toNat_natCast]at hi;have ed:bs[i]?=some bs[i]:=List.getElem?_eq_getElem hi;obtain⟨fm,hk⟩:=okb.form bs[i] (List.getElem_mem hi);refine⟨_,rfl,_,rfl,b,i,bs[i],bs,Nw N W,by rw[Int.zero_add];rfl,⟨as2,k3 _ _ hb2,nds2.keep k3.keep fun _ n _=>n⟩,le,ed,fm,hk,fun H4 k4=>⟨_,rfl,?_⟩⟩;rw[qaR ed];cases eb:qcf bs i bs[i]with
   | true=>exact iteT ⟨k3.trans k4,by rw[if_pos rfl,List.map_append];rfl,_,rfl⟩
   | false=>exact iteF ⟨k3.trans k4,by rw[if_neg (by decide),List.append_nil],_,rfl⟩
  rintro ys σ' H3 ⟨k3,rfl,_⟩ D hD;rw[Int.toNat_natCast];generalize atTo bs (fun i d=>if qcf bs i d then[Str.ofString "notes"]else[]) bs.length=w1 at *;have k4:=qad hD (.lst (w1.map V.str));have k34:=k3.trans k4;have hW4:=k34 _ _ hW2;refine⟨W,D,_,_,rfl,rfl,hW4,qab,?_,?_⟩
  ·rw[List.length_map,List.length_map];exact Nat.le_trans (show w0.length+w1.length≤61 by omega) (by decide)
  rw[←List.map_append];have s5:=qay (o:=.lst ((w0++w1).map V.str)) (s2.trans k34) hW;have hW5:upd (upd H3 D (.lst (w1.map V.str))) W (.lst ((w0++w1).map V.str)) W=some (.lst ((w0++w1).map V.str)):=qab;have B5:BookAt (Nw N W) (upd (upd H3 D (.lst (w1.map V.str))) W (.lst ((w0++w1).map V.str))) b bs:=BookAt.put (BookAt.same ⟨as2,hb2,nds2⟩ k34) neb';generalize upd (upd H3 D (.lst (w1.map V.str))) W (.lst ((w0++w1).map V.str))=H5 at s5 hW5 B5⊢;refine⟨_,rfl,b,bs,Nw N W,rfl,B5,upW s5 ⟨_,hW5⟩,okb,fun n H6 hn k6 B6=>?_⟩;have s6:=s5.trans k6;have hW6:=k6 _ _ hW5;have nen:n≠W:=(qao hW5 hn).symm;have lm:=qgc bs;have am:=mend_as okb;have m1:=mend_ne okb neb;generalize qaw bs=ns at *;obtain⟨as6,hn6,nds6⟩:=B6;have la6:as6.length=ns.length:=nds6.length;have l7:(atTo ns (fun i d=>if qaQ ns i d then[Str.ofString "case"]else[]) ns.length).length≤60:=by
   have:=qb2 (ds:=ns) (f:=fun i d=>if qaQ ns i d then[Str.ofString "case"]else[]) (B:=1) (fun i d=>le1 _ _) ns.length;omega
  refine⟨_,rfl,.inl ⟨rfl,_,SqL.of hW6⟩,_,rfl,n,_,rfl,.inl (SqL.of hn6),_,rfl,?_⟩;rw[List.length_map,la6];refine⟨by omega,by omega,qc0 (fun i ys σ' H'=>Same H6 H'∧ys=(atTo ns (fun i d=>if qaQ ns i d then[Str.ofString "case"]else[]) i).map V.str∧∃z,σ'=[z,some (.ref n)]) (by rw[Int.toNat_natCast];exact qbv (by omega)) ⟨Same.refl H6,rfl,none,rfl⟩ ?_ ?_ ?_⟩
  ·rintro i ys σ' H' hi ⟨_,rfl,_⟩;rw[List.length_map];have:=qb2 (ds:=ns) (f:=fun i d=>if qaQ ns i d then[Str.ofString "case"]else[]) (B:=1) (fun i d=>le1 _ _) i;omega
  ·rintro i ys σ' H' hi ⟨k7,rfl,z,rfl⟩;rw[Int.toNat_natCast]at hi;have ed:ns[i]?=some ns[i]:=List.getElem?_eq_getElem hi;refine⟨_,rfl,_,rfl,n,i,ns[i],ns,Nw N W,by rw[Int.zero_add];rfl,⟨as6,k7 _ _ hn6,nds6.keep k7.keep fun _ n _=>n⟩,by omega,ed,am,fun H8 k8=>⟨_,rfl,?_⟩⟩;rw[qaR ed];cases eb:qaQ ns i ns[i]with
   | true=>exact iteT ⟨k7.trans k8,by rw[if_pos rfl,List.map_append];rfl,_,rfl⟩
   | false=>exact iteF ⟨k7.trans k8,by rw[if_neg (by decide),List.append_nil],_,rfl⟩
  rintro ys σ' H7 ⟨k7,rfl,_⟩ D2 hD2;rw[Int.toNat_natCast];generalize atTo ns (fun i d=>if qaQ ns i d then[Str.ofString "case"]else[]) ns.length=w2 at *;have k8:=qad hD2 (.lst (w2.map V.str));have k78:=k7.trans k8;have hW8:=k78 _ _ hW6;refine⟨W,D2,_,_,rfl,rfl,hW8,qab,?_,?_⟩
  ·rw[List.length_map,List.length_map,List.length_append];exact Nat.le_trans (show w0.length+w1.length+w2.length≤121 by omega) (by decide)
  rw[←List.map_append];have s9:=qay (o:=.lst ((w0++w1++w2).map V.str)) (s6.trans k78) hW;have hW9:upd (upd H7 D2 (.lst (w2.map V.str))) W (.lst ((w0++w1++w2).map V.str)) W=some (.lst ((w0++w1++w2).map V.str)):=qab;have B9:BookAt (Nw N W) (upd (upd H7 D2 (.lst (w2.map V.str))) W (.lst ((w0++w1++w2).map V.str))) n ns:=BookAt.put (BookAt.same ⟨as6,hn6,nds6⟩ k78) nen;generalize upd (upd H7 D2 (.lst (w2.map V.str))) W (.lst ((w0++w1++w2).map V.str))=H9 at s9 hW9 B9⊢;refine⟨_,rfl,n,ns,Nw N W,rfl,B9,upW s9 ⟨_,hW9⟩,by omega,am,fun k H10 hk10 k10 B10=>?_⟩;have s10:=s9.trans k10;have hW10:=k10 _ _ hW9;have nek:k≠W:=(qao hW9 hk10).symm;have lk:=kinds_len ns;generalize qbb ns=bk at *;obtain⟨ask,hbk,ndsk⟩:=B10;have lak:ask.length=bk.length:=ndsk.length;dsimp only[qbR];refine qaN (fun σ' H'=>∃z2,σ'=[some (.ref p),some (.ref W),z2,some (.ref n),some (.ref k)]∧Same H H'∧H' W=some (.lst ((w0++w1++w2++wd (kids bk 0=[]) (Str.ofString "bare")).map V.str))∧BookAt N H' k (if kids bk 0=[]then bk++[bareText]else bk)) (fun D' kk=>?_) ?_
  ·refine⟨_,rfl,k,0,bk,_,rfl,⟨ask,hbk,ndsk⟩,by omega,by decide,.inr ⟨⟨by omega,by omega⟩,fun l H11 hl k11 h11=>?_⟩⟩;have s11:=s10.trans k11;have hW11:=k11 _ _ hW10;have hk11:=k11 _ _ hbk;refine⟨l,_,rfl,.inl (SqL.of h11),rfl,_,rfl,?_⟩;rw[List.length_map]
   by_cases hz:kids bk 0=[]
   rotate_left
   ·rw[decide_eq_false (fun z=>hz (List.eq_nil_of_length_eq_zero (by have:=V.int.inj z;unfold kids;omega)):¬V.int ((qa0 bk 0 bk.length).length:Nat)=V.int 0)];refine iteF (kk _ _ ⟨_,rfl,s11,by rw[qeo hz,List.append_nil];exact hW11,?_⟩);rw[if_neg hz];exact⟨ask,hk11,ndsk.keep k11.keep fun _ n _=>n.1.1⟩
   rw[decide_eq_true (by rw[show(qa0 bk 0 bk.length)=kids bk 0 from rfl,hz];rfl:V.int ((qa0 bk 0 bk.length).length:Nat)=V.int 0)];refine iteT ⟨_,rfl,.inl ⟨rfl,_,SqL.of hk11⟩,by show 0≤sizeLine;decide,fun mm hmm=>⟨rfl,fun sb H13 k13 stb=>⟨by show 5≤sizeLine;decide,fun u hu=>?_⟩⟩⟩;have k12:=qad hmm (.lst []);have k14:=qad hu (.tup [.int 0,.str Kd.text.s,.str (Str.ofString ""),.ref mm,.ref sb]);have s12:=s11.trans k12;have s13:=s12.trans k13;have k1214:=(k12.trans k13).trans k14;have s14:=s13.trans k14;have hk14:=k1214 _ _ hk11;have hW14:=k1214 _ _ hW11;refine⟨k,_,_,rfl,rfl,hk14,qbv (by rw[List.length_map];omega),?_⟩;have hW15:upd (upd H13 u (.tup [.int 0,.str Kd.text.s,.str (Str.ofString ""),.ref mm,.ref sb])) k (.lst (ask.map V.ref++[.ref u])) W=some (.lst ((w0++w1++w2).map V.str)):=by rw[qau nek.symm];exact hW14
   have hk0:H k=none:=s9.none hk10;refine⟨_,rfl,.inl ⟨rfl,_,SqL.of hW15⟩,W,_,_,rfl,rfl,hW15,?_,kk _ _ ⟨_,rfl,qay (qay s14 hk0) hW,by rw[qdK hz,qab];simp,?_⟩⟩
   ·rw[List.length_map,List.length_append,List.length_append];exact Nat.lt_of_le_of_lt (show w0.length+w1.length+w2.length≤121 by omega) (by decide)
   rw[if_pos hz];refine⟨ask++[u],by rw[qau nek,qab];simp,NdsAt.append (ndsk.keep ((k11.trans k1214).keep.trans (keep_nw.trans (keep_nw.mono fun c n=>n.1))) fun c n _=>n.1.1) (.cons ?_ .nil)⟩;have kp:∀c o,H10 c=none→upd H13 u (.tup [.int 0,.str Kd.text.s,.str (Str.ofString ""),.ref mm,.ref sb]) c=some o→upd (upd (upd H13 u (.tup [.int 0,.str Kd.text.s,.str (Str.ofString ""),.ref mm,.ref sb])) k (.lst (ask.map V.ref++[.ref u]))) W (.lst ((w0++w1++w2).map V.str++[.str (Str.ofString "bare")])) c=some o:=fun c o hc ho=>by
    rw[qau (qao hW10 hc).symm,qau (qao hbk hc).symm];exact ho
   have h12n:=k11.trans k12;have n1:H10 u=none:=(k11.trans (k12.trans k13)).none hu;have n2:H10 mm=none:=k11.none hmm;refine⟨up u (s13.none hu),mm,sb,kp _ _ n1 qab,up mm (s11.none hmm),kp _ _ n2 ((k13.trans k14) _ _ qab),stb.keep (fun c o n hc=>kp c o (h12n.none n) (k14 _ _ hc)) fun c n _=>up c (s12.none n)⟩
  rintro _ H16 ⟨z2,rfl,s16,hW16,B16⟩;refine⟨_,rfl,_,rfl,(by show 2≤sizeLine;decide),fun t ht=>?_⟩;have k17:=qad ht (.tup [.ref k,.ref W]);exact q t _ (s16.trans k17) ⟨k,W,qab,up k (s9.none hk10),BookAt.same B16 k17,up W hW,k17 _ _ hW16⟩
theorem scReadBook:FnScope ["rows", "nodes", "mends", "number", "row", "told", "whole"] ["rows"] (qag sReadBook):=⟨rfl,rfl,rfl,by decide +kernel,rfl,by decide +kernel,by decide +kernel⟩
theorem ok_read_book{f:Addr}{fd:FuncData}(F:Fun K "read_book" "read_book" sReadBook f fd)(T:Bn mg)(gb:∃t,mg "BEHIND_ALL_ROWS" = some (.int (-1) t))(F_read_row:Fx P w K mg base CX0 8 "read_row" ["nodes", "row"] spReadRow)(F_finished_book:Fx P w K mg base CX0 5 "finished_book" ["nodes"] spFinished):FnOk P w K mg base CX0 9 f fd ["rows"] spReadBook:=by
 refine F.ok scReadBook (fun vs H Q E h=>?_) (fun cdv A outer s H vs Q E hr h=>?_)
 ·obtain⟨p,rows,rfl,_⟩:=h;rfl
 ·obtain⟨p,rows,rfl,hp,le,ro,q⟩:=h;obtain⟨_,g_BEHIND_ALL_ROWS⟩:=gb;have hr_read_row:=hr;have hr_finished_book:Room 5 _:=hr.mono (by decide);refine⟨_,(qac (qan (i:=1) scReadBook.nd (by rfl) (by trivial) (qaD pa_nil))
   (qac (qan (i:=2) scReadBook.nd (by rfl) (by trivial) (qaD pa_nil))
   (qac (qb4 PassesOwn.never (by rfl) (qdr (by rfl) T.enumerate (qaa (pv 0) pa_nil)) (qe4 (by rfl) (qbm (qax (i:=3) scReadBook.nd (by rfl) (by trivial)) (qbm (qax (i:=4) scReadBook.nd (by rfl) (by trivial)) pgs_nil)))
   (qac (qan (i:=5) scReadBook.nd (by rfl) (by trivial) (qar F_read_row hr_read_row (by rfl) qas (qaa (pv 1) (qaa (pv 4) pa_nil))))
   (qac (qa5 (qbk PySem.F.plainAttrs_list PySem.F.slot_list_extend PySem.F.type_list_extend mt_extend (pv 1) (qaa (qap ix_tup (pv 5) qaf (fun _ _=>rfl)) pa_nil)))
   (qae (qa5 (qbk PySem.F.plainAttrs_list PySem.F.slot_list_extend PySem.F.type_list_extend mt_extend (pv 2) (qaa (qbh (own:=["word"]) (by rfl) (ix:=[3]) (frees:=["number"]) (CompScope.frees (by rfl) (by decide +kernel) (by decide +kernel) (by decide +kernel) (by rfl) (by decide +kernel) (by first | exact qfg (by rfl) | exact free2 (by rfl) (by rfl))) (qbg (qap ix_tup (pv 5) qaf (fun _ _=>rfl))) (fun cl C s2 H2 fp=>(qax (i:=0) (by show(["word", "number"]:List Str).Nodup;decide +kernel) (by rfl) (by trivial) (by trivial))) (fun cl C s2 H2 fp=>qbC) (fun cl C s2 H2 fp=>(qa8 (qaa (pv 1) (qaa (pv 0) pa_nil))))) pa_nil)))))))
   (qac (qan (i:=6) scReadBook.nd (by rfl) (by trivial) (qar F_finished_book hr_finished_book (by rfl) qas (qaa (pv 1) pa_nil)))
   (qac (qa5 (qbk PySem.F.plainAttrs_list PySem.F.slot_list_extend PySem.F.type_list_extend mt_extend (pv 2) (qaa (qbh (own:=["word"]) (by rfl) (CompScope.plain (by rfl) (by decide +kernel) (by decide +kernel) (by decide +kernel)) (qbg (qap ix_tup (pv 6) qaf (fun _ _=>rfl))) (fun cl C s2 H2 fp=>(qax (i:=0) (by show(["word"]:List Str).Nodup;decide +kernel) (by rfl) (by trivial) (by trivial))) (fun cl C s2 H2 fp=>qbC) (fun cl C s2 H2 fp=>(qa8 (qaa (qai (v:=.int (-1)) (by rfl) g_BEHIND_ALL_ROWS ⟨_,rfl⟩) (qaa (pv 0) pa_nil))))) pa_nil)))
   (qae (qak (qa8 (qaa (qap ix_tup (pv 6) qaf (fun _ _=>rfl)) (qaa (pv 2) pa_nil)))))))))),?_⟩
  refine⟨by show 0≤sizeLine;decide,fun L hL=>⟨by show 0≤sizeLine;decide,fun M hM=>?_⟩⟩;have s1:=qad hL (.lst []);have hM0:H M=none:=s1.none hM;have s2:=s1.trans (qad hM (.lst []));have hL2:upd (upd H L (.lst [])) M (.lst []) L=some (.lst []):=by rw[qau (qao qab hM),qab]
  have hM2:upd (upd H L (.lst [])) M (.lst []) M=some (.lst []):=qab;have neLM:L≠M:=qao qab hM;generalize upd (upd H L (.lst [])) M (.lst [])=H2 at s2 hL2 hM2⊢;have upN:∀{H':Hp},Same H H'→(∃o,H' L=some o)→(∃o,H' M=some o)→Up0 (Nw (Nw (qbL H) L) M) H':=fun {H'} sa hl hs b hb=>by
   obtain⟨o1,e1⟩:=hl;obtain⟨o2,e2⟩:=hs;exact qcj (qcj (sa.none hb) e1 hb) e2 hb
  have rdok:=qgD ro;dsimp only[qbR];refine qaN (fun σ' H'=>∃z1 z2 z3 z4,σ'=[some (.ref p),some (.ref L),some (.ref M),z1,z2,z3,z4]∧Same H H'∧BookAt (Nw (Nw (qbL H) L) M) H' L (rdTo rows rows.length).1∧qeh (Nw (Nw (qbL H) L) M) H' M (rdTo rows rows.length).2) (fun D' kk=>?_) ?_
  ·refine⟨_,rfl,p,rfl,⟨_,SqL.of (s2 _ _ hp)⟩,qdj (xs:=rows.map V.str) (fun i σ' H'=>∃z1 z2 z3 z4,σ'=[some (.ref p),some (.ref L),some (.ref M),z1,z2,z3,z4]∧Same H H'∧BookAt (Nw (Nw (qbL H) L) M) H' L (rdTo rows i).1∧qeh (Nw (Nw (qbL H) L) M) H' M (rdTo rows i).2) ⟨none,none,none,none,rfl,s2,⟨[],hL2,.nil⟩,[],hM2,.nil⟩ ?_ ?_ ?_⟩
   ·rintro i σ' H' hi ⟨z1,z2,z3,z4,rfl,s3,_⟩;exact SqL.of (s3 _ _ hp)
   ·rintro i x σ' H' t hx ht ⟨z1,z2,z3,z4,rfl,s3,B3,M3⟩;rw[List.getElem?_map]at hx;cases er:rows[i]? with
    | none=>rw[er]at hx;cases hx
    | some r =>
    rw[er]at hx;cases hx;have hi:i<rows.length:=(List.getElem?_eq_some_iff.mp er).1;have k4:=qad ht (.tup [.int (i:Nat),.str r]);have s4:=s3.trans k4;rw[qef er];have oki:=rdok i;have rm:=qdi rows i;have rw':=qcM (rdTo rows i).1 r;have okn:=(qgh oki (ro r (List.mem_of_getElem? er))).le;rw[List.length_append]at okn;generalize rdTo rows i=st at *;obtain⟨as3,hL3,nds3⟩:=B3;obtain⟨vs3,hM3,ms3⟩:=M3;refine⟨t,_,rfl,SqT.of qab,rfl,_,_,rfl,_,_,rfl,rfl,?_⟩;refine⟨_,rfl,_,rfl,L,r,st.1,_,rfl,BookAt.same ⟨as3,hL3,nds3⟩ k4,oki,ro r (List.mem_of_getElem? er),upN s4 ⟨_,k4 _ _ hL3⟩ ⟨_,k4 _ _ hM3⟩,fun tt H5 k5 T5=>?_⟩;generalize qa9 st.1 r=rr at *;have s5:=s4.trans k5;have k45:=k4.trans k5;have hL5:=k45 _ _ hL3;have hM5:=k45 _ _ hM3;obtain⟨l,m,et,nl,⟨bs,hl,nds⟩,nm,em⟩:=T5;have lb:bs.length=rr.1.length:=nds.length;have l3:as3.length=st.1.length:=nds3.length;refine⟨_,rfl,.inl ⟨rfl,_,SqL.of hL5⟩,_,rfl,tt,_,_,_,rfl,rfl,SqT.of et,rfl,L,l,_,_,rfl,rfl,hL5,hl,?_,?_⟩
    ·rw[List.length_map,List.length_map];exact Nat.le_of_lt (qbv (by omega))
    have k6:KeepN (Nw (Nw (qbL H) L) M) H5 (upd H5 L (.lst (as3.map V.ref++bs.map V.ref))):=keep_nw.mono fun b n=>n.1
    have s6:=qay (o:=.lst (as3.map V.ref++bs.map V.ref)) s5 hL;have hL6:upd H5 L (.lst (as3.map V.ref++bs.map V.ref)) L=some (.lst (as3.map V.ref++bs.map V.ref)):=qab;have hM6:upd H5 L (.lst (as3.map V.ref++bs.map V.ref)) M=some (.lst vs3):=by rw[qau neLM.symm];exact hM5
    have em6:=k6 _ _ nm em;have et6:upd H5 L (.lst (as3.map V.ref++bs.map V.ref)) tt=some (.tup [.ref l,.ref m]):=by rw[qau (qf0 et hL5 (by intro z;cases z))];exact et
    have nds6:=(nds3.keep k45.keep fun _ n _=>n).append nds |>.keep k6 fun _ n _=>n
    have ms6:=(ms3.mono fun v p h=>MdAt.keep h k45.keep fun _ n _=>n).mono fun v p h=>MdAt.keep h k6 fun _ n _=>n
    have lms:vs3.length=st.2.length:=ms3.length;generalize upd H5 L (.lst (as3.map V.ref++bs.map V.ref))=H6 at *;have zl:(rr.2.map V.str).length<sizeLine:=by rw[List.length_map];exact qbv (by omega)
    refine⟨_,rfl,.inl ⟨rfl,_,SqL.of hM6⟩,_,rfl,tt,_,_,_,rfl,rfl,SqT.of et6,rfl,m,rfl,⟨_,SqL.of em6⟩,qaZ (xs:=rr.2.map V.str) (fun j ys σ' H'=>Same H6 H'∧Paired (MdAt (Nw (Nw (qbL H) L) M) H') ys ((rr.2.take j).map fun y=>((i:Int),y))∧∃z,σ'=[z,some (.int (i:Nat))]) zl ⟨Same.refl H6,.nil,none,rfl⟩ ?_ ?_ ?_⟩
    ·rintro j ys σ' H' hj ⟨k7,pa,_⟩;refine⟨SqL.of (k7 _ _ em6),?_⟩;rw[pa.length,List.length_map,List.length_take];omega
    ·rintro j x ys σ' H' hx ⟨k7,pa,z,rfl⟩;rw[List.getElem?_map]at hx;cases ey:rr.2[j]? with
     | none=>rw[ey]at hx;cases hx
     | some y =>
     rw[ey]at hx;cases hx;refine⟨_,rfl,_,rfl,(by show 2≤sizeLine;decide),fun u hu=>⟨k7.trans (qad hu _),?_,_,rfl⟩⟩;rw[List.take_succ,ey,Option.toList_some,List.map_append];exact qbd (pa.mono fun v p h=>MdAt.keep h (qad hu _).keep fun _ n _=>n) (.cons ⟨u,rfl,upN (s6.trans k7) ⟨_,k7 _ _ hL6⟩ ⟨_,k7 _ _ hM6⟩ u hu,qab⟩ .nil)
    ·rintro ys σ' H7 ⟨k7,pa,_⟩ D hD;rw[List.length_map,List.take_length]at pa;have k8:=qad hD (.lst ys);have k78:=k7.trans k8;have hM8:=k78 _ _ hM6;have ly:ys.length=rr.2.length:=by rw[pa.length,List.length_map]
     refine⟨M,D,_,_,rfl,rfl,hM8,qab,Nat.le_of_lt (Nat.lt_of_le_of_lt (show _≤2000 by omega) (by decide)),?_⟩;refine⟨_,_,_,_,rfl,qay (s6.trans k78) hM0,⟨as3++bs,?_,nds6.keep (k78.keep.trans keep_nw) fun _ n _=>n⟩,vs3++ys,qab,?_⟩
     ·rw[qau neLM,List.map_append];exact k78 _ _ hL6
     ·exact qbd (ms6.mono fun v p h=>MdAt.keep h (k78.keep.trans keep_nw) fun _ n _=>n) (pa.mono fun v p h=>MdAt.keep h (k8.keep.trans keep_nw) fun _ n _=>n)
   ·rintro σ' H' ⟨z1,z2,z3,z4,rfl,s3,B3,M3⟩;rw[List.length_map]at B3 M3;exact kk _ _ ⟨z1,z2,z3,z4,rfl,s3,B3,M3⟩
  rintro _ H3 ⟨z1,z2,z3,z4,rfl,s3,B3,M3⟩;have okA:=rdok rows.length;have rm:=qdi rows rows.length;have er:qes rows=(qfB (rdTo rows rows.length).1,(rdTo rows rows.length).2++(qbK (rdTo rows rows.length).1).map fun y=>((-1:Int),y)):=rfl;rw[er]at q;generalize rdTo rows rows.length=st at *;obtain⟨as3,hL3,nds3⟩:=B3;obtain⟨vs3,hM3,ms3⟩:=M3;refine⟨_,rfl,L,st.1,_,rfl,⟨as3,hL3,nds3⟩,okA,upN s3 ⟨_,hL3⟩ ⟨_,hM3⟩,fun tt H5 k5 T5=>?_⟩;have ew:=qdL okA;have s5:=s3.trans k5;have hM5:=k5 _ _ hM3;obtain⟨l,m,et,nl,B5,nm,em⟩:=T5;generalize qbK st.1=wds at *;have zl:(wds.map V.str).length<sizeLine:=by rw[List.length_map];exact qbv (by omega)
  have lms:vs3.length=st.2.length:=ms3.length;refine⟨_,rfl,.inl ⟨rfl,_,SqL.of hM5⟩,_,rfl,tt,_,_,_,rfl,rfl,SqT.of et,rfl,m,rfl,⟨_,SqL.of em⟩,qaZ (xs:=wds.map V.str) (fun j ys σ' H'=>Same H5 H'∧Paired (MdAt (Nw (Nw (qbL H) L) M) H') ys ((wds.take j).map fun y=>((-1:Int),y))∧∃z,σ'=[z]) zl ⟨Same.refl H5,.nil,none,rfl⟩ ?_ ?_ ?_⟩
  ·rintro j ys σ' H' hj ⟨k7,pa,_⟩;refine⟨SqL.of (k7 _ _ em),?_⟩;rw[pa.length,List.length_map,List.length_take];omega
  ·rintro j x ys σ' H' hx ⟨k7,pa,z,rfl⟩;rw[List.getElem?_map]at hx;cases ey:wds[j]? with
   | none=>rw[ey]at hx;cases hx
   | some y =>
   rw[ey]at hx;cases hx;refine⟨_,rfl,(by show 2≤sizeLine;decide),fun u hu=>⟨k7.trans (qad hu _),?_,_,rfl⟩⟩;rw[List.take_succ,ey,Option.toList_some,List.map_append];exact qbd (pa.mono fun v p h=>MdAt.keep h (qad hu _).keep fun _ n _=>n) (.cons ⟨u,rfl,upN (s5.trans k7) ⟨_,k7 _ _ (k5 _ _ hL3)⟩ ⟨_,k7 _ _ hM5⟩ u hu,qab⟩ .nil)
  ·rintro ys σ' H7 ⟨k7,pa,_⟩ D hD;rw[List.length_map,List.take_length]at pa;have k8:=qad hD (.lst ys);have k78:=k7.trans k8;have hM8:=k78 _ _ hM5;have ly:ys.length=wds.length:=by rw[pa.length,List.length_map]
   refine⟨M,D,_,_,rfl,rfl,hM8,qab,Nat.le_of_lt (Nat.lt_of_le_of_lt (show _≤2000 by omega) (by decide)),?_⟩;have et8:upd (upd H7 D (.lst ys)) M (.lst (vs3++ys)) tt=some (.tup [.ref l,.ref m]):=by rw[qau (qf0 (k78 _ _ et) hM8 (by intro z;cases z))];exact k78 _ _ et
   have s9:=qay (o:=.lst (vs3++ys)) (s5.trans k78) hM0;have hM9:upd (upd H7 D (.lst ys)) M (.lst (vs3++ys)) M=some (.lst (vs3++ys)):=qab;have k9:KeepN (Nw (Nw (qbL H) L) M) (upd H7 D (.lst ys)) (upd (upd H7 D (.lst ys)) M (.lst (vs3++ys))):=keep_nw;obtain⟨bs,hl,nds⟩:=B5;have hl9:=k9 _ _ nl (k78 _ _ hl);refine⟨_,rfl,tt,_,_,_,rfl,rfl,SqT.of et8,rfl,_,rfl,(by show 2≤sizeLine;decide),fun t ht=>?_⟩;have k10:=qad ht (.tup [.ref l,.ref M]);refine q t l M _ (s9.trans k10) (s9.none ht) qab nl.1.1 ⟨bs,k10 _ _ hl9,nds.keep ((k78.keep.trans k9).trans k10.keep) fun _ n _=>n.1.1⟩ hM0 ⟨vs3++ys,k10 _ _ hM9,?_⟩ nl.2;exact qbd (ms3.mono fun v p h=>MdAt.keep h ((k5.trans k78).keep.trans (k9.trans k10.keep)) fun _ n _=>n.1.1) (pa.mono fun v p h=>MdAt.keep h (k8.keep.trans (k9.trans k10.keep)) fun _ n _=>n.1.1)
end
end K08
namespace Gen
open PySem L2 Bk Builtin Builtin.Str
theorem qeg(a b n:Nat):strSliceIndices (some (a:Int)) (some (b:Int)) 1 n=strSliceIndices (some ((min a n:Nat):Int)) (some ((min b n:Nat):Int)) 1 n:=by
 unfold strSliceIndices;have h1:∀m:Nat,¬((m:Int)<0):=fun m=>by omega
 have h2:∀m:Nat,max (0:Int) (min (m:Int) (n:Int))=max (0:Int) (min ((min m n:Nat):Int) (n:Int)):=fun m=>by omega
 simp only[h1,if_false,show((1:Int)>0)from by decide,if_true];rw[h2 a,h2 b]
theorem qcS(x:Str)(a b:Nat)(h:a≤b):Txt.slice x (some (a:Int)) (some (b:Int))=mkS ((x.cps.toList.drop a).take (b-a)):=by
 have e:Txt.slice x (some (a:Int)) (some (b:Int))=StrLaws.sliceText x (some ((min a x.length:Nat):Int)) (some ((min b x.length:Nat):Int)):=by
  unfold Txt.slice StrLaws.sliceText;rw[qeg]
 rw[e,StrLaws.sliceText_nat x (by omega) (by omega)];have lx:=qaP x
 congr 2
 by_cases ha:a≤x.length
 ·rw[Nat.min_eq_left ha]
  by_cases hb:b≤x.length
  ·rw[Nat.min_eq_left hb]
  ·rw[Nat.min_eq_right (by omega),List.take_of_length_le (by rw[List.length_drop];omega),List.take_of_length_le (by rw[List.length_drop];omega)]
 ·rw[List.drop_of_length_le (by omega),List.drop_of_length_le (by omega),List.take_nil,List.take_nil]
theorem qbw(x:Str)(a:Nat):Txt.slice x (some (a:Int)) none=mkS (x.cps.toList.drop a):=by
 have e:Txt.slice x (some (a:Int)) none=Txt.slice x (some (a:Int)) (some (x.length:Int)):=by
  unfold Txt.slice;rw[StrLaws.sliceIdx_none_hi]
 rw[e];have lx:=qaP x
 by_cases ha:a≤x.length
 ·rw[qcS x a x.length ha,List.take_of_length_le (by rw[List.length_drop];omega)]
 ·have e2:Txt.slice x (some (a:Int)) (some (x.length:Int))=Txt.slice x (some (a:Int)) (some (a:Int)):=by
   unfold Txt.slice;rw[qeg,qeg a a,Nat.min_self,Nat.min_eq_right (by omega)]
  rw[e2,qcS x a a (Nat.le_refl _),Nat.sub_self,List.take_zero,List.drop_of_length_le (by omega)]
theorem qcs(x:Str)(a:Nat):Txt.slice x none (some (a:Int))=mkS (x.cps.toList.take a):=by
 have e:Txt.slice x none (some (a:Int))=Txt.slice x (some ((0:Nat):Int)) (some (a:Int)):=by
  unfold Txt.slice;rw[StrLaws.sliceIdx_none_lo];rfl
 rw[e,qcS x 0 a (Nat.zero_le _),List.drop_zero,Nat.sub_zero]
theorem slice_last{x:Str}(h:1≤x.length):Txt.slice x (some (-1)) none=mkS (x.cps.toList.drop (x.length-1)):=by
 have e:Txt.slice x (some (-1)) none=Txt.slice x (some ((x.length-1:Nat):Int)) none:=by
  show StrLaws.sliceText _ _ _=StrLaws.sliceText _ _ _;rw[StrLaws.sliceText_neg_lo x none (by decide) (by omega)]
  congr 2
  omega
 rw[e,qbw]
end Gen
namespace L2
open PySem PySem.Spec PyProof.Rows
def rNotIn2:R2:=fun x y H Q=>∃(p a b:Addr) (d e1 e2:PySem.W.Dat),y=.ref p∧H p=some (.lst [.ref a,.ref b])∧a≠b∧DIn H x d∧DIn H (.ref a) e1∧DIn H (.ref b) e2∧PySem.W.kqdOk 9 d=true∧PySem.W.kqdOk 9 e1=true∧PySem.W.kqdOk 9 e2=true ∧
 (d=e1∨d=e2→Q (.bl false) H)∧(d≠e1→d≠e2→Q (.bl true) H)
open Classical in
theorem op_notIn2{X:Cx}(hu:X.A.units+66<cLine):OpR X (compareOp .NotIn) rNotIn2:=by
 intro pins s σ H x y v u Q I rx ry h;obtain⟨p,a,b,d,e1,e2,rfl,hp,ne,h0,h1,h2,k0,k1,k2,q1,q2⟩:=h;cases ry;obtain⟨z,its,n,r,hl,e⟩:=I.lstM hp;obtain⟨as,r0⟩:=qbB I.hok 9 h0 rx k0;cases r with
 | @cons _ w1 _ r' ra rr =>
 cases rr with
 | @cons _ w2 _ r'' rb rr =>
 cases rr;have ra:w1=Value.ref a:=ra;have rb:w2=Value.ref b:=rb;subst ra rb;obtain⟨as1,r1⟩:=qbB I.hok 9 h1 (rfl:RelV (.ref a) (.ref a)) k1;obtain⟨as2,r2⟩:=qbB I.hok 9 h2 (rfl:RelV (.ref b) (.ref b)) k2;have hu1:X.A.in1.units+64<cLine:=by show X.A.units+1+64<cLine;omega
 have q1':=SeqAt.eqAt_reads _ _ X.A.in1 s _ _ _ _ r1 r0 (SeqAt.canLay_of_shaped (qbe k1)) (SeqAt.canLay_of_shaped (qbe k0)) (SeqAt.room_of_shaped (qbe k1) hu1);have q2':=SeqAt.eqAt_reads _ _ X.A.in1 s _ _ _ _ r2 r0 (SeqAt.canLay_of_shaped (qbe k2)) (SeqAt.canLay_of_shaped (qbe k0)) (SeqAt.room_of_shaped (qbe k2) hu1);rw[qet k1 k0]at q1';rw[qet k2 k0]at q2';have nv:(Value.ref b)≠Value.ref a:=fun z=>ne (by injection z with z;exact z.symm)
 refine SeqAt.notIn_listAt (fun w=>if w=Value.ref a then decide (e1=d)else decide (e2=d)) (items:=[Value.ref a,Value.ref b].toArray) ⟨_,e,rfl,n,rfl⟩ (fun w hw=>?_) ⟨.bl _,H,I,rfl,?_⟩
 ·have hw:w=Value.ref a∨w=Value.ref b:=by simpa using hw
  rcases hw with rfl | rfl
  ·rw[if_pos rfl];exact q1'
  ·rw[if_neg nv];exact q2'
 ·have ev:([Value.ref a,Value.ref b].toArray.any fun w=>if w=Value.ref a then decide (e1=d)else decide (e2=d))=(decide (e1=d) || decide (e2=d)):=by
   rw[List.any_toArray];show((if Value.ref a=Value.ref a then decide (e1=d)else decide (e2=d)) || ((if Value.ref b=Value.ref a then decide (e1=d)else decide (e2=d)) || false))=_;rw[if_pos rfl,if_neg nv,Bool.or_false]
  rw[ev]
  by_cases z1:d=e1
  ·rw[decide_eq_true z1.symm];exact q1 (.inl z1)
  ·rw[decide_eq_false (fun z=>z1 z.symm)]
   by_cases z2:d=e2
   ·rw[decide_eq_true z2.symm];exact q1 (.inr z2)
   ·rw[decide_eq_false (fun z=>z2 z.symm)];exact q2 z1 z2
end L2
namespace Gen
open PySem L2 Bk
def allB(x sg:Str):Bool:=!decide (x=noName) && (x.cps.toList.map fun c=>decide (c∈sg.cps.toList)).all id
theorem qeb{α:Type}(p:α→Bool):∀l:List α,(decide ((l.filter p).length=l.length))=(l.map p).all id
 | []=>rfl
 | x :: r => by
   have ih:=qeb p r
   have le:=List.length_filter_le p r
   rw[List.map_cons,List.all_cons,←ih]
   cases e:p x with
   | true =>
     rw[List.filter_cons_of_pos e,List.length_cons,List.length_cons]
     show _=(true && _)
     rw[Bool.true_and,Bool.eq_iff_iff,decide_eq_true_iff,decide_eq_true_iff]
     omega
   | false =>
     rw[List.filter_cons_of_neg (by rw[e];decide),List.length_cons]
     show _=(false && _)
     rw[Bool.false_and,decide_eq_false_iff_not]
     omega
theorem qb7(x:Str):x=noName↔x.length=0:=by
 constructor
 ·rintro rfl;decide +kernel
 ·intro h;apply qdN;rw[noName_nil];exact List.eq_nil_of_length_eq_zero (by rw[qaP];exact h)
theorem all_name(x:Str):(decide ((x.length:Int)≤8) && allB x small)=qbW x:=by
 unfold allB qbW
 by_cases h:x=noName
 ·have:=(qb7 x).mp h;rw[decide_eq_true h,decide_eq_false (fun z:1≤(x.length:Int)∧(x.length:Int)≤8=>by omega)];simp
 ·have:x.length≠0:=fun z=>h ((qb7 x).mpr z)
  rw[decide_eq_false h,Bool.not_false,Bool.true_and]
  congr 1
  rw[Bool.eq_iff_iff,decide_eq_true_iff,decide_eq_true_iff];omega
theorem all_word(x:Str):(decide ((x.length:Int)≤20) && allB x signs)=qcD x:=by
 unfold allB qcD;rw[signs_is]
 by_cases h:x=noName
 ·have:=(qb7 x).mp h;rw[decide_eq_true h,decide_eq_false (fun z:1≤(x.length:Int)∧(x.length:Int)≤20=>by omega)];simp
 ·have:x.length≠0:=fun z=>h ((qb7 x).mpr z)
  rw[decide_eq_false h,Bool.not_false,Bool.true_and]
  congr 1
  rw[Bool.eq_iff_iff,decide_eq_true_iff,decide_eq_true_iff];omega
def qbF(x:Str):Nat:=(x.cps.toList.takeWhile (·== 42)).length
theorem stars_len(x:Str):(x.length:Int)-(thing x).length=(qbF x:Nat):=by
 have h1:=qdI (·== 42) x.cps.toList;have h2:=qbc (·== 42) x.cps.toList;rw[qaP]at h1 h2;unfold qbF thing;omega
theorem qc4(x:Str):x.cps.toList.drop (qbF x)=thing x:=qa6 _ _
def braces:List Nat:=[123,125]
theorem T_braces:(T "{}").cps.toList=braces:=by decide +kernel
theorem is_braces{x:Str}:x=T "{}" ↔ x.cps.toList=braces:=by
 constructor
 ·rintro rfl;exact T_braces
 ·intro h;exact qdN (by rw[T_braces];exact h)
def qgx(x:Str):Bool :=
 if thing x=braces then decide (qbF x=0)
 else if(thing x).head?=some 123 then decide (qbF x<4) && (decide ((thing x).getLast?=some 125) && qbW (mkS (qej (thing x))))
 else decide (qbF x<4) && qcD (mkS (thing x))
theorem name_empty:qbW (mkS (qej braces))=false:=by decide +kernel
theorem word_brace{l:List Nat}(h:l.head?=some 123):qcD (mkS l)=false:=by
 rw[Bool.eq_false_iff];intro z;have w:=(wordB_iff.mp z).2.2;cases l with
 | nil=>cases h
 | cons a r =>
   have:a=123:=Option.some.inj h
   subst this
   exact absurd (w 123 (by simp)) (by decide)
theorem qfj(x:Str):decide (0≤(x.length:Int)-(thing x).length∧(x.length:Int)-(thing x).length≤3)=decide (qbF x<4):=by
 rw[stars_len,Bool.eq_iff_iff,decide_eq_true_iff,decide_eq_true_iff];omega
theorem pieceL_is(x:Str):qgx x=(qat x).isSome:=by
 unfold qgx qat;have sx:(x.cps.toList=braces)↔(qbF x=0∧thing x=braces):=by
  constructor
  ·intro h;unfold qbF thing;rw[h];decide
  ·rintro⟨h1,h2⟩;rw[←qc4,h1]at h2;exact h2
 by_cases hb:thing x=braces
 ·rw[if_pos hb]
  by_cases h0:qbF x=0
  ·rw[decide_eq_true h0,if_pos (is_braces.mpr (sx.mpr ⟨h0,hb⟩))];rfl
  ·rw[decide_eq_false h0,if_neg (fun z=>h0 (sx.mp (is_braces.mp z)).1)];have:pieceB (qbE x)=false:=by
    unfold qbE;rw[hb,if_pos ⟨rfl,rfl⟩];show(decide _ && qbW _)=false;rw[name_empty,Bool.and_false]
   rw[this];rfl
 ·rw[if_neg hb,if_neg (fun z=>hb (sx.mp (is_braces.mp z)).2)];have fin:∀b:Bool,∀t:Th,(if b=true then some t else none).isSome=b:=fun b t=>by cases b<;>rfl
  rw[fin]
  by_cases h1:(thing x).head?=some 123
  ·rw[if_pos h1];unfold qbE
   by_cases h2:(thing x).getLast?=some 125
   ·rw[if_pos ⟨h1,h2⟩,decide_eq_true h2,Bool.true_and];show _=(decide _ && qbW _);rw[qfj]
   ·rw[if_neg (fun z=>h2 z.2),decide_eq_false h2,Bool.false_and,Bool.and_false];show _=(decide _ && qcD _);rw[word_brace h1,Bool.and_false]
  ·rw[if_neg h1];unfold qbE;rw[if_neg (fun z=>h1 z.1)];show _=(decide _ && qcD _);rw[qfj]
def qck(x:Str):Bool:=decide (1≤qa4 x∧qa4 x≤2000)
theorem side_bad{x:Str}(h:qcr x=false):qck x=false:=by
 unfold qck qa4;rw[h];rfl
theorem fold_pos:∀(l:List Nat) (a:Nat),a≤l.foldl (fun u d=>u*10+d) a
 | [],a=>Nat.le_refl _
 | d :: r, a => by
   have:=fold_pos r (a*10+d)
   rw[List.foldl_cons]
   omega
theorem side_good{x:Str}(h:qcr x=true):qck x=decide ((numI x.cps.toList:Int)≤2000):=by
 unfold qck qa4;rw[h,if_pos rfl];have p:1≤numI x.cps.toList:=by
  unfold qcr at h;rw[Bool.and_eq_true,Bool.and_eq_true,decide_eq_true_iff,Bool.not_eq_true',decide_eq_false_iff_not,all_map]at h;obtain⟨⟨h1,h2⟩,h3⟩:=h;cases e:x.cps.toList with
  | nil=>rw[←qaP,e]at h1;simp at h1
  | cons a r =>
    rw[e]at h2 h3
    have fa:=qga (of_decide_eq_true (h3 a List.mem_cons_self))
    unfold Fig at fa
    have na:a≠48:=fun z=>h2 (by rw[z];rfl)
    unfold numI
    rw[List.map_cons,List.foldl_cons]
    have:=fold_pos (r.map (·- 48)) (0*10+(a-48))
    omega
 rw[Bool.eq_iff_iff,decide_eq_true_iff,decide_eq_true_iff];omega
def spLawAll:Sp:=fun vs H Q _=>∃x sg:Str,vs=[.str x,.str sg]∧Low x∧x.length≤1000∧∀H',Same H H'→Q (.bl (allB x sg)) H'
def spLawPieceB:Sp:=fun vs H Q _=>∃x:Str,vs=[.str x]∧Low x∧x.length≤1000∧∀H',Same H H'→Q (.bl (qat x).isSome) H'
def spLawSide:Sp:=fun vs H Q _=>∃x:Str,vs=[.str x]∧Low x∧x.length≤1000∧∀H',Same H H'→Q (.bl (qck x)) H'
def spLawIsRow:Sp:=fun vs H Q _=>∃x:Str,vs=[.str x]∧RowOk x∧∀H',Same H H'→Q (.bl (qaG x).isSome) H'
def qce(ms:List (Int×Str)):Nat→Int
 | 0=>0
 | i+1=>((ms[i]?).map (·.1)).getD 0
def OkM(ms:List (Int×Str)):Prop:=∀i m,ms[i]?=some m→(m.1=-1∨qce ms i≤m.1)∧(qce ms i=-1→m.1=-1)
def qaM(ms:List (Int×Str)):List Int:=(ms.filter fun m=>decide (m.2=T "form")).map (·.1)
def spFormed:Sp:=fun vs H Q _=>∃(l:Addr) (ms:List (Int×Str)) (n:Int) (N:Addr→Prop),vs=[.ref l,.int n]∧qeh N H l ms∧ms.length≤2000∧OkM ms∧(qaM ms=[]∨qaM ms=[n])∧∀H',Same H H'→Q (.bl (decide (qaM ms=[]))) H'
end Gen
namespace Gen
open PySem L2 Bk
theorem qev{x:Str}{ws:List Str}(hw:qaL x=ws)(ha:qbD (qaY ws)=true):(qaG x).isSome=match kindOf (ws.headD noName)with
  | none=>false
  | some k=>!(!qaF k && decide (qaB ws<ws.length)) && (qaK k (qa3 ws)).isSome:=by
 unfold qaG;rw[hw,ha];cases kindOf (ws.headD noName)with
 | none=>rfl
 | some k =>
   dsimp only
   rw[Bool.not_true,Bool.false_or]
   cases(!qaF k && decide (qaB ws<ws.length))with
   | true=>rfl
   | false =>
     rw[if_neg (by decide),Bool.not_false,Bool.true_and]
     cases qaK k (qa3 ws)<;>rfl
theorem qfC{x:Str}{ws:List Str}(hw:qaL x=ws)(ha:qbD (qaY ws)=false):(qaG x).isSome=false:=by
 unfold qaG;rw[hw,ha];cases kindOf (ws.headD noName)with
 | none=>rfl
 | some k=>rfl
theorem labs_take(ws:List Str):(ws.take (qaB ws)).drop 1=qaY ws:=by
 unfold qaY;rw[List.drop_take]
theorem stuff_pic2(rest:List Str):(qaK .picture rest).isSome=(decide (rest.length=2) && (rest.map qck).all id):=by
 unfold qaK;rw[if_pos rfl]
 by_cases h2:rest.length=2
 ·have e:=qeY (st:=rest.map fun x=>Th.int (qa4 x)) (by rw[List.length_map];exact h2);rw[List.map_map,show(sideB∘fun x=>Th.int (qa4 x))=qck from rfl]at e;rw[decide_eq_true h2,Bool.true_and]
  by_cases hs:Stuff .picture (rest.map fun x=>Th.int (qa4 x))
  ·rw[if_pos hs,e.mpr hs];rfl
  ·rw[if_neg hs];symm;rw[Option.isSome_none,Bool.eq_false_iff];exact fun z=>hs (e.mp z)
 ·rw[decide_eq_false h2,Bool.false_and,if_neg]
  ·rfl
  ·rintro⟨a,b,e,_⟩;have:=congrArg List.length e;rw[List.length_map]at this;exact h2 this
theorem qeJ(k:Kd)(rest:List Str)(hk:k∈[Kd.text,.head,.note]):(qaK k rest).isSome=(decide (rest≠[]) && (rest.map fun x=>(qat x).isSome).all id):=by
 have np:k≠.picture:=by rintro rfl;exact absurd hk (by decide)
 have hs:qaF k=true:=by unfold qaF;rw[decide_eq_true hk,Bool.or_true]
 unfold qaK;rw[if_neg np,hs];have e1:(rest.map qat).any Option.isNone=!(rest.map fun x=>(qat x).isSome).all id:=by
  induction rest with
  | nil=>rfl
  | cons y r ih =>
    rw[List.map_cons,List.map_cons,List.any_cons,List.all_cons,ih]
    cases qat y<;>simp
 rw[e1];cases rest with
 | nil=>rfl
 | cons y r =>
   rw[decide_eq_true (by simp:(y::r)≠[]),decide_eq_true (by simp:0<(y::r).length)]
   cases(((y::r).map fun x=>(qat x).isSome).all id)<;>rfl
theorem qdo(k:Kd)(rest:List Str)(h:qaF k=false)(e:rest=[]):(qaK k rest).isSome=true:=by
 have np:k≠.picture:=by rintro rfl;cases h
 subst e;unfold qaK;rw[if_neg np,h];rfl
theorem rest_nil{ws:List Str}(h:qaB ws=ws.length):qa3 ws=[]:=by
 unfold qa3;rw[h];exact List.drop_of_length_le (by omega)
theorem qfK{x:Str}(k:Kd)(hk:k∈kindsAll):decide (V.str x=V.str k.s)=decide (kindOf x=some k):=by
 rw[Bool.eq_iff_iff,decide_eq_true_iff,decide_eq_true_iff];constructor
 ·intro z;rw[V.str.inj z];have all:∀k∈kindsAll,kindOf k.s=some k:=by decide +kernel
  exact all k hk
 ·intro z;rw[(qbU z).1]
theorem qf2{x:Str}(ks:List Kd)(hk:∀k∈ks,k∈kindsAll):inV (.str x) (ks.map fun k=>V.str k.s)=decide (∃k∈ks,kindOf x=some k):=by
 unfold inV;rw[Bool.eq_iff_iff,List.any_eq_true,decide_eq_true_iff];constructor
 ·rintro⟨v,hv,e⟩;obtain⟨k,hk',rfl⟩:=List.mem_map.mp hv;have e:(k.s == x)=true:=e;refine⟨k,hk',?_⟩;have:=qfK (x:=x) k (hk k hk');rw[decide_eq_true (by rw[eq_of_beq e])]at this;exact of_decide_eq_true this.symm
 ·rintro⟨k,hk',e⟩;exact⟨_,List.mem_map_of_mem hk',by show(k.s == x)=true;rw[(qbU e).1];simp⟩
end Gen
namespace K08
open PySem L2 Bk Gen
abbrev sAllL:Stmt:=top 84
abbrev sNameL:Stmt:=top 85
abbrev sPieceL:Stmt:=top 86
abbrev sSideL:Stmt:=top 87
abbrev sRowL:Stmt:=top 88
abbrev sFormed:Stmt:=top 89
section
variable{P:Program}{w:World}{K:PySem.W.Frag}{mg:Str→Option Value}{base:Heap}
theorem scAllL:FnScope ["_law_text", "_law_signs"] ["_law_text", "_law_signs"] (qag sAllL):=⟨rfl,rfl,rfl,by decide +kernel,rfl,by decide +kernel,by decide +kernel⟩
theorem ok_all{f:Addr}{fd:FuncData}(F:Fun K "_law_all" "_law_all" sAllL f fd)(T:Bn mg):FnOk P w K mg base CX0 1 f fd ["_law_text", "_law_signs"] spLawAll:=by
 refine F.ok scAllL (fun vs H Q E h=>?_) (fun cdv A outer s H vs Q E hr h=>?_)
 ·obtain⟨x,sg,rfl,_⟩:=h;rfl
 ·obtain⟨x,sg,rfl,lo,le,q⟩:=h;have zl:=qaC le;refine⟨_,(qae (qak (qbu (qaI op_ne (pv 0) qah (qam _)) (qbS (qaI op_eq (qal call_len_seq (by rfl) T.len b_len (qaa (qbh (own:=["_law_sign"]) (by rfl) (ix:=[1]) (frees:=["_law_signs"]) (CompScope.frees (by rfl) (by decide +kernel) (by decide +kernel) (by decide +kernel) (by rfl) (by decide +kernel) (by first | exact qfg (by rfl) | exact free2 (by rfl) (by rfl))) (qfO (pv 0)) (fun cl C s2 H2 fp=>(qax (i:=0) (by show(["_law_sign", "_law_signs"]:List Str).Nodup;decide +kernel) (by rfl) (by trivial) (by trivial))) (fun cl C s2 H2 fp=>(qb3 (qaj qdH (pv 0) (pv 1) (by with_unfolding_all rfl)))) (fun cl C s2 H2 fp=>(pv 0))) pa_nil)) (qal call_len_str (by rfl) T.len b_len (qaa (pv 0) pa_nil)) (qam _)))))),?_⟩;refine⟨_,rfl,rfl,_,rfl,?_⟩;rw[show decide (V.str x=V.str (Str.ofString ""))=decide (x=noName)from nmt x];unfold allB at q
  by_cases h:x=noName
  ·rw[decide_eq_true h]at q⊢;exact iteF (q H (Same.refl H))
  rw[decide_eq_false h]at q⊢;rw[Bool.not_false,Bool.true_and]at q;refine iteT ⟨_,rfl,x,rfl,lo,qdl (fun i ys σ' H'=>H'=H∧ys=((x.cps.toList.take i).filter fun c=>decide (c∈sg.cps.toList)).map (fun c=>V.str ⟨#[c]⟩)∧∃z,σ'=[z,some (.str sg)]) zl ⟨rfl,rfl,none,rfl⟩ ?_ ?_ ?_⟩
  ·rintro i ys σ' H' hi ⟨rfl,rfl,_⟩;rw[List.length_map];exact Nat.le_trans (List.length_filter_le ..) (by rw[List.length_take];omega)
  ·rintro i c ys σ' H' hc ⟨rfl,rfl,z,rfl⟩;have hc':x.cps.toList[i]?=some c:=by simpa using hc
   refine⟨_,rfl,_,rfl,c,sg,rfl,rfl,_,rfl,?_⟩;rw[if_neg Bool.false_ne_true,List.take_succ,hc',Option.toList_some,List.filter_append,List.map_append]
   by_cases hm:c∈sg.cps.toList
   ·rw[decide_eq_true hm];exact iteT ⟨_,rfl,rfl,by rw[show([c].filter fun c=>decide (c∈sg.cps.toList))=[c]from List.filter_cons_of_pos (decide_eq_true hm)];rfl,_,rfl⟩
   ·rw[decide_eq_false hm];exact iteF ⟨rfl,by rw[show([c].filter fun c=>decide (c∈sg.cps.toList))=[]from List.filter_cons_of_neg (by rw[decide_eq_false hm];decide),List.map_nil,List.append_nil],_,rfl⟩
  ·rintro ys σ' H' ⟨rfl,rfl,_⟩ D hD;have eT:x.cps.toList.take x.cps.size=x.cps.toList:=List.take_of_length_le (by rw[qaP];exact Nat.le_refl _);rw[eT];refine⟨D,_,rfl,.inl (SqL.of qab),_,rfl,x,rfl,Nat.le_of_lt zl,rfl,?_⟩;rw[List.length_map];have e:decide (V.int ((x.cps.toList.filter fun c=>decide (c∈sg.cps.toList)).length:Nat)=V.int (x.length:Nat))=(x.cps.toList.map fun c=>decide (c∈sg.cps.toList)).all id:=by
    rw[←qeb,qaP,Bool.eq_iff_iff,decide_eq_true_iff,decide_eq_true_iff];constructor
    ·intro z;have:=V.int.inj z;omega
    ·intro z;rw[z]
   rw[e];exact q _ (qad hD _)
theorem scNameL:FnScope ["_law_text"] ["_law_text"] (qag sNameL):=⟨rfl,rfl,rfl,by decide +kernel,rfl,by decide +kernel,by decide +kernel⟩
theorem ok_law_is_name{f:Addr}{fd:FuncData}(F:Fun K "_law_is_name" "_law_is_name" sNameL f fd)(T:Bn mg)(F_all:Fx P w K mg base CX0 1 "_law_all" ["_law_text", "_law_signs"] spLawAll):FnOk P w K mg base CX0 2 f fd ["_law_text"] spNameB:=by
 refine F.ok scNameL (fun vs H Q E h=>?_) (fun cdv A outer s H vs Q E hr h=>?_)
 ·obtain⟨x,rfl,_⟩:=h;rfl
 ·obtain⟨x,rfl,lo,le,q⟩:=h;have zl:=qaC le;have hr_all:=hr;refine⟨_,(qae (qak (qbu (qaI op_le (qal call_len_str (by rfl) T.len b_len (qaa (pv 0) pa_nil)) qaf (qam _)) (qbS (qar F_all hr_all (by rfl) qas (qaa (pv 0) (qaa qah pa_nil))))))),?_⟩;refine⟨_,rfl,x,rfl,Nat.le_of_lt zl,_,_,rfl,rfl,_,rfl,?_⟩;rw[←all_name]at q
  by_cases h:(x.length:Int)≤8
  ·rw[decide_eq_true h]at q⊢;rw[Bool.true_and]at q;exact iteT ⟨_,rfl,x,small,rfl,lo,le,q⟩
  ·rw[decide_eq_false h]at q⊢;exact iteF (q H (Same.refl H))
theorem scPieceL:FnScope ["_law_text", "_law_tone", "_law_body", "_law_signs"] ["_law_text"] (qag sPieceL):=⟨rfl,rfl,rfl,by decide +kernel,rfl,by decide +kernel,by decide +kernel⟩
theorem ok_law_is_piece{f:Addr}{fd:FuncData}(F:Fun K "_law_is_piece" "_law_is_piece" sPieceL f fd)(T:Bn mg)(F_all:Fx P w K mg base CX0 1 "_law_all" ["_law_text", "_law_signs"] spLawAll)(F_law_is_name:Fx P w K mg base CX0 2 "_law_is_name" ["_law_text"] spNameB):FnOk P w K mg base CX0 3 f fd ["_law_text"] spLawPieceB:=by
 refine F.ok scPieceL (fun vs H Q E h=>?_) (fun cdv A outer s H vs Q E hr h=>?_)
 ·obtain⟨x,rfl,_⟩:=h;rfl
 ·obtain⟨x,rfl,lo,le,q⟩:=h;have zl:=Nat.le_of_lt (qaC le);have hr_all:Room 1 _:=hr.mono (by decide);have hr_law_is_name:=hr;have tl:(thing x).length≤x.length:=by
   have:=qbc (·== 42) x.cps.toList;rw[qaP]at this;exact this
  have lo1:Low (mkS (thing x)):=qdn lo fun n hn=>(List.dropWhile_suffix _).subset hn
  rw[←pieceL_is]at q;have xl:=qaP x;refine⟨_,(qac (qan (i:=1) scPieceL.nd (by rfl) (by trivial) qaf)
   (qac (qdb PassesOwn.never (qaj op_eq (qav sl_str (pv 0) (qaz (pv 1)) (qaz (qaE op_add (pv 1) qaf))) qah (qam _)) (qae (qan (i:=1) scPieceL.nd (by rfl) (by trivial) (qaE op_add (pv 1) qaf))))
   (qac (qan (i:=2) scPieceL.nd (by rfl) (by trivial) (qav sl_str (pv 0) (qaz (pv 1)) po_none))
   (qac (qaH (qaj op_eq (pv 2) qah (qam _)) (qae (qak (qaI op_eq (pv 1) qaf (qam _)))) pss_nil)
   (qac (qaH (qaj op_eq (qav sl_str (pv 2) po_none (qaz qaf)) qah (qam _)) (qae (qak (qbu (qaI op_lt (pv 1) qaf (qam _)) (qbu (qaI op_eq (qav sl_str (pv 2) (qaz (qcY un_neg qaf)) po_none) qah (qam _)) (qbS (qar F_law_is_name hr_law_is_name (by rfl) qas (qaa (qav sl_str (pv 2) (qaz qaf) (qaz (qcY un_neg qaf))) pa_nil))))))) pss_nil)
   (qac (qan (i:=3) scPieceL.nd (by rfl) (by trivial) qah)
   (qae (qak (qbu (qaI op_lt (pv 1) qaf (qam _)) (qbu (qaI op_le (qal call_len_str (by rfl) T.len b_len (qaa (pv 2) pa_nil)) qaf (qam _)) (qbS (qar F_all hr_all (by rfl) qas (qaa (pv 2) (qaa (pv 3) pa_nil)))))))))))))),?_⟩
  have sl:qbF x≤x.length:=by
   have:qbF x≤x.cps.toList.length:=(List.takeWhile_prefix _).length_le;omega
  refine⟨fun m σ' H'=>∃i:Nat,σ'=[some (.str x),some (.int (i:Nat)),none,none]∧H'=H∧i≤qbF x∧m=qbF x-i,⟨_,0,rfl,rfl,Nat.zero_le _,rfl⟩,?_⟩;rintro m σ' H' ⟨i,rfl,rfl,hi,rfl⟩;refine⟨_,rfl,_,rfl,_,rfl,_,rfl,_,_,rfl,rfl,_,rfl,x,rfl,zl,rfl,_,rfl,?_⟩;have es:Txt.slice x (some (i:Nat)) (some ((i:Nat)+1))=mkS ((x.cps.toList.drop i).take 1):=by
   have:=qcS x i (i+1) (by omega);rw[show i+1-i=1 by omega]at this;exact this
  dsimp only;rw[es]
  by_cases hs:i<qbF x
  ·have e42:mkS ((x.cps.toList.drop i).take 1)=Str.ofString "*":=by
    rw[show Str.ofString "*" = mkS [42]from sg_star];have hi2:i<x.cps.toList.length:=by omega
    rw[List.drop_eq_getElem_cons hi2];have hm:x.cps.toList[i]=42:=by
     have h1:(x.cps.toList.takeWhile (·== 42))[i]?=x.cps.toList[i]?:=by
      obtain⟨t,ht⟩:=List.takeWhile_prefix (p:=(·== 42)) (l:=x.cps.toList);rw[←List.getElem?_append_left (l₂:=t) hs,ht]
     rw[List.getElem?_eq_getElem hs,List.getElem?_eq_getElem hi2]at h1;have h2:=Option.some.inj h1;have:=List.all_takeWhile (p:=(·== 42)) (l:=x.cps.toList);rw[List.all_eq_true]at this;have:=this _ (List.getElem_mem hs);rw[h2]at this;simpa using this
    rw[hm];rfl
   rw[decide_eq_true (by rw[e42]:V.str (mkS ((x.cps.toList.drop i).take 1))=V.str (Str.ofString "*"))];refine iteT ⟨fun σ' H2=>∃i':Nat,i'=i+1∧σ'=[some (.str x),some (.int (i':Nat)),none,none]∧H2=H',?_,?_⟩
   ·rintro σ' H2 ⟨i',rfl,rfl,rfl⟩;exact⟨qbF x-(i+1),by omega,i+1,rfl,rfl,by omega,rfl⟩
   ·exact⟨_,rfl,_,_,rfl,rfl,i+1,rfl,rfl,rfl⟩
  have ei:i=qbF x:=by omega
  subst ei;have n42:mkS ((x.cps.toList.drop (qbF x)).take 1)≠Str.ofString "*":=by
   rw[qc4,show Str.ofString "*" = mkS [42]from sg_star];intro z;have z:((thing x).take 1)=[42]:=by
    have:=congrArg (fun y:Str=>y.cps.toList) z;simpa using this
   have hd:=List.head?_dropWhile_not (·== 42) x.cps.toList;rw[show x.cps.toList.dropWhile (·== 42)=thing x from rfl]at hd;cases e:thing x with
   | nil=>rw[e]at z;cases z
   | cons a r =>
     rw[e]at z hd
     have:a=42:=by simpa using z
     subst this
     simp at hd
  rw[decide_eq_false (fun z=>n42 (V.str.inj z):¬V.str (mkS ((x.cps.toList.drop (qbF x)).take 1))=V.str (Str.ofString "*"))];refine iteF ⟨_,rfl,_,rfl,_,rfl,x,rfl,zl,?_⟩;rw[qbw,qc4];generalize ht:thing x=t at *;have lt:(mkS t).length≤sizeLine:=Nat.le_trans tl zl;have lt1:(mkS t).length≤1000:=Nat.le_trans tl le;have tlen:(mkS t).length=t.length:=rfl;refine⟨_,rfl,rfl,_,rfl,?_⟩;have q2:=q;unfold qgx at q2;rw[ht]at q2
  by_cases hb:t=braces
  ·rw[decide_eq_true (by rw[hb];exact congrArg V.str (qdN T_braces.symm):V.str (mkS t)=V.str (Str.ofString "{}"))];rw[if_pos hb]at q2;refine iteT ⟨_,rfl,rfl,?_⟩;have e:decide (V.int (qbF x:Nat)=V.int 0)=decide (qbF x=0):=by
    rw[Bool.eq_iff_iff,decide_eq_true_iff,decide_eq_true_iff];constructor
    ·intro z;have:=V.int.inj z;omega
    ·intro z;rw[z];rfl
   rw[e];exact q2 _ (Same.refl _)
  rw[decide_eq_false (fun z=>hb (by have:=congrArg (fun y:Str=>y.cps.toList) (V.str.inj z);rw[show(Str.ofString "{}").cps.toList=braces from T_braces]at this;exact this):¬V.str (mkS t)=V.str (Str.ofString "{}"))];rw[if_neg hb]at q2;refine iteF ⟨_,rfl,1,rfl,mkS t,rfl,lt,rfl,_,rfl,?_⟩;rw[show Txt.slice (mkS t) none (some 1)=mkS (t.take 1)from qcs (mkS t) 1];have eh:decide (V.str (mkS (t.take 1))=V.str (Str.ofString "{"))=decide (t.head?=some 123):=by
   rw[Bool.eq_iff_iff,decide_eq_true_iff,decide_eq_true_iff,show Str.ofString "{" = mkS [123]from sg_open];constructor
   ·intro z;have z:t.take 1=[123]:=by
     have:=congrArg (fun y:Str=>y.cps.toList) (V.str.inj z);simpa using this
    cases t with
    | nil=>cases z
    | cons a r=>simpa using z
   ·intro z;cases t with
    | nil=>cases z
    | cons a r =>
      have:a=123:=Option.some.inj z
      rw[this]
      rfl
  rw[eh];have e4:decide ((qbF x:Nat)<(4:Int))=decide (qbF x<4):=by
   rw[Bool.eq_iff_iff,decide_eq_true_iff,decide_eq_true_iff];omega
  by_cases h1:t.head?=some 123
  ·rw[decide_eq_true h1];rw[if_pos h1]at q2;have t1:1≤t.length:=by
    cases t with
    | nil=>cases h1
    | cons=>simp
   refine iteT ⟨_,rfl,_,_,rfl,rfl,_,rfl,?_⟩;rw[e4]
   by_cases h4:qbF x<4
   rotate_left
   ·rw[decide_eq_false h4]at q2⊢;exact iteF (q2 _ (Same.refl _))
   rw[decide_eq_true h4]at q2⊢;rw[Bool.true_and]at q2;refine iteT ⟨_,rfl,_,rfl,-1,rfl,mkS t,rfl,lt,rfl,_,rfl,?_⟩;rw[slice_last (x:=mkS t) t1];have el:decide (V.str (mkS ((mkS t).cps.toList.drop ((mkS t).length-1)))=V.str (Str.ofString "}"))=decide (t.getLast?=some 125):=by
    rw[Bool.eq_iff_iff,decide_eq_true_iff,decide_eq_true_iff,show Str.ofString "}" = mkS [125]from sg_close];have ed:(mkS t).cps.toList.drop ((mkS t).length-1)=[t.getLast (by intro z;rw[z]at t1;cases t1)]:=by
     show t.drop (t.length-1)=_;rw[List.drop_eq_getElem_cons (show t.length-1<t.length by omega),List.getLast_eq_getElem,List.drop_of_length_le (by omega)]
    rw[ed,List.getLast?_eq_some_getLast (by intro z;rw[z]at t1;cases t1)];constructor
    ·intro z;have:=congrArg (fun y:Str=>y.cps.toList) (V.str.inj z);have:[t.getLast (by intro z;rw[z]at t1;cases t1)]=[125]:=by simpa using this
     rw[(List.cons.inj this).1]
    ·intro z;rw[Option.some.inj z]
   rw[el]
   by_cases h2:t.getLast?=some 125
   ·rw[decide_eq_true h2]at q2⊢;rw[Bool.true_and]at q2;refine iteT ⟨_,rfl,1,rfl,_,rfl,-1,rfl,mkS t,rfl,lt,mkS (qej t),?_,qdn lo1 (fun n hn=>List.mem_of_mem_drop (List.dropLast_subset _ hn)),?_,q2⟩
    ·rw[qfI (x:=mkS t) t1];rfl
    ·show(qej t).length≤1000;unfold qej;rw[List.length_dropLast,List.length_drop];omega
   ·rw[decide_eq_false h2]at q2⊢;exact iteF (q2 _ (Same.refl _))
  ·rw[decide_eq_false h1];rw[if_neg h1]at q2;refine iteF ?_;refine⟨_,rfl,_,_,rfl,rfl,_,rfl,?_⟩;rw[e4]
   by_cases h4:qbF x<4
   rotate_left
   ·rw[decide_eq_false h4]at q2⊢;exact iteF (q2 _ (Same.refl _))
   rw[decide_eq_true h4]at q2⊢;rw[Bool.true_and,←all_word]at q2;refine iteT ⟨_,rfl,mkS t,rfl,lt,_,_,rfl,rfl,_,rfl,?_⟩
   by_cases h5:((mkS t).length:Int)≤20
   ·rw[decide_eq_true h5]at q2⊢;rw[Bool.true_and]at q2;exact iteT ⟨_,rfl,_,rfl,mkS t,signs,rfl,lo1,lt1,q2⟩
   ·rw[decide_eq_false h5]at q2⊢;exact iteF (q2 _ (Same.refl _))
theorem scSideL:FnScope ["_law_text"] ["_law_text"] (qag sSideL):=⟨rfl,rfl,rfl,by decide +kernel,rfl,by decide +kernel,by decide +kernel⟩
theorem ok_is_side{f:Addr}{fd:FuncData}(F:Fun K "_law_is_side" "_law_is_side" sSideL f fd)(T:Bn mg)(F_all:Fx P w K mg base CX0 1 "_law_all" ["_law_text", "_law_signs"] spLawAll):FnOk P w K mg base CX0 2 f fd ["_law_text"] spLawSide:=by
 refine F.ok scSideL (fun vs H Q E h=>?_) (fun cdv A outer s H vs Q E hr h=>?_)
 ·obtain⟨x,rfl,_⟩:=h;rfl
 ·obtain⟨x,rfl,lo,le,q⟩:=h;have zl:=Nat.le_of_lt (qaC le);have hr_all:=hr;have xl:=qaP x;refine⟨_,(qac (qaH (PW.pt (qch (qbl (qaW (qar F_all hr_all (by rfl) qas (qaa (pv 0) (qaa qah pa_nil))))) (qch (qaj op_eq (qap ix_str (pv 0) qaf (fun _ _=>rfl)) qah (qam _)) (qbZ (qaj op_gt (qal call_len_str (by rfl) T.len b_len (qaa (pv 0) pa_nil)) qaf (qam _)))))) (qae (qak qc3)) pss_nil)
   (qae (qak (qaI op_le (qbV call_intS (by rfl) T.int b_int (qaa (pv 0) pa_nil)) qaf (qam _))))),?_⟩
  refine⟨_,rfl,x,figS,rfl,lo,le,fun H1 s1=>⟨_,rfl,?_⟩⟩;have bad:qcr x=false→Q (.bl false) H1:=fun e=>by
   have:=q H1 s1;rw[side_bad e]at this;exact this
  have so:qcr x=(decide (1≤x.length∧x.length≤4) && !decide (x.cps.toList.head?=some 48) && (x.cps.toList.map fun c=>decide (c∈figS.cps.toList)).all id):=rfl;cases ea:allB x figS with
  | false =>
    refine iteT (iteT (bad ?_))
    rw[so]
    unfold allB at ea
    by_cases hx:x=noName
    · rw[decide_eq_false (fun z:1≤x.length∧x.length≤4=>by have:=(qb7 x).mp hx;omega)]
      rfl
    · rw[decide_eq_false hx,Bool.not_false,Bool.true_and]at ea
      rw[ea,Bool.and_false]
  | true =>
    unfold allB at ea
    rw[Bool.and_eq_true]at ea
    have hx:x≠noName:=by
      intro z
      rw[decide_eq_true z]at ea
      exact absurd ea.1 (by decide)
    have l1:1≤x.length:=by
      have:x.length≠0:=fun z=>hx ((qb7 x).mpr z)
      omega
    rw[ea.2,Bool.and_true]at so
    have h0:x.cps.toList[0]?=some (x.cps.toList[0]'(by omega)):=List.getElem?_eq_getElem _
    refine iteF ⟨_,rfl,x,0,_,rfl,rfl,zl,qbf (j:=0) h0,rfl,_,rfl,?_⟩
    have e0:decide (V.str ⟨#[x.cps.toList[0]'(by omega)]⟩=V.str (Str.ofString "0"))=decide (x.cps.toList.head?=some 48):=by
      rw[Bool.eq_iff_iff,decide_eq_true_iff,decide_eq_true_iff,show Str.ofString "0" = ⟨#[48]⟩from sg_zero,List.head?_eq_getElem?,h0]
      constructor
      · intro z
        have:=congrArg (fun y:Str=>y.cps.toList) (V.str.inj z)
        have:[x.cps.toList[0]'(by omega)]=[48]:=by simpa using this
        rw[(List.cons.inj this).1]
      · intro z
        rw[Option.some.inj z]
    rw[e0]
    by_cases hz:x.cps.toList.head?=some 48
    · rw[decide_eq_true hz]
      refine iteT (iteT (bad ?_))
      rw[so,decide_eq_true hz,Bool.not_true,Bool.and_false]
    rw[decide_eq_false hz]
    rw[decide_eq_false hz,Bool.not_false,Bool.and_true]at so
    refine iteF ⟨_,rfl,x,rfl,zl,_,_,rfl,rfl,_,rfl,?_⟩
    by_cases h4:x.length≤4
    rotate_left
    · rw[decide_eq_true (by omega:(4:Int)<(x.length:Nat))]
      refine iteT (bad ?_)
      rw[so,decide_eq_false (fun z=>h4 z.2)]
    rw[decide_eq_false (by omega:¬(4:Int)<(x.length:Nat))]
    rw[decide_eq_true ⟨l1,h4⟩]at so
    refine iteF ⟨_,rfl,x,rfl,fun n hn=>qga (of_decide_eq_true (all_map.mp ea.2 n hn)),fun z=>?_,hz,by omega,_,_,rfl,rfl,?_⟩
    · rw[z]at xl
      simp at xl
      omega
    · have:=q H1 s1
      rw[side_good so]at this
      exact this
theorem scFormed:FnScope ["_law_mends", "_law_row_here", "_law_last", "_law_mend", "_law_forms"] ["_law_mends", "_law_row_here"] (qag sFormed):=⟨rfl,rfl,rfl,by decide +kernel,rfl,by decide +kernel,by decide +kernel⟩
theorem ok_formed{f:Addr}{fd:FuncData}(F:Fun K "_law_formed" "_law_formed" sFormed f fd)(T:Bn mg):FnOk P w K mg base CX0 1 f fd ["_law_mends", "_law_row_here"] spFormed:=by
 refine F.ok scFormed (fun vs H Q E h=>?_) (fun cdv A outer s H vs Q E hr h=>?_)
 ·obtain⟨l,ms,n,N,rfl,_⟩:=h;rfl
 ·obtain⟨l,ms,n,N,rfl,⟨vs,hl,pa⟩,le,ok,fo,q⟩:=h;have hu:=hr.units;have hu2:(cxOf CX0 P w K mg base ["_law_mends", "_law_row_here", "_law_last", "_law_mend", "_law_forms"] "_law_formed" (qag sFormed) f cdv A outer s H E).nox.A.units+66<cLine:=by
   have:=hr.un;show(A.deeper _).units+66<cLine;omega
  have lv:vs.length=ms.length:=pa.length;have zl:vs.length<sizeLine:=Nat.lt_of_le_of_lt (show vs.length≤2000 by omega) (by decide);refine⟨_,(qac (qan (i:=2) scFormed.nd (by rfl) (by trivial) qaf)
   (qac (qb4 PassesOwn.never (by rfl) (qbg (pv 0)) (qax (i:=3) scFormed.nd (by rfl) (by trivial))
   (qac (qaH (PW.pt (qch (qbl (qaW (qcG T.isinstance (by rfl) T.tuple (by rfl) b_tuple (pv 3)))) (qch (qaj op_ne (qal call_len_seq (by rfl) T.len b_len (qaa (pv 3) pa_nil)) qaf (qam _)) (qbZ (qbl (qaW (qcG T.isinstance (by rfl) T.str (by rfl) b_str (qap ix_tup (pv 3) qaf (fun _ _=>rfl))))))))) (qae (qak qct)) pss_nil)
   (qac (qaH (PW.pt (qch (qbl (qaW (qcG T.isinstance (by rfl) T.int (by rfl) b_int (qap ix_tup (pv 3) qaf (fun _ _=>rfl))))) (qch (PW.pt (qcg (qaj op_ne (qap ix_tup (pv 3) qaf (fun _ _=>rfl)) (qcY un_neg qaf) (qam _)) (qbG (qaj op_lt (qap ix_tup (pv 3) qaf (fun _ _=>rfl)) (pv 2) (qam _))))) (qbZ (PW.pt (qcg (qaj op_eq (pv 2) (qcY un_neg qaf) (qam _)) (qbG (qaj op_ne (qap ix_tup (pv 3) qaf (fun _ _=>rfl)) (qcY un_neg qaf) (qam _))))))))) (qae (qak qct)) pss_nil)
   (qae (qan (i:=2) scFormed.nd (by rfl) (by trivial) (qap ix_tup (pv 3) qaf (fun _ _=>rfl)))))))
   (qac (qdC (i:=4) (by rfl) scFormed.nd (by rfl) (by trivial) (own:=["_law_at", "_law_word"]) (CompScope.plain (by rfl) (by decide +kernel) (by decide +kernel) (by decide +kernel)) (qbg (pv 0)) (fun cl C s2 H2 fp=>(qgu K (n:=2) (by rfl) (by rfl) (qbm (qax (i:=0) (by show(["_law_at", "_law_word"]:List Str).Nodup;decide +kernel) (by rfl) (by trivial) (by trivial)) (qbm (qax (i:=1) (by show(["_law_at", "_law_word"]:List Str).Nodup;decide +kernel) (by rfl) (by trivial) (by trivial)) pgs_nil)))) (fun cl C s2 H2 fp=>(qb3 (qaj op_eq (pv 1) qah (qam _)))) (fun cl C s2 H2 fp=>(pv 0)))
   (qac (qaH (qaj (op_notIn2 hu2) (pv 4) (qaD (qaa (qaD pa_nil) (qaa (qaD (qaa (pv 1) pa_nil)) pa_nil))) (by with_unfolding_all rfl)) (qae (qak qct)) pss_nil)
   (qae (qak (qaI (op_eqP hu) (pv 4) (qaD pa_nil) (qam _)))))))),?_⟩
  refine qaN (fun σ' H'=>σ'=[some (.ref l),some (.int n),some (.int 0),none,none]∧H=H') (fun D' kk=>kk _ _ ⟨rfl,rfl⟩) ?_;rintro _ _ ⟨rfl,rfl⟩;refine qbN (fun σ' H'=>∃z1 z2 z3,σ'=[some (.ref l),some (.int n),z1,z2,z3]∧H=H') (fun N0 kk=>?_) ?_
  ·refine⟨_,rfl,l,rfl,⟨_,SqL.of hl⟩,qdd (xs:=vs) (fun i σ' H'=>∃z2,σ'=[some (.ref l),some (.int n),some (.int (qce ms i)),z2,none]∧H=H') ⟨none,rfl,rfl⟩ ?_ ?_ ?_⟩
   ·rintro i σ' H' hi ⟨z2,rfl,rfl⟩;exact SqL.of hl
   ·rintro i x σ' H' hx ⟨z2,rfl,rfl⟩;obtain⟨m,em,a,rfl,_,ha⟩:=qbz pa hx;obtain⟨o1,o2⟩:=ok i m em;have ls:qce ms (i+1)=m.1:=by
     show((ms[i]?).map (·.1)).getD 0=m.1;rw[em];rfl
    refine⟨_,rfl,_,_,_,_,rfl,.tup ha,⟨_,fun u r=>r,k_tt⟩,_,rfl,iteF ?_⟩;refine⟨_,rfl,a,_,rfl,.inr (SqT.of ha),rfl,_,rfl,iteF ?_⟩;refine⟨_,rfl,a,_,_,_,rfl,rfl,SqT.of ha,rfl,_,_,_,_,rfl,.str m.2,⟨_,fun u r=>r,k_ss⟩,_,rfl,iteF ?_⟩;dsimp only[tNext];refine qbN (fun σ' H2=>σ'=[some (.ref l),some (.int n),some (.int (qce ms i)),some (.ref a),none]∧H=H2) (fun N1 k1=>?_) ?_
    ·refine⟨_,rfl,a,_,_,_,rfl,rfl,SqT.of ha,rfl,_,_,_,_,rfl,.int m.1,⟨_,fun u r=>r,k_ii⟩,_,rfl,iteF ?_⟩;refine⟨_,rfl,a,_,_,_,rfl,rfl,SqT.of ha,rfl,_,rfl,rfl,_,rfl,?_⟩
     by_cases hm:m.1=-1
     ·rw[decide_eq_true (by rw[hm]:V.int m.1=V.int (-1))];refine iteF (iteF ⟨_,rfl,_,rfl,rfl,_,rfl,?_⟩)
      by_cases hl2:qce ms i=-1
      ·rw[decide_eq_true (by rw[hl2]:V.int (qce ms i)=V.int (-1))];refine iteT ⟨_,rfl,a,_,_,_,rfl,rfl,SqT.of ha,rfl,_,rfl,rfl,_,rfl,?_⟩;rw[decide_eq_true (by rw[hm]:V.int m.1=V.int (-1))];exact iteF (k1 _ _ ⟨rfl,rfl⟩)
      ·rw[decide_eq_false (fun z=>hl2 (V.int.inj z):¬V.int (qce ms i)=V.int (-1))];exact iteF (iteF (k1 _ _ ⟨rfl,rfl⟩))
     ·rw[decide_eq_false (fun z=>hm (V.int.inj z):¬V.int m.1=V.int (-1))];refine iteT ⟨_,rfl,a,_,_,_,rfl,rfl,SqT.of ha,rfl,_,rfl,_,_,rfl,rfl,_,rfl,?_⟩;have lt:¬m.1<qce ms i:=by
       rcases o1 with z | z
       ·exact absurd z hm
       ·omega
      rw[decide_eq_false lt];refine iteF ⟨_,rfl,_,rfl,rfl,_,rfl,?_⟩;rw[decide_eq_false (fun z=>hm (o2 (V.int.inj z)):¬V.int (qce ms i)=V.int (-1))];exact iteF (iteF (k1 _ _ ⟨rfl,rfl⟩))
    rintro _ _ ⟨rfl,rfl⟩;exact⟨_,rfl,a,_,_,_,rfl,rfl,SqT.of ha,rfl,_,by rw[ls];rfl,rfl⟩
   ·rintro σ' H' ⟨z2,rfl,rfl⟩;exact kk _ _ ⟨_,_,_,rfl,rfl⟩
  rintro _ _ ⟨z1,z2,z3,rfl,rfl⟩;have fs:∀(i:Nat) (m:Int×Str),ms[i]?=some m→qaM (ms.take (i+1))=qaM (ms.take i)++if decide (m.2=Str.ofString "form")=true then[m.1]else[]:=fun i m em=>by
   unfold qaM;rw[List.take_succ,em,Option.toList_some,List.filter_append,List.map_append]
   congr 1
   by_cases h:m.2=Str.ofString "form"
   ·rw[if_pos (decide_eq_true h),show([m].filter fun m=>decide (m.2=Str.ofString "form"))=[m]from List.filter_cons_of_pos (decide_eq_true h)];rfl
   ·rw[if_neg (by rw[decide_eq_false h];decide),show([m].filter fun m=>decide (m.2=Str.ofString "form"))=[]from List.filter_cons_of_neg (by rw[decide_eq_false h];decide)];rfl
  refine⟨_,rfl,l,rfl,⟨_,SqL.of hl⟩,qaZ (xs:=vs) (fun i ys σ' H'=>H=H'∧ys=(qaM (ms.take i)).map V.int∧∃u v,σ'=[u,v]) zl ⟨rfl,rfl,none,none,rfl⟩ ?_ ?_ ?_⟩
  ·rintro i ys σ' H' hi ⟨rfl,rfl,_⟩;refine⟨SqL.of hl,?_⟩;unfold qaM;rw[List.length_map,List.length_map];exact Nat.le_trans (List.length_filter_le ..) (by rw[List.length_take];omega)
  ·rintro i x ys σ' H' hx ⟨rfl,rfl,u,v,rfl⟩;obtain⟨m,em,a,rfl,_,ha⟩:=qbz pa hx;refine⟨a,_,rfl,SqT.of ha,rfl,_,_,rfl,_,_,rfl,rfl,?_⟩;refine⟨_,rfl,rfl,_,rfl,?_⟩;rw[fs i m em]
   by_cases h:m.2=Str.ofString "form"
   ·rw[decide_eq_true (by rw[h]:V.str m.2=V.str (Str.ofString "form")),decide_eq_true h];exact iteT ⟨_,rfl,rfl,by rw[if_pos rfl,List.map_append];rfl,_,_,rfl⟩
   ·rw[decide_eq_false (fun z=>h (V.str.inj z):¬V.str m.2=V.str (Str.ofString "form")),decide_eq_false h];exact iteF ⟨rfl,by rw[if_neg (by decide),List.append_nil],_,_,rfl⟩
  ·rintro ys σ' H' ⟨rfl,rfl,_⟩ D hD;rw[lv,List.take_length];have k1:=qad hD (.lst ((qaM ms).map V.int));refine⟨_,rfl,by show 0≤sizeLine;decide,fun e1 he1=>⟨_,rfl,by show 1≤sizeLine;decide,fun e2 he2=>⟨by show 2≤sizeLine;decide,fun L hL=>?_⟩⟩⟩;have k2:=qad he1 (.lst []);have k3:=qad he2 (.lst [.int n]);have k4:=qad hL (.lst [.ref e1,.ref e2]);have hD4:=(k2.trans (k3.trans k4)) _ _ (qab (H:=H) (a:=D) (o:=.lst ((qaM ms).map V.int)));have h14:=(k3.trans k4) _ _ (qab (a:=e1) (o:=.lst []));have h24:=k4 _ _ (qab (a:=e2) (o:=.lst [.int n]));have s4:=k1.trans (k2.trans (k3.trans k4));have ne12:e1≠e2:=qao qab he2;have hL4:upd (upd (upd (upd H D (.lst ((qaM ms).map V.int))) e1 (.lst [])) e2 (.lst [.int n])) L (.lst [.ref e1,.ref e2]) L=some (.lst [.ref e1,.ref e2]):=qab;generalize upd (upd (upd (upd H D (.lst ((qaM ms).map V.int))) e1 (.lst [])) e2 (.lst [.int n])) L (.lst [.ref e1,.ref e2])=H4 at *;refine⟨L,e1,e2,.list ((qaM ms).map PySem.W.Dat.int),.list [],.list [.int n],rfl,hL4,ne12,.lst hD4 (qgZ _),.lst h14 .nil,.lst h24 (.cons (.int n) .nil),qgb _,rfl,rfl,fun _=>⟨_,rfl,iteF ?_⟩,fun h1 h2=>absurd fo ?_⟩
   ·refine⟨_,rfl,by show 0≤sizeLine;decide,fun z hz=>?_⟩;have k5:=qad hz (.lst []);refine⟨_,_,.lst (k5 _ _ hD4) (qgZ _),.lst qab .nil,qgb _,rfl,fun e=>?_,fun e=>?_⟩
    ·have:=q _ (s4.trans k5);injection e with e
     have e0:qaM ms=[]:=List.map_eq_nil_iff.mp e;rw[decide_eq_true e0]at this;exact this
    ·have:=q _ (s4.trans k5);rw[decide_eq_false (fun z=>e (by rw[z];rfl))]at this;exact this
   ·rintro(z | z)
    ·exact h1 (by rw[z];rfl)
    ·exact h2 (by rw[z];rfl)
end
end K08
namespace K08
open PySem L2 Bk Gen
section
variable{P:Program}{w:World}{K:PySem.W.Frag}{mg:Str→Option Value}{base:Heap}
theorem qg1(y:Str)(c:Nat):decide (V.str (Txt.slice y none (some 1))=V.str ⟨#[c]⟩)=decide (y.cps.toList.head?=some c):=by
 rw[show Txt.slice y none (some 1)=mkS (y.cps.toList.take 1)from qcs y 1,Bool.eq_iff_iff,decide_eq_true_iff,decide_eq_true_iff];constructor
 ·intro z;have z:y.cps.toList.take 1=[c]:=by
   have:=congrArg (fun y:Str=>y.cps.toList) (V.str.inj z);simpa using this
  cases e:y.cps.toList with
  | nil=>rw[e]at z;cases z
  | cons a r=>rw[e]at z;simpa using z
 ·intro z;cases e:y.cps.toList with
  | nil=>rw[e]at z;cases z
  | cons a r =>
    rw[e]at z
    have:a=c:=Option.some.inj z
    rw[this]
    rfl
theorem qfw{y:Str}{c:Nat}(h:y.cps.toList.head?=some c):1≤y.length:=by
 rw[←qaP];cases e:y.cps.toList with
 | nil=>rw[e]at h;cases h
 | cons a r=>simp
theorem scRowL:FnScope ["_law_row_here", "_law_words", "_law_stuff", "_law_kind", "_law_word"] ["_law_row_here"] (qag sRowL):=⟨rfl,rfl,rfl,by decide +kernel,rfl,by decide +kernel,by decide +kernel⟩
theorem ok_is_row{f:Addr}{fd:FuncData}(F:Fun K "_law_is_row" "_law_is_row" sRowL f fd)(T:Bn mg)(F_law_is_name:Fx P w K mg base CX0 2 "_law_is_name" ["_law_text"] spNameB)(F_is_side:Fx P w K mg base CX0 2 "_law_is_side" ["_law_text"] spLawSide)(F_law_is_piece:Fx P w K mg base CX0 3 "_law_is_piece" ["_law_text"] spLawPieceB):FnOk P w K mg base CX0 4 f fd ["_law_row_here"] spLawIsRow:=by
 refine F.ok scRowL (fun vs H Q E h=>?_) (fun cdv A outer s H vs Q E hr h=>?_)
 ·obtain⟨x,rfl,_⟩:=h;rfl
 ·obtain⟨x,rfl,ok,q⟩:=h;have hr_law_is_name:Room 2 _:=hr.mono (by decide);have hr_is_side:Room 2 _:=hr.mono (by decide);have hr_law_is_piece:=hr;have hu:=hr.units;have zl:x.length≤sizeLine:=Nat.le_trans ok.len (by decide);have dl:=qbc (·== 62) x.cps.toList;rw[qaP]at dl;have rk:=ok.ws;have wne:=qfP x;have ew:(qbo 32 (x.cps.toList.dropWhile (·== 62))).map mkS=qaL x:=rfl;refine⟨_,(qac (qan (i:=1) scRowL.nd (by rfl) (by trivial) (qbk PySem.F.plainAttrs_str PySem.F.slot_str_split PySem.F.type_str_split qeL (qav sl_str (pv 0) (qaz (qaE op_sub (qal call_len_str (by rfl) T.len b_len (qaa (pv 0) pa_nil)) (qal call_len_str (by rfl) T.len b_len (qaa (qbk PySem.F.plainAttrs_str PySem.F.slot_str_lstrip PySem.F.type_str_lstrip mt_lstripC (pv 0) (qaa qah pa_nil)) pa_nil)))) po_none) (qaa qah pa_nil)))
   (qac (qan (i:=2) scRowL.nd (by rfl) (by trivial) qct)
   (qac (qaH (qaj op_in_seq qah (pv 1) (by with_unfolding_all rfl)) (qac (qan (i:=2) scRowL.nd (by rfl) (by trivial) (qav sl_list (pv 1) (qaz (qaE op_add (qbk PySem.F.plainAttrs_list PySem.F.slot_list_index PySem.F.type_list_index mt_indexS (pv 1) (qaa qah pa_nil)) qaf)) po_none))
   (qae (qan (i:=1) scRowL.nd (by rfl) (by trivial) (qav sl_list (pv 1) po_none (qaz (qbk PySem.F.plainAttrs_list PySem.F.slot_list_index PySem.F.type_list_index mt_indexS (pv 1) (qaa qah pa_nil))))))) pss_nil)
   (qac (qan (i:=3) scRowL.nd (by rfl) (by trivial) (qap ix_list (qaE op_cat (pv 1) (qaD (qaa qah pa_nil))) qaf (fun _ _=>rfl)))
   (qac (qaH (PW.pt (qcg (qaj op_gt (qal call_len_seq (by rfl) T.len b_len (qaa (pv 1) pa_nil)) qaf (qam _)) (qbG (qaj op_eq (qav sl_str (qap ix_list (pv 1) qaf (fun _ _=>rfl)) po_none (qaz qaf)) qah (qam _))))) (qac (qaH (qbl (qaW (qar F_law_is_name hr_law_is_name (by rfl) qas (qaa (qav sl_str (qap ix_list (pv 1) qaf (fun _ _=>rfl)) (qaz qaf) po_none) pa_nil)))) (qae (qak qc3)) pss_nil)
   (qae (qan (i:=1) scRowL.nd (by rfl) (by trivial) (qaE op_cat (qav sl_list (pv 1) po_none (qaz qaf)) (qav sl_list (pv 1) (qaz qaf) po_none))))) pss_nil)
   (qac (qb4 PassesOwn.never (by rfl) (qbg (qav sl_list (pv 1) (qaz qaf) po_none)) (qax (i:=4) scRowL.nd (by rfl) (by trivial))
   (qae (qaH (PW.pt (qch (qaj op_ne (qav sl_str (pv 4) po_none (qaz qaf)) qah (qam _)) (qbZ (qbl (qaW (qar F_law_is_name hr_law_is_name (by rfl) qas (qaa (qav sl_str (pv 4) (qaz qaf) po_none) pa_nil))))))) (qae (qak qc3)) pss_nil)))
   (qac (qaH (qaj op_eq (pv 3) qah (qam _)) (qae (qak (qbu (qgy (qgw (pv 2))) (qbu (qaI op_eq (qal call_len_seq (by rfl) T.len b_len (qaa (pv 2) pa_nil)) qaf (qam _)) (qbu (qar F_is_side hr_is_side (by rfl) qas (qaa (qap ix_list (pv 2) qaf (fun _ _=>rfl)) pa_nil)) (qbS (qar F_is_side hr_is_side (by rfl) qas (qaa (qap ix_list (pv 2) qaf (fun _ _=>rfl)) pa_nil)))))))) pss_nil)
   (qac (qaH (qaj op_in_seq (pv 3) (qaD (qaa qah (qaa qah (qaa qah pa_nil)))) (by with_unfolding_all rfl)) (qae (qak (qbu (qgy (qgw (pv 2))) (qbu (qaI (qfq hu) (pv 2) (qaD pa_nil) (qam _)) (qbS (qaI op_eq (qal call_len_seq (by rfl) T.len b_len (qaa (qbh (own:=["_law_one"]) (by rfl) (CompScope.plain (by rfl) (by decide +kernel) (by decide +kernel) (by decide +kernel)) (qbg (pv 2)) (fun cl C s2 H2 fp=>(qax (i:=0) (by show(["_law_one"]:List Str).Nodup;decide +kernel) (by rfl) (by trivial) (by trivial))) (fun cl C s2 H2 fp=>(qb3 (qaW (qar F_law_is_piece hr_law_is_piece (by rfl) qas (qaa (pv 0) pa_nil))))) (fun cl C s2 H2 fp=>(pv 0))) pa_nil)) (qal call_len_seq (by rfl) T.len b_len (qaa (pv 2) pa_nil)) (qam _))))))) pss_nil)
   (qae (qak (qbu (qaI op_in_seq (pv 3) (qaD (qaa qah (qaa qah (qaa qah (qaa qah (qaa qah pa_nil)))))) (by with_unfolding_all rfl)) (qbS (qgy (qgn (pv 2))))))))))))))),?_⟩
  refine⟨_,rfl,_,rfl,x,rfl,zl,_,rfl,rfl,x,Str.ofString ">",rfl,rfl,zl,_,rfl,?_⟩;rw[show Str.ofString ">" = ⟨#[62]⟩from sg_gt,qe7];have el:(x.length:Int)-((mkS (x.cps.toList.dropWhile (·== 62))).length:Nat)=(qci x:Nat):=by
   have:=qdI (·== 62) x.cps.toList;rw[qaP]at this;rw[qcE (x.cps.toList.dropWhile (·== 62))];unfold qci;omega
  refine⟨Nat.le_trans dl zl,_,_,rfl,rfl,_,rfl,x,rfl,zl,rfl,?_⟩;dsimp only;rw[el,qbw,show x.cps.toList.drop (qci x)=x.cps.toList.dropWhile (·== 62)from qa6 _ _];refine⟨_,32,rfl,by rw[←sg_sp],by decide,Nat.le_trans dl ok.len,fun l hl=>?_⟩;dsimp only[mkS];rw[List.toList_toArray,ew];clear el dl;generalize hws:qaL x=ws at *;have h1:upd H l (.lst (ws.map V.str)) l=some (.lst (ws.map V.str)):=qab;have s1:Same H (upd H l (.lst (ws.map V.str))):=qad hl _;generalize upd H l (.lst (ws.map V.str))=H1 at h1 s1⊢;dsimp only[qbR];refine qaN (fun σ' H'=>σ'=[some (.str x),some (.ref l),some .non,none,none]∧H1=H') (fun D' kk=>kk _ _ ⟨rfl,rfl⟩) ?_;rintro _ _ ⟨rfl,rfl⟩;have bl:=qgp ws;refine qaN (fun σ' H'=>∃lw sv,σ'=[some (.str x),some (.ref lw),some sv,none,none]∧Same H H'∧H' lw=some (.lst ((ws.take (qaB ws)).map V.str))∧((qaB ws=ws.length∧sv=.non)∨(qaB ws<ws.length∧∃a,sv=.ref a∧H' a=some (.lst ((qa3 ws).map V.str))))) (fun D' kk=>?_) ?_
  ·refine⟨_,rfl,l,_,rfl,.inl (SqL.of h1),rfl,qdy _,_,rfl,?_⟩;rw[if_neg Bool.false_ne_true,qde]
   by_cases hb:Str.ofString "|" ∈ ws
   rotate_left
   ·rw[decide_eq_false hb];have eb:=qe6 hb;exact iteF (kk _ _ ⟨l,.non,rfl,s1,by rw[eb,List.take_length];exact h1,.inl ⟨eb,rfl⟩⟩)
   rw[decide_eq_true hb];obtain⟨b1,b2⟩:=qfz hb;have bn:qaB ws<ws.length:=(List.getElem?_eq_some_iff.mp b1).1;refine iteT ⟨_,rfl,_,rfl,.inl ⟨rfl,_,SqL.of h1⟩,l,ws,_,qaB ws,rfl,rfl,h1,Nat.le_trans rk.2 (by decide),b1,b2,_,_,rfl,rfl,_,rfl,l,_,rfl,SqL.of h1,fun a ha=>?_⟩;have er:cutV (ws.map V.str) (some (((qaB ws:Nat):Int)+1)) none=(qa3 ws).map V.str:=by
    rw[show((qaB ws:Nat):Int)+1=((qaB ws+1:Nat):Int) by omega,qcb,←List.map_drop];rfl
   dsimp only;rw[er];have k2:=qad ha (.lst ((qa3 ws).map V.str));refine⟨_,rfl,_,rfl,.inl ⟨rfl,_,SqL.of (k2 _ _ h1)⟩,l,ws,_,qaB ws,rfl,rfl,k2 _ _ h1,Nat.le_trans rk.2 (by decide),b1,b2,_,rfl,l,_,rfl,SqL.of (k2 _ _ h1),fun c hc=>?_⟩;rw[qfM,←List.map_take];have k3:=qad hc (.lst ((ws.take (qaB ws)).map V.str));exact kk _ _ ⟨c,.ref a,rfl,s1.trans (k2.trans k3),qab,.inr ⟨bn,a,rfl,k3 _ _ qab⟩⟩
  rintro _ H2 ⟨lw,sv,rfl,s2,h2,sv2⟩;have wl:(ws.take (qaB ws)).length≤500:=by rw[List.length_take];have:=rk.2;omega
  have kd:kindOf ((ws.take (qaB ws)++[noName]).headD noName)=kindOf (ws.headD noName):=by
   by_cases b0:qaB ws=0
   ·rw[b0,List.take_zero];cases hw:ws with
    | nil=>rfl
    | cons w0 r =>
      rw[hw]at b0
      have hb:Str.ofString "|" ∈ w0::r:=by
        by_cases z:Str.ofString "|" ∈ w0::r
        · exact z
        · have:=qe6 z;rw[b0]at this;cases this
      have h0:=(qfz hb).1
      rw[b0]at h0
      have:w0=Str.ofString "|":=by simpa using h0
      rw[this]
      show kindOf noName=kindOf (Str.ofString "|")
      decide +kernel
   ·cases hw:ws with
    | nil=>rw[hw]at wne;exact absurd wne (by decide)
    | cons w0 r =>
      rw[hw]at b0
      obtain⟨n,hn⟩:∃n,qaB (w0::r)=n+1:=⟨qaB (w0::r)-1,by omega⟩
      rw[hn]
      rfl
  have labk:(ws.take (qaB ws)).drop 1=qaY ws:=labs_take ws;have rl:qec (qaY ws):=qcl rk (fun y hy=>List.mem_of_mem_drop (List.mem_of_mem_take hy)) (by unfold qaY;rw[List.length_take,List.length_drop];omega);refine⟨_,rfl,by show 1≤sizeLine;decide,fun e3 he3=>⟨lw,e3,_,_,rfl,rfl,qad he3 _ _ _ h2,qab,?_,fun c3 hc3=>?_⟩⟩
  ·rw[List.length_map];exact Nat.le_trans (Nat.add_le_add wl (Nat.le_refl 1)) (by decide)
  have k3:=(qad he3 (.lst [.str (Str.ofString "")])).trans (qad hc3 (.lst ((ws.take (qaB ws)).map V.str++[.str (Str.ofString "")])));have s3:=s2.trans k3;have h3:=k3 _ _ h2;have hk3:∃kx,((ws.take (qaB ws)).map V.str++[V.str (Str.ofString "")])[0]?=some (V.str kx)∧kindOf kx=kindOf (ws.headD noName):=by
   refine⟨(ws.take (qaB ws)++[noName]).headD noName,?_,kd⟩;cases ws.take (qaB ws)<;>rfl
  obtain⟨kx,ek,kk2⟩:=hk3;refine⟨c3,_,_,_,rfl,rfl,SqL.of qab,(qbf (j:=0) ek),?_⟩;have sv3:(qaB ws=ws.length∧sv=.non)∨(qaB ws<ws.length∧∃a,sv=.ref a∧upd (upd H2 e3 (.lst [.str (Str.ofString "")])) c3 (.lst ((ws.take (qaB ws)).map V.str++[.str (Str.ofString "")])) a=some (.lst ((qa3 ws).map V.str))):=sv2.imp id fun⟨z,a,e,g⟩=>⟨z,a,e,k3 _ _ g⟩
  generalize upd (upd H2 e3 (.lst [.str (Str.ofString "")])) c3 (.lst ((ws.take (qaB ws)).map V.str++[.str (Str.ofString "")]))=H3 at *;dsimp only[qbR];refine qbN (fun σ' H'=>∃(lw2:Addr) (W2:List Str),σ'=[some (.str x),some (.ref lw2),some sv,some (.str kx),none]∧Same H3 H'∧H' lw2=some (.lst (W2.map V.str))∧qec (W2.drop 1)∧qbD (qaY ws)=((W2.drop 1).map (labB 46)).all id) (fun N0 kk=>?_) ?_
  ·refine⟨_,rfl,lw,_,rfl,.inl (SqL.of h3),_,_,rfl,rfl,_,rfl,?_⟩;rw[List.length_map];have noName1:qbp (qaY ws)=false→N0 [some (.str x),some (.ref lw),some sv,some (.str kx),none] H3:=fun e=>kk _ _ ⟨lw,ws.take (qaB ws),rfl,Same.refl H3,h3,by rw[labk];exact rl,by
    rw[labk];unfold qbD;rw[e];rfl⟩
   cases hlab:qaY ws with
   | nil =>
     have:(ws.take (qaB ws)).length≤1:=by
       have:=congrArg List.length labk
       rw[hlab,List.length_drop]at this
       simp only[List.length_nil]at this
       omega
     rw[decide_eq_false (by omega:¬(1:Int)<((ws.take (qaB ws)).length:Nat))]
     exact iteF (iteF (noName1 (by rw[hlab];rfl)))
   | cons y r =>
     have lt:1<(ws.take (qaB ws)).length:=by
       have:=congrArg List.length labk
       rw[hlab,List.length_drop]at this
       simp only[List.length_cons]at this
       omega
     rw[decide_eq_true (by omega:(1:Int)<((ws.take (qaB ws)).length:Nat))]
     have e1:(ws.take (qaB ws))[1]?=some y:=by
       have:=congrArg (·[0]?) labk
       rw[hlab]at this
       simpa using this
     have ey:(( ws.take (qaB ws)).map V.str)[1]?=some (.str y):=by rw[List.getElem?_map,e1];rfl
     rw[hlab]at rl
     have hy:=rl.1 y List.mem_cons_self
     have zy:=Nat.le_of_lt (qaC hy.2)
     refine iteT ⟨_,rfl,lw,_,_,_,rfl,rfl,SqL.of h3,(qbf (j:=1) ey),1,rfl,y,rfl,zy,rfl,_,rfl,?_⟩
     rw[show Str.ofString "#" = ⟨#[35]⟩from sg_hash,qg1]
     by_cases hh:y.cps.toList.head?=some 35
     rotate_left
     · rw[decide_eq_false hh]
       exact iteF (noName1 (by rw[hlab];show labB 35 y=false;unfold labB;rw[decide_eq_false hh];rfl))
     rw[decide_eq_true hh]
     refine iteT ⟨_,rfl,lw,_,_,_,rfl,rfl,SqL.of h3,(qbf (j:=1) ey),1,rfl,y,rfl,zy,tl1 y,by rw[qeW (qfw hh)];rfl,qfe hy.1,qfc hy.2,fun H4 k4=>⟨_,rfl,?_⟩⟩
     have lab35:labB 35 y=qbW (tl1 y):=by unfold labB;rw[decide_eq_true hh];rfl
     cases en:qbW (tl1 y)with
     | false =>
       refine iteT ?_
       have:=q H4 (s3.trans k4)
       rw[qfC hws]at this
       · exact this
       · rw[hlab]
         unfold qbD
         rw[show qbp (y::r)=labB 35 y from rfl,lab35,en]
         have n46:labB 46 y=false:=by unfold labB;rw[hh];rfl
         show((y::r).map (labB 46)).all id=false
         rw[List.map_cons,List.all_cons,n46]
         rfl
     | true =>
       have h4:=k4 _ _ h3
       refine iteF ⟨_,rfl,1,rfl,lw,_,rfl,SqL.of h4,fun c5 hc5=>⟨_,rfl,2,rfl,lw,_,rfl,SqL.of (qad hc5 _ _ _ h4),fun c6 hc6=>?_⟩⟩
       rw[show cutV ((ws.take (qaB ws)).map V.str) none (some 1)=((ws.take (qaB ws)).map V.str).take 1 from qfM 1,show cutV ((ws.take (qaB ws)).map V.str) (some 2) none=((ws.take (qaB ws)).map V.str).drop 2 from qcb 2]at *
       have k5:=qad hc5 (.lst (((ws.take (qaB ws)).map V.str).take 1))
       have k6:=qad hc6 (.lst (((ws.take (qaB ws)).map V.str).drop 2))
       refine⟨c5,c6,_,_,rfl,rfl,k6 _ _ qab,qab,?_,fun c7 hc7=>?_⟩
       · rw[List.length_take,List.length_drop,List.length_map]
         exact Nat.le_trans (show _≤1000 by omega) (by decide)
       have k7:=qad hc7 (.lst (((ws.take (qaB ws)).map V.str).take 1++((ws.take (qaB ws)).map V.str).drop 2))
       have eW:((ws.take (qaB ws)).take 1++(ws.take (qaB ws)).drop 2).drop 1=r:=by
         cases hW:ws.take (qaB ws)with
         | nil=>rw[hW]at lt;exact absurd lt (by decide)
         | cons w0 W =>
           rw[hW,hlab]at labk
           have labk:W=y::r:=labk
           rw[labk]
           rfl
       refine kk _ _ ⟨c7,(ws.take (qaB ws)).take 1++(ws.take (qaB ws)).drop 2,rfl,k4.trans (k5.trans (k6.trans k7)),by rw[qab];simp only[List.map_append,List.map_take,List.map_drop],?_,?_⟩
       · rw[eW]
         exact⟨fun z hz=>rl.1 z (List.mem_cons_of_mem _ hz),Nat.le_trans (Nat.le_succ _) rl.2⟩
       · rw[eW,hlab]
         unfold qbD
         rw[show qbp (y::r)=labB 35 y from rfl,lab35,en]
         rfl
  rintro _ H5 ⟨lw2,W2,rfl,k5,h5,rw2,al⟩;have s5:=s3.trans k5;refine⟨_,rfl,1,rfl,lw2,_,rfl,SqL.of h5,fun c6 hc6=>?_⟩;rw[show cutV (W2.map V.str) (some 1) none=(W2.drop 1).map V.str by rw[List.map_drop];exact qcb 1]at *;generalize W2.drop 1=ms at *;have k6:=qad hc6 (.lst (ms.map V.str));have h6:upd H5 c6 (.lst (ms.map V.str)) c6=some (.lst (ms.map V.str)):=qab;have s6:=s5.trans k6;have sv6:(qaB ws=ws.length∧sv=.non)∨(qaB ws<ws.length∧∃a,sv=.ref a∧upd H5 c6 (.lst (ms.map V.str)) a=some (.lst ((qa3 ws).map V.str))):=sv3.imp id fun⟨z,a,e,g⟩=>⟨z,a,e,k6 _ _ (k5 _ _ g)⟩
  generalize upd H5 c6 (.lst (ms.map V.str))=H6 at *;refine⟨c6,rfl,⟨_,SqL.of h6⟩,qdd (xs:=ms.map V.str) (fun i σ' H'=>∃z,σ'=[some (.str x),some (.ref lw2),some sv,some (.str kx),z]∧Same H6 H'∧((ms.take i).map (labB 46)).all id=true) ⟨none,rfl,Same.refl H6,rfl⟩ ?_ ?_ ?_⟩
  ·rintro i σ' H' hi ⟨z,rfl,k7,_⟩;exact SqL.of (k7 _ _ h6)
  ·rintro i y σ' H' hy ⟨z,rfl,k7,al7⟩;rw[List.getElem?_map]at hy;cases e:ms[i]? with
   | none=>rw[e]at hy;cases hy
   | some y' =>
   rw[e]at hy;cases hy;have hy:=rw2.1 y' (List.mem_of_getElem? e);have zy:=Nat.le_of_lt (qaC hy.2);have bad:labB 46 y'=false→∀H'',Same H H''→Q (.bl false) H'':=fun eb H'' s''=>by
    have:=q H'' s'';rw[qfC hws]at this
    ·exact this
    ·rw[al,Bool.eq_false_iff];intro z;rw[List.all_eq_true]at z;have:=z (labB 46 y') (List.mem_map_of_mem (List.mem_of_getElem? e));rw[eb]at this;cases this
   refine⟨_,rfl,1,rfl,y',rfl,zy,rfl,_,rfl,?_⟩;rw[show Str.ofString "." = ⟨#[46]⟩from sg_dot,qg1]
   by_cases hh:y'.cps.toList.head?=some 46
   rotate_left
   ·rw[decide_eq_false hh];exact iteT (iteT (bad (by unfold labB;rw[decide_eq_false hh];rfl) _ (s6.trans k7)))
   rw[decide_eq_true hh];have lab46:labB 46 y'=qbW (tl1 y'):=by unfold labB;rw[decide_eq_true hh];rfl
   refine iteF ⟨_,rfl,1,rfl,y',rfl,zy,tl1 y',by rw[qeW (qfw hh)];rfl,qfe hy.1,qfc hy.2,fun H8 k8=>⟨_,rfl,?_⟩⟩;cases en:qbW (tl1 y')with
   | false=>exact iteT (bad (by rw[lab46,en]) _ ((s6.trans k7).trans k8))
   | true =>
     refine iteF ⟨_,rfl,k7.trans k8,?_⟩
     rw[List.take_succ,e,Option.toList_some,List.map_append,List.all_append,al7]
     show(true && ([labB 46 y'].all id))=true
     rw[lab46,en]
     rfl
  rintro σ' H7 ⟨z,rfl,k7,al7⟩;rw[List.length_map,List.take_length]at al7;rw[al7]at al;have s7:=s6.trans k7;have sv7:(qaB ws=ws.length∧sv=.non)∨(qaB ws<ws.length∧∃a,sv=.ref a∧H7 a=some (.lst ((qa3 ws).map V.str))):=sv6.imp id fun⟨z,a,e,g⟩=>⟨z,a,e,k7 _ _ g⟩
  have rr:qec (qa3 ws):=qcl rk (fun y hy=>List.mem_of_mem_drop hy) (by unfold qa3;rw[List.length_drop];omega);have rs:=qev hws al;rw[←kk2]at rs;rw[rs]at q;clear rs;have zr:(qa3 ws).length≤500:=rr.2;have none1:qaB ws=ws.length→qa3 ws=[]:=rest_nil;generalize qa3 ws=rest at *;refine⟨_,rfl,rfl,_,rfl,?_⟩;rw[show decide (V.str kx=V.str (Str.ofString "picture"))=decide (kindOf kx=some .picture)from qfK .picture (by decide)]
  by_cases hp:kindOf kx=some .picture
  ·rw[decide_eq_true hp];have q1:∀H',Same H H'→Q (.bl (decide (rest.length=2) && (rest.map qck).all id)) H':=fun H' s'=>by
    have:=q H' s';rw[hp]at this;dsimp only at this;rw[show qaF .picture=true from rfl,Bool.not_true,Bool.false_and,Bool.not_false,Bool.true_and,stuff_pic2]at this;exact this
   refine iteT ⟨_,rfl,_,rfl,?_⟩;rcases sv7 with⟨b1,rfl⟩ | ⟨b1,a,rfl,ha⟩
   ·have:=q1 H7 s7;rw[none1 b1]at this;exact iteF this
   refine iteT ⟨_,rfl,a,_,rfl,.inl (SqL.of ha),rfl,_,rfl,?_⟩;rw[List.length_map]
   by_cases l2:rest.length=2
   rotate_left
   ·rw[decide_eq_false (fun z=>l2 (by have:=V.int.inj z;omega):¬V.int (rest.length:Nat)=V.int 2)];have:=q1 H7 s7;rw[decide_eq_false l2,Bool.false_and]at this;exact iteF this
   rw[decide_eq_true (by rw[l2];rfl:V.int (rest.length:Nat)=V.int 2)]
   match rest,l2 with
   | [y1, y2], _ =>
     have hy1:=rr.1 y1 List.mem_cons_self
     have hy2:=rr.1 y2 (List.mem_cons_of_mem _ List.mem_cons_self)
     refine iteT ⟨_,rfl,a,_,_,_,rfl,rfl,SqL.of ha,(qbf (j:=0) rfl),y1,rfl,hy1.1,hy1.2,fun H8 k8=>⟨_,rfl,?_⟩⟩
     have q2:∀H',Same H H'→Q (.bl (qck y1 && (qck y2 && true))) H':=q1
     cases e1:qck y1 with
     | false =>
       have:=q2 H8 (s7.trans k8)
       rw[e1]at this
       exact iteF this
     | true =>
       refine iteT ⟨_,rfl,a,_,_,_,rfl,rfl,SqL.of (k8 _ _ ha),(qbf (j:=1) rfl),y2,rfl,hy2.1,hy2.2,fun H9 k9=>?_⟩
       have:=q2 H9 ((s7.trans k8).trans k9)
       rw[e1,Bool.and_true]at this
       exact this
  rw[decide_eq_false hp];refine iteF ⟨_,rfl,by show 3≤sizeLine;decide,fun L hL=>⟨L,_,rfl,.inl (SqL.of qab),rfl,rfl,_,rfl,?_⟩⟩;rw[if_neg Bool.false_ne_true,show inV (V.str kx) [V.str (Str.ofString "text"),V.str (Str.ofString "head"),V.str (Str.ofString "note")]=decide (∃k∈[Kd.text,.head,.note],kindOf kx=some k)from qf2 [Kd.text,.head,.note] (by decide)];have k8:=qad hL (.lst [.str (Str.ofString "text"),.str (Str.ofString "head"),.str (Str.ofString "note")]);have s8:=s7.trans k8;have sv8:(qaB ws=ws.length∧sv=.non)∨(qaB ws<ws.length∧∃a,sv=.ref a∧upd H7 L (.lst [.str (Str.ofString "text"),.str (Str.ofString "head"),.str (Str.ofString "note")]) a=some (.lst (rest.map V.str))):=sv7.imp id fun⟨z,a,e,g⟩=>⟨z,a,e,k8 _ _ g⟩
  generalize upd H7 L (.lst [.str (Str.ofString "text"),.str (Str.ofString "head"),.str (Str.ofString "note")])=H8 at *
  by_cases h3:∃k∈[Kd.text,.head,.note],kindOf kx=some k
  ·rw[decide_eq_true h3];obtain⟨k,hk,ek⟩:=h3;have q1:∀H',Same H H'→Q (.bl (decide (rest≠[]) && (rest.map fun x=>(qat x).isSome).all id)) H':=fun H' s'=>by
    have:=q H' s';rw[ek]at this;dsimp only at this;rw[show qaF k=true by unfold qaF;rw[decide_eq_true hk,Bool.or_true],Bool.not_true,Bool.false_and,Bool.not_false,Bool.true_and,qeJ k rest hk]at this;exact this
   refine iteT ⟨_,rfl,_,rfl,?_⟩;rcases sv8 with⟨b1,rfl⟩ | ⟨b1,a,rfl,ha⟩
   ·have:=q1 H8 s8;rw[none1 b1]at this;exact iteF this
   have lows:PySem.W.kqdOk 9 (.list (rest.map PySem.W.Dat.str))=true:=by
    simp only[PySem.W.kqdOk,List.all_eq_true,List.mem_map];rintro d ⟨y,hy,rfl⟩;have:=qgI (rr.1 y hy).1;simpa[PySem.W.kqdOk]using this
   refine iteT ⟨_,rfl,by show 0≤sizeLine;decide,fun e9 he9=>?_⟩;have k9:=qad he9 (.lst []);refine⟨_,_,.lst (k9 _ _ ha) (qfZ _),.lst qab .nil,lows,rfl,fun e=>⟨_,rfl,iteF ?_⟩,fun e=>⟨_,rfl,iteT ?_⟩⟩
   ·injection e with e
    have e0:rest=[]:=List.map_eq_nil_iff.mp e;have:=q1 _ (s8.trans k9);rw[e0]at this;exact this
   have ne:rest≠[]:=fun z=>e (by rw[z];rfl)
   have zl2:(rest.map V.str).length<sizeLine:=by rw[List.length_map];exact qbv (by omega)
   refine⟨_,rfl,a,rfl,⟨_,SqL.of (k9 _ _ ha)⟩,qaZ (xs:=rest.map V.str) (fun i ys σ' H'=>Same (upd H8 e9 (.lst [])) H'∧ys=((rest.take i).filter fun x=>(qat x).isSome).map V.str∧∃z,σ'=[z]) zl2 ⟨Same.refl _,rfl,none,rfl⟩ ?_ ?_ ?_⟩
   ·rintro i ys σ' H' hi ⟨k10,rfl,_⟩;refine⟨SqL.of (k10 _ _ (k9 _ _ ha)),?_⟩;rw[List.length_map];exact Nat.le_trans (List.length_filter_le ..) (by rw[List.length_take];omega)
   ·rintro i y σ' σ2 H' hy ⟨k10,rfl,z,rfl⟩;rw[List.getElem?_map]at hy;cases e:rest[i]? with
    | none=>rw[e]at hy;cases hy
    | some y' =>
    rw[e]at hy;cases hy;have hy:=rr.1 y' (List.mem_of_getElem? e);refine⟨_,rfl,y',rfl,hy.1,hy.2,fun H11 k11=>⟨_,rfl,?_⟩⟩;rw[List.take_succ,e,Option.toList_some,List.filter_append,List.map_append];cases eb:(qat y').isSome with
    | true=>exact iteT ⟨_,rfl,k10.trans k11,by rw[show([y'].filter fun x=>(qat x).isSome)=[y']from List.filter_cons_of_pos eb];rfl,_,rfl⟩
    | false=>exact iteF ⟨k10.trans k11,by rw[show([y'].filter fun x=>(qat x).isSome)=[]from List.filter_cons_of_neg (by rw[eb];decide),List.map_nil,List.append_nil],_,rfl⟩
   ·rintro ys σ' H10 ⟨k10,rfl,_⟩ D hD;rw[List.length_map,List.take_length];have k11:=qad hD (.lst ((rest.filter fun x=>(qat x).isSome).map V.str));refine⟨D,_,rfl,.inl (SqL.of qab),_,rfl,a,_,rfl,.inl (SqL.of (k11 _ _ (k10 _ _ (k9 _ _ ha)))),rfl,?_⟩;rw[List.length_map,List.length_map];have e:decide (V.int ((rest.filter fun x=>(qat x).isSome).length:Nat)=V.int (rest.length:Nat))=(rest.map fun x=>(qat x).isSome).all id:=by
     rw[←qeb,Bool.eq_iff_iff,decide_eq_true_iff,decide_eq_true_iff];constructor
     ·intro z;have:=V.int.inj z;omega
     ·intro z;rw[z]
    rw[e];have:=q1 _ (((s8.trans k9).trans k10).trans k11);rw[decide_eq_true ne,Bool.true_and]at this;exact this
  rw[decide_eq_false h3];refine iteF ⟨_,rfl,by show 5≤sizeLine;decide,fun L9 hL9=>⟨L9,_,rfl,.inl (SqL.of qab),rfl,rfl,_,rfl,?_⟩⟩;rw[if_neg Bool.false_ne_true,show inV (V.str kx) [V.str (Str.ofString "body"),V.str (Str.ofString "case"),V.str (Str.ofString "shelf"),V.str (Str.ofString "grid"),V.str (Str.ofString "aside")]=decide (∃k∈[Kd.body,.case,.shelf,.grid,.aside],kindOf kx=some k)from qf2 [Kd.body,.case,.shelf,.grid,.aside] (by decide)];have s9:=s8.trans (qad hL9 (.lst [.str (Str.ofString "body"),.str (Str.ofString "case"),.str (Str.ofString "shelf"),.str (Str.ofString "grid"),.str (Str.ofString "aside")]));cases ek:kindOf kx with
  | none =>
    rw[decide_eq_false (fun⟨k,_,z⟩=>by cases z)]
    have:=q _ s9
    rw[ek]at this
    exact iteF this
  | some k =>
    have hka:=(qbU ek).2
    have hk5:k∈[Kd.body,.case,.shelf,.grid,.aside]∧qaF k=false:=by
      cases k<;>first | exact⟨by decide,rfl⟩ | exact absurd ek hp | exact absurd ⟨_,by decide,ek⟩ h3 | exact absurd hka (by decide)
    rw[decide_eq_true ⟨k,hk5.1,rfl⟩]
    refine iteT ⟨_,rfl,?_⟩
    have:=q _ s9
    rw[ek]at this
    dsimp only at this
    rw[hk5.2,Bool.not_false,Bool.true_and]at this
    rcases sv8 with⟨b1,rfl⟩ | ⟨b1,a,rfl,ha⟩
    · rw[decide_eq_false (by omega:¬qaB ws<ws.length),Bool.not_false,Bool.true_and,qdo k rest hk5.2 (none1 b1)]at this
      exact this
    · rw[decide_eq_true b1,Bool.not_true,Bool.false_and]at this
      exact this
end
end K08
namespace Gen
open PySem L2 Bk
def RowS(n c:Nat)(x:Str):Prop:=Low x∧x.length≤n∧x.cps.toList.count 32≤c
instance (n c:Nat) (x:Str):Decidable (RowS n c x):=inferInstanceAs (Decidable (_=true∧_∧_))
theorem RowS.app{n c m d:Nat}{x y:Str}(h:RowS n c x)(k:RowS m d y):RowS (n+m) (c+d) (x++y):=by
 refine⟨?_,?_,?_⟩
 ·refine qd2 fun a ha=>?_
  rw[qbx]at ha;have lx:=h.1;have ly:=k.1;unfold Low at lx ly;rw[Array.all_eq_true']at lx ly;rcases List.mem_append.mp ha with z | z
  ·exact of_decide_eq_true (lx a (by simpa using z))
  ·exact of_decide_eq_true (ly a (by simpa using z))
 ·rw[qcu];have:=h.2.1;have:=k.2.1;omega
 ·rw[qbx,List.count_append];have:=h.2.2;have:=k.2.2;omega
theorem RowS.mono{n c m d:Nat}{x:Str}(h:RowS n c x)(h1:n≤m)(h2:c≤d):RowS m d x:=⟨h.1,Nat.le_trans h.2.1 h1,Nat.le_trans h.2.2 h2⟩
theorem RowS.one{a:Nat}(h:a<128)(h2:a≠32):RowS 1 0 ⟨#[a]⟩:=by
 refine⟨qd2 fun b hb=>?_,Nat.le_refl _,?_⟩
 ·have:b=a:=by simpa using hb
  omega
 ·show[a].count 32≤0;rw[List.count_cons_of_ne (by simpa using h2)];exact Nat.le_refl _
theorem RowS.any{a:Nat}(h:a<128):RowS 1 1 ⟨#[a]⟩:=by
 refine⟨qd2 fun b hb=>?_,Nat.le_refl _,List.count_le_length⟩;have:b=a:=by simpa using hb
 omega
theorem RowS.sub{n c:Nat}{x:Str}{l:List Nat}(h:RowS n c x)(s:l.Sublist x.cps.toList):RowS n c (mkS l):=by
 refine⟨qdn h.1 fun a ha=>s.subset ha,?_,?_⟩
 ·rw[qcE];have:=s.length_le;rw[qaP]at this;exact Nat.le_trans this h.2.1
 ·exact Nat.le_trans (s.count_le _) h.2.2
theorem rep_list(z:Str):∀n,(repS z n).cps.toList=(List.replicate n z.cps.toList).flatten:=by
 intro n;have all:∀(n:Nat) (acc:Array Nat),((List.replicate n z.cps).foldl (·++ ·) acc).toList=acc.toList++(List.replicate n z.cps.toList).flatten:=by
  intro n
  induction n with
  | zero=>intro acc;simp
  | succ n ih =>
    intro acc
    rw[List.replicate_succ,List.foldl_cons,ih,List.replicate_succ,List.flatten_cons,Array.toList_append,List.append_assoc]
 have:=all n #[];simpa[repS]using this
theorem rep_one(c n:Nat):repS ⟨#[c]⟩ n=mkS (List.replicate n c):=by
 apply qdN;rw[rep_list];show(List.replicate n [c]).flatten=List.replicate n c
 induction n with
 | zero=>rfl
 | succ n ih=>rw[List.replicate_succ,List.flatten_cons,ih,List.replicate_succ];rfl
theorem RowS.rep{c n m:Nat}(h:c<128)(h2:c≠32)(hn:n≤m):RowS m 0 (repS ⟨#[c]⟩ n):=by
 rw[rep_one];refine⟨qd2 fun b hb=>?_,?_,?_⟩
 ·have:b∈List.replicate n c:=by simpa using hb
  rw[List.eq_of_mem_replicate this];exact h
 ·rw[qcE,List.length_replicate];exact hn
 ·show(List.replicate n c).count 32≤0;rw[List.count_replicate];simp[h2]
def figB(x:Str):Bool:=decide (RowS 4 0 x)
theorem fig_all:∀n∈List.range 2101,figB (Str.ofString (toString (n:Int)))=true:=by decide +kernel
theorem RowS.num{i:Int}(h0:0≤i)(h1:i≤2100):RowS 4 0 (Str.ofString (toString i)):=by
 have:=fig_all i.toNat (List.mem_range.mpr (by omega));rw[show((i.toNat:Nat):Int)=i by omega]at this;exact of_decide_eq_true this
theorem qeC{n c:Nat}:∀{l:List Str},(∀x∈l,RowS n c x)→RowS (l.length*(n+1)) (l.length*(c+1)) (Str.join (T " ") l)
 | [], _ => by
   exact(show RowS 0 0 (Str.join (T " ") []) by decide +kernel).mono (Nat.zero_le _) (Nat.zero_le _)
 | [x], h => by
   rw[join_one]
   exact(h x List.mem_cons_self).mono (by simp) (by simp)
 | x :: y :: r, h => by
   rw[join_cons]
   have h1:=(h x List.mem_cons_self).app (show RowS 1 1 (T " ") by decide +kernel)
   have h2:=h1.app (qeC (l:=y::r) fun z hz=>h z (List.mem_cons_of_mem _ hz))
   refine h2.mono ?_ ?_
   · show n+1+(y::r).length*(n+1)≤((y::r).length+1)*(n+1)
     rw[Nat.succ_mul]
     omega
   · show c+1+(y::r).length*(c+1)≤((y::r).length+1)*(c+1)
     rw[Nat.succ_mul]
     omega
theorem RowS.ok{x:Str}(h:RowS 1000 59 x):RowOk x:=rowOk_of h.1 h.2.1 h.2.2
def strsT:List Str→TA
 | []=>tNil
 | y::r=>qgo (tC (.str y)) (strsT r)
def isStr:Expr→Str→Bool
 | .Constant (.str a) _ _,y=>a == y
 | _,_=>false
theorem isStr_eq{e:Expr}{y:Str}(h:isStr e y=true):∃j pos,e=.Constant (.str y) j pos:=by
 unfold isStr at h
 split at h
 ·rw[beq_iff_eq.mp h];exact⟨_,_,rfl⟩
 ·cases h
def isStrs:List Expr→List Str→Bool
 | [],[]=>true
 | e::es,y::ys=>isStr e y && isStrs es ys
 | _,_=>false
theorem qgf{X:Cx}:∀{es:List Expr} {ys:List Str},isStrs es ys=true→PA X es (strsT ys)
 | [],[],_=>pa_nil
 | e :: es, y :: ys, h => by
   rw[isStrs,Bool.and_eq_true]at h
   obtain⟨a,b,rfl⟩:=isStr_eq h.1
   exact qaa qah (qgf h.2) (by rfl)
theorem qee{X:Cx}{es:List Expr}{pos:Pos}(ys:List Str)(h:isStrs es ys=true):PE X (.List es pos) (tLst (strsT ys)):=qaD (qgf h)
theorem strsT_ok:∀{ys:List Str} {σ:St} {H:Hp} {Q:List V→Hp→Prop},Q (ys.map V.str) H→strsT ys σ H Q
 | [],σ,H,Q,h=>h
 | y::r,σ,H,Q,h=>strsT_ok (ys:=r) (Q:=fun xs H2=>Q (.str y::xs) H2) h
theorem qed{ys:List Str}{σ:St}{H:Hp}{Q:VK}(le:ys.length≤100)(h:∀l,H l=none→Q (.ref l) (upd H l (.lst (ys.map V.str)))):tLst (strsT ys) σ H Q :=
 strsT_ok (Q:=fun xs H2=>xs.length≤sizeLine∧∀l,H2 l=none→Q (.ref l) (upd H2 l (.lst xs))) ⟨by rw[List.length_map];exact Nat.le_trans le (by decide),h⟩
def qd4(n c:Nat):Sp:=fun vs H Q _=>∃st:Addr,vs=[.ref st]∧StOk H st∧∀x H',RowS n c x→StOk H' st→qcJ st H H'→Q (.str x) H'
def spLetters:Sp:=fun vs H Q _=>∃(st:Addr) (m:Int),vs=[.ref st,.int m]∧StOk H st∧0<m∧m≤9∧∀x H',RowS 9 0 x→StOk H' st→qcJ st H H'→Q (.str x) H'
def spSpoiled:Sp:=fun vs H Q _=>∃(x:Str) (st:Addr) (n c:Nat),vs=[.str x,.ref st]∧StOk H st∧RowS n c x∧n≤900∧∀y H',RowS (n+1) (c+1) y→StOk H' st→qcJ st H H'→Q (.str y) H'
end Gen
namespace K08
open PySem L2 Bk Gen
abbrev sLetters:Stmt:=top 79
abbrev sPieceD:Stmt:=top 80
abbrev sRowD:Stmt:=top 81
abbrev sSpoiled:Stmt:=top 82
abbrev sOdd:Stmt:=top 83
section
variable{P:Program}{w:World}{K:PySem.W.Frag}{mg:Str→Option Value}{base:Heap}
def lets:Str:=Str.ofString "abcxyzmn"
theorem lets_is:lets.cps.toList=[97,98,99,120,121,122,109,110]:=by decide +kernel
theorem lets_at{i:Int}(h0:0≤i)(h1:i<8):∃c,atI lets.cps.toList i=some c∧c<128∧c≠32:=by
 rw[lets_is];obtain⟨c,e,m⟩:=qfp (l:=[97,98,99,120,121,122,109,110]) h0 h1;exact⟨c,e,(by decide:∀c∈[97,98,99,120,121,122,109,110],c<128∧c≠32) c m⟩
def wsg:Str:=Str.ofString "abXYZ019.,-;:'()!?"
theorem wsg_at{i:Int}(h0:0≤i)(h1:i<18):∃c,atI wsg.cps.toList i=some c∧c<128∧c≠32:=by
 obtain⟨c,e,m⟩:=qfp (l:=wsg.cps.toList) h0 (by rw[show wsg.cps.toList.length=18 by decide +kernel];exact h1);exact⟨c,e,(by decide +kernel:∀c∈wsg.cps.toList,c<128∧c≠32) c m⟩
def odds : Str := Str.ofString "abB0 |#.*{}>_-/~\"\n\t+"
theorem odds_at{i:Int}(h0:0≤i)(h1:i<20):∃c,atI odds.cps.toList i=some c∧c<128:=by
 obtain⟨c,e,m⟩:=qfp (l:=odds.cps.toList) h0 (by rw[show odds.cps.toList.length=20 by decide +kernel];exact h1);exact⟨c,e,(by decide +kernel:∀c∈odds.cps.toList,c<128) c m⟩
theorem sz{n:Nat}(h:n≤5000):n≤sizeLine:=Nat.le_trans h (by decide)
theorem scLetters:FnScope ["_law_stream_here", "_law_most", "_law_name", "_law_k"] ["_law_stream_here", "_law_most"] (qag sLetters):=⟨rfl,rfl,rfl,by decide +kernel,rfl,by decide +kernel,by decide +kernel⟩
theorem ok_letters{f:Addr}{fd:FuncData}(F:Fun K "_law_letters" "_law_letters" sLetters f fd)(T:Bn mg)(F_take:Fx P w K mg base CX0 1 "_law_take" ["_law_stream_here", "_law_most"] spTake):FnOk P w K mg base CX0 2 f fd ["_law_stream_here", "_law_most"] spLetters:=by
 refine F.ok scLetters (fun vs H Q E h=>?_) (fun cdv A outer s H vs Q E hr h=>?_)
 ·obtain⟨st,m,rfl,_⟩:=h;rfl
 ·obtain⟨st,m,rfl,S,m1,m2,q⟩:=h;have hr_take:=hr;refine⟨_,(qac (qan (i:=2) scLetters.nd (by rfl) (by trivial) qah)
   (qac (qb4 PassesOwn.never (by rfl) (qbQ (by rfl) T.range (qaa (qaE op_add qaf (qar F_take hr_take (by rfl) qas (qaa (pv 0) (qaa (pv 1) pa_nil)))) pa_nil)) (qax (i:=3) scLetters.nd (by rfl) (by trivial))
   (qae (qan (i:=2) scLetters.nd (by rfl) (by trivial) (qaE op_add_str (pv 2) (qap ix_str qah (qar F_take hr_take (by rfl) qas (qaa (pv 0) (qaa qaf pa_nil))) (fun _ _=>rfl))))))
   (qae (qak (pv 2))))),?_⟩
  refine⟨_,rfl,_,rfl,st,m,rfl,S,by omega,by omega,fun r H1 r0 r1 S1 K1=>⟨_,_,rfl,rfl,_,rfl,by omega,by omega,qcT (fun i σ H2=>∃(x:Str) (v:Option V),σ=[some (.ref st),some (.int m),some (.str x),v]∧RowS i 0 x∧StOk H2 st∧qcJ st H H2)
   ⟨noName,none,rfl,by decide +kernel,S1,K1⟩ ?_ ?_⟩⟩
  ·rintro i σ H2 hi ⟨x,v,rfl,rx,S2,K2⟩;refine⟨_,rfl,_,rfl,st,8,rfl,S2,by decide,by decide,fun r2 H3 r20 r21 S3 K3=>?_⟩;obtain⟨c,ec,c1,c2⟩:=lets_at r20 r21;have:=rx.2.1;refine⟨lets,_,c,rfl,rfl,by decide +kernel,ec,_,_,rfl,rfl,sz (by show x.length+1≤5000;omega),?_⟩;exact⟨x++⟨#[c]⟩,_,rfl,rx.app (RowS.one c1 c2),S3,K2.trans K3⟩
  ·rintro σ H2 ⟨x,v,rfl,rx,S2,K2⟩;exact⟨_,rfl,q x H2 (rx.mono (by omega) (Nat.le_refl _)) S2 K2⟩
theorem scPieceD:FnScope ["_law_stream_here", "_law_sort", "_law_tone", "_law_word", "_law_k"] ["_law_stream_here"] (qag sPieceD):=⟨rfl,rfl,rfl,by decide +kernel,rfl,by decide +kernel,by decide +kernel⟩
theorem ok_piece{f:Addr}{fd:FuncData}(F:Fun K "_law_piece" "_law_piece" sPieceD f fd)(T:Bn mg)(F_take:Fx P w K mg base CX0 1 "_law_take" ["_law_stream_here", "_law_most"] spTake)(F_letters:Fx P w K mg base CX0 2 "_law_letters" ["_law_stream_here", "_law_most"] spLetters):FnOk P w K mg base CX0 3 f fd ["_law_stream_here"] (qd4 30 0):=by
 refine F.ok scPieceD (fun vs H Q E h=>?_) (fun cdv A outer s H vs Q E hr h=>?_)
 ·obtain⟨st,rfl,_⟩:=h;rfl
 ·obtain⟨st,rfl,S,q⟩:=h;have hr_take:Room 1 _:=hr.mono (by decide);have hr_letters:=hr;refine⟨_,(qac (qan (i:=1) scPieceD.nd (by rfl) (by trivial) (qar F_take hr_take (by rfl) qas (qaa (pv 0) (qaa qaf pa_nil))))
   (qac (qan (i:=2) scPieceD.nd (by rfl) (by trivial) (qaE op_mulS qah (qar F_take hr_take (by rfl) qas (qaa (pv 0) (qaa qaf pa_nil)))))
   (qac (qaH (qaj op_eq (pv 1) qaf (qam _)) (qae (qak qah)) pss_nil)
   (qac (qaH (qaj op_eq (pv 1) qaf (qam _)) (qae (qak (qaE op_add_str (qaE op_add_str (qaE op_add_str (pv 2) qah) (qar F_letters hr_letters (by rfl) qas (qaa (pv 0) (qaa qaf pa_nil)))) qah))) pss_nil)
   (qac (qan (i:=3) scPieceD.nd (by rfl) (by trivial) qah)
   (qac (qb4 PassesOwn.never (by rfl) (qbQ (by rfl) T.range (qaa (qaE op_add qaf (qar F_take hr_take (by rfl) qas (qaa (pv 0) (qaa (qap ix_list (qaD (qaa qaf (qaa qaf pa_nil))) (qbV call_int1 (by rfl) T.int b_int (qaa (qaI op_eq (pv 1) qaf (qam _)) pa_nil)) (fun _ _=>rfl)) pa_nil)))) pa_nil)) (qax (i:=4) scPieceD.nd (by rfl) (by trivial))
   (qae (qan (i:=3) scPieceD.nd (by rfl) (by trivial) (qaE op_add_str (pv 3) (qap ix_str qah (qar F_take hr_take (by rfl) qas (qaa (pv 0) (qaa qaf pa_nil))) (fun _ _=>rfl))))))
   (qae (qak (qaE op_add_str (pv 2) (pv 3)))))))))),?_⟩
  refine⟨_,rfl,st,6,rfl,S,by decide,by decide,fun so H1 so0 so1 S1 K1=>?_⟩;refine⟨_,rfl,st,5,rfl,S1,by decide,by decide,fun tn H2 tn0 tn1 S2 K2=>?_⟩;have etn:tn=((tn.toNat:Nat):Int):=by omega
  refine⟨Str.ofString "*",tn.toNat,rfl,by rw[←etn],by decide +kernel,by omega,?_⟩;rw[show Str.ofString "*" = ⟨#[42]⟩from sg_star];have rt:RowS 4 0 (repS ⟨#[42]⟩ tn.toNat):=RowS.rep (by decide) (by decide) (by omega);have K02:=K1.trans K2;generalize repS ⟨#[42]⟩ tn.toNat=tone at *;have lt:=rt.2.1;refine⟨_,rfl,rfl,_,rfl,?_⟩
  by_cases h0:so=0
  ·rw[decide_eq_true (by rw[h0]:V.int so=V.int 0)];exact iteT (q _ _ (by decide +kernel) S2 K02)
  rw[decide_eq_false (fun z=>h0 (V.int.inj z):¬V.int so=V.int 0)];refine iteF ⟨_,rfl,rfl,_,rfl,?_⟩
  by_cases h1:so=1
  ·rw[decide_eq_true (by rw[h1]:V.int so=V.int 1)];refine iteT ⟨_,rfl,_,_,rfl,rfl,sz (by show tone.length+1≤5000;omega),_,rfl,st,9,rfl,S2,by decide,by decide,fun x H3 rx S3 K3=>?_⟩;have r1:=(rt.app (show RowS 1 0 (Str.ofString "{") by decide +kernel)).app rx;have l1:=r1.2.1;refine⟨_,_,rfl,rfl,sz (by rw[qcu]at l1;omega),_,_,rfl,rfl,sz (by show _+1≤5000;omega),?_⟩;exact q _ _ ((r1.app (show RowS 1 0 (Str.ofString "}") by decide +kernel)).mono (by decide) (by decide)) S3 (K02.trans K3)
  rw[decide_eq_false (fun z=>h1 (V.int.inj z):¬V.int so=V.int 1)];refine iteF ?_;dsimp only[tNext];refine qaN (fun σ' H'=>σ'=[some (.ref st),some (.int so),some (.str tone),some (.str noName),none]∧H2=H') (fun D' kk=>kk _ _ ⟨rfl,rfl⟩) ?_;rintro _ _ ⟨rfl,rfl⟩;have m21:∃m:Int,0<m∧m≤21∧atI [V.int 5,V.int 21] (if decide (V.int so=V.int 2)=true then 1 else 0)=some (.int m):=by
   by_cases h2:V.int so=V.int 2
   ·rw[decide_eq_true h2];exact⟨21,by decide,by decide,rfl⟩
   ·rw[decide_eq_false h2];exact⟨5,by decide,by decide,rfl⟩
  obtain⟨m,m1,m2,em⟩:=m21;refine⟨_,rfl,by show 2≤sizeLine;decide,fun L hL=>⟨_,rfl,rfl,.inr ⟨_,rfl,L,_,_,_,rfl,rfl,SqL.of qab,em,st,m,rfl,S2.same (qad hL _),by omega,by omega,fun r H3 r0 r1 S3 K3=>⟨_,_,rfl,rfl,_,rfl,by omega,by omega,qcT (fun i σ H4=>∃(x:Str) (v:Option V),σ=[some (.ref st),some (.int so),some (.str tone),some (.str x),v]∧RowS i 0 x∧StOk H4 st∧qcJ st H H4)
   ⟨noName,none,rfl,by decide +kernel,S3,K02.trans ((qad hL _).keep.trans K3)⟩ ?_ ?_⟩⟩⟩⟩
  ·rintro i σ H4 hi ⟨x,v,rfl,rx,S4,K4⟩;refine⟨_,rfl,_,rfl,st,18,rfl,S4,by decide,by decide,fun r2 H5 r20 r21 S5 K5=>?_⟩;obtain⟨c,ec,c1,c2⟩:=wsg_at r20 r21;have:=rx.2.1;refine⟨wsg,_,c,rfl,rfl,by decide +kernel,ec,_,_,rfl,rfl,sz (by show x.length+1≤5000;omega),?_⟩;exact⟨x++⟨#[c]⟩,_,rfl,rx.app (RowS.one c1 c2),S5,K4.trans K5⟩
  ·rintro σ H4 ⟨x,v,rfl,rx,S4,K4⟩;have:=rx.2.1;exact⟨_,rfl,_,rfl,_,_,rfl,rfl,sz (by omega),q _ H4 ((rt.app rx).mono (by omega) (by omega)) S4 K4⟩
theorem scSpoiled:FnScope ["_law_row_here", "_law_stream_here", "_law_way", "_law_at", "_law_sign"] ["_law_row_here", "_law_stream_here"] (qag sSpoiled):=⟨rfl,rfl,rfl,by decide +kernel,rfl,by decide +kernel,by decide +kernel⟩
theorem ok_spoiled{f:Addr}{fd:FuncData}(F:Fun K "_law_spoiled" "_law_spoiled" sSpoiled f fd)(T:Bn mg)(F_take:Fx P w K mg base CX0 1 "_law_take" ["_law_stream_here", "_law_most"] spTake):FnOk P w K mg base CX0 2 f fd ["_law_row_here", "_law_stream_here"] spSpoiled:=by
 refine F.ok scSpoiled (fun vs H Q E h=>?_) (fun cdv A outer s H vs Q E hr h=>?_)
 ·obtain⟨x,st,n,c,rfl,_⟩:=h;rfl
 ·obtain⟨x,st,n,c,rfl,S,rx,n9,q⟩:=h;have hr_take:=hr;have lx:=rx.2.1;have zx:x.length≤sizeLine:=sz (by omega);have xl:=qaP x;refine⟨_,(qac (qan (i:=2) scSpoiled.nd (by rfl) (by trivial) (qar F_take hr_take (by rfl) qas (qaa (pv 1) (qaa qaf pa_nil))))
   (qac (qan (i:=3) scSpoiled.nd (by rfl) (by trivial) (qar F_take hr_take (by rfl) qas (qaa (pv 1) (qaa (qaE op_add (qal call_len_str (by rfl) T.len b_len (qaa (pv 0) pa_nil)) qaf) pa_nil))))
   (qac (qan (i:=4) scSpoiled.nd (by rfl) (by trivial) (qap ix_str qah (qar F_take hr_take (by rfl) qas (qaa (pv 1) (qaa qaf pa_nil))) (fun _ _=>rfl)))
   (qac (qaH (qaj op_eq (pv 2) qaf (qam _)) (qae (qak (qaE op_add_str (qaE op_add_str (qav sl_str (pv 0) po_none (qaz (pv 3))) (pv 4)) (qav sl_str (pv 0) (qaz (pv 3)) po_none)))) pss_nil)
   (qac (qaH (qaj op_eq (pv 2) qaf (qam _)) (qae (qak (qaE op_add_str (qav sl_str (pv 0) po_none (qaz (pv 3))) (qav sl_str (pv 0) (qaz (qaE op_add (pv 3) qaf)) po_none)))) pss_nil)
   (qac (qaH (qaj op_eq (pv 2) qaf (qam _)) (qae (qak (qaE op_add_str (qaE op_add_str (qav sl_str (pv 0) po_none (qaz (pv 3))) (pv 4)) (qav sl_str (pv 0) (qaz (qaE op_add (pv 3) qaf)) po_none)))) pss_nil)
   (qae (qak (pv 0))))))))),?_⟩
  refine⟨_,rfl,st,5,rfl,S,by decide,by decide,fun way H1 w0 w1 S1 K1=>?_⟩;refine⟨_,rfl,_,rfl,x,rfl,zx,_,_,rfl,rfl,st,(x.length:Int)+1,rfl,S1,by omega,by omega,fun at' H2 a0 a1 S2 K2=>?_⟩;obtain⟨a,rfl⟩:∃a:Nat,at'=(a:Int):=⟨at'.toNat,by omega⟩;refine⟨_,rfl,st,20,rfl,S2,by decide,by decide,fun r3 H3 r30 r31 S3 K3=>?_⟩;obtain⟨g,eg,g1⟩:=odds_at r30 r31;refine⟨odds,_,g,rfl,rfl,by decide +kernel,eg,?_⟩;have K03:=K1.trans (K2.trans K3);have rg:RowS 1 1 ⟨#[g]⟩:=RowS.any g1;have halves:∀b:Nat,RowS n c (mkS (x.cps.toList.take a)++mkS (x.cps.toList.drop (a+b))):=fun b=>by
   have h1:(x.cps.toList.drop (a+b)).Sublist (x.cps.toList.drop a):=by
    rw[←List.drop_drop];exact List.drop_sublist _ _
   have h2:=(List.Sublist.refl (x.cps.toList.take a)).append h1;rw[List.take_append_drop]at h2;have h:=RowS.sub (l:=x.cps.toList.take a++x.cps.toList.drop (a+b)) rx h2
   ·have e:mkS (x.cps.toList.take a)++mkS (x.cps.toList.drop (a+b))=mkS (x.cps.toList.take a++x.cps.toList.drop (a+b)):=qdN (by rw[qbx]);rw[e];exact h
  have three:∀b:Nat,RowS (n+1) (c+1) (mkS (x.cps.toList.take a)++⟨#[g]⟩++mkS (x.cps.toList.drop (a+b))):=fun b=>by
   have h:=halves b;refine⟨?_,?_,?_⟩
   ·refine qd2 fun d hd=>?_
    rw[qbx,qbx]at hd;rcases List.mem_append.mp hd with z | z
    ·rcases List.mem_append.mp z with z | z
     ·have lo:=h.1;unfold Low at lo;rw[Array.all_eq_true']at lo
      exact of_decide_eq_true (lo d (by have : d ∈ (mkS (x.cps.toList.take a) ++ mkS (x.cps.toList.drop (a + b))).cps.toList := by rw [qbx]; exact List.mem_append_left _ z
                                        simpa using this))
     ·have:d=g:=by simpa using z
      omega
    ·have lo:=h.1;unfold Low at lo;rw[Array.all_eq_true']at lo
     exact of_decide_eq_true (lo d (by have : d ∈ (mkS (x.cps.toList.take a) ++ mkS (x.cps.toList.drop (a + b))).cps.toList := by rw [qbx]; exact List.mem_append_right _ z
                                       simpa using this))
   ·have h2:=h.2.1;rw[qcu]at h2;rw[qcu,qcu];show _+1+_≤_;omega
   ·have h2:=h.2.2;rw[qbx,List.count_append]at h2;rw[qbx,qbx,List.count_append,List.count_append];have:=rg.2.2;omega
  have l1:(mkS (x.cps.toList.take a)).length≤n:=by
   rw[qcE,List.length_take];omega
  have l2:∀b:Nat,(mkS (x.cps.toList.drop (a+b))).length≤n:=fun b=>by
   rw[qcE,List.length_drop];omega
  refine⟨_,rfl,rfl,_,rfl,?_⟩
  by_cases h1:way=1
  ·rw[decide_eq_true (by rw[h1]:V.int way=V.int 1)];refine iteT ⟨_,rfl,_,rfl,_,rfl,x,rfl,zx,?_⟩;rw[qcs];refine⟨_,rfl,_,_,rfl,rfl,sz (by show _+1≤5000;omega),_,rfl,_,rfl,_,rfl,x,rfl,zx,?_⟩;rw[qbw];have:=l2 0;refine⟨_,_,rfl,rfl,sz (by rw[qcu];show _+1+_≤5000;rw[Nat.add_zero]at this;omega),q _ _ (three 0) S3 K03⟩
  rw[decide_eq_false (fun z=>h1 (V.int.inj z):¬V.int way=V.int 1)];refine iteF ⟨_,rfl,rfl,_,rfl,?_⟩
  by_cases h2:way=2
  ·rw[decide_eq_true (by rw[h2]:V.int way=V.int 2)];refine iteT ⟨_,rfl,_,rfl,_,rfl,x,rfl,zx,?_⟩;rw[qcs];refine⟨_,rfl,_,rfl,_,_,rfl,rfl,_,rfl,x,rfl,zx,?_⟩;dsimp only;rw[show((a:Nat):Int)+1=((a+1:Nat):Int) by omega,qbw];have:=l2 1;exact⟨_,_,rfl,rfl,sz (by omega),q _ _ ((halves 1).mono (by omega) (by omega)) S3 K03⟩
  rw[decide_eq_false (fun z=>h2 (V.int.inj z):¬V.int way=V.int 2)];refine iteF ⟨_,rfl,rfl,_,rfl,?_⟩
  by_cases h3:way=3
  ·rw[decide_eq_true (by rw[h3]:V.int way=V.int 3)];refine iteT ⟨_,rfl,_,rfl,_,rfl,x,rfl,zx,?_⟩;rw[qcs];refine⟨_,rfl,_,_,rfl,rfl,sz (by show _+1≤5000;omega),_,rfl,_,rfl,_,_,rfl,rfl,_,rfl,x,rfl,zx,?_⟩;dsimp only;rw[show((a:Nat):Int)+1=((a+1:Nat):Int) by omega,qbw];have:=l2 1;exact⟨_,_,rfl,rfl,sz (by rw[qcu];show _+1+_≤5000;omega),q _ _ (three 1) S3 K03⟩
  rw[decide_eq_false (fun z=>h3 (V.int.inj z):¬V.int way=V.int 3)];exact iteF ⟨_,rfl,q _ _ (rx.mono (by omega) (by omega)) S3 K03⟩
end
end K08
namespace Gen
open PySem L2 Bk
theorem qdR{p:Prop}{x y:Str}(h:y∈wd p x):y=x:=by
 unfold wd at h
 split at h
 ·simpa using h
 ·cases h
def otherWords:List Str:=[T "many",T "body",T "level",T "place",T "name",T "marks",T "pieces",T "bare",T "notes",T "case"]
theorem other_form:∀y∈otherWords,y≠T "form":=by decide +kernel
theorem qfN{ds:List Nd}{d:Nd}{y:Str}(h:y∈qa1 ds d):y∈otherWords:=by
 unfold qa1 at h;rcases List.mem_append.mp h with h | h
 ·rcases List.mem_append.mp h with h | h
  ·rcases List.mem_append.mp h with h | h
   ·rw[qdR h];decide +kernel
   ·rw[qdR h];decide +kernel
  ·rw[qdR h];decide +kernel
 ·rw[qdR h];decide +kernel
theorem qeP{d:Nd}{lv:Nat}{y:Str}(h:y∈qaX d lv):y∈otherWords:=by rw[qdR h];decide +kernel
theorem qdA{ds:List Nd}{d:Nd}{y:Str}(h:y∈(qaA ds d).2):y∈otherWords:=by
 unfold qaA at h
 split at h
 ·have:y=T "place":=by simpa using h
  rw[this];decide +kernel
 ·rcases List.mem_append.mp h with h | h
  ·exact qeP h
  ·exact qfN h
theorem read_mem{ds:List Nd}{x:Str}{d:Nd}(e:qaG x=some d){y:Str}(h:y∈(qa9 ds x).2):y∈otherWords:=by
 unfold qa9 at h;rw[e]at h;dsimp only at h
 split at h
 ·have:y=T "many":=by simpa using h
  rw[this];decide +kernel
 ·split at h
  ·unfold qbi at h
   split at h
   ·rcases List.mem_append.mp h with h | h
    ·exact qeP h
    ·exact qfN h
   ·rcases List.mem_cons.mp h with h | h
    ·rw[h];decide +kernel
    ·exact qdA h
  ·split at h
   ·rcases List.mem_cons.mp h with h | h
    ·rw[h];decide +kernel
    ·exact qdA h
   ·exact qdA h
theorem read_form{ds:List Nd}{x:Str}(e:qaG x=none):(qa9 ds x).2=[T "form"]:=by
 unfold qa9;rw[e]
theorem end_mem{ds:List Nd}{y:Str}(h:y∈qbK ds):y∈otherWords:=by
 unfold qbK at h;rcases List.mem_append.mp h with h | h
 ·rcases List.mem_append.mp h with h | h
  ·rcases List.mem_append.mp h with h | h
   ·rw[qdR h];decide +kernel
   ·obtain⟨j,d,_,_,h⟩:=qcw h
    split at h
    ·have:y=T "notes":=by simpa using h
     rw[this];decide +kernel
    ·cases h
  ·obtain⟨j,d,_,_,h⟩:=qcw h
   split at h
   ·have:y=T "case":=by simpa using h
    rw[this];decide +kernel
   ·cases h
 ·rw[qdR h];decide +kernel
theorem qeS(a b:List (Int×Str)):qaM (a++b)=qaM a++qaM b:=by
 unfold qaM;rw[List.filter_append,List.map_append]
theorem qdZ{l:List (Int×Str)}(h:∀m∈l,m.2≠T "form"):qaM l=[]:=by
 unfold qaM;rw[List.filter_eq_nil_iff.mpr fun m hm=>by simp[h m hm]];rfl
noncomputable def qgv(rows:List Str)(i:Nat):List Int:=atTo rows (fun j x=>if(qaG x).isSome then[]else[(j:Int)]) i
theorem qfs(rows:List Str):∀i,qaM (rdTo rows i).2=qgv rows i
 | 0=>rfl
 | i + 1 => by
   have ih:=qfs rows i
   unfold qgv
   cases e:rows[i]? with
   | none =>
     rw[rdTo,atTo,e]
     exact ih
   | some x =>
     rw[qef e,qaR e]
     show qaM ((rdTo rows i).2++_)=_
     rw[qeS,ih]
     unfold qgv
     congr 1
     cases er:qaG x with
     | none =>
       rw[read_form er]
       show qaM [((i:Int),T "form")]=[(i:Int)]
       unfold qaM
       rw[show([((i:Int),T "form")].filter fun m=>decide (m.2=T "form"))=[((i:Int),T "form")]from List.filter_cons_of_pos (decide_eq_true rfl)]
       rfl
     | some d =>
       show _=[]
       refine qdZ fun m hm=>?_
       obtain⟨y,hy,rfl⟩:=List.mem_map.mp hm
       exact other_form y (read_mem er hy)
theorem readB_forms(rows:List Str):qaM (qes rows).2=qgv rows rows.length:=by
 show qaM ((rdTo rows rows.length).2++_)=_;rw[qeS,qfs,qdZ fun m hm=>?_,List.append_nil];obtain⟨y,hy,rfl⟩:=List.mem_map.mp hm;exact other_form y (end_mem hy)
theorem qgr(rows:List Str):∀i,(rdTo rows i).2.Pairwise (fun a b=>a.1≤b.1)∧∀m∈(rdTo rows i).2,0≤m.1∧m.1<i
 | 0=>⟨List.Pairwise.nil,fun m hm=>nomatch hm⟩
 | i + 1 => by
   obtain⟨p,q⟩:=qgr rows i
   cases e:rows[i]? with
   | none =>
     rw[rdTo,e]
     exact⟨p,fun m hm=>by have:=q m hm;omega⟩
   | some x =>
     rw[qef e]
     refine⟨List.pairwise_append.mpr ⟨p,?_,fun a ha b hb=>?_⟩,fun m hm=>?_⟩
     · rw[List.pairwise_map]
       exact List.pairwise_of_forall (fun _ _=>Int.le_refl _)
     · obtain⟨y,_,rfl⟩:=List.mem_map.mp hb
       have:=q a ha
       show a.1≤(i:Int)
       omega
     · rcases List.mem_append.mp hm with h | h
       · have:=q m h;omega
       · obtain⟨y,_,rfl⟩:=List.mem_map.mp h
         show 0≤(i:Int)∧(i:Int)<_
         omega
theorem okM_of{a b:List (Int×Str)}(p:a.Pairwise fun x y=>x.1≤y.1)(q:∀m∈a,0≤m.1)(r:∀m∈b,m.1=-1):OkM (a++b):=by
 intro i m h
 by_cases hi:i<a.length
 ·rw[List.getElem?_append_left hi]at h;have hm:=q m (List.mem_of_getElem? h);have l0:0≤qce (a++b) i∧qce (a++b) i≤m.1:=by
   cases i with
   | zero=>exact⟨Int.le_refl _,hm⟩
   | succ i =>
     have hi':i<a.length:=by omega
     show 0≤(((a++b)[i]?).map (·.1)).getD 0∧(((a++b)[i]?).map (·.1)).getD 0≤m.1
     rw[List.getElem?_append_left hi',List.getElem?_eq_getElem hi']
     have h2:=List.pairwise_iff_getElem.mp p i (i+1) hi' hi (by omega)
     rw[List.getElem?_eq_getElem hi]at h
     rw[Option.some.inj h]at h2
     exact⟨q _ (List.getElem_mem hi'),h2⟩
  exact⟨.inr l0.2,fun z=>by omega⟩
 ·rw[List.getElem?_append_right (by omega)]at h;have:=r m (List.mem_of_getElem? h);exact⟨.inl this,fun _=>this⟩
theorem readB_okM(rows:List Str):OkM (qes rows).2:=by
 obtain⟨p,q⟩:=qgr rows rows.length;refine okM_of p (fun m hm=>(q m hm).1) fun m hm=>?_
 obtain⟨y,_,rfl⟩:=List.mem_map.mp hm;rfl
theorem readB_len{rows:List Str}(h:∀x∈rows,RowOk x)(le:rows.length≤200):(qes rows).2.length≤2000:=by
 show((rdTo rows rows.length).2++_).length≤_;rw[List.length_append,List.length_map];have:=qdi rows rows.length;have:=qdL (qgD h rows.length);omega
def five(x:Str):List Str:=[T "body",T ">head | a {}",T ">>note | b",x,T ">text #zzz .z | c"]
theorem five_ok{x:Str}(h:RowOk x):∀y∈five x,RowOk y:=by
 intro y hy;have c:∀y∈[T "body",T ">head | a {}",T ">>note | b",T ">text #zzz .z | c"],RowS 1000 59 y:=by decide +kernel
 unfold five at hy;rcases List.mem_cons.mp hy with rfl | hy
 ·exact(c _ (by simp)).ok
 rcases List.mem_cons.mp hy with rfl | hy
 ·exact(c _ (by simp)).ok
 rcases List.mem_cons.mp hy with rfl | hy
 ·exact(c _ (by simp)).ok
 rcases List.mem_cons.mp hy with rfl | hy
 ·exact h
 rcases List.mem_cons.mp hy with rfl | hy
 ·exact(c _ (by simp)).ok
 ·cases hy
theorem qdD{x:Str}{k:Kd}(hk:kindOf ((qaL x).headD noName)=some k)(ha:qbD (qaY (qaL x))=true)(h2:k∈[Kd.text,.head,.note])(h3:decide (qa3 (qaL x)≠[])=true)(h4:((qa3 (qaL x)).map fun x=>(qat x).isSome).all id=true):(qaG x).isSome=true:=by
 rw[qev rfl ha,hk];dsimp only;rw[show qaF k=true by unfold qaF;rw[decide_eq_true h2,Bool.or_true],qeJ k _ h2,h3,h4];rfl
theorem c0:(qaG (T "body")).isSome=true:=by
 rw[qev rfl (by decide +kernel),show kindOf ((qaL (T "body")).headD noName)=some .body by decide +kernel];dsimp only;rw[qdo .body _ rfl (by decide +kernel)];decide +kernel
theorem c1:(qaG (T ">head | a {}")).isSome=true:=qdD (k:=.head) (by decide +kernel) (by decide +kernel) (by decide) (by decide +kernel) (by decide +kernel)
theorem c2:(qaG (T ">>note | b")).isSome=true:=qdD (k:=.note) (by decide +kernel) (by decide +kernel) (by decide) (by decide +kernel) (by decide +kernel)
theorem c4:(qaG (T ">text #zzz .z | c")).isSome=true:=qdD (k:=.text) (by decide +kernel) (by decide +kernel) (by decide) (by decide +kernel) (by decide +kernel)
theorem five_forms(x:Str):qaM (qes (five x)).2=if(qaG x).isSome then[]else[3]:=by
 rw[readB_forms];unfold qgv five;simp only[List.length_cons,List.length_nil];show atTo [T "body",T ">head | a {}",T ">>note | b",x,T ">text #zzz .z | c"] (fun j x=>if(qaG x).isSome then[]else[(j:Int)]) 5=_;rw[qaR (i:=4) (d:=T ">text #zzz .z | c") rfl,qaR (i:=3) (d:=x) rfl,qaR (i:=2) (d:=T ">>note | b") rfl,qaR (i:=1) (d:=T ">head | a {}") rfl,qaR (i:=0) (d:=T "body") rfl,c0,c1,c2,c4];simp[atTo]
end Gen
namespace K08
open PySem L2 Bk Gen
abbrev sLaw:Stmt:=top 90
def qgA(K:PySem.W.Frag):Sp:=fun vs H Q _=>∃(a:Addr) (ns:List Int),vs=[.ref a]∧SqL K H a (ns.map V.int)∧ns.length≤63∧∀H',Q (.bl true) H'
section
variable{P:Program}{w:World}{K:PySem.W.Frag}{mg:Str→Option Value}{base:Heap}
theorem qfk{l:List Str}{r:Int}(h0:0≤r)(h1:r<(l.length:Int)):∃x∈l,atI (l.map V.str) r=some (.str x):=by
 obtain⟨y,e,m⟩:=strs_at (nms:=l) h0 (by rw[List.length_map];exact h1);exact⟨y,m,e⟩
theorem qfH{ys:List Str}{i:Nat}{u:TS}{D:Ends}{σ:St}{H:Hp}(le:ys.length≤100)(h:∀l,H l=none→u D (σ.set i (some (.ref l))) (upd H l (.lst (ys.map V.str)))):tSeq (tAsg (tLst (strsT ys)) (qbR i)) u D σ H:=by
 show tLst (strsT ys) σ H (fun v H1=>qbR i v σ H1 (u D));exact qed le h
def kds:List Str:=[Str.ofString "text",Str.ofString "head",Str.ofString "note",Str.ofString "picture",Str.ofString "case",Str.ofString "shelf",Str.ofString "grid",Str.ofString "aside",Str.ofString "body"]
theorem row_body:∃es1 pa pb pc,qa7 sRowD=.Assign [.Name "_law_kinds" pa] (.List es1 pb) pc::(qa7 sRowD).tail∧isStrs es1 kds=true:=⟨_,_,_,_,rfl,by decide +kernel⟩
theorem kds_row:∀x∈kds,RowS 7 0 x:=by decide +kernel
theorem scRowD:FnScope ["_law_stream_here", "_law_kinds", "_law_kind", "_law_row_here", "_law_k"] ["_law_stream_here"] (qag sRowD):=⟨rfl,rfl,rfl,by decide +kernel,rfl,by decide +kernel,by decide +kernel⟩
theorem ok_row{f:Addr}{fd:FuncData}(F:Fun K "_law_row" "_law_row" sRowD f fd)(T:Bn mg)(F_take:Fx P w K mg base CX0 1 "_law_take" ["_law_stream_here", "_law_most"] spTake)(F_letters:Fx P w K mg base CX0 2 "_law_letters" ["_law_stream_here", "_law_most"] spLetters)(F_piece:Fx P w K mg base CX0 3 "_law_piece" ["_law_stream_here"] (qd4 30 0)):FnOk P w K mg base CX0 4 f fd ["_law_stream_here"] (qd4 400 20):=by
 refine F.ok scRowD (fun vs H Q E h=>?_) (fun cdv A outer s H vs Q E hr h=>?_)
 ·obtain⟨st,rfl,_⟩:=h;rfl
 ·obtain⟨st,rfl,S,q⟩:=h;have hr_take:Room 1 _:=hr.mono (by decide);have hr_letters:Room 2 _:=hr.mono (by decide);have hr_piece:=hr;obtain⟨es1,pa,pb,pc,eb,i_kds⟩:=row_body;rw[eb];refine⟨_,(qac (qan (i:=1) scRowD.nd (by rfl) (by trivial) (qee kds i_kds))
   (qac (qan (i:=2) scRowD.nd (by rfl) (by trivial) (qap ix_list (pv 1) (qar F_take hr_take (by rfl) qas (qaa (pv 0) (qaa qaf pa_nil))) (fun _ _=>rfl)))
   (qac (qan (i:=3) scRowD.nd (by rfl) (by trivial) (qaE op_add_str (qaE op_mulS qah (qar F_take hr_take (by rfl) qas (qaa (pv 0) (qaa qaf pa_nil)))) (pv 2)))
   (qac (qaH (qaj op_eq (qar F_take hr_take (by rfl) qas (qaa (pv 0) (qaa qaf pa_nil))) qaf (qam _)) (qae (qan (i:=3) scRowD.nd (by rfl) (by trivial) (qaE op_add_str (qaE op_add_str (pv 3) qah) (qar F_letters hr_letters (by rfl) qas (qaa (pv 0) (qaa qaf pa_nil)))))) pss_nil)
   (qac (qb4 PassesOwn.never (by rfl) (qbQ (by rfl) T.range (qaa (qar F_take hr_take (by rfl) qas (qaa (pv 0) (qaa qaf pa_nil))) pa_nil)) (qax (i:=4) scRowD.nd (by rfl) (by trivial))
   (qae (qan (i:=3) scRowD.nd (by rfl) (by trivial) (qaE op_add_str (qaE op_add_str (pv 3) qah) (qar F_letters hr_letters (by rfl) qas (qaa (pv 0) (qaa qaf pa_nil)))))))
   (qac (qaH (PW.pt (qch (qaj op_eq (pv 2) qah (qam _)) (qbZ (qaj op_eq (qar F_take hr_take (by rfl) qas (qaa (pv 0) (qaa qaf pa_nil))) qaf (qam _))))) (qae (qak (qaE op_add_str (qaE op_add_str (qaE op_add_str (qaE op_add_str (pv 3) qah) (qbV call_str_int (by rfl) T.str b_str (qaa (qar F_take hr_take (by rfl) qas (qaa (pv 0) (qaa qaf pa_nil))) pa_nil))) qah) (qbV call_str_int (by rfl) T.str b_str (qaa (qaE op_add qaf (qar F_take hr_take (by rfl) qas (qaa (pv 0) (qaa qaf pa_nil)))) pa_nil))))) pss_nil)
   (qac (qaH (PW.pt (qcg (qaj op_in_seq (pv 2) (qaD (qaa qah (qaa qah (qaa qah pa_nil)))) (by with_unfolding_all rfl)) (qbG (qaj op_gt (qar F_take hr_take (by rfl) qas (qaa (pv 0) (qaa qaf pa_nil))) qaf (qam _))))) (qae (qak (qaE op_add_str (qaE op_add_str (pv 3) qah) (qbk PySem.F.plainAttrs_str PySem.F.slot_str_join PySem.F.type_str_join mt_join qah (qaa (qbh (own:=["_law_k"]) (by rfl) (ix:=[0]) (frees:=["_law_stream_here"]) (CompScope.frees (by rfl) (by decide +kernel) (by decide +kernel) (by decide +kernel) (by rfl) (by decide +kernel) (by first | exact qfg (by rfl) | exact free2 (by rfl) (by rfl))) (qbQ (by rfl) T.range (qaa (qaE op_add qaf (qar F_take hr_take (by rfl) qas (qaa (pv 0) (qaa qaf pa_nil)))) pa_nil)) (fun cl C s2 H2 fp=>(qax (i:=0) (by show(["_law_k", "_law_stream_here"]:List Str).Nodup;decide +kernel) (by rfl) (by trivial) (by trivial))) (fun cl C s2 H2 fp=>qbC) (fun cl C s2 H2 fp=>(qar F_piece hr_piece (by rfl) qas (qaa (pv 1) pa_nil)))) pa_nil))))) pss_nil)
   (qae (qak (pv 3)))))))))),?_⟩
  refine qfH (by decide) fun l hl=>?_
  have k1:=qad hl (.lst (kds.map V.str));have nl:l≠st:=qfT S.some hl;refine⟨_,rfl,_,rfl,st,9,rfl,S.same k1,by decide,by decide,fun r H2 r0 r1 S2 K2=>?_⟩;obtain⟨kd,mk,ek⟩:=qfk (l:=kds) r0 (by rw[show kds.length=9 from rfl];exact r1);have K02:qcJ st H H2:=k1.keep.trans K2;refine⟨l,_,_,_,rfl,rfl,SqL.of (K2 _ _ nl qab),ek,?_⟩;have rk:=kds_row kd mk;refine⟨_,rfl,st,9,rfl,S2,by decide,by decide,fun lv H3 lv0 lv1 S3 K3=>?_⟩;have elv:lv=((lv.toNat:Nat):Int):=by omega
  refine⟨Str.ofString ">",lv.toNat,rfl,by rw[←elv],by decide +kernel,by omega,?_⟩;rw[show Str.ofString ">" = ⟨#[62]⟩from sg_gt];have rt:RowS 8 0 (repS ⟨#[62]⟩ lv.toNat):=RowS.rep (by decide) (by decide) (by omega);generalize repS ⟨#[62]⟩ lv.toNat=gts at *;have K03:=K02.trans K3;have l1:=rt.2.1;have l2:=rk.2.1;refine⟨_,rfl,_,_,rfl,rfl,sz (by omega),?_⟩;have r1:=rt.app rk;dsimp only[qbR];refine qaN (fun σ' H'=>∃x,σ'=[some (.ref st),some (.ref l),some (.str kd),some (.str x),none]∧RowS 40 1 x∧StOk H' st∧qcJ st H H') (fun D' kk=>?_) ?_
  ·refine⟨_,rfl,st,2,rfl,S3,by decide,by decide,fun r4 H4 r40 r41 S4 K4=>⟨rfl,_,rfl,?_⟩⟩;have K04:=K03.trans K4;have l3:=r1.2.1
   by_cases h:r4=1
   ·rw[decide_eq_true (by rw[h]:V.int r4=V.int 1)];refine iteT ⟨_,rfl,_,_,rfl,rfl,sz (by show _+2≤5000;omega),_,rfl,st,8,rfl,S4,by decide,by decide,fun x H5 rx S5 K5=>?_⟩;have r2:=r1.app (show RowS 2 1 (Str.ofString " #") by decide +kernel);have l4:=r2.2.1;have l5:=rx.2.1;exact⟨_,_,rfl,rfl,sz (by omega),kk _ _ ⟨_,rfl,(r2.app rx).mono (by decide) (by decide),S5,K04.trans K5⟩⟩
   ·rw[decide_eq_false (fun z=>h (V.int.inj z):¬V.int r4=V.int 1)];exact iteF (kk _ _ ⟨_,rfl,r1.mono (by decide) (by decide),S4,K04⟩)
  rintro _ H4 ⟨x4,rfl,rx4,S4,K4⟩;refine qaN (fun σ' H'=>∃x z,σ'=[some (.ref st),some (.ref l),some (.str kd),some (.str x),z]∧RowS 120 8 x∧StOk H' st∧qcJ st H H') (fun D' kk=>?_) ?_
  ·refine⟨_,rfl,st,7,rfl,S4,by decide,by decide,fun r5 H5 r50 r51 S5 K5=>⟨_,rfl,by omega,by omega,qcT (fun i σ H6=>∃(x:Str) (v:Option V),σ=[some (.ref st),some (.ref l),some (.str kd),some (.str x),v]∧RowS (40+11*i) (1+i) x∧StOk H6 st∧qcJ st H H6)
    ⟨x4,none,rfl,rx4,S5,K4.trans K5⟩ ?_ ?_⟩⟩
   ·rintro i σ H6 hi ⟨x,v,rfl,rx,S6,K6⟩;have l3:=rx.2.1;refine⟨_,rfl,_,_,rfl,rfl,sz (by show _+2≤5000;omega),_,rfl,st,3,rfl,S6,by decide,by decide,fun y H7 ry S7 K7=>?_⟩;have r2:=rx.app (show RowS 2 1 (Str.ofString " .") by decide +kernel);have l4:=r2.2.1;have l5:=ry.2.1;exact⟨_,_,rfl,rfl,sz (by omega),_,_,rfl,(r2.app ry).mono (by omega) (by omega),S7,K6.trans K7⟩
   ·rintro σ H6 ⟨x,v,rfl,rx,S6,K6⟩;exact kk _ _ ⟨x,v,rfl,rx.mono (by omega) (by omega),S6,K6⟩
  rintro _ H5 ⟨x5,z5,rfl,rx5,S5,K5⟩;have l5:=rx5.2.1;have rb:=rx5.app (show RowS 3 2 (Str.ofString " | ") by decide +kernel);have lb:=rb.2.1;refine qbN (fun σ' H'=>σ'=[some (.ref st),some (.ref l),some (.str kd),some (.str x5),z5]∧StOk H' st∧qcJ st H H') (fun N0 kk=>?_) ?_
  ·refine qft (fun b H'=>StOk H' st∧qcJ st H H') (fun Q' kq=>?_) (fun b H6 ⟨S6,K6⟩=>?_)
   ·refine⟨_,rfl,rfl,_,rfl,?_⟩
    by_cases h:V.str kd=V.str (Str.ofString "picture")
    ·rw[decide_eq_true h];exact iteT (kq _ _ ⟨S5,K5⟩)
    ·rw[decide_eq_false h];exact iteF ⟨_,rfl,st,16,rfl,S5,by decide,by decide,fun r6 H6 r60 r61 S6 K6=>⟨rfl,_,rfl,kq _ _ ⟨S6,K5.trans K6⟩⟩⟩
   ·cases b with
    | false=>exact iteF (kk _ _ ⟨rfl,S6,K6⟩)
    | true =>
      refine iteT ⟨_,rfl,_,_,rfl,rfl,sz (by show _+3≤5000;omega),_,rfl,st,2100,rfl,S6,by decide,by decide,fun a H7 a0 a1 S7 K7=>⟨a,rfl,qcA (Nat.lt_trans (show a.natAbs<10000 by omega) (by decide +kernel)),_,_,rfl,rfl,?_,?_⟩⟩
      · have:=(RowS.num a0 (by omega)).2.1
        exact sz (by omega)
      have ra:=rb.app (RowS.num a0 (by omega))
      have la:=ra.2.1
      refine⟨_,_,rfl,rfl,sz (by show _+1≤5000;omega),_,rfl,st,2000,rfl,S7,by decide,by decide,fun b H8 b0 b1 S8 K8=>⟨_,_,rfl,rfl,_,rfl,qcA (Nat.lt_trans (show(1+b).natAbs<10000 by omega) (by decide +kernel)),_,_,rfl,rfl,?_,?_⟩⟩
      · have:=(RowS.num (i:=1+b) (by omega) (by omega)).2.1
        have:=(ra.app (show RowS 1 1 (Str.ofString " ") by decide +kernel)).2.1
        exact sz (by omega)
      · exact q _ _ (((ra.app (show RowS 1 1 (Str.ofString " ") by decide +kernel)).app (RowS.num (i:=1+b) (by omega) (by omega))).mono (by decide) (by decide)) S8 ((K6.trans K7).trans K8)
  rintro _ H6 ⟨rfl,S6,K6⟩;refine qbN (fun σ' H'=>σ'=[some (.ref st),some (.ref l),some (.str kd),some (.str x5),z5]∧StOk H' st∧qcJ st H H') (fun N0 kk=>?_) ?_
  ·refine qft (fun b H'=>StOk H' st∧qcJ st H H') (fun Q' kq=>?_) (fun b H7 ⟨S7,K7⟩=>?_)
   ·refine⟨_,rfl,by show 3≤sizeLine;decide,fun L hL=>⟨L,_,rfl,.inl (SqL.of qab),rfl,rfl,_,rfl,?_⟩⟩;have k7:=qad hL (.lst [.str (Str.ofString "text"),.str (Str.ofString "head"),.str (Str.ofString "note")]);refine ite2 (fun c=>?_) (fun c=>?_)
    ·exact⟨_,rfl,st,16,rfl,S6.same k7,by decide,by decide,fun r7 H7 r70 r71 S7 K7=>⟨_,_,rfl,rfl,_,rfl,kq _ _ ⟨S7,K6.trans (k7.keep.trans K7)⟩⟩⟩
    ·exact kq _ _ ⟨S6.same k7,K6.trans k7.keep⟩
   ·cases b with
    | false=>exact iteF (kk _ _ ⟨rfl,S7,K7⟩)
    | true =>
      refine iteT ⟨_,rfl,_,_,rfl,rfl,sz (by show _+3≤5000;omega),rfl,_,rfl,st,6,rfl,S7,by decide,by decide,fun m H8 m0 m1 S8 K8=>⟨_,_,rfl,rfl,_,rfl,by omega,by omega,qc0 (fun i ys σ' H9=>∃zs:List Str,ys=zs.map V.str∧zs.length=i∧(∀z∈zs,RowS 30 0 z)∧(∃z,σ'=[z,some (.ref st)])∧StOk H9 st∧qcJ st H H9) (qaC (by omega)) ⟨[],rfl,rfl,(fun z hz=>nomatch hz),⟨none,rfl⟩,S8,K7.trans K8⟩ ?_ ?_ ?_⟩⟩
      · rintro i ys σ' H9 hi ⟨zs,rfl,lz,_⟩
        rw[List.length_map]
        omega
      · rintro i ys σ' H9 hi ⟨zs,rfl,lz,rz,⟨z,rfl⟩,S9,K9⟩
        refine⟨_,rfl,st,rfl,S9,fun y H10 ry S10 K10=>⟨zs++[y],by simp,by simp;omega,fun z hz=>?_,⟨_,rfl⟩,S10,K9.trans K10⟩⟩
        rcases List.mem_append.mp hz with h | h
        · exact rz z h
        · have:z=y:=by simpa using h
          rw[this];exact ry
      · rintro ys σ' H9 ⟨zs,rfl,lz,rz,_,S9,K9⟩ D hD
        have k10:=qad hD (.lst (zs.map V.str))
        have rj:=qeC rz
        have lzs:zs.length≤6:=by omega
        have rj2:RowS 186 6 (Str.join (Str.ofString " ") zs):=rj.mono (by have:=Nat.mul_le_mul_right 31 lzs;omega) (by omega)
        have lj:=rj2.2.1
        refine⟨Str.ofString " ",D,zs,rfl,rfl,SqL.of qab,fun z hz=>Nat.le_trans (rz z hz).2.1 (by decide),by omega,by decide +kernel,_,_,rfl,rfl,sz (by omega),?_⟩
        exact q _ _ ((rb.app rj2).mono (by decide) (by decide)) (S9.same k10) (K9.trans k10.keep)
  rintro _ H7 ⟨rfl,S7,K7⟩;exact⟨_,rfl,q _ _ (rx5.mono (by decide) (by decide)) S7 K7⟩
def odd1:List Str:=[Str.ofString "",Str.ofString " ",Str.ofString ">",Str.ofString "text",Str.ofString "text |",Str.ofString "text | ",Str.ofString "text |a",Str.ofString "text| a",Str.ofString "text | a | b",Str.ofString "case | a"]
def odd2:List Str:=[Str.ofString "> case",Str.ofString "Case",Str.ofString "case .a #b",Str.ofString "case #a #b",Str.ofString "case #",Str.ofString "case .",Str.ofString "picture | 01 2"]
def odd3:List Str:=[Str.ofString "picture | 0 2",Str.ofString "picture | 2001 2",Str.ofString "picture | 3",Str.ofString "text | ****a",Str.ofString "text | *{}"]
theorem odd_body:∃es1 es2 es3 pa pb pc pd pe pf pg ph pi pj pk pl pm,qa7 sOdd=.Assign [.Name "_law_some" pa] (.List es1 pb) pc :: .Assign [.Name "_law_some" pd] (.BinOp (.Name "_law_some" pe) .Add (.List es2 pf) pg) ph :: .Assign [.Name "_law_some" pi] (.BinOp (.Name "_law_some" pj) .Add (.List es3 pk) pl) pm::(qa7 sOdd).drop 3∧isStrs es1 odd1=true∧isStrs es2 odd2=true∧isStrs es3 odd3=true :=
 ⟨_,_,_,_,_,_,_,_,_,_,_,_,_,_,_,_,rfl,by decide +kernel,by decide +kernel,by decide +kernel⟩
theorem odd_row:∀x∈odd1++odd2++odd3,RowS 400 20 x:=by decide +kernel
theorem scOdd:FnScope ["_law_stream_here", "_law_some"] ["_law_stream_here"] (qag sOdd):=⟨rfl,rfl,rfl,by decide +kernel,rfl,by decide +kernel,by decide +kernel⟩
theorem ok_odd{f:Addr}{fd:FuncData}(F:Fun K "_law_odd" "_law_odd" sOdd f fd)(F_take:Fx P w K mg base CX0 1 "_law_take" ["_law_stream_here", "_law_most"] spTake):FnOk P w K mg base CX0 2 f fd ["_law_stream_here"] (qd4 400 20):=by
 refine F.ok scOdd (fun vs H Q E h=>?_) (fun cdv A outer s H vs Q E hr h=>?_)
 ·obtain⟨st,rfl,_⟩:=h;rfl
 ·obtain⟨st,rfl,S,q⟩:=h;have hr_take:=hr;obtain⟨es1,es2,es3,pa,pb,pc,pd,pe,pf,pg,ph,pi,pj,pk,pl,pm,eb,i_odd1,i_odd2,i_odd3⟩:=odd_body;rw[eb];refine⟨_,(qac (qan (i:=1) scOdd.nd (by rfl) (by trivial) (qee odd1 i_odd1))
   (qac (qan (i:=1) scOdd.nd (by rfl) (by trivial) (qaE op_cat (pv 1) (qee odd2 i_odd2)))
   (qac (qan (i:=1) scOdd.nd (by rfl) (by trivial) (qaE op_cat (pv 1) (qee odd3 i_odd3)))
   (qae (qak (qap ix_list (pv 1) (qar F_take hr_take (by rfl) qas (qaa (pv 0) (qaa qaf pa_nil))) (fun _ _=>rfl))))))),?_⟩
  refine qfH (by decide) fun l1 hl1=>?_
  have k1:=qad hl1 (.lst (odd1.map V.str));refine⟨_,rfl,qed (by decide) fun l2 hl2=>?_⟩;have k2:=qad hl2 (.lst (odd2.map V.str));refine⟨l1,l2,_,_,rfl,rfl,k2 _ _ qab,qab,(by show 17≤sizeLine;decide),fun l3 hl3=>?_⟩;have k3:=qad hl3 (.lst (odd1.map V.str++odd2.map V.str));refine⟨_,rfl,qed (by decide) fun l4 hl4=>?_⟩;have k4:=qad hl4 (.lst (odd3.map V.str));refine⟨l3,l4,_,_,rfl,rfl,k4 _ _ qab,qab,(by show 22≤sizeLine;decide),fun l5 hl5=>?_⟩;have k5:=qad hl5 (.lst (odd1.map V.str++odd2.map V.str++odd3.map V.str));have k:=k1.trans (k2.trans (k3.trans (k4.trans k5)));have n5:l5≠st:=qfT (S.same (k1.trans (k2.trans (k3.trans k4)))).some hl5;refine⟨_,rfl,_,rfl,st,22,rfl,S.same k,by decide,by decide,fun r H2 r0 r1 S2 K2=>?_⟩;obtain⟨x,mx,ex⟩:=qfk (l:=odd1++odd2++odd3) r0 (by rw[show(odd1++odd2++odd3).length=22 from rfl];exact r1);exact⟨l5,_,_,_,rfl,rfl,SqL.of (K2 _ _ n5 qab),by rw[←List.map_append,←List.map_append];exact ex,q x H2 (odd_row x mx) S2 (k.keep.trans K2)⟩
theorem scLaw:FnScope ["_law_script", "_law_stream_here", "_law_row_here", "_law_k", "_law_one", "_law_rows", "_law_handed", "_law_found"] ["_law_script"] (qag sLaw):=⟨rfl,rfl,rfl,by decide +kernel,rfl,by decide +kernel,by decide +kernel⟩
theorem ok_law{f:Addr}{fd:FuncData}(F:Fun K "law" "law" sLaw f fd)(T:Bn mg)(F_stream:Fx P w K mg base CX0 1 "_law_stream" ["_law_script", "_law_k"] (qfW K))(F_row:Fx P w K mg base CX0 4 "_law_row" ["_law_stream_here"] (qd4 400 20))(F_spoiled:Fx P w K mg base CX0 2 "_law_spoiled" ["_law_row_here", "_law_stream_here"] spSpoiled)(F_odd:Fx P w K mg base CX0 2 "_law_odd" ["_law_stream_here"] (qd4 400 20))(F_read_book:Fx P w K mg base CX0 9 "read_book" ["rows"] spReadBook)(F_formed:Fx P w K mg base CX0 1 "_law_formed" ["_law_mends", "_law_row_here"] spFormed)(F_is_row:Fx P w K mg base CX0 4 "_law_is_row" ["_law_row_here"] spLawIsRow):FnOk P w K mg base CX0 10 f fd ["_law_script"] (qgA K):=by
 refine F.ok scLaw (fun vs H Q E h=>?_) (fun cdv A outer s H vs Q E hr h=>?_)
 ·obtain⟨a,ns,rfl,_⟩:=h;rfl
 ·obtain⟨a,ns,rfl,hS,h63,q⟩:=h;have hr_stream:Room 1 _:=hr.mono (by decide);have hr_row:Room 4 _:=hr.mono (by decide);have hr_spoiled:Room 2 _:=hr.mono (by decide);have hr_odd:Room 2 _:=hr.mono (by decide);have hr_formed:Room 1 _:=hr.mono (by decide);have hr_is_row:Room 4 _:=hr.mono (by decide);have hr_read_book:=hr;have hu:=hr.units;refine⟨_,(qac (qan (i:=1) scLaw.nd (by rfl) (by trivial) (qar F_stream hr_stream (by rfl) qas (qaa (pv 0) (qaa qaf pa_nil))))
   (qac (qan (i:=2) scLaw.nd (by rfl) (by trivial) (qar F_row hr_row (by rfl) qas (qaa (pv 1) pa_nil)))
   (qac (qb4 PassesOwn.never (by rfl) (qbQ (by rfl) T.range (qaa qaf pa_nil)) (qax (i:=3) scLaw.nd (by rfl) (by trivial))
   (qae (qan (i:=2) scLaw.nd (by rfl) (by trivial) (qar F_spoiled hr_spoiled (by rfl) qas (qaa (pv 2) (qaa (pv 1) pa_nil))))))
   (qac (qb4 PassesOwn.never (by rfl) (qbg (qaD (qaa (pv 2) (qaa (qar F_odd hr_odd (by rfl) qas (qaa (pv 1) pa_nil)) pa_nil)))) (qax (i:=4) scLaw.nd (by rfl) (by trivial))
   (qac (qan (i:=5) scLaw.nd (by rfl) (by trivial) (qaD (qaa qah (qaa qah (qaa qah (qaa (pv 4) (qaa qah pa_nil)))))))
   (qac (qan (i:=6) scLaw.nd (by rfl) (by trivial) (qbV call_list_of (by rfl) T.list b_list (qaa (pv 5) pa_nil)))
   (qac (qan (i:=7) scLaw.nd (by rfl) (by trivial) (qar F_read_book hr_read_book (by rfl) qas (qaa (pv 6) pa_nil)))
   (qae (qaH (PW.pt (qch (qaj (qfq hu) (pv 6) (pv 5) (qam _)) (qch (qbl (qaW (qcG T.isinstance (by rfl) T.list (by rfl) b_list (qap ix_tup (pv 7) qaf (fun _ _=>rfl))))) (qbZ (qaj op_ne (qar F_formed hr_formed (by rfl) qas (qaa (qap ix_tup (pv 7) qaf (fun _ _=>rfl)) (qaa qaf pa_nil))) (qar F_is_row hr_is_row (by rfl) qas (qaa (pv 4) pa_nil)) (qam _)))))) (qae (qak qc3)) pss_nil))))))
   (qae (qak qc3)))))),?_⟩
  refine⟨_,rfl,a,ns,0,rfl,hS,by decide,by decide,fun st H1 hst S1 k1=>?_⟩;refine⟨_,rfl,st,rfl,S1,fun x H2 rx S2 K2=>?_⟩;dsimp only[qbR];refine qaN (fun σ' H'=>∃y z,σ'=[some (.ref a),some (.ref st),some (.str y),z,none,none,none,none]∧RowS 402 22 y∧StOk H' st) (fun D' kk=>?_) ?_
  ·refine⟨2,rfl,by decide,by decide,qcT (fun i σ' H'=>∃y z,σ'=[some (.ref a),some (.ref st),some (.str y),z,none,none,none,none]∧RowS (400+i) (20+i) y∧StOk H' st) ⟨x,none,rfl,rx,S2⟩ ?_ ?_⟩
   ·rintro i σ' H' hi ⟨y,z,rfl,ry,S'⟩;have hi2:i<2:=hi;exact⟨_,rfl,_,rfl,y,st,400+i,20+i,rfl,S',ry,by omega,fun y2 H4 ry2 S4 _=>⟨y2,_,rfl,ry2,S4⟩⟩
   ·rintro σ' H' ⟨y,z,rfl,ry,S'⟩;exact kk _ _ ⟨y,z,rfl,ry,S'⟩
  rintro _ H3 ⟨y,z,rfl,ry,S3⟩;have oy:=(ry.mono (show 402≤1000 by decide) (show 22≤59 by decide)).ok;refine⟨_,rfl,_,rfl,st,rfl,S3,fun o H4 ro S4 K4=>⟨by show 2≤sizeLine;decide,fun L hL=>?_⟩⟩;have oo:=(ro.mono (show 400≤1000 by decide) (show 20≤59 by decide)).ok;refine⟨L,rfl,⟨_,SqL.of qab⟩,qdd (xs:=[.str y,.str o]) (fun i σ' H'=>(∃z1 z2 z3 z4 z5,σ'=[some (.ref a),some (.ref st),some (.str y),z1,z2,z3,z4,z5])∧H' L=some (.lst [.str y,.str o])) ⟨⟨_,_,_,_,_,rfl⟩,qab⟩ ?_ ?_ ?_⟩
  ·rintro i σ' H' hi ⟨_,e⟩;exact SqL.of e
  ·rintro i v σ' H5 hv ⟨⟨z1,z2,z3,z4,z5,rfl⟩,hL5⟩;obtain⟨u,rfl,ou⟩:∃u,v=.str u∧RowOk u:=by
    cases i with
    | zero=>cases hv;exact⟨y,rfl,oy⟩
    | succ i =>
      cases i with
      | zero=>cases hv;exact⟨o,rfl,oo⟩
      | succ i=>cases hv
   refine⟨_,rfl,by show 5≤sizeLine;decide,fun R hR=>?_⟩;have k6:=qad hR (.lst ((five u).map V.str));have h6:upd H5 R (.lst ((five u).map V.str)) R=some (.lst ((five u).map V.str)):=qab;have hL6:=k6 _ _ hL5;show(fun v H'=>_) _ (upd H5 R (.lst ((five u).map V.str)));generalize upd H5 R (.lst ((five u).map V.str))=H6 at *;refine⟨_,rfl,R,_,rfl,.inl (SqL.of h6),fun G hG=>?_⟩;have k7:=qad hG (.lst ((five u).map V.str));have h7:upd H6 G (.lst ((five u).map V.str)) G=some (.lst ((five u).map V.str)):=qab;have hR7:=k7 _ _ h6;have hL7:=k7 _ _ hL6;generalize upd H6 G (.lst ((five u).map V.str))=H7 at *;have f5:=five_ok ou;refine⟨_,rfl,G,five u,rfl,h7,(by show 5≤200;decide),f5,fun t b m H8 k8 ht et hb B8 hm M8 _=>?_⟩;have ok5:PySem.W.kqdOk 9 (.list ((five u).map PySem.W.Dat.str))=true:=by
    simp only[PySem.W.kqdOk,List.all_eq_true,List.mem_map];rintro d ⟨y,hy,rfl⟩;have:=qgI (f5 y hy).low;simpa[PySem.W.kqdOk]using this
   refine⟨_,rfl,_,rfl,_,_,.lst (k8 _ _ h7) (qfZ _),.lst (k8 _ _ hR7) (qfZ _),ok5,ok5,fun _=>⟨_,rfl,iteF ?_⟩,fun ne=>absurd rfl ne⟩;obtain⟨vs8,hm8,pa8⟩:=M8;refine⟨_,rfl,t,_,_,_,rfl,rfl,SqT.of et,rfl,_,_,_,_,rfl,.lst hm8,⟨_,fun u r=>r,k_ll⟩,_,rfl,iteF ?_⟩;have ff:=five_forms u;refine⟨_,rfl,t,_,_,_,rfl,rfl,SqT.of et,rfl,m,(qes (five u)).2,3,_,rfl,⟨vs8,hm8,pa8⟩,readB_len f5 (by show 5≤200;decide),readB_okM _,?_,fun H9 k9=>?_⟩
   ·rw[ff]
    split
    ·exact .inl rfl
    ·exact .inr rfl
   refine⟨_,rfl,u,rfl,ou,fun H10 k10=>⟨rfl,_,rfl,?_⟩⟩;have ee:decide (qaM (qes (five u)).2=[])=(qaG u).isSome:=by
    rw[ff];cases(qaG u).isSome<;>rfl
   rw[ee,decide_eq_true rfl];exact iteF ⟨⟨_,_,_,_,_,rfl⟩,k10 _ _ (k9 _ _ (k8 _ _ hL7))⟩
  ·rintro σ' H' _;exact q H'
end
end K08
namespace K08
open PySem L2 Bk Gen
theorem qbT{K:PySem.W.Frag}{a:Addr}{od:Option Addr}{its:Array Value}{n:Nat}{sl:Array (Option Value)}{H:Hp}{ks:List Kd}(l:K.lookup a=some ⟨.type "tuple",od,.seq its n,sl⟩)(z:its.size≤sizeLine)(v:Vals (ks.map fun k=>V.str k.s) its.toList):SqT K H a (ks.map fun k=>V.str k.s) :=
 .inr ⟨_,its,n,l,rfl,rfl,z,v⟩
theorem qb9{k:Key}{v:Value}{r:List (Key×Value)}:valueAt ((k,v)::r) k=some v:=by simp[valueAt]
theorem qbJ{k k':Key}{v:Value}{r:List (Key×Value)}(h:k'≠k):valueAt ((k',v)::r) k=valueAt r k:=by simp[valueAt,h]
theorem keys9{P:Program}{w:World}{x1 x2 x3 x4 x5 x6 x7 x8 x9:Str}{t1 t2 t3 t4 t5 t6 t7 t8 t9:Tok}{v1 v2 v3 v4 v5 v6 v7 v8 v9:Value}{e:DictEntry}(h:e∈#[⟨PyData.keyHash w.params x1,.str x1 t1,v1⟩,⟨PyData.keyHash w.params x2,.str x2 t2,v2⟩,⟨PyData.keyHash w.params x3,.str x3 t3,v3⟩,⟨PyData.keyHash w.params x4,.str x4 t4,v4⟩,⟨PyData.keyHash w.params x5,.str x5 t5,v5⟩,⟨PyData.keyHash w.params x6,.str x6 t6,v6⟩,⟨PyData.keyHash w.params x7,.str x7 t7,v7⟩,⟨PyData.keyHash w.params x8,.str x8 t8,v8⟩,⟨PyData.keyHash w.params x9,.str x9 t9,v9⟩]) :
  ∃k,(qa2 P w).is k e.key=true∧e.hash=(qa2 P w).hash k:=by
 simp only[List.mem_toArray,List.mem_cons,List.not_mem_nil,or_false]at h;rcases h with rfl | rfl | rfl | rfl | rfl | rfl | rfl | rfl | rfl<;>exact⟨.inr _,qaO _ _ _ _,rfl⟩
open PySem.W
structure At(K:Frag)(n:Str)(st:Stmt)(f:Addr)(fd:FuncData):Prop where
 a:nsIn K mainGlobals n=some (some (.ref f))
 d:FunD K n n st f fd
 f:Fun K n n st f fd
theorem at_mk{K:Frag}{n:Str}{st:Stmt}{f:Addr}{oc:Value}{od an:Option Addr}{sl:Array (Option Value)}{kV dc pm cd ct:Value}(a:nsIn K mainGlobals n=some (some (.ref f)))(l:K.lookup f=some ⟨oc,od,.func (fnOf n n (qbt st) (qa7 st) (qag st) .none kV dc pm an cd ct),sl⟩)(e:codeIn K cd n=true)(k:keepIn K (.ref f)=true):At K n st f (fnOf n n (qbt st) (qa7 st) (qag st) .none kV dc pm an cd ct):=⟨a,fund_mk l e k,fun_mk l e k⟩
def Bo(n:Str)(st:Stmt)(ps:List Str):Prop:=∀(kV doc pm:Value) (an:Option Addr) (cdv ct:Value) (us:List Value),us.length=ps.length→bindArgs (fnOf n n (qbt st) (qa7 st) (qag st) .none kV doc pm an cdv ct) ⟨us,[]⟩=pure (ps.zip us)
theorem us_s{n:Nat}{us:List Value}(h:us.length=n+1):∃u r,us=u::r∧r.length=n:=by
 cases us with
 | nil=>cases h
 | cons u r=>exact⟨u,r,rfl,Nat.succ.inj h⟩
theorem bo1{n:Str}{st:Stmt}{p0:Str}(h:∀(kV doc pm:Value) (an:Option Addr) (cdv ct u0:Value),bindArgs (fnOf n n (qbt st) (qa7 st) (qag st) .none kV doc pm an cdv ct) ⟨[u0],[]⟩=pure [(p0,u0)]):Bo n st [p0]:=fun kV doc pm an cdv ct us hl=>by
 obtain⟨u0,r0,rfl,h0⟩:=us_s hl;obtain rfl:=List.eq_nil_of_length_eq_zero h0;exact h _ _ _ _ _ _ _
theorem bo2{n:Str}{st:Stmt}{p0 p1:Str}(h:∀(kV doc pm:Value) (an:Option Addr) (cdv ct u0 u1:Value),bindArgs (fnOf n n (qbt st) (qa7 st) (qag st) .none kV doc pm an cdv ct) ⟨[u0,u1],[]⟩=pure [(p0,u0),(p1,u1)]):Bo n st [p0,p1]:=fun kV doc pm an cdv ct us hl=>by
 obtain⟨u0,r0,rfl,h0⟩:=us_s hl;obtain⟨u1,r1,rfl,h1⟩:=us_s h0;obtain rfl:=List.eq_nil_of_length_eq_zero h1;exact h _ _ _ _ _ _ _ _
theorem bo3{n:Str}{st:Stmt}{p0 p1 p2:Str}(h:∀(kV doc pm:Value) (an:Option Addr) (cdv ct u0 u1 u2:Value),bindArgs (fnOf n n (qbt st) (qa7 st) (qag st) .none kV doc pm an cdv ct) ⟨[u0,u1,u2],[]⟩=pure [(p0,u0),(p1,u1),(p2,u2)]):Bo n st [p0,p1,p2]:=fun kV doc pm an cdv ct us hl=>by
 obtain⟨u0,r0,rfl,h0⟩:=us_s hl;obtain⟨u1,r1,rfl,h1⟩:=us_s h0;obtain⟨u2,r2,rfl,h2⟩:=us_s h1;obtain rfl:=List.eq_nil_of_length_eq_zero h2;exact h _ _ _ _ _ _ _ _ _
theorem bo0{n:Str}{st:Stmt}(h:∀(kV doc pm:Value) (an:Option Addr) (cdv ct:Value),bindArgs (fnOf n n (qbt st) (qa7 st) (qag st) .none kV doc pm an cdv ct) ⟨[],[]⟩=pure []):Bo n st []:=fun kV doc pm an cdv ct us hl=>by
 obtain rfl:=List.eq_nil_of_length_eq_zero hl;exact h _ _ _ _ _ _
theorem fx_mk{P:Program}{w:World}{K:Frag}{mg:Str→Option Value}{base h:Heap}(X:K.In h)(G:h.Ns mainGlobals mg){n:Str}{st:Stmt}{f:Addr}{fd:FuncData}{CX:CXT}{k:Nat}{ps:List Str}{sp:Sp}(A:At K n st f fd)(o:FnOk P w K mg base CX k f fd ps sp)(b:Bo n st ps:=by first | exact bo0 (by intros;rfl) | exact bo1 (by intros;rfl) | exact bo2 (by intros;rfl) | exact bo3 (by intros;rfl)):Fx P w K mg base CX k n ps sp:=⟨_,_,o,A.f.binds b,A.f.kp,mg_of X G A.a⟩
theorem all_mk{l:OpenLaw}{w:World}{K:Frag}{h:Heap}{mg:Str→Option Value}{fa f1 f2 f3 f4 f5 f6 f7 f8 f9 f10 f11 f12 f13 f14 f15 f16 f17 f18 f19 f20 f21 f22 f23 f24 f25 f26 f27 f28 f29 f30 f31 f32 f33 f34 f35 f36 f37 f38 f39 f40 f41 f42 f43 f44 f45 f46 f47 f48 f49 f50 f51 f52 f53 f54 f55 f56 CN:Addr}{d1 d2 d3 d4 d5 d6 d7 d8 d9 d10 d11 d12 d13 d14 d15 d16 d17 d18 d19 d20 d21 d22 d23 d24 d25 d26 d27 d28 d29 d30 d31 d32 d33 d34 d35 d36 d37 d38 d39 d40 d41 d42 d43 d44 d45 d46 d47 d48 d49 d50 d51 d52 d53 d54 d55 d56:FuncData}(X:K.In h)(G:h.Ns mainGlobals mg)(hfa:mg "law" = some (.ref fa)){t_ELDER t_KIND t_NAME t_MARKS t_STUFF t_SORT t_THING t_TONE t_MOST_WORD_SIGNS t_MOST_NAME_SIGNS t_MOST_NODES t_MOST_MARKS t_MOST_PIECES t_GREATEST_LEVEL t_GREATEST_TONE t_GREATEST_PICTURE t_LEVEL t_MOST_SIDE_FIGURES t_BEHIND_ALL_ROWS:Tok}{q_KINDS q_KINDS_OF_PIECES q_MAY q_m_body q_m_case q_m_shelf q_m_grid q_m_text q_m_head q_m_picture q_m_aside q_m_note:Addr}{tk_KINDS_0 tk_KINDS_1 tk_KINDS_2 tk_KINDS_3 tk_KINDS_4 tk_KINDS_5 tk_KINDS_6 tk_KINDS_7 tk_KINDS_8 tk_KINDS_OF_PIECES_0 tk_KINDS_OF_PIECES_1 tk_KINDS_OF_PIECES_2 tk_key_body tk_key_case tk_key_shelf tk_key_grid tk_key_text tk_key_head tk_key_picture tk_key_aside tk_key_note tk_m_body_0 tk_m_body_1 tk_m_body_2 tk_m_body_3 tk_m_body_4 tk_m_body_5 tk_m_body_6 tk_m_case_0 tk_m_case_1 tk_m_case_2 tk_m_case_3 tk_m_case_4 tk_m_case_5 tk_m_case_6 tk_m_shelf_0 tk_m_shelf_1 tk_m_shelf_2 tk_m_shelf_3 tk_m_shelf_4 tk_m_grid_0 tk_m_grid_1 tk_m_grid_2 tk_m_grid_3 tk_m_grid_4 tk_m_text_0 tk_m_head_0 tk_m_aside_0 tk_m_aside_1 tk_m_aside_2 tk_m_aside_3 tk_m_aside_4 tk_m_aside_5 tt_SMALL_LETTERS tt_GREAT_LETTERS tt_FIGURES tt_WORD_POINTS:Tok}{n_KINDS_ n_KINDS_OF_PIECES_ n_MAY n_m_body_ n_m_case_ n_m_shelf_ n_m_grid_ n_m_text_ n_m_head_ n_m_picture_ n_m_aside_ n_m_note_:Nat}{od_KINDS od_KINDS_OF_PIECES od_m_body od_m_case od_m_shelf od_m_grid od_m_text od_m_head od_m_picture od_m_aside od_m_note:Option Addr}{sl_KINDS sl_KINDS_OF_PIECES sl_m_body sl_m_case sl_m_shelf sl_m_grid sl_m_text sl_m_head sl_m_picture sl_m_aside sl_m_note:Array (Option Value)}(A1:At K "is_whole" sIsWhole f1 d1)(A2:At K "is_word_sign" sIsWordSign f2 d2)(A3:At K "is_word" sIsWord f3 d3)(A4:At K "is_name" sIsName f4 d4)(A5:At K "is_stuff" sIsStuff f5 d5)(A6:At K "are_pieces" sArePieces f6 d6)(A7:At K "is_piece" sIsPiece f7 d7)(A8:At K "elders_of" sElders f8 d8)(A9:At K "may_hold" sMayHold f9 d9)(A10:At K "note_numbers" sNoteNumbers f10 d10)(A11:At K "holds" sHolds f11 d11)(A12:At K "bare_body" sBareBody f12 d12)(A13:At K "bare_stuff" sBareStuff f13 d13)(A14:At K "mended_level" sMendLevel f14 d14)(A15:At K "open_nodes" sOpen f15 d15)(A16:At K "mended_name" sMendName f16 d16)(A17:At K "mended_marks" sMendMarks f17 d17)(A18:At K "mended_pieces" sMendPieces f18 d18)(A19:At K "notes_at_beginning" sNotesBeg f19 d19)(A20:At K "lacks_notes" sLacks f20 d20)(A21:At K "mended_notes" sMendNotes f21 d21)(A22:At K "numbered_pieces" sNumbered f22 d22)(A23:At K "without_nodes" sWithout f23 d23)(A24:At K "wants_case" sWants f24 d24)(A25:At K "next_kind" sNextKind f25 d25)(A26:At K "mended_kinds" sMendKinds f26 d26)(A27:At K "row_parts" sRowParts f27 d27)(A28:At K "has_stuff" sHasStuff f28 d28)(A29:At K "are_labels" sAreLabels f29 d29)(A30:At K "is_label" sIsLabel f30 d30)(A31:At K "name_label" sNameLabel f31 d31)(A32:At K "mark_labels" sMarkLabels f32 d32)(A33:At K "read_stuff" sReadStuff f33 d33)(A34:At K "read_side" sReadSide f34 d34)(A35:At K "read_piece" sReadPiece f35 d35)(A36:At K "read_book" sReadBook f36 d36)(A37:At K "read_row" sReadRow f37 d37)(A38:At K "first_nodes" sFirst f38 d38)(A39:At K "later_nodes" sLater f39 d39)(A40:At K "level_words" sLevelWords f40 d40)(A41:At K "made_node" sMadeNode f41 d41)(A42:At K "finished_book" sFinished f42 d42)(A43:At K "_law_stream" sStream f43 d43)(A44:At K "_law_take" sTake f44 d44)(A45:At K "_law_letters" sLetters f45 d45)(A46:At K "_law_piece" sPieceD f46 d46)(A47:At K "_law_row" sRowD f47 d47)(A48:At K "_law_spoiled" sSpoiled f48 d48)(A49:At K "_law_odd" sOdd f49 d49)(A50:At K "_law_all" sAllL f50 d50)(A51:At K "_law_is_name" sNameL f51 d51)(A52:At K "_law_is_piece" sPieceL f52 d52)(A53:At K "_law_is_side" sSideL f53 d53)(A54:At K "_law_is_row" sRowL f54 d54)(A55:At K "_law_formed" sFormed f55 d55)(A56:At K "law" sLaw f56 d56)(c_CN:nsIn K mainGlobals "NoNode" = some (some (.ref CN)))(xcN:excIn K CN [.type "ValueError",.type "Exception",.type "BaseException",.type "object"] "ValueError.__new__" = true)(x_KINDS:nsIn K mainGlobals "KINDS" = some (some (.ref q_KINDS)))(l_KINDS:K.lookup q_KINDS=some ⟨.type "tuple",od_KINDS,.seq #[.str (Str.ofString "body") tk_KINDS_0,.str (Str.ofString "case") tk_KINDS_1,.str (Str.ofString "shelf") tk_KINDS_2,.str (Str.ofString "grid") tk_KINDS_3,.str (Str.ofString "text") tk_KINDS_4,.str (Str.ofString "head") tk_KINDS_5,.str (Str.ofString "picture") tk_KINDS_6,.str (Str.ofString "aside") tk_KINDS_7,.str (Str.ofString "note") tk_KINDS_8] n_KINDS_,sl_KINDS⟩)(x_KINDS_OF_PIECES:nsIn K mainGlobals "KINDS_OF_PIECES" = some (some (.ref q_KINDS_OF_PIECES)))(l_KINDS_OF_PIECES:K.lookup q_KINDS_OF_PIECES=some ⟨.type "tuple",od_KINDS_OF_PIECES,.seq #[.str (Str.ofString "text") tk_KINDS_OF_PIECES_0,.str (Str.ofString "head") tk_KINDS_OF_PIECES_1,.str (Str.ofString "note") tk_KINDS_OF_PIECES_2] n_KINDS_OF_PIECES_,sl_KINDS_OF_PIECES⟩)(x_MAY:nsIn K mainGlobals "MAY_HOLD" = some (some (.ref q_MAY)))(l_MAY:K.lookup q_MAY=some ⟨.type "dict",none,.dict #[⟨PyData.keyHash w.params (Str.ofString "body"),.str (Str.ofString "body") tk_key_body,.ref q_m_body⟩,⟨PyData.keyHash w.params (Str.ofString "case"),.str (Str.ofString "case") tk_key_case,.ref q_m_case⟩,⟨PyData.keyHash w.params (Str.ofString "shelf"),.str (Str.ofString "shelf") tk_key_shelf,.ref q_m_shelf⟩,⟨PyData.keyHash w.params (Str.ofString "grid"),.str (Str.ofString "grid") tk_key_grid,.ref q_m_grid⟩,⟨PyData.keyHash w.params (Str.ofString "text"),.str (Str.ofString "text") tk_key_text,.ref q_m_text⟩,⟨PyData.keyHash w.params (Str.ofString "head"),.str (Str.ofString "head") tk_key_head,.ref q_m_head⟩,⟨PyData.keyHash w.params (Str.ofString "picture"),.str (Str.ofString "picture") tk_key_picture,.ref q_m_picture⟩,⟨PyData.keyHash w.params (Str.ofString "aside"),.str (Str.ofString "aside") tk_key_aside,.ref q_m_aside⟩,⟨PyData.keyHash w.params (Str.ofString "note"),.str (Str.ofString "note") tk_key_note,.ref q_m_note⟩] n_MAY,#[]⟩)(l_m_body:K.lookup q_m_body=some ⟨.type "tuple",od_m_body,.seq #[.str (Str.ofString "case") tk_m_body_0,.str (Str.ofString "shelf") tk_m_body_1,.str (Str.ofString "grid") tk_m_body_2,.str (Str.ofString "text") tk_m_body_3,.str (Str.ofString "head") tk_m_body_4,.str (Str.ofString "picture") tk_m_body_5,.str (Str.ofString "aside") tk_m_body_6] n_m_body_,sl_m_body⟩)(l_m_case:K.lookup q_m_case=some ⟨.type "tuple",od_m_case,.seq #[.str (Str.ofString "case") tk_m_case_0,.str (Str.ofString "shelf") tk_m_case_1,.str (Str.ofString "grid") tk_m_case_2,.str (Str.ofString "text") tk_m_case_3,.str (Str.ofString "head") tk_m_case_4,.str (Str.ofString "picture") tk_m_case_5,.str (Str.ofString "aside") tk_m_case_6] n_m_case_,sl_m_case⟩)(l_m_shelf:K.lookup q_m_shelf=some ⟨.type "tuple",od_m_shelf,.seq #[.str (Str.ofString "case") tk_m_shelf_0,.str (Str.ofString "shelf") tk_m_shelf_1,.str (Str.ofString "grid") tk_m_shelf_2,.str (Str.ofString "text") tk_m_shelf_3,.str (Str.ofString "picture") tk_m_shelf_4] n_m_shelf_,sl_m_shelf⟩)(l_m_grid:K.lookup q_m_grid=some ⟨.type "tuple",od_m_grid,.seq #[.str (Str.ofString "case") tk_m_grid_0,.str (Str.ofString "shelf") tk_m_grid_1,.str (Str.ofString "grid") tk_m_grid_2,.str (Str.ofString "text") tk_m_grid_3,.str (Str.ofString "picture") tk_m_grid_4] n_m_grid_,sl_m_grid⟩)(l_m_text:K.lookup q_m_text=some ⟨.type "tuple",od_m_text,.seq #[.str (Str.ofString "note") tk_m_text_0] n_m_text_,sl_m_text⟩)(l_m_head:K.lookup q_m_head=some ⟨.type "tuple",od_m_head,.seq #[.str (Str.ofString "note") tk_m_head_0] n_m_head_,sl_m_head⟩)(l_m_picture:K.lookup q_m_picture=some ⟨.type "tuple",od_m_picture,.seq #[] n_m_picture_,sl_m_picture⟩)(l_m_aside:K.lookup q_m_aside=some ⟨.type "tuple",od_m_aside,.seq #[.str (Str.ofString "case") tk_m_aside_0,.str (Str.ofString "shelf") tk_m_aside_1,.str (Str.ofString "grid") tk_m_aside_2,.str (Str.ofString "text") tk_m_aside_3,.str (Str.ofString "head") tk_m_aside_4,.str (Str.ofString "picture") tk_m_aside_5] n_m_aside_,sl_m_aside⟩)(l_m_note:K.lookup q_m_note=some ⟨.type "tuple",od_m_note,.seq #[] n_m_note_,sl_m_note⟩)(g_SMALL_LETTERS:nsIn K mainGlobals "SMALL_LETTERS" = some (some (.str (Str.ofString "abcdefghijklmnopqrstuvwxyz") tt_SMALL_LETTERS)))(g_GREAT_LETTERS:nsIn K mainGlobals "GREAT_LETTERS" = some (some (.str (Str.ofString "ABCDEFGHIJKLMNOPQRSTUVWXYZ") tt_GREAT_LETTERS)))(g_FIGURES:nsIn K mainGlobals "FIGURES" = some (some (.str (Str.ofString "0123456789") tt_FIGURES)))(g_WORD_POINTS:nsIn K mainGlobals "WORD_POINTS" = some (some (.str (Str.ofString ".,-;:'()!?") tt_WORD_POINTS)))(n_isinstance:nsIn K mainGlobals "isinstance" = some none)(n_len:nsIn K mainGlobals "len" = some none)(n_range:nsIn K mainGlobals "range" = some none)(n_sorted:nsIn K mainGlobals "sorted" = some none)(n_int:nsIn K mainGlobals "int" = some none)(n_bool:nsIn K mainGlobals "bool" = some none)(n_list:nsIn K mainGlobals "list" = some none)(n_tuple:nsIn K mainGlobals "tuple" = some none)(n_str:nsIn K mainGlobals "str" = some none)(n_set:nsIn K mainGlobals "set" = some none)(n_enumerate:nsIn K mainGlobals "enumerate" = some none)(n_all:nsIn K mainGlobals "all" = some none)(n_ValueError:nsIn K mainGlobals "ValueError" = some none)(n_min:nsIn K mainGlobals "min" = some none)(n_max:nsIn K mainGlobals "max" = some none)(n_reversed:nsIn K mainGlobals "reversed" = some none)(i_ELDER:nsIn K mainGlobals "ELDER" = some (some (.int 0 t_ELDER)))(i_KIND:nsIn K mainGlobals "KIND" = some (some (.int 1 t_KIND)))(i_NAME:nsIn K mainGlobals "NAME" = some (some (.int 2 t_NAME)))(i_MARKS:nsIn K mainGlobals "MARKS" = some (some (.int 3 t_MARKS)))(i_STUFF:nsIn K mainGlobals "STUFF" = some (some (.int 4 t_STUFF)))(i_SORT:nsIn K mainGlobals "SORT" = some (some (.int 0 t_SORT)))(i_THING:nsIn K mainGlobals "THING" = some (some (.int 1 t_THING)))(i_TONE:nsIn K mainGlobals "TONE" = some (some (.int 2 t_TONE)))(i_MOST_WORD_SIGNS:nsIn K mainGlobals "MOST_WORD_SIGNS" = some (some (.int 20 t_MOST_WORD_SIGNS)))(i_MOST_NAME_SIGNS:nsIn K mainGlobals "MOST_NAME_SIGNS" = some (some (.int 8 t_MOST_NAME_SIGNS)))(i_MOST_NODES:nsIn K mainGlobals "MOST_NODES" = some (some (.int 60 t_MOST_NODES)))(i_MOST_MARKS:nsIn K mainGlobals "MOST_MARKS" = some (some (.int 4 t_MOST_MARKS)))(i_MOST_PIECES:nsIn K mainGlobals "MOST_PIECES" = some (some (.int 60 t_MOST_PIECES)))(i_GREATEST_LEVEL:nsIn K mainGlobals "GREATEST_LEVEL" = some (some (.int 6 t_GREATEST_LEVEL)))(i_GREATEST_TONE:nsIn K mainGlobals "GREATEST_TONE" = some (some (.int 3 t_GREATEST_TONE)))(i_GREATEST_PICTURE:nsIn K mainGlobals "GREATEST_PICTURE" = some (some (.int 2000 t_GREATEST_PICTURE)))(i_LEVEL:nsIn K mainGlobals "LEVEL" = some (some (.int 0 t_LEVEL)))(i_MOST_SIDE_FIGURES:nsIn K mainGlobals "MOST_SIDE_FIGURES" = some (some (.int 4 t_MOST_SIDE_FIGURES)))(i_BEHIND_ALL_ROWS:nsIn K mainGlobals "BEHIND_ALL_ROWS" = some (some (.int (-1) t_BEHIND_ALL_ROWS))): ∃fd:FuncData,(∀(s:Shared) (v:Value),BindsTo s fd ⟨[v],[]⟩ [("_law_script",v)])∧∀base:Heap,K.In base→base.Ns mainGlobals mg→FnOk l.prog w K mg base CX0 10 fa fd ["_law_script"] (qgA K):=by
 have e0:=hfa.symm.trans (mg_of X G A56.a);cases e0;have m_CN:=mg_of X G c_CN;have z_isinstance:=mg_none_of X G n_isinstance;have z_len:=mg_none_of X G n_len;have z_range:=mg_none_of X G n_range;have z_sorted:=mg_none_of X G n_sorted;have z_int:=mg_none_of X G n_int;have z_bool:=mg_none_of X G n_bool;have z_list:=mg_none_of X G n_list;have z_tuple:=mg_none_of X G n_tuple;have z_str:=mg_none_of X G n_str;have z_set:=mg_none_of X G n_set;have z_enumerate:=mg_none_of X G n_enumerate;have z_all:=mg_none_of X G n_all;have z_ValueError:=mg_none_of X G n_ValueError;have z_min:=mg_none_of X G n_min;have z_max:=mg_none_of X G n_max;have z_reversed:=mg_none_of X G n_reversed;have j_ELDER:=mg_of X G i_ELDER;have j_KIND:=mg_of X G i_KIND;have j_NAME:=mg_of X G i_NAME;have j_MARKS:=mg_of X G i_MARKS;have j_STUFF:=mg_of X G i_STUFF;have j_SORT:=mg_of X G i_SORT;have j_THING:=mg_of X G i_THING;have j_TONE:=mg_of X G i_TONE;have j_MOST_WORD_SIGNS:=mg_of X G i_MOST_WORD_SIGNS;have j_MOST_NAME_SIGNS:=mg_of X G i_MOST_NAME_SIGNS;have j_MOST_NODES:=mg_of X G i_MOST_NODES;have j_MOST_MARKS:=mg_of X G i_MOST_MARKS;have j_MOST_PIECES:=mg_of X G i_MOST_PIECES;have j_GREATEST_LEVEL:=mg_of X G i_GREATEST_LEVEL;have j_GREATEST_TONE:=mg_of X G i_GREATEST_TONE;have j_GREATEST_PICTURE:=mg_of X G i_GREATEST_PICTURE;have j_LEVEL:=mg_of X G i_LEVEL;have j_MOST_SIDE_FIGURES:=mg_of X G i_MOST_SIDE_FIGURES;have j_BEHIND_ALL_ROWS:=mg_of X G i_BEHIND_ALL_ROWS;have T:Bn mg:=⟨z_isinstance,z_len,z_range,z_sorted,z_int,z_bool,z_list,z_tuple,z_str,z_set,z_enumerate,z_all,z_ValueError⟩;have U:Nums mg:=⟨⟨_,j_ELDER⟩,⟨_,j_KIND⟩,⟨_,j_NAME⟩,⟨_,j_MARKS⟩,⟨_,j_STUFF⟩,⟨_,j_SORT⟩,⟨_,j_THING⟩,⟨_,j_TONE⟩⟩;have GL:Glob mg:=⟨⟨_,mg_of X G g_SMALL_LETTERS⟩,⟨_,mg_of X G g_GREAT_LETTERS⟩,⟨_,mg_of X G g_FIGURES⟩,⟨_,mg_of X G g_WORD_POINTS⟩,⟨_,j_MOST_WORD_SIGNS⟩,⟨_,j_MOST_NAME_SIGNS⟩,⟨_,j_MOST_NODES⟩,⟨_,j_MOST_MARKS⟩,⟨_,j_MOST_PIECES⟩,⟨_,j_GREATEST_LEVEL⟩,⟨_,j_GREATEST_TONE⟩,⟨_,j_GREATEST_PICTURE⟩⟩;have kt_KINDS:KTup K q_KINDS [.body,.case,.shelf,.grid,.text,.head,.picture,.aside,.note]:=fun H=>qbT (ks:=[.body,.case,.shelf,.grid,.text,.head,.picture,.aside,.note]) l_KINDS (by show 9≤sizeLine;decide) (.cons ⟨_,rfl⟩ ( .cons ⟨_,rfl⟩ ( .cons ⟨_,rfl⟩ ( .cons ⟨_,rfl⟩ ( .cons ⟨_,rfl⟩ ( .cons ⟨_,rfl⟩ ( .cons ⟨_,rfl⟩ ( .cons ⟨_,rfl⟩ ( .cons ⟨_,rfl⟩ (.nil))))))))))
 have mg_KINDS:=mg_of X G x_KINDS;have kt_KINDS_OF_PIECES:KTup K q_KINDS_OF_PIECES [.text,.head,.note]:=fun H=>qbT (ks:=[.text,.head,.note]) l_KINDS_OF_PIECES (by show 3≤sizeLine;decide) (.cons ⟨_,rfl⟩ ( .cons ⟨_,rfl⟩ ( .cons ⟨_,rfl⟩ (.nil))))
 have mg_KINDS_OF_PIECES:=mg_of X G x_KINDS_OF_PIECES;have kt_m_body:KTup K q_m_body [.case,.shelf,.grid,.text,.head,.picture,.aside]:=fun H=>qbT (ks:=[.case,.shelf,.grid,.text,.head,.picture,.aside]) l_m_body (by show 7≤sizeLine;decide) (.cons ⟨_,rfl⟩ ( .cons ⟨_,rfl⟩ ( .cons ⟨_,rfl⟩ ( .cons ⟨_,rfl⟩ ( .cons ⟨_,rfl⟩ ( .cons ⟨_,rfl⟩ ( .cons ⟨_,rfl⟩ (.nil))))))))
 have kt_m_case:KTup K q_m_case [.case,.shelf,.grid,.text,.head,.picture,.aside]:=fun H=>qbT (ks:=[.case,.shelf,.grid,.text,.head,.picture,.aside]) l_m_case (by show 7≤sizeLine;decide) (.cons ⟨_,rfl⟩ ( .cons ⟨_,rfl⟩ ( .cons ⟨_,rfl⟩ ( .cons ⟨_,rfl⟩ ( .cons ⟨_,rfl⟩ ( .cons ⟨_,rfl⟩ ( .cons ⟨_,rfl⟩ (.nil))))))))
 have kt_m_shelf:KTup K q_m_shelf [.case,.shelf,.grid,.text,.picture]:=fun H=>qbT (ks:=[.case,.shelf,.grid,.text,.picture]) l_m_shelf (by show 5≤sizeLine;decide) (.cons ⟨_,rfl⟩ ( .cons ⟨_,rfl⟩ ( .cons ⟨_,rfl⟩ ( .cons ⟨_,rfl⟩ ( .cons ⟨_,rfl⟩ (.nil))))))
 have kt_m_grid:KTup K q_m_grid [.case,.shelf,.grid,.text,.picture]:=fun H=>qbT (ks:=[.case,.shelf,.grid,.text,.picture]) l_m_grid (by show 5≤sizeLine;decide) (.cons ⟨_,rfl⟩ ( .cons ⟨_,rfl⟩ ( .cons ⟨_,rfl⟩ ( .cons ⟨_,rfl⟩ ( .cons ⟨_,rfl⟩ (.nil))))))
 have kt_m_text:KTup K q_m_text [.note]:=fun H=>qbT (ks:=[.note]) l_m_text (by show 1≤sizeLine;decide) (.cons ⟨_,rfl⟩ (.nil))
 have kt_m_head:KTup K q_m_head [.note]:=fun H=>qbT (ks:=[.note]) l_m_head (by show 1≤sizeLine;decide) (.cons ⟨_,rfl⟩ (.nil))
 have kt_m_picture:KTup K q_m_picture []:=fun H=>qbT (ks:=[]) l_m_picture (by show 0≤sizeLine;decide) (.nil)
 have kt_m_aside:KTup K q_m_aside [.case,.shelf,.grid,.text,.head,.picture]:=fun H=>qbT (ks:=[.case,.shelf,.grid,.text,.head,.picture]) l_m_aside (by show 6≤sizeLine;decide) (.cons ⟨_,rfl⟩ ( .cons ⟨_,rfl⟩ ( .cons ⟨_,rfl⟩ ( .cons ⟨_,rfl⟩ ( .cons ⟨_,rfl⟩ ( .cons ⟨_,rfl⟩ (.nil)))))))
 have kt_m_note:KTup K q_m_note []:=fun H=>qbT (ks:=[]) l_m_note (by show 0≤sizeLine;decide) (.nil)
 have mg_MAY:=mg_of X G x_MAY;have MD:MayX l.prog w K q_MAY:=by
  refine⟨[(.inr Kd.body.s,.ref q_m_body),(.inr Kd.case.s,.ref q_m_case),(.inr Kd.shelf.s,.ref q_m_shelf),(.inr Kd.grid.s,.ref q_m_grid),(.inr Kd.text.s,.ref q_m_text),(.inr Kd.head.s,.ref q_m_head),(.inr Kd.picture.s,.ref q_m_picture),(.inr Kd.aside.s,.ref q_m_aside),(.inr Kd.note.s,.ref q_m_note)],⟨_,_,_,l_MAY,⟨rfl,rfl,rfl⟩,rfl,fun e he=>keys9 he,(.cons (qaO _ _ _ _) rfl ( .cons (qaO _ _ _ _) rfl ( .cons (qaO _ _ _ _) rfl ( .cons (qaO _ _ _ _) rfl ( .cons (qaO _ _ _ _) rfl ( .cons (qaO _ _ _ _) rfl ( .cons (qaO _ _ _ _) rfl ( .cons (qaO _ _ _ _) rfl ( .cons (qaO _ _ _ _) rfl (.nil)))))))))),(by show([.inr Kd.body.s,.inr Kd.case.s,.inr Kd.shelf.s,.inr Kd.grid.s,.inr Kd.text.s,.inr Kd.head.s,.inr Kd.picture.s,.inr Kd.aside.s,.inr Kd.note.s]:List Key).Nodup;decide +kernel)⟩,fun e he=>?_⟩;have he':e=.body∨e=.case∨e=.shelf∨e=.grid∨e=.text∨e=.head∨e=.picture∨e=.aside∨e=.note:=by simpa[kindsAll]using he
  rcases he' with rfl | rfl | rfl | rfl | rfl | rfl | rfl | rfl | rfl
  ·exact⟨q_m_body,_,by(repeat (first | exact qb9 | rw[qbJ (by decide +kernel)])),kt_m_body,fun k=>by cases k<;>rfl⟩
  ·exact⟨q_m_case,_,by(repeat (first | exact qb9 | rw[qbJ (by decide +kernel)])),kt_m_case,fun k=>by cases k<;>rfl⟩
  ·exact⟨q_m_shelf,_,by(repeat (first | exact qb9 | rw[qbJ (by decide +kernel)])),kt_m_shelf,fun k=>by cases k<;>rfl⟩
  ·exact⟨q_m_grid,_,by(repeat (first | exact qb9 | rw[qbJ (by decide +kernel)])),kt_m_grid,fun k=>by cases k<;>rfl⟩
  ·exact⟨q_m_text,_,by(repeat (first | exact qb9 | rw[qbJ (by decide +kernel)])),kt_m_text,fun k=>by cases k<;>rfl⟩
  ·exact⟨q_m_head,_,by(repeat (first | exact qb9 | rw[qbJ (by decide +kernel)])),kt_m_head,fun k=>by cases k<;>rfl⟩
  ·exact⟨q_m_picture,_,by(repeat (first | exact qb9 | rw[qbJ (by decide +kernel)])),kt_m_picture,fun k=>by cases k<;>rfl⟩
  ·exact⟨q_m_aside,_,by(repeat (first | exact qb9 | rw[qbJ (by decide +kernel)])),kt_m_aside,fun k=>by cases k<;>rfl⟩
  ·exact⟨q_m_note,_,by(repeat (first | exact qb9 | rw[qbJ (by decide +kernel)])),kt_m_note,fun k=>by cases k<;>rfl⟩
 have TZ:BnZ mg:=⟨T,z_min,z_max,z_reversed⟩;obtain⟨_,_,_,_,_,_,_,_,_,e,_⟩:=A56.f.ex;refine⟨d56,fun s v=>by rw[e];exact .of_eq rfl,fun base KB GB=>?_⟩;have fx:=@fx_mk l.prog w K mg base h X G;have ON:=own_at KB GB c_CN xcN;have x43:=fx A43 (ok_stream A43.f T);have x44:=fx A44 (ok_take A44.f);have x45:=fx A45 (ok_letters A45.f T x44);have x46:=fx A46 (ok_piece A46.f T x44 x45);have x47:=fx A47 (ok_row A47.f T x44 x45 x46);have x48:=fx A48 (ok_spoiled A48.f T x44);have x49:=fx A49 (ok_odd A49.f x44);have x4:=fx A4 (ok_is_name A4.f T GL);have x30:=fx A30 (ok_is_label A30.f x4);have x29:=fx A29 (ok_are_labels A29.f T x30);have x28:=fx A28 (ok_has_stuff A28.f mg_KINDS_OF_PIECES kt_KINDS_OF_PIECES);have x34:=fx A34 (ok_read_side A34.f T GL ⟨_,j_MOST_SIDE_FIGURES⟩);have x1:=fx A1 (ok_is_whole A1.f T);have x2:=fx A2 (ok_is_word_sign A2.f GL);have x3:=fx A3 (ok_is_word A3.f T GL x2);have x7:=fx A7 (ok_is_piece A7.f T GL U x1 x3 x4);have x6:=fx A6 (ok_are_pieces A6.f T GL U x7);have x5:=fx A5 (ok_is_stuff A5.f T GL mg_KINDS_OF_PIECES kt_KINDS_OF_PIECES x1 x6);have x35:=fx A35 (ok_read_piece A35.f T x7);have x33:=fx A33 (ok_read_stuff A33.f T x34 x5 x35 x28);have x31:=fx A31 (ok_name_label A31.f T x30);have x32:=fx A32 (ok_mark_labels A32.f x30);have x27:=fx A27 (ok_row_parts A27.f T mg_KINDS kt_KINDS x29 x28 x33 x31 x32);have x8:=fx A8 (ok_elders_of A8.f U.elder);have x15:=fx A15 (ok_open_nodes A15.f TZ x8);have x9:=fx A9 (ok_may_hold A9.f mg_MAY MD);have x14:=fx A14 (ok_mended_level A14.f TZ GL U x15 x9);have x16:=fx A16 (ok_mended_name A16.f U);have x17:=fx A17 (ok_mended_marks A17.f T GL);have x19:=fx A19 (ok_notes_at_beginning A19.f T U);have x18:=fx A18 (ok_mended_pieces A18.f GL U x19);have x13:=fx A13 (ok_bare_stuff A13.f);have x41:=fx A41 (ok_made_node A41.f T U mg_KINDS_OF_PIECES kt_KINDS_OF_PIECES x16 x17 x18 x13);have x40:=fx A40 (ok_level_words A40.f ⟨_,j_LEVEL⟩);have x39:=fx A39 (ok_later_nodes A39.f U ⟨_,j_LEVEL⟩ x14 x15 x41 x40);have x12:=fx A12 (ok_bare_body A12.f);have x38:=fx A38 (ok_first_nodes A38.f U x39 x12 x41 x40);have x37:=fx A37 (ok_read_row A37.f T GL U ⟨_,j_LEVEL⟩ x27 x38 x39);have x10:=fx A10 (ok_note_numbers A10.f U);have x11:=fx A11 (ok_holds A11.d T ⟨_,j_ELDER⟩ ON PySem.F.excBase_ValueError);have x20:=fx A20 (ok_lacks_notes A20.f T U x9 x10 x11);have x22:=fx A22 (ok_numbered_pieces A22.f T GL U);have x23:=fx A23 (ok_without_nodes A23.f T U);have x21:=fx A21 (ok_mended_notes A21.f T U x9 x11 x22 x10 x23);have x25:=fx A25 (ok_next_kind A25.f T U x11);have x24:=fx A24 (ok_wants_case A24.f T U x11 x25);have x26:=fx A26 (ok_mended_kinds A26.f T U x24);have x42:=fx A42 (ok_finished_book A42.f T x12 x20 x21 x24 x26 x11 x13);have x36:=fx A36 (ok_read_book A36.f T ⟨_,j_BEHIND_ALL_ROWS⟩ x37 x42);have x55:=fx A55 (ok_formed A55.f T);have x50:=fx A50 (ok_all A50.f T);have x51:=fx A51 (ok_law_is_name A51.f T x50);have x53:=fx A53 (ok_is_side A53.f T x50);have x52:=fx A52 (ok_law_is_piece A52.f T x50 x51);have x54:=fx A54 (ok_is_row A54.f T x51 x53 x52);exact ok_law A56.f T x43 x47 x48 x49 x36 x55 x54
theorem walk{l:OpenLaw}{q:Program}{loose:List Str}{XP:(Str→Option Value)→Heap→Prop}{YP:World→Heap→Prop}{d:DefRec}{K:Params→Frag}(hn:l.most=some 63)(hdf:d.params.defaults=[])(hY:∀(w:World) (h:Heap),YP w h→(K w.params).In h)(F:∀(w:World) (mg:Str→Option Value) (fa:Addr) (h:Heap),(K w.params).In h→h.Ns mainGlobals mg→mg d.name=some (.ref fa) →
   ∃fd:FuncData,(∀(s:Shared) (u:Value),BindsTo s fd ⟨[u],[]⟩ [("_law_script",u)])∧∀base:Heap,(K w.params).In base→base.Ns mainGlobals mg→FnOk l.prog w (K w.params) mg base CX0 10 fa fd ["_law_script"] (qgA (K w.params))) :
  WalkO q loose XP YP l.row.toRowW d [] (fun f vs=>PySem.call f vs) :=
 L2.walk_of (n:=63) (k:=10) (x := "_law_script") (CX:=fun _=>CX0) (sp:=fun w=>qgA (K w.params)) hn (by decide) hdf ⟨rfl,by decide,by decide⟩ hY F (fun _ _ a ns hl _ hS=>⟨a,ns,rfl,hS,hl,fun _=>rfl⟩) fun _ _ _ _ _ z=>z
end K08
namespace PySem.W.Fast
theorem te9519855850266890142:True:=trivial
def tw9519855850266890142:Unit:=()
def tw15391254060933154374:PySem.Program:=PySem.Challenge.pw_leafpress_k08_forms_of_rows
theorem te15391254060933154374:PySem.Challenge.pw_leafpress_k08_forms_of_rows=tw15391254060933154374:=rfl
def tw13190252614734820792:=()
def tw4712133181022437603:=()
def tw8381272049894330276:=()
def tw15159110164574600134:=()
def tw7597869050335699147:=()
def tw13922360663492550628:=()
def tw6063480615650964518:=()
def tw6917628791741910601:=()
def tw6091360289172761378:=()
def tw9929823899983104174:=()
def tw1625218862082110349:=()
def tw815804938183455376:=()
def tw11730729288938928213:=()
def tw3386721097709865184:=()
def tw754193990913663867:=()
def tw1486630629157496312:=()
def tw13256951326556487597:=()
def tw15636660345535060158:=()
def tw9397594333954343260:=()
def tw5858276784409197754:=()
def tw10737308687774330894:=()
def tw7310148881748506629:=()
def tw10166668367947372390:=()
def tw10870489728151012077:=()
def tw2311957576950376024:=()
def tw4334885711191485486:=()
def tw13024543855046037246:=()
def tw2055196832106310194:=()
def tw13600404987271964441:=()
def tw18009944754268793408:=()
def tw17256077516289856770:=()
def tw15436619717327216289:=()
def tw11365831643093164476:=()
def tw7896947814263105823:=()
def tw4414460994456053877:=()
def tw7735926575584582305:=()
def tw9733031530422206368:=()
def tw8577402009623733400:=()
def tw241004921123624090:=()
def tw4527225560211036293:=()
def tw12406197001063079776:=()
def tw8782618794888148677:=()
def tw16836573145299849578:=()
def tw7688386427543621:=()
def tw11440717304610287950:=()
def tw5985739829130720049:=()
def tw16356104300987141180:=()
def tw7883990623049285735:=()
def tw6570344624959991955:=()
def tw13273503339551353374:=()
def tw12702244995442006562:=()
def tw3097268410925647800:=()
def tw2637645872983416236:=()
def tw3297288364048501666:=()
def tw4430994509125465122:=()
def tw3540947129457717819:=()
def tw13922472339418235263:=()
def tw16274107467590535200:=()
def tw15419772026681567838:=()
def tw14439875333101156492:=()
def tw8690127012359222624:=()
def tw3966922555142249776:=()
def tw11798174177304585387:=()
def tw4511747592090086130:=()
def tw12431601020000188008:=()
def tw2279857270739025016:=()
def tw4217153204226076594:=()
def tw879377797567959187:=()
def tw13845888883609194928:=()
def tw17125361917857965293:=()
def tw7702507491398932043:=()
def tw18340404118961768499:=()
def tw858096979233611400:=()
def tw13032528259701436894:=()
def tw10012542260331571822:=()
def tw17504976490391131872:=()
def tw15891465326001405547:=()
def tw5287302445968245499:=()
def tw2370207682795520581:=()
def tw15928310097188255954:=()
def tw16460552068515551027:=()
def tw4381843421351897777:=()
def tw10048750771399242917:=()
def tw2042394547620776197:=()
def tw11554282411499288619:=()
def tw6958541133728595153:=()
def tw13416919681798925311:=()
def tw16276930376772159553:=()
def tw5962700963177455799:=()
def tw15977731159550159422:=()
def tw3844363956357852643:=()
def tw16339280122425534135:=()
def tw11635809414063531699:=()
def tw1119906101799796897:=()
def tw313940681699569395:=()
def tw10303737873771162159:=()
def tw4198545026352847358:=()
def tw8038273986359555211:=()
def tw1729690915587892885:=()
def tw8413252778560510225:=()
def tw4929054522436142178:=()
def tw662366877143396678:=()
def tw16626517986608048548:=()
def tw14439671282044607535:=()
def tw1636860390444121882:=()
def tw9909949515084961806:=()
def tw2225214287472603968:=()
def tw9123578007100432096:=()
def tw10692133216822132572:=()
def tw8286777470988500617:=()
def tw2437551091529620624:=()
def tw2855420282509538591:=()
def tw6468218996117338366:=()
def tw6496367227588879436:=()
def tw7544927736052375627:=()
def tw7437914838724859108:=()
def tw10598111476890305866:=()
def tw14074267761545319410:=()
def tw11022874681768747378:=()
def tw9122513455724978987:=()
def tw14207548920333604667:=()
def tw16616278084919137704:=()
def tw9273840943241919569:=()
def tw9054976485273267234:=()
def tw11254550969803965667:=()
def tw12262275282477285577:=()
def tw12882551475281805745:=()
def tw14868012260931868646:=()
def tw14225347782316195984:=()
def tw6563651771324704645:=()
def tw7099710151205330458:=()
def tw17564708811648950209:=()
def tw3049215433297766811:=()
def tw1528443542613519190:=()
def tw4284337489819981770:=()
def tw3666180653701138520:=()
def tw3944960142383177253:=()
def tw2935030979640220887:=()
def tw4058349197412242260:=()
def tw12443950660710725851:=()
def tw8956535522240447813:=()
def tw18094713730208482835:=()
def tw5147482926602644737:=()
def tw14414541529172591235:=()
def tw16806222004841850357:=()
def tw16625334559019934675:=()
def tw10753862330150272303:=()
def tw17845097690037528243:=()
def tw16178952577420490702:=()
def tw9268920965328564732:=()
def tw7505524687109149151:=()
def tw12117375381465503958:=()
def tw3497338971491672212:=()
end PySem.W.Fast
open PySem PySem.W PyProof.Rows
local macro_rules | `(tactic| trivial)=>`(tactic| (refine' K08.at_mk ?a ?l ?e ?k;(case a=>k_is);(case l=>k_is);(case e=>k_is);(case k=>k_is)))
set_option maxRecDepth 100000 in
set_option maxHeartbeats 0 in
theorem PySem.Challenge.cw_leafpress_k08_forms_of_rows_holds : PySem.Challenge.rw_leafpress_k08_forms_of_rows.Holds := by
 w_on;o_law;k_head;(case hw=>w_witness2)
 k_fill
 refine K08.walk (l:=PySem.Challenge.rw_leafpress_k08_forms_of_rows) rfl rfl (fun w h Y=>PySem.W.kIn_of Y) ?F
 case F =>
  intro w mg fa h KX G hmg;refine' K08.all_mk KX G hmg ?A1 ?A2 ?A3 ?A4 ?A5 ?A6 ?A7 ?A8 ?A9 ?A10 ?A11 ?A12 ?A13 ?A14 ?A15 ?A16 ?A17 ?A18 ?A19 ?A20 ?A21 ?A22 ?A23 ?A24 ?A25 ?A26 ?A27 ?A28 ?A29 ?A30 ?A31 ?A32 ?A33 ?A34 ?A35 ?A36 ?A37 ?A38 ?A39 ?A40 ?A41 ?A42 ?A43 ?A44 ?A45 ?A46 ?A47 ?A48 ?A49 ?A50 ?A51 ?A52 ?A53 ?A54 ?A55 ?A56 ?c_CN ?xcN ?x_KINDS ?l_KINDS ?x_KINDS_OF_PIECES ?l_KINDS_OF_PIECES ?x_MAY ?l_MAY ?l_m_body ?l_m_case ?l_m_shelf ?l_m_grid ?l_m_text ?l_m_head ?l_m_picture ?l_m_aside ?l_m_note ?g_SMALL_LETTERS ?g_GREAT_LETTERS ?g_FIGURES ?g_WORD_POINTS ?n_isinstance ?n_len ?n_range ?n_sorted ?n_int ?n_bool ?n_list ?n_tuple ?n_str ?n_set ?n_enumerate ?n_all ?n_ValueError ?n_min ?n_max ?n_reversed ?i_ELDER ?i_KIND ?i_NAME ?i_MARKS ?i_STUFF ?i_SORT ?i_THING ?i_TONE ?i_MOST_WORD_SIGNS ?i_MOST_NAME_SIGNS ?i_MOST_NODES ?i_MOST_MARKS ?i_MOST_PIECES ?i_GREATEST_LEVEL ?i_GREATEST_TONE ?i_GREATEST_PICTURE ?i_LEVEL ?i_MOST_SIDE_FIGURES ?i_BEHIND_ALL_ROWS
  (case A1=>trivial)
  (case A2=>trivial)
  (case A3=>trivial)
  (case A4=>trivial)
  (case A5=>trivial)
  (case A6=>trivial)
  (case A7=>trivial)
  (case A8=>trivial)
  (case A9=>trivial)
  (case A10=>trivial)
  (case A11=>trivial)
  (case A12=>trivial)
  (case A13=>trivial)
  (case A14=>trivial)
  (case A15=>trivial)
  (case A16=>trivial)
  (case A17=>trivial)
  (case A18=>trivial)
  (case A19=>trivial)
  (case A20=>trivial)
  (case A21=>trivial)
  (case A22=>trivial)
  (case A23=>trivial)
  (case A24=>trivial)
  (case A25=>trivial)
  (case A26=>trivial)
  (case A27=>trivial)
  (case A28=>trivial)
  (case A29=>trivial)
  (case A30=>trivial)
  (case A31=>trivial)
  (case A32=>trivial)
  (case A33=>trivial)
  (case A34=>trivial)
  (case A35=>trivial)
  (case A36=>trivial)
  (case A37=>trivial)
  (case A38=>trivial)
  (case A39=>trivial)
  (case A40=>trivial)
  (case A41=>trivial)
  (case A42=>trivial)
  (case A43=>trivial)
  (case A44=>trivial)
  (case A45=>trivial)
  (case A46=>trivial)
  (case A47=>trivial)
  (case A48=>trivial)
  (case A49=>trivial)
  (case A50=>trivial)
  (case A51=>trivial)
  (case A52=>trivial)
  (case A53=>trivial)
  (case A54=>trivial)
  (case A55=>trivial)
  (case A56=>trivial)
  (case c_CN=>k_is)
  (case xcN=>k_exc)
  (case x_KINDS=>k_is)
  (case l_KINDS=>k_is)
  (case x_KINDS_OF_PIECES=>k_is)
  (case l_KINDS_OF_PIECES=>k_is)
  (case x_MAY=>k_is)
  (case l_MAY=>k_is)
  (case l_m_body=>k_is)
  (case l_m_case=>k_is)
  (case l_m_shelf=>k_is)
  (case l_m_grid=>k_is)
  (case l_m_text=>k_is)
  (case l_m_head=>k_is)
  (case l_m_picture=>k_is)
  (case l_m_aside=>k_is)
  (case l_m_note=>k_is)
  (case g_SMALL_LETTERS=>k_is)
  (case g_GREAT_LETTERS=>k_is)
  (case g_FIGURES=>k_is)
  (case g_WORD_POINTS=>k_is)
  (case n_isinstance=>k_is)
  (case n_len=>k_is)
  (case n_range=>k_is)
  (case n_sorted=>k_is)
  (case n_int=>k_is)
  (case n_bool=>k_is)
  (case n_list=>k_is)
  (case n_tuple=>k_is)
  (case n_str=>k_is)
  (case n_set=>k_is)
  (case n_enumerate=>k_is)
  (case n_all=>k_is)
  (case n_ValueError=>k_is)
  (case n_min=>k_is)
  (case n_max=>k_is)
  (case n_reversed=>k_is)
  (case i_ELDER=>k_is)
  (case i_KIND=>k_is)
  (case i_NAME=>k_is)
  (case i_MARKS=>k_is)
  (case i_STUFF=>k_is)
  (case i_SORT=>k_is)
  (case i_THING=>k_is)
  (case i_TONE=>k_is)
  (case i_MOST_WORD_SIGNS=>k_is)
  (case i_MOST_NAME_SIGNS=>k_is)
  (case i_MOST_NODES=>k_is)
  (case i_MOST_MARKS=>k_is)
  (case i_MOST_PIECES=>k_is)
  (case i_GREATEST_LEVEL=>k_is)
  (case i_GREATEST_TONE=>k_is)
  (case i_GREATEST_PICTURE=>k_is)
  (case i_LEVEL=>k_is)
  (case i_MOST_SIDE_FIGURES=>k_is)
  (case i_BEHIND_ALL_ROWS=>k_is)
