import PyProof.Rows.All
import Wide.All
import OpenK.AllK
import Wide.FinOn
import Lean
import PyProof.EqAt
import PyProof.EqKinds
import PyProof.TupleCall
import PySem.Challenge.RW_seatweave_k07_whole_only_one
set_option Elab.async false
set_option linter.all false
set_option maxRecDepth 100000
namespace L2
open PySem PySem.Spec PyProof.Rows
abbrev Key:=Sum Int Str
def keyIs:Key->Value->Bool
 | .inl k,v=>Value.isInt k v
 | .inr x,v=>Value.isStrOf x v
def keyH (w:World):Key->Int
 | .inl k=>hashInt k
 | .inr x=>hashStr w x
theorem keyIs_shape:∀{k:Key} {v:Value},keyIs k v=true->(∃i t,k=Sum.inl i/\v=Value.int i t)\/(∃x t,k=Sum.inr x/\v=Value.str x t)
 | .inl i,v,h=>by
  obtain ⟨t,e⟩:=Value.isInt_shape (k:=i) (v:=v) h
  exact .inl ⟨i,t,rfl,e⟩
 | .inr x,v,h=>by
  obtain ⟨t,e⟩:=Value.isStrOf_shape (x:=x) (v:=v) h
  exact .inr ⟨x,t,rfl,e⟩
theorem keyIs_int (i:Int) (t:Tok):keyIs (.inl i) (.int i t)=true:=by simp [keyIs,Value.isInt]
theorem keyIs_str (x:Str) (t:Tok):keyIs (.inr x) (.str x t)=true:=by simp [keyIs,Value.isStrOf]
theorem key_ll (a b:Int):decide ((Sum.inl a:Key)=Sum.inl b)=(a == b):=by
 by_cases e:a=b
 ·subst e; simp
 ·have h:¬(Sum.inl a:Key)=Sum.inl b:=fun q=>e (Sum.inl.inj q)
  rw [decide_eq_false h]
  exact (beq_eq_false_iff_ne.mpr e).symm
theorem key_rr (a b:Str):decide ((Sum.inr a:Key)=Sum.inr b)=decide (a=b):=by
 by_cases e:a=b
 ·subst e; simp
 ·have h:¬(Sum.inr a:Key)=Sum.inr b:=fun q=>e (Sum.inr.inj q)
  rw [decide_eq_false h,decide_eq_false e]
theorem key_lr (a:Int) (b:Str):decide ((Sum.inl a:Key)=Sum.inr b)=false:=decide_eq_false (fun q=>nomatch q)
theorem key_rl (a:Str) (b:Int):decide ((Sum.inr a:Key)=Sum.inl b)=false:=decide_eq_false (fun q=>nomatch q)
def mixKind (prog:Program) (w:World):PySem.KeyKind prog w Key where
 is:=keyIs
 hash:=keyH w
 inj:=fun v a b ha hb=>by
  rcases keyIs_shape ha with ⟨i,t,rfl,rfl⟩ | ⟨x,t,rfl,rfl⟩
  ·rcases keyIs_shape hb with ⟨j,u,rfl,e⟩ | ⟨y,u,rfl,e⟩
   ·injection e with e1 _; rw [e1]
   ·exact nomatch e
  ·rcases keyIs_shape hb with ⟨j,u,rfl,e⟩ | ⟨y,u,rfl,e⟩
   ·exact nomatch e
   ·injection e with e1 _; rw [e1]
 byValue:=fun k v h=>by
  rcases keyIs_shape h with ⟨i,t,rfl,rfl⟩ | ⟨x,t,rfl,rfl⟩ <;> rfl
 pyHash:=fun hv h=>by
  rcases keyIs_shape hv with ⟨i,t,rfl,rfl⟩ | ⟨x,t,rfl,rfl⟩
  ·exact wpAny_pyHash_int h
  ·exact wpAny_pyHash_str h
 eqBool:=fun hu hv h=>by
  rcases keyIs_shape hu with ⟨i,t,rfl,rfl⟩ | ⟨x,t,rfl,rfl⟩
  ·rcases keyIs_shape hv with ⟨j,u,rfl,rfl⟩ | ⟨y,u,rfl,rfl⟩
   ·rw [key_ll] at h; exact wpAny_eqBool_int h
   ·rw [key_lr] at h; exact SeqAt.EqAt.int_str i t y u _ _ _ _ h
  ·rcases keyIs_shape hv with ⟨j,u,rfl,rfl⟩ | ⟨y,u,rfl,rfl⟩
   ·rw [key_rl] at h; exact SeqAt.EqAt.str_int x t j u _ _ _ _ h
   ·rw [key_rr] at h; exact wpAny_eqBool_str h
 «strs»:=fun k x t v h=>by
  rcases keyIs_shape h with ⟨i,u,rfl,e⟩ | ⟨y,u,rfl,e⟩
  ·exact nomatch e
  ·injection e with e1 _
   subst e1
   cases v <;> rfl
theorem mixKind_is (prog:Program) (w:World) (k:Key) (v:Value):(mixKind prog w).is k v=keyIs k v:=rfl
theorem mixKind_int (prog:Program) (w:World) (i:Int) (t:Tok):(mixKind prog w).is (.inl i) (.int i t)=true:=keyIs_int i t
theorem mixKind_str (prog:Program) (w:World) (x:Str) (t:Tok):(mixKind prog w).is (.inr x) (.str x t)=true:=keyIs_str x t
end L2
namespace L2
open PySem PySem.Spec PyProof.Rows
inductive V where
 | non | bl (b:Bool) | int (i:Int) | str (x:Str) | byt (b:Array UInt8) | flt (b:UInt64) | ref (a:Addr) | ty (n:String)
 deriving DecidableEq
def RelV:V->Value->Prop
 | .non,u=>u=Value.none
 | .bl b,u=>u=Value.bool b
 | .int i,u=>∃t,u=Value.int i t
 | .str x,u=>∃t,u=Value.str x t
 | .byt b,u=>∃t,u=Value.bytes b t
 | .flt b,u=>∃t,u=Value.float b t
 | .ref a,u=>u=Value.ref a
 | .ty n,u=>u=Value.type n
abbrev Vals:List V->List Value->Prop:=Paired RelV
theorem Vals.length {xs:List V} {us:List Value} (r:Vals xs us):xs.length=us.length:=Paired.length r
theorem Vals.get:∀{xs:List V} {us:List Value} {i:Nat} {x:V},Vals xs us->xs[i]?=some x->∃u,us[i]?=some u/\RelV x u
 | _,_,_,_,.nil,e=>by simp at e
 | _,_,0,_,.cons r _,e=>by simp at e; subst e; exact ⟨_,rfl,r⟩
 | _,_,i+1,x,.cons _ t,e=>by
  obtain ⟨u,h1,h2⟩:=Vals.get (i:=i) (x:=x) t (by simpa using e)
  exact ⟨u,by simpa using h1,h2⟩
theorem Vals.set {x:V} {u:Value} (r:RelV x u):∀{xs:List V} {us:List Value} (i:Nat),Vals xs us->Vals (xs.set i x) (us.set i u)
 | _,_,_,.nil => .nil
 | _,_,0,.cons _ t => .cons r t
 | _,_,i+1,.cons q t => .cons q (Vals.set r i t)
theorem Vals.append:∀{xs ys:List V} {us ws:List Value},Vals xs us->Vals ys ws->Vals (xs++ys) (us++ws)
 | _,_,_,_,.nil,s=>s
 | _,_,_,_,.cons r t,s => .cons r (Vals.append t s)
theorem Vals.take:∀{xs:List V} {us:List Value} (n:Nat),Vals xs us->Vals (xs.take n) (us.take n)
 | _,_,0,_ => .nil
 | _,_,_+1,.nil => .nil
 | _,_,n+1,.cons r t => .cons r (Vals.take n t)
theorem Vals.drop:∀{xs:List V} {us:List Value} (n:Nat),Vals xs us->Vals (xs.drop n) (us.drop n)
 | _,_,0,r=>r
 | _,_,_+1,.nil => .nil
 | _,_,n+1,.cons _ t=>Vals.drop n t
def RelO:Option V->Option Value->Prop
 | some v,some u=>RelV v u
 | none,none=>True
 | _,_=>False
def KV {κ:Type}:List (κ×V)->List (κ×Value)->Prop:=Paired fun (p:κ×V) (q:κ×Value)=>p.1=q.1/\RelV p.2 q.2
def kV:Key->V
 | .inl i => .int i
 | .inr x => .str x
inductive HO where
 | lst (xs:List V)
 | tup (xs:List V)
 | dK (kvs:List (Key×V)) | dT (kvs:List (List Key×V))
 | set (S:Int->Bool) (n:Nat)
 | ins (C dx:Addr) (fs:List (Str×V))
 | own (x:Addr)
 | xd (fs:List (Str×V))
 | met (f x:Addr)
 | rng (lo hi:Int)
 | frz (o:Obj) (u:HO)
 | tbl (ps:Array Value)
 | ext (φ : Heap->Prop)
abbrev Hp:=Addr->Option HO
def upd (H:Hp) (a:Addr) (o:HO):Hp:=fun b=>if b=a then some o else H b
theorem upd_same {H:Hp} {a:Addr} {o:HO}:upd H a o a=some o:=by unfold upd; rw [if_pos rfl]
theorem upd_ne {H:Hp} {a b:Addr} {o:HO} (h:b≠a):upd H a o b=H b:=by unfold upd; rw [if_neg h]
theorem ne_of {H:Hp} {a b:Addr} {o u:HO} (h:H a=some o) (h':H b=some u) (d:o≠u):a≠b:=by
 intro e; subst e; rw [h] at h'; exact d (Option.some.inj h')
theorem ne_of_none {H:Hp} {a b:Addr} {o:HO} (h:H a=some o) (h':H b=none):a≠b:=by
 intro e; subst e; rw [h] at h'; cases h'
section
variable (P:Program) (w:World)
def ObjOk (H:Hp) (h:Heap) (a:Addr):HO->Prop
 | .lst xs=>xs.length<=sizeLine/\∃(its:List Value) (n:Nat),Vals xs its/\h.get? a=some { cls:=.type "list",data:=.seq its.toArray n }
 | .tup xs=>xs.length<=sizeLine/\∃its:List Value,Vals xs its/\IsTup h a its.toArray
 | .dK kvs=>kvs.length<=sizeLine/\(a == sysModules)=false/\∃vs,KV kvs vs/\h.DictOf (mixKind P w) a vs
 | .dT kvs=>kvs.length<=sizeLine/\(a == sysModules)=false/\∃xs:List (List Key×Addr×Value),
   Paired (fun (p:List Key×V) (q:List Key×Addr×Value)=>p.1=q.1/\H q.2.1=some (.tup (p.1.map kV))/\RelV p.2 q.2.2) kvs xs /\
   ∃o es ep,h.get? a=some o/\o.ExactDict/\o.data = .dict es ep/\es.toList=xs.map (entryOfKey (tupleKind (mixKind P w)))/\(xs.map (·.1)).Nodup
 | .set S n=>h.SetOf (intKind P w) a S n
 | .ins C dx fs=>H dx=some (.own a)/\fs.length<=1000/\dx≠a/\h.get? a=some (W.instObj C dx) /\
   ∃mA,h.Ns1 dx mA/\(∀f,RelO (fs.lookup f) (mA f))/\PySem.Within mA (fs.map (·.1))
 | .own _=>∃o,h.get? a=some o
 | .xd fs=>∃mA,h.Ns1 a mA/\∀f,RelO (fs.lookup f) (mA f)
 | .rng lo hi=>∃t u v,h.get? a=some { cls:=.type "range",data:=.fields #[.int lo t,.int hi u,.int 1 v] }
 | .frz o u=>h.get? a=some o/\ObjOk H h a u
 | .tbl ps=>h.get? a=some { cls:=.none,data:=.fields ps }
 | .met f x=>h.get? a=some (W.methodObj (.ref f) (.ref x))
 | .ext φ=>φ h/\(∃o,h.get? a=some o)/\∀h1 h2:Heap,φ h1->(∀o,h1.get? a=some o->h2.get? a=some o)->φ h2
def HOk (H:Hp) (h:Heap):Prop:=∀a o,H a=some o->ObjOk P w H h a o
end
section
variable {P:Program} {w:World} {H H':Hp} {h h':Heap} {a:Addr} {o:HO}
theorem ObjOk.lt (x:ObjOk P w H h a o):a<h.objs.size:=by
 cases o with
 | lst xs=>obtain ⟨_,_,_,_,e⟩:=x; exact Heap.lt_size e
 | tup xs=>obtain ⟨_,_,_,p⟩:=x; exact p.lt
 | dK kvs=>obtain ⟨_,_,_,_,o,_,_,e,_⟩:=x; exact Heap.lt_size e
 | dT kvs=>obtain ⟨_,_,_,_,o,_,_,e,_⟩:=x; exact Heap.lt_size e
 | set S n=>obtain ⟨o,_,_,_,e,_⟩:=x; exact Heap.lt_size e
 | ins C dx fs=>obtain ⟨_,_,_,e,_⟩:=x; exact Heap.lt_size e
 | own y=>obtain ⟨_,e⟩:=x; exact Heap.lt_size e
 | xd fs=>obtain ⟨_,⟨_,_,_,e,_⟩,_⟩:=x; exact Heap.lt_size e
 | rng lo hi=>obtain ⟨_,_,_,e⟩:=x; exact Heap.lt_size e
 | frz ob u=>obtain ⟨e,_⟩:=x; exact Heap.lt_size e
 | tbl ps=>exact Heap.lt_size (show h.get? a=some _ from x)
 | met f y=>exact Heap.lt_size (show h.get? a=some _ from x)
 | ext φ=>obtain ⟨_,⟨_,e⟩,_⟩:=x; exact Heap.lt_size e
theorem Paired.mapP {α β:Type} {F G:α->β->Prop}:∀{l₁:List α} {l₂:List β},Paired F l₁ l₂->(∀a b,F a b->G a b)->Paired G l₁ l₂
 | _,_,.nil,_ => .nil
 | _,_,.cons r t,f => .cons (f _ _ r) (Paired.mapP t f)
theorem ObjOk.stay (x:ObjOk P w H h a o) (k:∀b u,(b=a\/H b=some (.own a))->h.get? b=some u->h'.get? b=some u)
  (ho:∀b,H b=some (.own a)->H' b=some (.own a)) (ht:∀b xs,H b=some (.tup xs)->H' b=some (.tup xs)):ObjOk P w H' h' a o:=by
 induction o with
 | lst xs=>obtain ⟨z,its,n,r,e⟩:=x; exact ⟨z,its,n,r,k _ _ (.inl rfl) e⟩
 | tup xs=>obtain ⟨z,its,r,ob,e,c⟩:=x; exact ⟨z,its,r,ob,k _ _ (.inl rfl) e,c⟩
 | dK kvs=>obtain ⟨z,y,vs,r,ob,es,ep,e,c⟩:=x; exact ⟨z,y,vs,r,ob,es,ep,k _ _ (.inl rfl) e,c⟩
 | dT kvs=>
  obtain ⟨z,y,xs,r,ob,es,ep,e,c⟩:=x
  exact ⟨z,y,xs,Paired.mapP r fun p q z=>⟨z.1,ht _ _ z.2.1,z.2.2⟩,ob,es,ep,k _ _ (.inl rfl) e,c⟩
 | set S n=>obtain ⟨ob,es,ep,t,e,c⟩:=x; exact ⟨ob,es,ep,t,k _ _ (.inl rfl) e,c⟩
 | ins C dx fs=>
  obtain ⟨d,z,ne,e,mA,⟨od,es,ep,e2,c⟩,r⟩:=x
  exact ⟨ho _ d,z,ne,k _ _ (.inl rfl) e,mA,⟨od,es,ep,k _ _ (.inr d) e2,c⟩,r⟩
 | own y=>obtain ⟨ob,e⟩:=x; exact ⟨ob,k _ _ (.inl rfl) e⟩
 | xd fs=>obtain ⟨mA,⟨od,es,ep,e,c⟩,r⟩:=x; exact ⟨mA,⟨od,es,ep,k _ _ (.inl rfl) e,c⟩,r⟩
 | rng lo hi=>obtain ⟨t,u,v,e⟩:=x; exact ⟨t,u,v,k _ _ (.inl rfl) e⟩
 | frz ob u ih=>obtain ⟨e,q⟩:=x; exact ⟨k _ _ (.inl rfl) e,ih q⟩
 | tbl ps=>
  have e:h.get? a=some { cls:=.none,data:=.fields ps }:=x
  show h'.get? a=some { cls:=.none,data:=.fields ps }
  exact k a _ (.inl rfl) e
 | met f y=>
  have e:h.get? a=some (W.methodObj (.ref f) (.ref y)):=x
  show h'.get? a=some (W.methodObj (.ref f) (.ref y))
  exact k a _ (.inl rfl) e
 | ext φ=>obtain ⟨p,⟨o,e⟩,st⟩:=x; exact ⟨st _ _ p fun o q=>k _ _ (.inl rfl) q,⟨o,k _ _ (.inl rfl) e⟩,st⟩
theorem HOk.lt (x:HOk P w H h) (e:H a=some o):a<h.objs.size:=(x a o e).lt
theorem HOk.fresh (x:HOk P w H h) (e:h.objs.size<=a):H a=none:=by
 cases q:H a with
 | none=>rfl
 | some u=>exact absurd (Nat.lt_of_lt_of_le (x.lt q) e) (Nat.lt_irrefl _)
theorem HOk.kept (x:HOk P w H h) (k:∀b u,h.get? b=some u->h'.get? b=some u):HOk P w H h':=fun a o e=>
 (x a o e).stay (fun b u _ q=>k b u q) (fun _ q=>q) fun _ _ q=>q
theorem HOk.laid (x:HOk P w H h) (k:∀b u,h.get? b=some u->h'.get? b=some u) (hp:h.objs.size<=a) (new:ObjOk P w (upd H a o) h' a o):HOk P w (upd H a o) h':=fun b u e=>by
 have hn:=x.fresh hp
 by_cases hb:b=a
 ·subst hb; rw [upd_same] at e; cases e; exact new
 ·rw [upd_ne hb] at e
  exact (x b u e).stay (fun c v _ q=>k c v q) (fun c q=>by rw [upd_ne (ne_of_none q hn)]; exact q) fun c xs q=>by rw [upd_ne (ne_of_none q hn)]; exact q
end
def Rd (H:Hp) (a:Addr) (u:HO):Prop:=H a=some u\/∃o,H a=some (.frz o u)
theorem Rd.ok {P:Program} {w:World} {H:Hp} {h:Heap} {a:Addr} {u:HO} (r:Rd H a u) (x:HOk P w H h):ObjOk P w H h a u:=by
 rcases r with r | ⟨o,r⟩
 ·exact x a u r
 ·obtain ⟨_,q⟩:=x a _ r
  exact q
def Mut:Option HO->Prop
 | some (.lst _)=>True
 | some (.dK _)=>True
 | some (.dT _)=>True
 | some (.set _ _)=>True
 | some (.ins _ _ _)=>True
 | some (.ext _)=>True
 | _=>False
section
variable {P:Program} {w:World} {H:Hp} {h h':Heap} {x e:Addr} {o':HO}
theorem HOk.write (ok:HOk P w H h) (mu:Mut (H x)) (he:e=x\/H e=some (.own x)) (k:∀b u,b≠e->h.get? b=some u->h'.get? b=some u) (heo:∃u,h'.get? e=some u)
  (new:ObjOk P w (upd H x o') h' x o'):HOk P w (upd H x o') h':=fun b u q=>by
 have nown:∀c y,H c=some (.own y)->c≠x:=fun c y r z=>by subst z; rw [r] at mu; exact mu
 have ntup:∀c xs,H c=some (.tup xs)->c≠x:=fun c xs r z=>by subst z; rw [r] at mu; exact mu
 by_cases hb:b=x
 ·subst hb; rw [upd_same] at q; cases q; exact new
 ·rw [upd_ne hb] at q
  by_cases hbe:b=e
  ·have q':H b=some (.own x):=by
    rcases he with z | z
    ·exact absurd (hbe.trans z) hb
    ·rw [hbe]; exact z
   rw [q] at q'; cases q'
   obtain ⟨v,hv⟩:=heo
   exact ⟨v,by rw [hbe]; exact hv⟩
  ·refine (ok b u q).stay (fun c v hc r=>k c v ?_ r) (fun c r=>by rw [upd_ne (nown c b r)]; exact r) fun c xs r=>by rw [upd_ne (ntup c xs r)]; exact r
   rcases hc with rfl | hc
   ·exact hbe
   ·rintro rfl
    rcases he with z | z
    ·exact nown c b hc z
    ·rw [hc] at z; cases z; exact hb rfl
end
structure Un (fs ex:List Addr) (H H':Hp) (h h':Heap):Prop where
 keep:∀b o,h.get? b=some o->H b=none->b∉fs->b∉ex->h'.get? b=some o
 slot:∀b o,h.get? b=some o->H b=none->b∈fs->b∉ex->∃sl,h'.get? b=some { o with slots:=sl }
 free:∀b o,h.get? b=some o->H b=none->b∉ex->H' b=none
 there:∀b o,h.get? b=some o->b∉ex->∃o',h'.get? b=some o'
 tups:∀b xs,H b=some (.tup xs)->H' b=some (.tup xs)
 frzs:∀b o u,H b=some (.frz o u)->H' b=some (.frz o u)
 tbls:∀b ps,H b=some (.tbl ps)->∃more,H' b=some (.tbl (ps++more))
section
variable {fs fs' ex ex':List Addr} {H H1 H2:Hp} {h h1 h2 h':Heap} {a x e:Addr} {o:HO}
theorem Un.any (u:Un fs ex H H1 h h1) {b:Addr} {ob:Obj} (q:h.get? b=some ob) (n:H b=none) (hx:b∉ex):∃sl,h1.get? b=some { ob with slots:=sl }:=by
 by_cases hb:b∈fs
 ·exact u.slot b ob q n hb hx
 ·exact ⟨ob.slots,u.keep b ob q n hb hx⟩
theorem Un.kept (k:∀b u,h.get? b=some u->h'.get? b=some u):Un fs ex H H h h':=
 ⟨fun b ob q _ _ _=>k b ob q,fun b ob q _ _ _=>⟨ob.slots,k b ob q⟩,fun _ _ _ n _=>n,fun b ob q _=>⟨ob,k b ob q⟩,fun _ _ q=>q,fun _ _ _ q=>q,fun _ ps q=>⟨#[],by rw [q]; simp⟩⟩
theorem Un.refl:Un fs ex H H h h:=Un.kept fun _ _ q=>q
theorem Un.laid (k:∀b u,h.get? b=some u->h'.get? b=some u) (hp:h.objs.size<=a) (hn:H a=none):Un fs ex H (upd H a o) h h' where
 keep:=fun b u q _ _ _=>k b u q
 slot:=fun b u q _ _ _=>⟨u.slots,k b u q⟩
 free:=fun b u q n _=>by rw [upd_ne (Nat.ne_of_lt (Nat.lt_of_lt_of_le (Heap.lt_size q) hp))]; exact n
 there:=fun b u q _=>⟨u,k b u q⟩
 tups:=fun b xs q=>by rw [upd_ne (ne_of_none q hn)]; exact q
 frzs:=fun b u xs q=>by rw [upd_ne (ne_of_none q hn)]; exact q
 tbls:=fun b ps q=>⟨#[],by rw [upd_ne (ne_of_none q hn),q]; simp⟩
theorem Un.write (mu:Mut (H x)) (he:e=x\/H e=some (.own x)) (k:∀b u,b≠e->h.get? b=some u->h'.get? b=some u) (heo:∃u,h'.get? e=some u):Un fs ex H (upd H x o) h h':=by
 have hx:∀b,H b=none->b≠x:=fun b n z=>by subst z; rw [n] at mu; exact mu
 have hb:∀b,H b=none->b≠e:=fun b n z=>by
  subst z
  rcases he with r | r
  ·exact hx b n r
  ·rw [n] at r; cases r
 have hm:∀b u,H b=some u->¬Mut (some u)->b≠x:=fun b u q nm z=>by subst z; rw [q] at mu; exact nm mu
 refine ⟨fun b u q n _ _=>k b u (hb b n) q,fun b u q n _ _=>⟨u.slots,k b u (hb b n) q⟩,fun b u q n _=>by rw [upd_ne (hx b n)]; exact n,fun b u q _=>?_,
  fun b xs q=>by rw [upd_ne (hm b _ q fun z=>z)]; exact q,fun b u xs q=>by rw [upd_ne (hm b _ q fun z=>z)]; exact q,fun b ps q=>⟨#[],by rw [upd_ne (hm b _ q fun z=>z),q]; simp⟩⟩
 by_cases hbe:b=e
 ·subst hbe; exact heo
 ·exact ⟨u,k b u hbe q⟩
end
def trk (h:Heap) (H:Hp):List Addr:=(List.range h.objs.size).filter fun a=>(H a).isSome
def hidT (h:Heap) (H:Hp):Heap:=W.hideAll h (trk h H)
theorem hidT_size (h:Heap) (H:Hp):(hidT h H).objs.size=h.objs.size:=W.hideAll_size _ _
theorem hidT_get {h:Heap} {H:Hp} {b:Addr} {o:Obj} (e:h.get? b=some o) (n:H b=none):(hidT h H).get? b=some o:=
 W.hideAll_get _ e fun hm=>by
  have q:(H b).isSome=true:=(List.mem_filter.mp hm).2
  rw [n] at q; simp at q
theorem of_hidT {h:Heap} {H:Hp} {b:Addr} {o:Obj} (e:(hidT h H).get? b=some o):h.get? b=some o/\H b=none:=by
 have e':h.get? b=some o:=W.of_hideAll (trk h H) e
 refine ⟨e',?_⟩
 cases q:H b with
 | none=>rfl
 | some x=>
  have hm:b∈trk h H:=List.mem_filter.mpr ⟨List.mem_range.mpr (Heap.lt_size e'),by simp [q]⟩
  have z:(hidT h H).get? b=none:=W.hideAll_none (trk h H) hm
  rw [z] at e; cases e
def allNews (g h:Heap) (L:Addr):List (Addr×Obj):=(List.range h.objs.size).filterMap fun a=>if a=L\/(g.get? a).isSome=true then none else (h.get? a).map fun o=>(a,o)
def rest (g h:Heap) (L d:Addr):List (Addr×Obj):=(allNews g h L).filter fun p=>decide (p.1≠d)
end L2
namespace L2
open PySem PySem.Spec PyProof.Rows
structure Mod (K:W.Frag) (mg:Str->Option Value) (base:Heap):Prop where
 kin:K.In base
 glob:base.Ns mainGlobals mg
 blt:∃mb,base.Ns builtinsNs mb/\∀x:Str,x ≠ "__name__" -> mb x=bootBuiltins x
 nolimit:base.NoLimit
structure Cx where
 prog:Program
 w:World
 K:W.Frag
 mg:Str->Option Value
 base:Heap
 A:Around
 N:List Str
 s₀:Shared
 H₀:Hp
 env:Env
 outer:List Env
 stack:List Env
 ex:List Addr
 fn:Str->Bool
 calm:Bool
 pn:List (Addr×Obj)
 xe:Value->Shared->Prop
def frs (l:List Env):List Addr:=l.filterMap (·.frame)
abbrev Cx.fs (X:Cx):List Addr:=frs X.outer
def Vis (sc:Scope) (x:Str):Prop:=sc.names.lookup x=some .local\/sc.names.lookup x=some .cell\/sc.names.lookup x=some .free
def Loc (sc:Scope) (x:Str):Prop:=sc.names.lookup x=some .local\/sc.names.lookup x=some .cell
def Look (env:Env) (h:Heap) (m:Str->Option Value) (x:Str) (u:Value):Prop:=
 (env.kindOf x=some .local/\m x=some u)\/((env.kindOf x=some .cell\/env.kindOf x=some .free)/\∃c,env.cells.lookup x=some c/\h.IsCell c (some u))
structure Cx.Ok (X:Cx):Prop where
 mod:Mod X.K X.mg X.base
 kind:X.env.scope.kind = .function
 glob:X.env.globals=mainGlobals
 blt:X.env.builtins=builtinsNs
 above:X.s₀.heap.objs.size<=X.env.locals
 inj:∀x y c,X.env.cells.lookup x=some c->X.env.cells.lookup y=some c->x=y
 has:∀x,(X.env.kindOf x=some .cell\/X.env.kindOf x=some .free)->∃c,X.env.cells.lookup x=some c
 cab:∀x c,X.fn x=true->X.env.cells.lookup x=some c->X.s₀.heap.objs.size<=c
 hd:X.calm=true->X.A.handled=none
 frames:X.A.frames=some X.stack
 stk:X.stack=X.outer\/(X.stack=X.env :: X.outer/\X.env.frame=some X.env.locals)
 exf:∀b∈X.ex,b≠X.env.locals/\∀x c,X.env.cells.lookup x=some c->c≠b
 bs:∀b o,X.base.get? b=some o->X.s₀.heap.get? b=some o/\X.H₀ b=none
 bsz:X.base.objs.size<=X.s₀.heap.objs.size
 noex:∀b o,X.base.get? b=some o->b∉X.ex
 exfs:∀b∈X.ex,b∉X.fs
 funs:X.s₀.heap.FunFrames X.base X.outer
 frf:∀b∈X.fs,X.H₀ b=none
structure Inv (X:Cx) (pins:List (Addr×Obj)) (σ:List (Option V)) (H:Hp) (s:Shared):Prop where
 ok:X.Ok
 os:s.os=X.s₀.os
 bare:AllBare s.gens
 base:Un X.fs X.ex X.H₀ H X.s₀.heap s.heap
 loc:∃m,s.heap.Ns X.env.locals m/\∀(i:Nat) (x:Str) (v:V),X.N[i]?=some x->σ[i]?=some (some v)->Vis X.env.scope x->∃u,RelV v u/\Look X.env s.heap m x u
 cell:∀x c,X.env.cells.lookup x=some c->∃v,s.heap.IsCell c v
 free:H X.env.locals=none
 freeC:∀x c,X.env.cells.lookup x=some c->H c=none
 pin:∀p∈X.pn++pins,s.heap.get? p.1=some p.2/\H p.1=none/\p.1≠X.env.locals/\p.1∉X.fs/\∀v,p.2.data ≠ .cell v
 hok:HOk X.prog X.w H s.heap
 len:σ.length=X.N.length
section
variable {X:Cx} {pins:List (Addr×Obj)} {σ:List (Option V)} {H H':Hp} {s:Shared} {h':Heap}
theorem Cx.Ok.nofr (ok:X.Ok) {b:Addr} {o:Obj} (e:X.base.get? b=some o):b∉X.fs:=fun hb=>by
 have:=(ok.funs.mem hb).1
 rw [e] at this; cases this
theorem Inv.bs (I:Inv X pins σ H s):∀b o,X.base.get? b=some o->s.heap.get? b=some o/\H b=none:=fun b o e=>
 ⟨I.base.keep b o (I.ok.bs b o e).1 (I.ok.bs b o e).2 (I.ok.nofr e) (I.ok.noex b o e),I.base.free b o (I.ok.bs b o e).1 (I.ok.bs b o e).2 (I.ok.noex b o e)⟩
theorem Inv.bk (I:Inv X pins σ H s):∀b o,X.base.get? b=some o->s.heap.get? b=some o:=fun b o e=>(I.bs b o e).1
theorem Inv.mod (I:Inv X pins σ H s):Mod X.K X.mg X.base:=I.ok.mod
theorem Inv.kIn (I:Inv X pins σ H s):X.K.In s.heap:=I.ok.mod.kin.keeps I.bk
theorem Inv.lt (I:Inv X pins σ H s):X.env.locals<s.heap.objs.size:=let ⟨_,hn,_⟩:=I.loc; hn.lt
theorem Inv.sz (I:Inv X pins σ H s):X.s₀.heap.objs.size<=s.heap.objs.size:=Nat.le_trans I.ok.above (Nat.le_of_lt I.lt)
theorem Inv.nofs (I:Inv X pins σ H s) {a:Addr} (h:s.heap.objs.size<=a):a∉X.fs:=fun hb=>by
 obtain ⟨_,o,ho,_⟩:=I.ok.funs.mem hb
 exact absurd (Nat.lt_of_lt_of_le (Heap.lt_size ho) (Nat.le_trans I.sz h)) (Nat.lt_irrefl _)
theorem Inv.cne (I:Inv X pins σ H s):∀x c,X.env.cells.lookup x=some c->c≠X.env.locals:=fun x c e z=>by
 obtain ⟨v,o,ho,hd⟩:=I.cell x c e
 obtain ⟨m,⟨o',es,ep,ho',hd',_⟩,_⟩:=I.loc
 rw [z,ho'] at ho; cases ho; rw [hd'] at hd; cases hd
theorem Inv.funs (I:Inv X pins σ H s):s.heap.FunFrames X.base X.outer:=by
 have all:∀(l:List Env),(∀b∈frs l,b∈X.fs)->X.s₀.heap.FunFrames X.base l->s.heap.FunFrames X.base l:=by
  intro l
  induction l with
  | nil=>intro _ _; trivial
  | cons env r ih=>
   intro hs hl
   obtain ⟨hk,⟨L,o,hf,hn,ho,hd⟩,hr⟩:=hl
   have hL:L∈X.fs:=hs L (by unfold frs; rw [List.filterMap_cons,hf]; exact List.mem_cons_self)
   obtain ⟨sl,e⟩:=I.base.slot L o ho (I.ok.frf L hL) hL fun z=>I.ok.exfs L z hL
   exact ⟨hk,⟨L,_,hf,hn,e,hd⟩,ih (fun b hb=>hs b (by unfold frs; rw [List.filterMap_cons,hf]; exact List.mem_cons_of_mem _ hb)) hr⟩
 exact all X.outer (fun _ hb=>hb) I.ok.funs
theorem Inv.stack (I:Inv X pins σ H s):s.heap.FunFrames X.base X.stack:=by
 rcases I.ok.stk with e | ⟨e,hf⟩
 ·rw [e]; exact I.funs
 ·rw [e]
  obtain ⟨m,hn,_⟩:=I.loc
  refine .cons (by rw [I.ok.kind]; decide) hf hn ?_ I.funs
  exact Heap.get?_none_of_le (Nat.le_trans I.ok.bsz I.ok.above)
theorem Inv.stkSub (I:Inv X pins σ H s):∀b∈frs X.stack,b∈X.env.locals :: X.fs:=fun b hb=>by
 rcases I.ok.stk with e | ⟨e,hf⟩
 ·rw [e] at hb; exact List.mem_cons_of_mem _ hb
 ·rw [e] at hb
  unfold frs at hb
  rw [List.filterMap_cons,hf] at hb
  exact hb
theorem Inv.stkFree (I:Inv X pins σ H s):∀b∈frs X.stack,H b=none:=fun b hb=>by
 rcases List.mem_cons.mp (I.stkSub b hb) with e | hb
 ·rw [e]; exact I.free
 ·obtain ⟨_,o,ho,_⟩:=I.ok.funs.mem hb
  exact I.base.free b o ho (I.ok.frf b hb) fun z=>I.ok.exfs b z hb
theorem Inv.step {g':Array GenState} {t':Nat} {d':Drawn} {ch:List Addr} (I:Inv X pins σ H s)
  (hch:∀b∈ch,(b∈X.ex\/X.s₀.heap.objs.size<=b)/\b≠X.env.locals/\(∀x c,X.env.cells.lookup x=some c->c≠b)/\∀p∈X.pn++pins,p.1≠b)
  (keep:∀b o,b≠X.env.locals->b∉X.fs->b∉ch->s.heap.get? b=some o->H b=none->h'.get? b=some o)
  (slot:∀b o,b≠X.env.locals->b∈X.fs->b∉ch->s.heap.get? b=some o->H b=none->∃sl,h'.get? b=some { o with slots:=sl }) (free:∀b o,b∉ch->s.heap.get? b=some o->H b=none->H' b=none)
  (there:∀b o,b∉ch->s.heap.get? b=some o->∃o',h'.get? b=some o')
  (tups:∀b xs,H b=some (.tup xs)->H' b=some (.tup xs)) (frzs:∀b o u,H b=some (.frz o u)->H' b=some (.frz o u)) (tbls:∀b ps,H b=some (.tbl ps)->∃more,H' b=some (.tbl (ps++more)))
  (ns:∀m,s.heap.Ns X.env.locals m->h'.Ns X.env.locals m) (hok:HOk X.prog X.w H' h') (hg:AllBare g') :
  Inv X pins σ H' { s with heap:=h',gens:=g',drawn:=d',toks:=t' }:=by
 have neL:∀b o,X.s₀.heap.get? b=some o->b≠X.env.locals:=fun b o e=>Nat.ne_of_lt (Nat.lt_of_lt_of_le (Heap.lt_size e) I.ok.above)
 have neC:∀b o,X.s₀.heap.get? b=some o->b∉X.ex->b∉ch:=fun b o e hx hb=>by
  rcases (hch b hb).1 with z | z
  ·exact hx z
  ·exact absurd (Nat.lt_of_lt_of_le (Heap.lt_size e) z) (Nat.lt_irrefl _)
 have cellK:∀x c,X.env.cells.lookup x=some c->∀v,s.heap.IsCell c v->h'.IsCell c v:=fun x c e v ⟨o,ho,hd⟩=>by
  have nch:c∉ch:=fun z=>(hch c z).2.2.1 x c e rfl
  by_cases hc:c∈X.fs
  ·obtain ⟨sl,q⟩:=slot c o (I.cne x c e) hc nch ho (I.freeC x c e)
   exact ⟨_,q,hd⟩
  ·exact ⟨o,keep c o (I.cne x c e) hc nch ho (I.freeC x c e),hd⟩
 refine ⟨I.ok,I.os,hg,⟨fun b o e n hb hx=>?_,fun b o e n hb hx=>?_,fun b o e n hx=>?_,fun b o e hx=>?_,fun b xs e=>tups b xs (I.base.tups b xs e),fun b o xs e=>frzs b o xs (I.base.frzs b o xs e),fun b ps e=>?_⟩,?_,fun x c e=>?_,?_,fun x c e=>?_,fun p hp=>?_,hok,I.len⟩
 ·exact keep b o (neL b o e) hb (neC b o e hx) (I.base.keep b o e n hb hx) (I.base.free b o e n hx)
 ·obtain ⟨sl,e1⟩:=I.base.slot b o e n hb hx
  obtain ⟨sl',e2⟩:=slot b _ (neL b o e) hb (neC b o e hx) e1 (I.base.free b o e n hx)
  exact ⟨sl',e2⟩
 ·obtain ⟨o',e1⟩:=I.base.there b o e hx
  exact free b o' (neC b o e hx) e1 (I.base.free b o e n hx)
 ·obtain ⟨o',e1⟩:=I.base.there b o e hx
  exact there b o' (neC b o e hx) e1
 ·obtain ⟨m1,e1⟩:=I.base.tbls b ps e
  obtain ⟨m2,e2⟩:=tbls b _ e1
  exact ⟨m1++m2,by rw [e2,Array.append_assoc]⟩
 ·obtain ⟨m,hn,hl⟩:=I.loc
  refine ⟨m,ns m hn,fun i x v e1 e2 e3=>?_⟩
  obtain ⟨u,r,l⟩:=hl i x v e1 e2 e3
  refine ⟨u,r,?_⟩
  rcases l with l | ⟨k,c,e,z⟩
  ·exact .inl l
  ·exact .inr ⟨k,c,e,cellK x c e _ z⟩
 ·obtain ⟨v,z⟩:=I.cell x c e
  exact ⟨v,cellK x c e v z⟩
 ·obtain ⟨m,⟨o,_,_,ho,_⟩,_⟩:=I.loc
  exact free _ o (fun z=>(hch _ z).2.1 rfl) ho I.free
 ·obtain ⟨v,o,ho,hd⟩:=I.cell x c e
  exact free c o (fun z=>(hch c z).2.2.1 x c e rfl) ho (I.freeC x c e)
 ·obtain ⟨e,n,ne,nf,d⟩:=I.pin p hp
  have nch:p.1∉ch:=fun z=>(hch p.1 z).2.2.2 p hp rfl
  exact ⟨keep p.1 p.2 ne nf nch e n,free p.1 p.2 nch e n,ne,nf,d⟩
theorem Inv.un {t':Nat} (I:Inv X pins σ H s) (u:Un X.fs [] H H' s.heap h') (hok:HOk X.prog X.w H' h'):Inv X pins σ H' { s with heap:=h',toks:=t' }:=by
 obtain ⟨m,⟨o,es,ep,ho,r⟩,_⟩:=id I.loc
 obtain ⟨sl,hL⟩:=u.any ho I.free (by simp)
 exact I.step (g':=s.gens) (d':=s.drawn) (ch:=[]) (fun _ z=>nomatch z) (fun b o _ hb _ e n=>u.keep b o e n hb (by simp)) (fun b o _ hb _ e n=>u.slot b o e n hb (by simp)) (fun b o _ e n=>u.free b o e n (by simp)) (fun b o _ e=>u.there b o e (by simp)) u.tups u.frzs u.tbls (fun m' hm=>by
  obtain ⟨o',es',ep',ho',r'⟩:=hm
  rw [ho] at ho'; cases ho'
  exact ⟨_,es',ep',hL,r'⟩) hok I.bare
theorem Inv.call {g':Array GenState} {t':Nat} {d':Drawn} {ch:List Addr} (I:Inv X pins σ H s) (u:Un (frs X.stack) ch H H' s.heap h') (hok:HOk X.prog X.w H' h') (hg:AllBare g')
  (hch:∀b∈ch,(b∈X.ex\/X.s₀.heap.objs.size<=b)/\b≠X.env.locals/\(∀x c,X.env.cells.lookup x=some c->c≠b)/\∀p∈X.pn++pins,p.1≠b) :
  Inv X pins σ H' { s with heap:=h',gens:=g',drawn:=d',toks:=t' }:=by
 obtain ⟨m,⟨o,es,ep,ho,r⟩,_⟩:=id I.loc
 obtain ⟨sl,hL⟩:=u.any ho I.free fun z=>(hch _ z).2.1 rfl
 exact I.step (ch:=ch) hch (fun b o hL hb hc e n=>u.keep b o e n (fun z=>(List.mem_cons.mp (I.stkSub b z)).elim hL hb) hc) (fun b o _ _ hc e n=>u.any e n hc) (fun b o hc e n=>u.free b o e n hc) (fun b o hc e=>u.there b o e hc) u.tups u.frzs u.tbls (fun m' hm=>by
  obtain ⟨o',es',ep',ho',r'⟩:=hm
  rw [ho] at ho'; cases ho'
  exact ⟨_,es',ep',hL,r'⟩) hok hg
theorem Inv.turned {t':Nat} {it:Addr} (I:Inv X pins σ H s) (k:∀b o,b≠it->s.heap.get? b=some o->h'.get? b=some o) (hn:H it=none) (hL:it≠X.env.locals)
  (h1:it∈X.ex\/X.s₀.heap.objs.size<=it) (h2:∀x c,X.env.cells.lookup x=some c->c≠it) (h3:∀p∈X.pn++pins,p.1≠it):Inv X pins σ H { s with heap:=h',toks:=t' }:=by
 have nit:∀b u,H b=some u->b≠it:=fun b u e z=>by rw [z,hn] at e; cases e
 refine I.step (g':=s.gens) (d':=s.drawn) (ch:=[it]) (fun b hb=>?_) (fun b o _ _ hc e _=>k b o (fun z=>hc (by simp [z])) e) (fun b o _ _ hc e _=>⟨o.slots,k b o (fun z=>hc (by simp [z])) e⟩) (fun _ _ _ _ n=>n)
  (fun b o hc e=>⟨o,k b o (fun z=>hc (by simp [z])) e⟩) (fun _ _ e=>e) (fun _ _ _ e=>e) (fun b ps e=>⟨#[],by rw [e]; simp⟩) (fun m hm=>?_) (fun b u e=>?_) I.bare
 ·have e:b=it:=by simpa using hb
  subst e
  exact ⟨h1,hL,h2,h3⟩
 ·obtain ⟨o,es,ep,ho,r⟩:=hm
  exact ⟨o,es,ep,k _ o (Ne.symm hL) ho,r⟩
 ·refine (I.hok b u e).stay (fun c v hc q=>k c v ?_ q) (fun _ q=>q) fun _ _ q=>q
  rcases hc with z | z
  ·rw [z]; exact nit b u e
  ·exact nit c _ z
theorem Inv.tok (I:Inv X pins σ H s) (t:Nat):Inv X pins σ H { s with toks:=t }:=I.un (h':=s.heap) (t':=t) Un.refl I.hok
theorem Inv.kept {t':Nat} (I:Inv X pins σ H s) (k:∀b u,s.heap.get? b=some u->h'.get? b=some u):Inv X pins σ H { s with heap:=h',toks:=t' }:=I.un (Un.kept k) (I.hok.kept k)
theorem Inv.laid {a:Addr} {o:HO} {t':Nat} (I:Inv X pins σ H s) (k:∀b u,s.heap.get? b=some u->h'.get? b=some u) (hp:s.heap.objs.size<=a) (new:ObjOk X.prog X.w (upd H a o) h' a o) :
  Inv X pins σ (upd H a o) { s with heap:=h',toks:=t' }:=I.un (Un.laid k hp (I.hok.fresh hp)) (I.hok.laid k hp new)
theorem Inv.write {x e:Addr} {o:HO} {t':Nat} (I:Inv X pins σ H s) (mu:Mut (H x)) (he:e=x\/H e=some (.own x)) (k:∀b u,b≠e->s.heap.get? b=some u->h'.get? b=some u) (heo:∃u,h'.get? e=some u)
  (new:ObjOk X.prog X.w (upd H x o) h' x o):Inv X pins σ (upd H x o) { s with heap:=h',toks:=t' }:=I.un (Un.write mu he k heo) (I.hok.write mu he k heo new)
theorem Inv.weak {σ':List (Option V)} (I:Inv X pins σ H s) (hl:σ'.length=σ.length) (w:∀(i:Nat) v,σ'[i]?=some (some v)->σ[i]?=some (some v)):Inv X pins σ' H s:=
 ⟨I.ok,I.os,I.bare,I.base,let ⟨m,hn,hl'⟩:=I.loc; ⟨m,hn,fun i x v e1 e2 e3=>hl' i x v e1 (w i v e2) e3⟩,I.cell,I.free,I.freeC,I.pin,I.hok,hl.trans I.len⟩
theorem Inv.pins_of {pins':List (Addr×Obj)} (I:Inv X pins σ H s) (h:∀p∈pins',s.heap.get? p.1=some p.2/\H p.1=none/\p.1≠X.env.locals/\p.1∉X.fs/\∀v,p.2.data ≠ .cell v):Inv X pins' σ H s:=
 ⟨I.ok,I.os,I.bare,I.base,I.loc,I.cell,I.free,I.freeC,fun p hp=>(List.mem_append.mp hp).elim (fun z=>I.pin p (List.mem_append_left _ z)) (h p),I.hok,I.len⟩
theorem nodup_ix {N:List Str} (hN:N.Nodup) {i j:Nat} {x:Str} (a:N[i]?=some x) (b:N[j]?=some x):i=j:=by
 obtain ⟨h1,e1⟩:=List.getElem?_eq_some_iff.mp a
 obtain ⟨h2,e2⟩:=List.getElem?_eq_some_iff.mp b
 exact (List.getElem_inj hN).mp (e1.trans e2.symm)
theorem store_ok2 {M:Model} {A:Around} {E:Value->Shared->Prop} {i:Nat} {x:Str} {v:V} {u:Value} {Q:Unit->Shared->Prop} (I:Inv X pins σ H s) (hN:X.N.Nodup) (hi:X.N[i]?=some x) (hx:Loc X.env.scope x) (r:RelV v u)
  (h:∀s',Inv X pins (σ.set i (some v)) H s'->(∃a,Heap.SameBut a s.heap s'.heap/\(a=X.env.locals\/X.env.cells.lookup x=some a))->Q () s') (hf:X.fn x=true\/X.env.scope.names.lookup x=some .local:=by first | exact .inl rfl | exact .inr rfl | assumption):wpAny M A (storeName X.env x u) Q E s:=by
 obtain ⟨m,hn,hl⟩:=id I.loc
 have hcls:(X.env.scope.kind == .class || (X.env.scope.kind == .module&&X.env.locals != X.env.globals))=false:=by rw [I.ok.kind]; rfl
 have hiσ:i<σ.length:=by rw [I.len]; exact (List.getElem?_eq_some_iff.mp hi).1
 have cne:=I.cne
 have tracked:∀{a:Addr} {h':Heap},(∃o,s.heap.get? a=some o/\H a=none)->Heap.SameBut a s.heap h'->HOk X.prog X.w H h':=fun {a h'} ha hs b ob e=>by
  obtain ⟨_,_,hfree⟩:=ha
  refine (I.hok b ob e).stay (fun c w' hc q=>(hs.2 c ?_).trans q) (fun _ q=>q) fun _ _ q=>q
  rintro rfl
  rcases hc with rfl | hc
  ·rw [hfree] at e; cases e
  ·rw [hfree] at hc; cases hc
 rcases hx with hk | hk
 ·refine wpAny_storeName_local hk hn (fun h' hn' hs=>?_) hcls
  obtain ⟨oL,_,_,hoL,_⟩:=id hn
  refine h _ ⟨I.ok,I.os,I.bare,⟨fun b o e n hb hx=>?_,fun b o e n hb hx=>?_,I.base.free,fun b o e hx=>?_,I.base.tups,I.base.frzs,I.base.tbls⟩,⟨_,hn',fun j y v' e1 e2 e3=>?_⟩,fun y c e=>?_,I.free,I.freeC,fun p hp=>?_,tracked ⟨oL,hoL,I.free⟩ hs,by simpa using I.len⟩ ⟨_,hs,.inl rfl⟩
  ·exact (hs.2 b (Nat.ne_of_lt (Nat.lt_of_lt_of_le (Heap.lt_size e) I.ok.above))).trans (I.base.keep b o e n hb hx)
  ·obtain ⟨sl,e1⟩:=I.base.slot b o e n hb hx
   exact ⟨sl,(hs.2 b (Nat.ne_of_lt (Nat.lt_of_lt_of_le (Heap.lt_size e) I.ok.above))).trans e1⟩
  ·obtain ⟨o',e1⟩:=I.base.there b o e hx
   exact ⟨o',(hs.2 b (Nat.ne_of_lt (Nat.lt_of_lt_of_le (Heap.lt_size e) I.ok.above))).trans e1⟩
  ·by_cases hj:j=i
   ·subst hj
    rw [hi] at e1; cases e1
    rw [List.getElem?_set_self hiσ] at e2
    cases e2
    exact ⟨u,r,.inl ⟨hk,by simp⟩⟩
   ·rw [List.getElem?_set_ne (Ne.symm hj)] at e2
    obtain ⟨u',r',q⟩:=hl j y v' e1 e2 e3
    refine ⟨u',r',?_⟩
    rcases q with ⟨k,e⟩ | ⟨k,c,e,z⟩
    ·refine .inl ⟨k,?_⟩
     have:y≠x:=fun e=>hj (nodup_ix hN e1 (e ▸ hi))
     simp [this,e]
    ·exact .inr ⟨k,c,e,z.sameBut hs (cne y c e)⟩
  ·obtain ⟨w',z⟩:=I.cell y c e
   exact ⟨w',z.sameBut hs (cne y c e)⟩
  ·obtain ⟨e,n,ne,nf,d⟩:=I.pin p hp
   exact ⟨(hs.2 p.1 ne).trans e,n,ne,nf,d⟩
 ·have hfn:X.fn x=true:=by
   rcases hf with z | z
   ·exact z
   ·rw [z] at hk; cases hk
  obtain ⟨c,hc⟩:=I.ok.has x (.inl hk)
  obtain ⟨w',z⟩:=I.cell x c hc
  refine wpAny_storeName_cell I.ok.kind hk hc z (fun h' hc' hs=>?_)
  obtain ⟨oc,hoc,hocd⟩:=id z
  refine h { s with heap:=h' } ⟨I.ok,I.os,I.bare,⟨fun b o e n hb hx=>?_,fun b o e n hb hx=>?_,I.base.free,fun b o e hx=>?_,I.base.tups,I.base.frzs,I.base.tbls⟩,⟨m,hn.sameBut hs (Ne.symm (cne x c hc)),fun j y v' e1 e2 e3=>?_⟩,fun y c' e=>?_,I.free,I.freeC,fun p hp=>?_,tracked ⟨oc,hoc,I.freeC x c hc⟩ hs,by simpa using I.len⟩ ⟨c,hs,.inr hc⟩
  ·exact (hs.2 b (Nat.ne_of_lt (Nat.lt_of_lt_of_le (Heap.lt_size e) (I.ok.cab x c hfn hc)))).trans (I.base.keep b o e n hb hx)
  ·obtain ⟨sl,e1⟩:=I.base.slot b o e n hb hx
   exact ⟨sl,(hs.2 b (Nat.ne_of_lt (Nat.lt_of_lt_of_le (Heap.lt_size e) (I.ok.cab x c hfn hc)))).trans e1⟩
  ·obtain ⟨o',e1⟩:=I.base.there b o e hx
   exact ⟨o',(hs.2 b (Nat.ne_of_lt (Nat.lt_of_lt_of_le (Heap.lt_size e) (I.ok.cab x c hfn hc)))).trans e1⟩
  ·by_cases hj:j=i
   ·subst hj
    rw [hi] at e1; cases e1
    rw [List.getElem?_set_self hiσ] at e2
    cases e2
    exact ⟨u,r,.inr ⟨.inl hk,c,hc,hc'⟩⟩
   ·rw [List.getElem?_set_ne (Ne.symm hj)] at e2
    obtain ⟨u',r',q⟩:=hl j y v' e1 e2 e3
    refine ⟨u',r',?_⟩
    rcases q with q | ⟨k,c',e,z'⟩
    ·exact .inl q
    ·refine .inr ⟨k,c',e,z'.sameBut hs ?_⟩
     rintro rfl
     exact hj (nodup_ix hN e1 (I.ok.inj _ _ _ e hc ▸ hi))
  ·by_cases hcc:c'=c
   ·subst hcc; exact ⟨_,hc'⟩
   ·obtain ⟨w2,z2⟩:=I.cell y c' e
    exact ⟨w2,z2.sameBut hs hcc⟩
  ·obtain ⟨e,n,ne,nf,d⟩:=I.pin p hp
   refine ⟨(hs.2 p.1 ?_).trans e,n,ne,nf,d⟩
   intro q
   rw [q,hoc] at e
   have q':oc=p.2:=Option.some.inj e
   exact d w' (by rw [<-q']; exact hocd)
theorem store_ok {M:Model} {A:Around} {E:Value->Shared->Prop} {i:Nat} {x:Str} {v:V} {u:Value} {Q:Unit->Shared->Prop} (I:Inv X pins σ H s) (hN:X.N.Nodup) (hi:X.N[i]?=some x) (hx:Loc X.env.scope x) (r:RelV v u)
  (h:∀s',Inv X pins (σ.set i (some v)) H s'->Q () s') (hf:X.fn x=true\/X.env.scope.names.lookup x=some .local:=by first | exact .inl rfl | exact .inr rfl | assumption):wpAny M A (storeName X.env x u) Q E s:=
 store_ok2 I hN hi hx r (fun s' I' _=>h s' I') hf
theorem Inv.call' {s':Shared} {ch:List Addr} (I:Inv X pins σ H s) (ho:s'.os=s.os) (u:Un (frs X.stack) ch H H' s.heap s'.heap) (hok:HOk X.prog X.w H' s'.heap) (hg:AllBare s'.gens)
  (hch:∀b∈ch,(b∈X.ex\/X.s₀.heap.objs.size<=b)/\b≠X.env.locals/\(∀x c,X.env.cells.lookup x=some c->c≠b)/\∀p∈X.pn++pins,p.1≠b):Inv X pins σ H' s':=by
 obtain ⟨h',g',d',t',o'⟩:=s'
 have e:o'=s.os:=ho
 subst e
 exact I.call (g':=g') (t':=t') (d':=d') u hok hg hch
end
abbrev XK:=Value->Option Addr->Hp->Prop
abbrev St:=List (Option V)
abbrev VK:=V->Hp->Prop
abbrev TE:=St->Hp->VK->Prop
abbrev TT:=St->Hp->(Bool->Hp->Prop)->Prop
abbrev TA:=St->Hp->(List V->Hp->Prop)->Prop
structure Ends where
 nx:St->Hp->Prop
 rt:VK
 bk:St->Hp->Prop:=fun _ _=>False
 ct:St->Hp->Prop:=fun _ _=>False
abbrev TS:=Ends->St->Hp->Prop
def EP (X:Cx) (pins:List (Addr×Obj)) (σ:St) (Q:VK) (u:Value) (s':Shared):Prop:=∃v H',Inv X pins σ H' s'/\RelV v u/\Q v H'
def TP (X:Cx) (pins:List (Addr×Obj)) (σ:St) (Q:Bool->Hp->Prop) (b:Bool) (s':Shared):Prop:=∃H',Inv X pins σ H' s'/\Q b H'
def AP (X:Cx) (pins:List (Addr×Obj)) (σ:St) (Q:List V->Hp->Prop) (us:List Value) (s':Shared):Prop:=∃vs H',Inv X pins σ H' s'/\Vals vs us/\Q vs H'
def SP (X:Cx) (pins:List (Addr×Obj)) (D:Ends) (f:Flow) (s':Shared):Prop:=
 match f with
 | .next=>∃σ' H',Inv X pins σ' H' s'/\D.nx σ' H'
 | .brk=>∃σ' H',Inv X pins σ' H' s'/\D.bk σ' H'
 | .cont=>∃σ' H',Inv X pins σ' H' s'/\D.ct σ' H'
 | .ret u=>∃v σ' H',Inv X pins σ' H' s'/\RelV v u/\D.rt v H'
def PE (X:Cx) (e:Expr) (t:TE):Prop:=
 ∀(pins:List (Addr×Obj)) (s:Shared) (σ:St) (H:Hp) (Q:VK),Inv X pins σ H s->t σ H Q->wpAny (model X.prog X.w) X.A (eval e X.env) (EP X pins σ Q) X.xe s
def PT (X:Cx) (e:Expr) (t:TT):Prop:=
 ∀(pins:List (Addr×Obj)) (s:Shared) (σ:St) (H:Hp) (Q:Bool->Hp->Prop),Inv X pins σ H s->t σ H Q->wpAny (model X.prog X.w) X.A (isTrue e X.env (eval e X.env)) (TP X pins σ Q) X.xe s
def PW (X:Cx) (e:Expr) (t:TT):Prop:=
 ∀(whole:Sem Value) (pins:List (Addr×Obj)) (s:Shared) (σ:St) (H:Hp) (Q:Bool->Hp->Prop),Inv X pins σ H s->t σ H Q->wpAny (model X.prog X.w) X.A (isTrue e X.env whole) (TP X pins σ Q) X.xe s
theorem PW.pt {X:Cx} {e:Expr} {t:TT} (h:PW X e t):PT X e t:=h _
def PA (X:Cx) (es:List Expr) (t:TA):Prop:=
 ∀(pos:Pos) (pins:List (Addr×Obj)) (s:Shared) (σ:St) (H:Hp) (Q:List V->Hp->Prop),Inv X pins σ H s->t σ H Q->wpAny (model X.prog X.w) X.A (spliced (backTo pos (starEach es X.env))) (AP X pins σ Q) X.xe s
def PS (X:Cx) (st:Stmt) (t:TS):Prop:=
 ∀(pins:List (Addr×Obj)) (s:Shared) (σ:St) (H:Hp) (D:Ends),Inv X pins σ H s->t D σ H->wpAny (model X.prog X.w) X.A (exec st X.env) (SP X pins D) X.xe s
def PSs (X:Cx) (st:List Stmt) (t:TS):Prop:=
 ∀(pins:List (Addr×Obj)) (s:Shared) (σ:St) (H:Hp) (D:Ends),Inv X pins σ H s->t D σ H->wpAny (model X.prog X.w) X.A (execs st X.env) (SP X pins D) X.xe s
theorem thn {α:Type} {t:Sem α} {Q Q':α->Shared->Prop} {M:Model} {A:Around} {E:Value->Shared->Prop} {s:Shared} (h:wpAny M A t Q E s) (hQ:∀a s,Q a s->Q' a s):wpAny M A t Q' E s:=wpAny_mono h hQ fun _ _ x=>x
end L2
namespace L2
open PySem PySem.Spec PyProof.Rows
section
variable {X:Cx}
def tVar (i:Nat):TE:=fun σ H Q=>∃v,σ[i]?=some (some v)/\Q v H
def tC (v:V):TE:=fun _ H Q=>Q v H
theorem pe_var {i:Nat} {x:Str} {pos:Pos} (hN:X.N[i]?=some x) (hv:Vis X.env.scope x) (hd:(x == ("__debug__" : Str))=false:=by decide) (hcd:(x == ("__classdict__" : Str))=false:=by decide):PE X (.Name x pos) (tVar i):=by
 intro pins s σ H Q I h
 obtain ⟨v,e,h⟩:=h
 obtain ⟨m,hn,hl⟩:=I.loc
 obtain ⟨u,r,l⟩:=hl i x v hN e hv
 have fin:EP X pins σ Q u s:=⟨v,H,I,r,h⟩
 rcases l with ⟨hk,hm⟩ | ⟨hk,c,hc,hcell⟩
 ·exact wpAny_Name (wpAny_loadName_local I.ok.kind hk hn hm fin) hd
 ·rcases hk with hk | hk
  ·exact wpAny_Name (wpAny_loadName_cell I.ok.kind hk hc hcell fin) hd
  ·exact wpAny_Name (wpAny_loadName_free I.ok.kind hk hc hcell fin hcd) hd
theorem pe_int {i j pos}:PE X (.Constant (.int i) j pos) (tC (.int i)):=fun _ _ _ H _ I h=>wpAny_Constant_int ⟨.int i,H,I.tok _,⟨_,rfl⟩,h⟩
theorem pe_bl {b j pos}:PE X (.Constant (.bool b) j pos) (tC (.bl b)):=fun _ _ _ H _ I h=>Constant_bool ⟨.bl b,H,I,rfl,h⟩
theorem pe_non {j pos}:PE X (.Constant .none j pos) (tC .non):=fun _ _ _ H _ I h=>Constant_none ⟨.non,H,I,rfl,h⟩
theorem pe_str {x j pos}:PE X (.Constant (.str x) j pos) (tC (.str x)):=fun _ _ _ H _ I h=>Calls.Constant_str ⟨.str x,H,I.tok _,⟨_,rfl⟩,h⟩
def Gl (X:Cx) (x:Str):Prop:=X.env.kindOf x=some .globalImplicit
theorem ld_glob {E:Value->Shared->Prop} {pins:List (Addr×Obj)} {s:Shared} {σ:St} {H:Hp} {x:Str} {u:Value} {pos:Pos} {Q:Value->Shared->Prop} (I:Inv X pins σ H s) (hg:Gl X x) (hm:X.mg x=some u) (h:Q u s)
  (hd:(x == ("__debug__" : Str))=false:=by decide):wpAny (model X.prog X.w) X.A (eval (.Name x pos) X.env) Q E s:=
 Calls.Name_function_global I.ok.kind hg (Calls.loadGlobal_global (by rw [I.ok.glob]; exact I.mod.glob.keeps I.bk) hm h) hd
theorem ld_blt {E:Value->Shared->Prop} {pins:List (Addr×Obj)} {s:Shared} {σ:St} {H:Hp} {x:Str} {u:Value} {pos:Pos} {Q:Value->Shared->Prop} (I:Inv X pins σ H s) (hg:Gl X x) (hm:X.mg x=none) (hv:bootBuiltins x=some u) (h:Q u s)
  (hn:x ≠ "__name__" := by decide) (hd:(x == ("__debug__" : Str))=false:=by decide):wpAny (model X.prog X.w) X.A (eval (.Name x pos) X.env) Q E s:=by
 obtain ⟨mb,h1,h2⟩:=I.mod.blt
 exact Calls.Name_function_global I.ok.kind hg (Calls.loadGlobal_builtin (by rw [I.ok.glob]; exact I.mod.glob.keeps I.bk) hm (by rw [I.ok.blt]; exact h1.keeps I.bk) ((h2 x hn).trans hv) h) hd
theorem pe_glob {x:Str} {v:V} {u:Value} {pos:Pos} (hg:Gl X x) (hm:X.mg x=some u) (r:RelV v u) (hd:(x == ("__debug__" : Str))=false:=by decide):PE X (.Name x pos) (tC v):=
 fun _ _ _ H _ I h=>ld_glob I hg hm ⟨v,H,I,r,h⟩ hd
theorem pe_bltn {x:Str} {v:V} {u:Value} {pos:Pos} (hg:Gl X x) (hm:X.mg x=none) (hv:bootBuiltins x=some u) (r:RelV v u) (hn:x ≠ "__name__" := by decide) (hd:(x == ("__debug__" : Str))=false:=by decide):PE X (.Name x pos) (tC v):=
 fun _ _ _ H _ I h=>ld_blt I hg hm hv ⟨v,H,I,r,h⟩ hn hd
def t2I (ta tb:TE) (k:Int->Int->Hp->Prop):St->Hp->Prop:=fun σ H=>ta σ H fun x H1=>tb σ H1 fun y H2=>∃i j,x = .int i/\y = .int j/\k i j H2
def tAdd (ta tb:TE):TE:=fun σ H Q=>t2I ta tb (fun i j H2=>Q (.int (i+j)) H2) σ H
def tSub (ta tb:TE):TE:=fun σ H Q=>t2I ta tb (fun i j H2=>Q (.int (i - j)) H2) σ H
def tMul (ta tb:TE):TE:=fun σ H Q=>t2I ta tb (fun i j H2=>(-(2 ^ 64)<i/\i<2 ^ 64)/\Q (.int (i*j)) H2) σ H
variable {a b:Expr} {ta tb:TE} {pos:Pos}
def PC (X:Cx) (op:CmpOp) (a b:Expr) (t:TE):Prop:=
 ∀(pins:List (Addr×Obj)) (s:Shared) (σ:St) (H:Hp) (Q:VK),Inv X pins σ H s->t σ H Q ->
  wpAny (model X.prog X.w) X.A (eval a X.env) (fun v s₁=>wpAny (model X.prog X.w) X.A (eval b X.env) (fun u s₂=>wpAny (model X.prog X.w) X.A (compareOp op v u) (EP X pins σ Q) X.xe s₂) X.xe s₁) X.xe s
def tCmp (p:Int->Int->Bool) (ta tb:TE):TE:=fun σ H Q=>t2I ta tb (fun i j H2=>Q (.bl (p i j)) H2) σ H
abbrev tLt:TE->TE->TE:=tCmp fun i j=>decide (i<j)
abbrev tLe:TE->TE->TE:=tCmp fun i j=>decide (i<=j)
abbrev tGt:TE->TE->TE:=tCmp fun i j=>decide (j<i)
abbrev tGe:TE->TE->TE:=tCmp fun i j=>decide (j<=i)
abbrev tEqI:TE->TE->TE:=tCmp fun i j=>decide (i=j)
abbrev tNeI:TE->TE->TE:=tCmp fun i j=>!decide (i=j)
def tIsN (ta:TE):TE:=fun σ H Q=>ta σ H fun x H1=>Q (.bl (decide (x = .non))) H1
def tNotN (ta:TE):TE:=fun σ H Q=>ta σ H fun x H1=>Q (.bl (!decide (x = .non))) H1
def tB (t:TE):TT:=fun σ H Q=>t σ H fun x H1=>∃c,x = .bl c/\Q c H1
theorem pt_val {e:Expr} {t:TE} (h:PE X e t) (he:∀whole,isTrue e X.env whole=(do let v <-whole; standAt e.pos; holding [v] (truthy v)):=by intro _; rfl):PT X e (tB t):=by
 intro pins s σ H Q I hw
 refine isTrue_plain (thn (h pins s σ H _ I hw) fun v s1 ⟨x,H1,I1,r1,q1⟩=>?_) (he _)
 obtain ⟨d,rfl,q⟩:=q1
 cases r1
 exact wpAny_truthy_bool ⟨H1,I1,q⟩
variable {tA tB':TT} {rest:List Expr}
def tAnd (t u:TT):TT:=fun σ H Q=>t σ H fun c H1=>if c=true then u σ H1 Q else Q false H1
def tOr (t u:TT):TT:=fun σ H Q=>t σ H fun c H1=>if c=true then Q true H1 else u σ H1 Q
def tNot (t:TT):TT:=fun σ H Q=>t σ H fun c H1=>Q (!c) H1
theorem pw_and1 (ha:PT X a tA):PW X (.BoolOp .And [a] pos) tA:=by
 intro wh pins s σ H Q I h
 refine isTrue_and (thn (ha pins s σ H Q I h) fun c s1 e=>?_)
 cases c with
 | true=>exact isTrue_and_nil e
 | false=>exact e
theorem pw_or1 (ha:PT X a tA):PW X (.BoolOp .Or [a] pos) tA:=by
 intro wh pins s σ H Q I h
 refine isTrue_or (thn (ha pins s σ H Q I h) fun c s1 e=>?_)
 cases c with
 | false=>exact isTrue_or_nil e
 | true=>exact e
theorem pw_and (ha:PT X a tA) (hb:PW X (.BoolOp .And (b :: rest) pos) tB'):PW X (.BoolOp .And (a :: b :: rest) pos) (tAnd tA tB'):=by
 intro wh pins s σ H Q I h
 refine isTrue_and (thn (ha pins s σ H _ I h) fun c s1 ⟨H1,I1,q1⟩=>?_)
 cases c with
 | true=>exact hb wh pins s1 σ H1 Q I1 q1
 | false=>exact ⟨H1,I1,q1⟩
theorem pw_or (ha:PT X a tA) (hb:PW X (.BoolOp .Or (b :: rest) pos) tB'):PW X (.BoolOp .Or (a :: b :: rest) pos) (tOr tA tB'):=by
 intro wh pins s σ H Q I h
 refine isTrue_or (thn (ha pins s σ H _ I h) fun c s1 ⟨H1,I1,q1⟩=>?_)
 cases c with
 | true=>exact ⟨H1,I1,q1⟩
 | false=>exact hb wh pins s1 σ H1 Q I1 q1
theorem pt_not (ha:PT X a tA):PT X (.UnaryOp .Not a pos) (tNot tA):=by
 intro pins s σ H Q I h
 exact isTrue_not (ha pins s σ H (fun c H1=>Q (!c) H1) I h)
def tAndV (ta tb:TE):TE:=fun σ H Q=>ta σ H fun x H1=>∃c,x = .bl c/\if c=true then tb σ H1 Q else Q (.bl false) H1
def tOrV (ta tb:TE):TE:=fun σ H Q=>ta σ H fun x H1=>∃c,x = .bl c/\if c=true then Q (.bl true) H1 else tb σ H1 Q
def tNotV (ta:TE):TE:=fun σ H Q=>ta σ H fun x H1=>∃c,x = .bl c/\Q (.bl (!c)) H1
theorem pe_one {op} {t:TE} (h:PE X a t):PE X (.BoolOp op [a] pos) t:=fun pins s σ H Q I hw=>BoolOp_one (h pins s σ H Q I hw)
theorem pe_and (ha:PE X a ta) (hb:PE X (.BoolOp .And (b :: rest) pos) tb):PE X (.BoolOp .And (a :: b :: rest) pos) (tAndV ta tb):=by
 intro pins s σ H Q I h
 refine BoolOp_and (thn (ha pins s σ H _ I h) fun v s1 ⟨x,H1,I1,r1,q1⟩=>?_)
 obtain ⟨c,rfl,q1⟩:=q1
 cases r1
 refine wpAny_truthy_bool ?_
 cases c with
 | true=>exact hb pins s1 σ H1 Q I1 q1
 | false=>exact ⟨.bl false,H1,I1,rfl,q1⟩
theorem pe_or (ha:PE X a ta) (hb:PE X (.BoolOp .Or (b :: rest) pos) tb):PE X (.BoolOp .Or (a :: b :: rest) pos) (tOrV ta tb):=by
 intro pins s σ H Q I h
 refine BoolOp_or (thn (ha pins s σ H _ I h) fun v s1 ⟨x,H1,I1,r1,q1⟩=>?_)
 obtain ⟨c,rfl,q1⟩:=q1
 cases r1
 refine wpAny_truthy_bool ?_
 cases c with
 | false=>exact hb pins s1 σ H1 Q I1 q1
 | true=>exact ⟨.bl true,H1,I1,rfl,q1⟩
theorem pe_not (ha:PE X a ta):PE X (.UnaryOp .Not a pos) (tNotV ta):=by
 intro pins s σ H Q I h
 refine UnaryOp_ (thn (ha pins s σ H _ I h) fun v s1 ⟨x,H1,I1,r1,q1⟩=>?_)
 obtain ⟨c,rfl,q1⟩:=q1
 cases r1
 exact not_of (wpAny_truthy_bool ⟨.bl (!c),H1,I1,rfl,q1⟩)
def tIf (t:TT) (ta tb:TE):TE:=fun σ H Q=>t σ H fun c H1=>if c=true then ta σ H1 Q else tb σ H1 Q
theorem pe_ifExp {c:Expr} (hc:PT X c tA) (ha:PE X a ta) (hb:PE X b tb):PE X (.IfExp c a b pos) (tIf tA ta tb):=by
 intro pins s σ H Q I h
 refine wpAny_IfExp (thn (hc pins s σ H _ I h) fun d s1 ⟨H1,I1,q1⟩=>?_)
 cases d with
 | true=>exact ha pins s1 σ H1 Q I1 q1
 | false=>exact hb pins s1 σ H1 Q I1 q1
end
end L2
namespace L2
open PySem PySem.Spec PyProof.Rows
def SqL (K:W.Frag) (H:Hp) (a:Addr) (xs:List V):Prop:=
 Rd H a (.lst xs) \/
  ∃(o:Obj) (its:Array Value) (n:Nat),K.lookup a=some o/\o.cls = .type "list" /\ o.dict=none/\o.data = .seq its n/\its.size<=sizeLine/\Vals xs its.toList
def SqT (K:W.Frag) (H:Hp) (a:Addr) (xs:List V):Prop:=
 Rd H a (.tup xs) \/
  ∃(o:Obj) (its:Array Value) (n:Nat),K.lookup a=some o/\o.cls = .type "tuple" /\ o.data = .seq its n/\its.size<=sizeLine/\Vals xs its.toList
def absV:Value->Option V
 | .none=>some .non
 | .bool b=>some (.bl b)
 | .int i _=>some (.int i)
 | .str x _=>some (.str x)
 | .bytes b _=>some (.byt b)
 | .float b _=>some (.flt b)
 | .ref a=>some (.ref a)
 | .type n=>some (.ty n)
 | _=>none
theorem RelV.abs {x:V} {u:Value} (r:RelV x u):absV u=some x:=by
 cases x with
 | non=>cases r; rfl
 | bl _=>cases r; rfl
 | int _=>obtain ⟨t,rfl⟩:=r; rfl
 | str _=>obtain ⟨t,rfl⟩:=r; rfl
 | byt _=>obtain ⟨t,rfl⟩:=r; rfl
 | flt _=>obtain ⟨t,rfl⟩:=r; rfl
 | ref _=>cases r; rfl
 | ty _=>cases r; rfl
theorem RelV.inj {x y:V} {u:Value} (r:RelV x u) (q:RelV y u):x=y:=Option.some.inj (r.abs.symm.trans q.abs)
theorem Vals.inj:∀{xs ys:List V} {us:List Value},Vals xs us->Vals ys us->xs=ys
 | _,_,_,.nil,.nil=>rfl
 | _,_,_,.cons r t,.cons r' t'=>by rw [r.inj r',Vals.inj t t']
section
variable {X:Cx} {pins:List (Addr×Obj)} {σ:St} {H:Hp} {s:Shared} {a:Addr} {xs ys:List V}
theorem SqL.of {K:W.Frag} (h:H a=some (.lst xs)):SqL K H a xs:=.inl (.inl h)
theorem SqT.of {K:W.Frag} (h:H a=some (.tup xs)):SqT K H a xs:=.inl (.inl h)
theorem Inv.list (I:Inv X pins σ H s) (h:SqL X.K H a xs):∃its:List Value,Vals xs its/\PlainL s.heap a its.toArray/\xs.length<=sizeLine:=by
 rcases h with h | ⟨o,its,n,hk,hc,hd,hs,hz,r⟩
 ·obtain ⟨z,its,n,r,e⟩:=h.ok I.hok
  exact ⟨its,r,⟨_,n,e,rfl,rfl,rfl⟩,z⟩
 ·refine ⟨its.toList,r,⟨o,n,I.kIn a o hk,hc,hd,by simpa using hs⟩,?_⟩
  have e:=r.length
  simp only [Array.length_toList] at e
  omega
theorem Inv.tuple (I:Inv X pins σ H s) (h:SqT X.K H a xs):∃its:List Value,Vals xs its/\IsTup s.heap a its.toArray/\xs.length<=sizeLine:=by
 rcases h with h | ⟨o,its,n,hk,hc,hs,hz,r⟩
 ·obtain ⟨z,its,r,p⟩:=h.ok I.hok
  exact ⟨its,r,p,z⟩
 ·refine ⟨its.toList,r,⟨o,I.kIn a o hk,hc,n,by simpa using hs⟩,?_⟩
  have e:=r.length
  simp only [Array.length_toList] at e
  omega
theorem Inv.list_inj (I:Inv X pins σ H s) (h:SqL X.K H a xs) (h':SqL X.K H a ys):xs=ys:=by
 obtain ⟨its,r,⟨o,n,e,_,_,d⟩,_⟩:=I.list h
 obtain ⟨its',r',⟨o',n',e',_,_,d'⟩,_⟩:=I.list h'
 rw [e] at e'; cases e'
 rw [d] at d'
 injection d' with d1 _
 have:its=its':=by simpa using congrArg Array.toList d1
 subst this
 exact r.inj r'
theorem Inv.tuple_inj (I:Inv X pins σ H s) (h:SqT X.K H a xs) (h':SqT X.K H a ys):xs=ys:=by
 obtain ⟨its,r,⟨o,e,_,n,d⟩,_⟩:=I.tuple h
 obtain ⟨its',r',⟨o',e',_,n',d'⟩,_⟩:=I.tuple h'
 rw [e] at e'; cases e'
 rw [d] at d'
 injection d' with d1 _
 have:its=its':=by simpa using congrArg Array.toList d1
 subst this
 exact r.inj r'
end
abbrev Cx.wish (X:Cx) (E:Value->Shared->Prop):Cx:={ X with xe:=E }
abbrev Cx.nox (X:Cx):Cx:=X.wish fun _ _=>False
theorem Cx.Ok.wish {X:Cx} (ok:X.Ok) (E:Value->Shared->Prop):(X.wish E).Ok:=
 ⟨ok.mod,ok.kind,ok.glob,ok.blt,ok.above,ok.inj,ok.has,ok.cab,ok.hd,ok.frames,ok.stk,ok.exf,ok.bs,ok.bsz,ok.noex,ok.exfs,ok.funs,ok.frf⟩
theorem Cx.Ok.unwish {X:Cx} {E:Value->Shared->Prop} (ok:(X.wish E).Ok):X.Ok:=
 ⟨ok.mod,ok.kind,ok.glob,ok.blt,ok.above,ok.inj,ok.has,ok.cab,ok.hd,ok.frames,ok.stk,ok.exf,ok.bs,ok.bsz,ok.noex,ok.exfs,ok.funs,ok.frf⟩
section
variable {X:Cx} {pins:List (Addr×Obj)} {σ:St} {H:Hp} {s:Shared} {E:Value->Shared->Prop}
theorem Inv.wish (I:Inv X pins σ H s) (E:Value->Shared->Prop):Inv (X.wish E) pins σ H s:=⟨I.ok.wish E,I.os,I.bare,I.base,I.loc,I.cell,I.free,I.freeC,I.pin,I.hok,I.len⟩
theorem Inv.unwish (I:Inv (X.wish E) pins σ H s):Inv X pins σ H s:=⟨I.ok.unwish,I.os,I.bare,I.base,I.loc,I.cell,I.free,I.freeC,I.pin,I.hok,I.len⟩
theorem SP.unwish {D:Ends} {f:Flow} {s':Shared} (h:SP (X.wish E) pins D f s'):SP X pins D f s':=by
 cases f with
 | next=>obtain ⟨σ',H',I,q⟩:=h; exact ⟨σ',H',I.unwish,q⟩
 | brk=>obtain ⟨σ',H',I,q⟩:=h; exact ⟨σ',H',I.unwish,q⟩
 | cont=>obtain ⟨σ',H',I,q⟩:=h; exact ⟨σ',H',I.unwish,q⟩
 | ret u=>obtain ⟨v,σ',H',I,r,q⟩:=h; exact ⟨v,σ',H',I.unwish,r,q⟩
theorem PSs.nox {st:List Stmt} {t:TS} (h:PSs X.nox st t):PSs X st t:=fun pins s σ H D I hw=>
 wpAny_mono (h pins s σ H D (I.wish _) hw) (fun _ _ q=>q.unwish) fun _ _ z=>False.elim z
end
section
variable {X:Cx} {st:Stmt} {rest:List Stmt} {t u:TS} {e:Expr} {te:TE} {pos:Pos}
def tNext:TS:=fun D σ H=>D.nx σ H
def tSeq (t u:TS):TS:=fun D σ H=>t { D with nx:=u D } σ H
theorem pss_nil:PSs X [] tNext:=fun _ _ σ H _ I h=>wpAny_execs_nil ⟨σ,H,I,h⟩
theorem pss_cons (h1:PS X st t) (h2:PSs X rest u):PSs X (st :: rest) (tSeq t u):=by
 intro pins s σ H D I h
 refine wpAny_execs_cons (thn (h1 pins s σ H { D with nx:=u D } I h) fun f s1 q=>?_)
 cases f with
 | next=>
  obtain ⟨σ',H',I',q⟩:=q
  exact h2 pins s1 σ' H' D I' q
 | ret v=>exact q
 | brk=>exact q
 | cont=>exact q
theorem pss_one (h1:PS X st t):PSs X [st] t:=by
 intro pins s σ H D I h
 refine wpAny_execs_cons (thn (h1 pins s σ H D I h) fun f s1 q=>?_)
 cases f with
 | next=>exact wpAny_execs_nil q
 | ret v=>exact q
 | brk=>exact q
 | cont=>exact q
def tBreak:TS:=fun D σ H=>D.bk σ H
def tCont:TS:=fun D σ H=>D.ct σ H
theorem Inv.quiet {pins:List (Addr×Obj)} {σ:St} {H:Hp} {s:Shared} (I:Inv X pins σ H s):interactive X.env=false:=by simp [interactive,I.ok.kind]
def tDrop (te:TE):TS:=fun D σ H=>te σ H fun _ H1=>D.nx σ H1
theorem ps_expr (he:PE X e te) (hs:swapsWith e none pos.line X.env=pure false:=by rfl):PS X (.Expr e pos) (tDrop te):=by
 intro pins s σ H D I h
 exact wpAny_Expr_any (thn (he pins s σ H _ I h) fun v s1 ⟨x,H1,I1,r1,q1⟩=>⟨σ,H1,I1,q1⟩) I.quiet hs
def tRet (te:TE):TS:=fun D σ H=>te σ H D.rt
theorem ps_ret (he:PE X e te):PS X (.Return (some e) pos) (tRet te):=by
 intro pins s σ H D I h
 exact wpAny_Return_some (thn (he pins s σ H _ I h) fun v s1 ⟨x,H1,I1,r1,q1⟩=>⟨x,σ,H1,I1,r1,q1⟩)
def tRetN:TS:=fun D _ H=>D.rt .non H
def tIfS (c:TT) (t u:TS):TS:=fun D σ H=>c σ H fun b H1=>if b=true then t D σ H1 else u D σ H1
theorem ps_if {c:Expr} {a b:List Stmt} {tc:TT} (hc:PT X c tc) (ha:PSs X a t) (hb:PSs X b u):PS X (.If c a b pos) (tIfS tc t u):=by
 intro pins s σ H D I h
 refine wpAny_If (thn (hc pins s σ H _ I h) fun d s1 ⟨H1,I1,q1⟩=>?_)
 cases d with
 | true=>exact ha pins s1 σ H1 D I1 q1
 | false=>exact hb pins s1 σ H1 D I1 q1
def tNever:TS:=fun _ _ _=>False
end
abbrev TG:=V->St->Hp->(St->Hp->Prop)->Prop
abbrev TGs:=List V->St->Hp->(St->Hp->Prop)->Prop
def PG (X:Cx) (target:Expr) (t:TG):Prop:=
 ∀(pins:List (Addr×Obj)) (s:Shared) (σ:St) (H:Hp) (v:V) (u:Value) (Q:St->Hp->Prop),Inv X pins σ H s->RelV v u->t v σ H Q ->
  wpAny (model X.prog X.w) X.A (assign target X.env u) (fun _ s'=>∃σ' H',Inv X pins σ' H' s'/\Q σ' H') X.xe s
def PGs (X:Cx) (ts:List Expr) (t:TGs):Prop:=
 ∀(pins:List (Addr×Obj)) (s:Shared) (σ:St) (H:Hp) (vs:List V) (us:List Value) (Q:St->Hp->Prop),Inv X pins σ H s->Vals vs us->t vs σ H Q ->
  wpAny (model X.prog X.w) X.A (assignInOrder ((assignEach ts X.env).map (·.2)) us) (fun _ s'=>∃σ' H',Inv X pins σ' H' s'/\Q σ' H') X.xe s
abbrev TSet:=V->V->V->Hp->(Hp->Prop)->Prop
def PSet (X:Cx) (t:TSet):Prop:=
 ∀(pins:List (Addr×Obj)) (s:Shared) (σ:St) (H:Hp) (o i v:V) (ov iv u:Value) (Q:Hp->Prop),Inv X pins σ H s->RelV o ov->RelV i iv->RelV v u->t o i v H Q ->
  wpAny (model X.prog X.w) X.A (setItem ov iv u) (fun _ s'=>∃H',Inv X pins σ H' s'/\Q H') X.xe s
abbrev TIp:=V->V->Hp->VK->Prop
def PIp (X:Cx) (op:Operator) (t:TIp):Prop:=
 ∀(pins:List (Addr×Obj)) (s:Shared) (σ:St) (H:Hp) (x y:V) (v u:Value) (Q:VK),Inv X pins σ H s->RelV x v->RelV y u->t x y H Q ->
  wpAny (model X.prog X.w) X.A (inplaceOp op v u) (EP X pins σ Q) X.xe s
section
variable {X:Cx} {pos:Pos}
def gName (i:Nat):TG:=fun v σ H Q=>Q (σ.set i (some v)) H
theorem pg_name {i:Nat} {x:Str} (hN:X.N.Nodup) (hi:X.N[i]?=some x) (hx:Loc X.env.scope x) (hf:X.fn x=true\/X.env.scope.names.lookup x=some .local:=by first | exact .inl rfl | exact .inr rfl | assumption):PG X (.Name x pos) (gName i):=by
 intro pins s σ H v u Q I r h
 exact wpAny_assign_Name (store_ok I hN hi hx r (fun s' I'=>⟨_,H,I',h⟩) hf)
def gNil:TGs:=fun vs σ H Q=>vs=[]/\Q σ H
def gCons (t:TG) (u:TGs):TGs:=fun vs σ H Q=>∃v r,vs=v :: r/\t v σ H fun σ' H'=>u r σ' H' Q
theorem pgs_nil:PGs X [] gNil:=by
 intro pins s σ H vs us Q I r h
 obtain ⟨e,h⟩:=h
 subst e
 cases r
 exact assignInOrder_nil ⟨σ,H,I,h⟩
theorem pgs_cons {e:Expr} {es:List Expr} {t:TG} {u:TGs} (h1:PG X e t) (h2:PGs X es u)
  (hs:(assignEach (e :: es) X.env).map (·.2)=assign e X.env :: (assignEach es X.env).map (·.2):=by rfl):PGs X (e :: es) (gCons t u):=by
 intro pins s σ H vs us Q I r h
 obtain ⟨v,vr,e1,h⟩:=h
 subst e1
 cases r with
 | cons r rr=>
  rw [hs]
  refine assignInOrder_cons (thn (h1 pins s σ H _ _ _ I r h) fun _ s1 ⟨σ1,H1,I1,q1⟩=>?_)
  exact h2 pins s1 σ1 H1 _ _ Q I1 rr q1
def gTup (K:W.Frag) (n:Nat) (t:TGs):TG:=fun v σ H Q=>∃a xs,v = .ref a/\SqT K H a xs/\xs.length=n/\t xs σ H Q
theorem pg_tup {es:List Expr} {k:Nat} {t:TGs} {n:Nat} (hc:X.calm=true) (h:PGs X es t)
  (hn:(assignEach es X.env).length=n:=by rfl) (hst:(assignEach es X.env).findIdx? (·.1)=none:=by rfl):PG X (.Tuple es k pos) (gTup X.K n t):=by
 intro pins s σ H v u Q I r hw
 obtain ⟨a,xs,e1,hq,hl,hw⟩:=hw
 subst e1
 cases r
 obtain ⟨its,rv,ht,hz⟩:=I.tuple hq
 refine assign_Tuple_tuple (I.ok.hd hc) ht (by simp [hn,<-hl,rv.length]) hst fun h' hx=>?_
 have I1:Inv X pins σ H { s with heap:=h' }:=I.kept (t':=s.toks) fun b o e=>hx b o (Nat.ne_of_lt (Heap.lt_size e)) e
 exact h pins _ σ H xs _ Q I1 (by simpa using rv) hw
def gSub (to ti:TE) (t:TSet):TG:=fun v σ H Q=>to σ H fun o H1=>ti σ H1 fun i H2=>t o i v H2 fun H3=>Q σ H3
theorem pg_sub {o i:Expr} {to ti:TE} {t:TSet} (ho:PE X o to) (hi:PE X i ti) (hs:PSet X t)
  (ha:∀v,assign (.Subscript o i pos) X.env v=(do
   let ov <-holding [v] (eval o X.env)
   let iv <-holding [v,ov] (eval i X.env)
   standAt pos
   holding [v,ov,iv] (setItem ov iv v)
   release [v,ov,iv] []):=by intro _; rfl):PG X (.Subscript o i pos) (gSub to ti t):=by
 intro pins s σ H v u Q I r h
 rw [ha]
 refine wpAny_bind (wpAny_holding (thn (ho pins s σ H _ I h) fun ov s1 ⟨x,H1,I1,r1,q1⟩=>?_))
 refine wpAny_bind (wpAny_holding (thn (hi pins s1 σ H1 _ I1 q1) fun iv s2 ⟨y,H2,I2,r2,q2⟩=>?_))
 refine wpAny_bind (wpAny_standAt (wpAny_bind (wpAny_holding (thn (hs pins s2 σ H2 x y v ov iv u _ I2 r1 r2 r q2) fun _ s3 ⟨H3,I3,q3⟩=>?_))))
 exact wpAny_release ⟨σ,H3,I3,q3⟩
def tAsg (te:TE) (g:TG):TS:=fun D σ H=>te σ H fun x H1=>g x σ H1 D.nx
theorem ps_asg {tg e:Expr} {te:TE} {g:TG} (he:PE X e te) (hg:PG X tg g) (hs:swapsWithSole [tg] e pos.line X.env=pure false:=by rfl) (hw:swappedStores [tg] e X.env=pure none:=by rfl)
  (h1:(assignEach [tg] X.env).map (·.2)=[assign tg X.env]:=by rfl):PS X (.Assign [tg] e pos) (tAsg te g):=by
 intro pins s σ H D I h
 refine wpAny_Assign_stores (thn (he pins s σ H _ I h) fun v s1 ⟨x,H1,I1,r1,q1⟩=>?_) hs hw
 rw [h1]
 exact thn (hg pins s1 σ H1 x v _ I1 r1 q1) fun _ s2 q=>q
theorem ps_set {i:Nat} {x:Str} {e:Expr} {te:TE} {pos':Pos} (hN:X.N.Nodup) (hi:X.N[i]?=some x) (hx:Loc X.env.scope x) (he:PE X e te) (hs:swapsWith e (some (.Name x pos')) pos.line X.env=pure false:=by rfl) (hf:X.fn x=true\/X.env.scope.names.lookup x=some .local:=by first | exact .inl rfl | exact .inr rfl | assumption) :
  PS X (.Assign [.Name x pos'] e pos) (tAsg te (gName i)):=by
 intro pins s σ H D I h
 refine wpAny_Assign_Name (thn (he pins s σ H _ I h) fun v s1 ⟨y,H1,I1,r1,q1⟩=>?_) hs
 exact store_ok I1 hN hi hx r1 (fun s2 I2=>⟨_,H1,I2,q1⟩) hf
def tPar (i j:Nat) (ta:TA):TS:=fun D σ H=>ta σ H fun vs H1=>∃v w,vs=[v,w]/\D.nx ((σ.set i (some v)).set j (some w)) H1
theorem ps_par {i j:Nat} {x y:Str} {a b:Expr} {ta:TA} {px py pt:Pos} {kt k2 pt2} (hc:X.calm=true) (hN:X.N.Nodup) (hi:X.N[i]?=some x) (hj:X.N[j]?=some y) (hij:i≠j)
  (hx:X.env.scope.names.lookup x=some .local) (hy:X.env.scope.names.lookup y=some .local) (ha:PA X [a,b] ta)
  (hw:swappedStores [.Tuple [.Name x px,.Name y py] kt pt] (.Tuple [a,b] k2 pt2) X.env=pure (some [x,y]))
  (hs:swapsWithSole [.Tuple [.Name x px,.Name y py] kt pt] (.Tuple [a,b] k2 pt2) pos.line X.env=pure false:=by rfl) :
  PS X (.Assign [.Tuple [.Name x px,.Name y py] kt pt] (.Tuple [a,b] k2 pt2) pos) (tPar i j ta):=by
 intro pins s σ H D I h
 rw [exec_Assign_arm]
 refine wpAny_bind (wpAny_standAt ?_)
 rw [hs]
 refine wpAny_bind (wpAny_pure ?_)
 rw [if_neg (by decide)]
 refine wpAny_bind (Tuple_ (thn (ha _ pins s σ H _ I h) fun us s1 ⟨vs,H1,I1,r1,q1⟩=>?_))
 obtain ⟨v,w,e1,q1⟩:=q1
 subst e1
 obtain ⟨u1,u2,rfl,rv,rw'⟩:∃u1 u2,us=[u1,u2]/\RelV v u1/\RelV w u2:=by
  cases r1 with
  | cons p q=>
   cases q with
   | cons p' q'=>
    cases q'
    exact ⟨_,_,rfl,p,p'⟩
 refine wpAny_newObj_type ?_ (by show 2<=sizeLine; decide)
 have I2:Inv X pins σ H1 { s1 with heap:=s1.heap.push { cls:=.type "tuple",data:=.seq [u1,u2].toArray } }:=I1.kept (t':=s1.toks) fun b o e=>Heap.get?_push_of_some _ e
 rw [hw]
 refine wpAny_bind (wpAny_pure ?_)
 show wpAny (model X.prog X.w) X.A (do rule "assign.swapped-stores"; let items <-unpackItems (.ref s1.heap.objs.size) 2 none; assignInOrder [fun v=>bindName X.env y v,fun v=>bindName X.env x v] items.reverse; pure Flow.next) _ _ _
 refine wpAny_bind (wpAny_rule (wpAny_bind (unpackItems_tuple (items:=#[u1,u2]) (I.ok.hd hc) (IsTup.new s1.heap _) fun h' hx'=>?_)))
 have I3:=I2.kept (h':=h') (t':=s1.toks) fun b o e=>hx' b o (Nat.ne_of_lt (Heap.lt_size e)) e
 show wpAny _ _ (assignInOrder [fun v=>bindName X.env y v,fun v=>bindName X.env x v] [u2,u1] >>= fun _=>pure Flow.next) _ _ _
 refine wpAny_bind (assignInOrder_cons (wpAny_bindName (store_ok I3 hN hj (.inl hy) rw' (fun s2 I4=>?_) (.inr hy))))
 refine assignInOrder_cons (wpAny_bindName (store_ok I4 hN hi (.inl hx) rv (fun s3 I5=>assignInOrder_nil (wpAny_pure ?_)) (.inr hx)))
 rw [List.set_comm _ _ (Ne.symm hij)] at I5
 exact ⟨_,H1,I5,q1⟩
def tAug (i:Nat) (te:TE) (ti:TIp):TS:=fun D σ H=>∃x,σ[i]?=some (some x)/\te σ H fun y H1=>ti x y H1 fun z H2=>D.nx (σ.set i (some z)) H2
def tAugS (to ti te:TE) (tget:V->V->Hp->VK->Prop) (tip:TIp) (tset:TSet):TS:=fun D σ H=>to σ H fun o H1=>ti σ H1 fun i H2=>tget o i H2 fun x H3=>te σ H3 fun y H4=>tip x y H4 fun z H5=>tset o i z H5 fun H6=>D.nx σ H6
def PGet (X:Cx) (t:V->V->Hp->VK->Prop):Prop:=
 ∀(pins:List (Addr×Obj)) (s:Shared) (σ:St) (H:Hp) (o i:V) (ov iv:Value) (Q:VK),Inv X pins σ H s->RelV o ov->RelV i iv->t o i H Q ->
  wpAny (model X.prog X.w) X.A (getItem ov iv) (EP X pins σ Q) X.xe s
theorem ps_augS {o i e:Expr} {to ti te:TE} {tget:V->V->Hp->VK->Prop} {tip:TIp} {tset:TSet} {op:Operator} {tpos:Pos} (ho:PE X o to) (hi:PE X i ti) (hg:PGet X tget) (he:PE X e te) (hp:PIp X op tip) (hs:PSet X tset)
  (ha:∀ov iv new,augStore i ov iv new=(do holding [new,ov,iv] (setItem ov iv new); release [new,ov,iv] []; pure .next):=by intros; rfl):PS X (.AugAssign (.Subscript o i tpos) op e pos) (tAugS to ti te tget tip tset):=by
 intro pins s σ H D I h
 refine wpAny_AugAssign_SubscriptAny (thn (ho pins s σ H _ I h) fun ov s1 ⟨x1,H1,I1,r1,q1⟩=>?_) ha
 refine thn (hi pins s1 σ H1 _ I1 q1) fun iv s2 ⟨x2,H2,I2,r2,q2⟩=>?_
 refine thn (hg pins s2 σ H2 x1 x2 ov iv _ I2 r1 r2 q2) fun old s3 ⟨x3,H3,I3,r3,q3⟩=>?_
 refine thn (he pins s3 σ H3 _ I3 q3) fun v s4 ⟨x4,H4,I4,r4,q4⟩=>?_
 refine thn (hp pins s4 σ H4 x3 x4 old v _ I4 r3 r4 q4) fun new s5 ⟨x5,H5,I5,r5,q5⟩=>?_
 exact thn (hs pins s5 σ H5 x1 x2 x5 ov iv new _ I5 r1 r2 r5 q5) fun _ s6 ⟨H6,I6,q6⟩=>⟨σ,H6,I6,q6⟩
def ipI (f:Int->Int->Int):TIp:=fun x y H Q=>∃i j,x = .int i/\y = .int j/\Q (.int (f i j)) H
theorem ip_add:PIp X .Add (ipI fun i j=>i+j):=by
 intro pins s σ H x y v u Q I r1 r2 h
 obtain ⟨i,j,e1,e2,q⟩:=h
 subst e1; subst e2
 obtain ⟨t,rfl⟩:=r1
 obtain ⟨t',rfl⟩:=r2
 exact iadd_int ⟨.int _,H,I.tok _,⟨_,rfl⟩,q⟩
theorem ip_sub:PIp X .Sub (ipI fun i j=>i - j):=by
 intro pins s σ H x y v u Q I r1 r2 h
 obtain ⟨i,j,e1,e2,q⟩:=h
 subst e1; subst e2
 obtain ⟨t,rfl⟩:=r1
 obtain ⟨t',rfl⟩:=r2
 exact isub_int ⟨.int _,H,I.tok _,⟨_,rfl⟩,q⟩
end
section
variable {X:Cx} {pos:Pos}
def tWhile (c:TT) (tb:TS):TS:=fun D σ H=>∃W:Nat->St->Hp->Prop,(∃m,W m σ H)/\∀m σ H,W m σ H ->
 c σ H fun b H1=>if b=true then ∃N:St->Hp->Prop,(∀σ' H',N σ' H'->∃m',m'<m/\W m' σ' H')/\tb { D with nx:=N,ct:=N,bk:=D.nx } σ H1 else D.nx σ H1
theorem ps_while {c:Expr} {body:List Stmt} {tc:TT} {tb:TS} (hp:PassesOwn (model X.prog X.w) X.A X.env X.xe) (hc:PT X c tc) (hb:PSs X body tb):PS X (.While c body [] pos) (tWhile tc tb):=by
 intro pins s σ H D I h
 obtain ⟨W,⟨m0,w0⟩,turn⟩:=h
 refine wpAny_While (codeAny_whileLoop (fun n s'=>∃σ' H',Inv X pins σ' H' s'/\W n σ' H') ?_ m0 ⟨σ,H,I,w0⟩)
 rintro n s1 ⟨σ1,H1,I1,w1⟩
 refine wpAny_passesOwn hp (thn (hc pins s1 σ1 H1 _ I1 (turn n σ1 H1 w1)) fun b s2 ⟨H2,I2,q2⟩=>?_)
 cases b with
 | true=>
  obtain ⟨N,hN,q2⟩:=q2
  rw [if_pos rfl]
  refine wpAny_passesOwn hp (thn (hb pins s2 σ1 H2 _ I2 q2) fun f s3 q3=>?_)
  cases f with
  | next=>
   obtain ⟨σ3,H3,I3,n3⟩:=q3
   obtain ⟨m',hm,w3⟩:=hN σ3 H3 n3
   exact ⟨m',hm,σ3,H3,I3,w3⟩
  | cont=>
   obtain ⟨σ3,H3,I3,n3⟩:=q3
   obtain ⟨m',hm,w3⟩:=hN σ3 H3 n3
   exact ⟨m',hm,σ3,H3,I3,w3⟩
  | brk=>exact q3
  | ret v=>exact q3
 | false=>
  rw [if_neg Bool.false_ne_true]
  exact wpAny_execs_nil ⟨σ1,H2,I2,q2⟩
end
structure It where
 go:Nat->Hp->Prop
 yld:Nat->Hp->V->Hp->Prop
 stop:Nat->Hp->Prop
def FpOk (X:Cx) (pins:List (Addr×Obj)) (H:Hp) (b:Addr):Prop:=
 H b=none/\b≠X.env.locals/\b∉X.fs/\(b∈X.ex\/X.s₀.heap.objs.size<=b)/\(∀x c,X.env.cells.lookup x=some c->c≠b)/\∀p∈X.pn++pins,p.1≠b
theorem Inv.fpOk {X:Cx} {pins:List (Addr×Obj)} {σ:St} {H H':Hp} {s:Shared} {b:Addr} (I:Inv X pins σ H s) (hb:s.heap.objs.size<=b) (hn:H' b=none):FpOk X pins H' b:=by
 refine ⟨hn,Nat.ne_of_gt (Nat.lt_of_lt_of_le I.lt hb),I.nofs hb,.inr (Nat.le_trans I.sz hb),fun x c e z=>?_,fun p hp z=>?_⟩
 ·obtain ⟨v,q⟩:=I.cell x c e
  exact absurd (Nat.lt_of_lt_of_le q.lt (by rw [z]; exact hb)) (Nat.lt_irrefl _)
 ·exact absurd (Nat.lt_of_lt_of_le (Heap.lt_size (I.pin p hp).1) (by rw [z]; exact hb)) (Nat.lt_irrefl _)
structure Turn (P:Program) (w:World) (K:W.Frag) (tg:Expr) (J:It) (fp:List Addr) (it:Addr) (tn:Nat->Heap->Prop):Prop where
 mem:it∈fp
 obj:∀i h,tn i h->∀b∈fp,∃o,h.get? b=some o/\∀v,o.data ≠ .cell v
 keep:∀i h h',tn i h->(∀b∈fp,∀o,h.get? b=some o->h'.get? b=some o)->tn i h'
 item:∀(X:Cx),X.prog=P->X.w=w->X.K=K->X.calm=true->∀(i:Nat) (pins:List (Addr×Obj)) (s:Shared) (σ:St) (H:Hp) (E:Value->Shared->Prop),Inv X pins σ H s->(∀b∈fp,FpOk X pins H b)->tn i s.heap->J.go i H ->
  wpAny (model P w) X.A (pyNext (.ref it)) (fun r s1=>∃u,r=some u /\
   wpAny (model P w) X.A (letOwnedTupleGo tg (.ref it) u) (fun _ s2=>∃x H',Inv X pins σ H' s2/\RelV x u/\J.yld i H x H'/\tn (i+1) s2.heap/\∀b∈fp,H' b=none) E s1) E s
 done:∀(X:Cx),X.prog=P->X.w=w->X.K=K->X.calm=true->∀(i:Nat) (pins:List (Addr×Obj)) (s:Shared) (σ:St) (H:Hp) (E:Value->Shared->Prop),Inv X pins σ H s->(∀b∈fp,FpOk X pins H b)->tn i s.heap->J.stop i H ->
  wpAny (model P w) X.A (pyNext (.ref it)) (fun r s1=>r=none/\Inv X pins σ H s1) E s
 self:∀(A:Around) (i:Nat) (s:Shared) (Q:Value->Shared->Prop) (E:Value->Shared->Prop),tn i s.heap->Q (.ref it) s->wpAny (model P w) A (pyIter (.ref it)) Q E s
abbrev TI:=St->Hp->(It->Hp->Prop)->Prop
def PIE (X:Cx) (pins:List (Addr×Obj)) (σ:St) (tg:Expr) (R:It->Hp->Prop) (itv:Value) (s2:Shared):Prop:=
 ∃(it:Addr) (fp:List Addr) (tn:Nat->Heap->Prop) (J:It) (H':Hp),itv = .ref it/\Inv X pins σ H' s2/\Turn X.prog X.w X.K tg J fp it tn/\tn 0 s2.heap/\(∀b∈fp,FpOk X pins H' b)/\R J H'
def PI (X:Cx) (tg iter:Expr) (wi:TI):Prop:=
 ∀(pins:List (Addr×Obj)) (s:Shared) (σ:St) (H:Hp) (R:It->Hp->Prop),Inv X pins σ H s->wi σ H R ->
  wpAny (model X.prog X.w) X.A (eval iter X.env) (fun v s1=>wpAny (model X.prog X.w) X.A (pyIter v) (PIE X pins σ tg R) X.xe s1) X.xe s
theorem go_of {M:Model} {A:Around} {E:Value->Shared->Prop} {s:Shared} {tg:Expr} {it:Addr} {u:Value} {o:Obj} {n:String} {vs:Array Value} {Q:Unit->Shared->Prop} (ho:s.heap.get? it=some o) (hc:o.cls = .type n) (hd:o.data = .fields vs)
  (hn:["enumerate","zip","dict_itemiterator","dict_reverseitemiterator","odict_iterator","itertools.zip_longest","itertools.pairwise"].contains n=false) (hQ:Q () s):wpAny M A (letOwnedTupleGo tg (.ref it) u) Q E s:=by
 unfold letOwnedTupleGo
 cases tg <;> first
  | exact wpAny_pure hQ
  | (cases u <;> first
    | exact wpAny_pure hQ
    | (refine wpAny_bind (wpAny_load ho ?_)
       rw [hc,hd]
       show wpAny M A (if (["enumerate","zip","dict_itemiterator","dict_reverseitemiterator","odict_iterator","itertools.zip_longest","itertools.pairwise"].contains n&&vs[0]? == some (rawInt _))=true then _ else _) Q E s
       rw [if_neg (by intro h; rw [hn,Bool.false_and] at h; cases h)]
       exact wpAny_pure hQ))
def Itl (K:W.Frag) (a:Addr):It:=
 ⟨fun i H=>∃xs x,SqL K H a xs/\xs[i]?=some x,fun i H x H'=>H'=H/\∀xs,SqL K H a xs->xs[i]?=some x,fun i H=>∃xs,SqL K H a xs/\xs.length<=i⟩
def Itt (K:W.Frag) (a:Addr):It:=
 ⟨fun i H=>∃xs x,SqT K H a xs/\xs[i]?=some x,fun i H x H'=>H'=H/\∀xs,SqT K H a xs->xs[i]?=some x,fun i H=>∃xs,SqT K H a xs/\xs.length<=i⟩
def Itr (lo:Int) (n:Nat):It:=⟨fun i _=>i<n,fun i H x H'=>H'=H/\x = .int (lo+i),fun i _=>n<=i⟩
theorem turn_list {P:Program} {w:World} {K:W.Frag} {tg:Expr} (a it:Addr):Turn P w K tg (Itl K a) [it] it (fun i h=>h.IsListIter it a i) where
 mem:=by simp
 obj:=fun i h st b hb=>by
  have e:b=it:=by simpa using hb
  subst e
  obtain ⟨o,e,c,d⟩:=st
  exact ⟨o,e,fun v z=>by rw [d] at z; cases z⟩
 keep:=fun i h h' st k=>st.at fun o e=>k it (by simp) o e
 item:=by
  intro X hP hw hK hc i pins s σ H E I hf st hg
  subst hP hw hK
  obtain ⟨xs,x,hq,hx⟩:=hg
  obtain ⟨its,rv,p,hz⟩:=I.list hq
  obtain ⟨u,hu,ru⟩:=rv.get hx
  obtain ⟨f0,f1,f2,f3,f4,f5⟩:=hf it (by simp)
  refine wpAny_pyNext_list_item st p.isList (x:=u) (by simpa using hu) fun h' st' sb=>?_
  have I1:Inv X pins σ H { s with heap:=h' }:=I.turned (t':=s.toks) (fun b o hb e=>(sb.2 b hb).trans e) f0 f1 f3 f4 f5
  obtain ⟨o,e,c,d⟩:=id st'
  exact ⟨u,rfl,go_of (s:={ s with heap:=h' }) e c d (by decide) ⟨x,H,I1,ru,⟨rfl,fun ys hy=>by rw [I.list_inj hy hq]; exact hx⟩,st',fun b hb=>(hf b hb).1⟩⟩
 done:=by
  intro X hP hw hK hc i pins s σ H E I hf st hg
  subst hP hw hK
  obtain ⟨xs,hq,hx⟩:=hg
  obtain ⟨its,rv,p,hz⟩:=I.list hq
  obtain ⟨f0,f1,f2,f3,f4,f5⟩:=hf it (by simp)
  have hl:=rv.length
  exact wpAny_pyNext_list_end (I.ok.hd hc) st p.isList (by simp; omega) fun h' eb=>⟨rfl,I.turned (t':=s.toks) (fun b o hb e=>eb b o hb e) f0 f1 f3 f4 f5⟩
 self:=fun _ _ _ _ _ st h=>wpAny_pyIter_listiter st h
theorem turn_tuple {P:Program} {w:World} {K:W.Frag} {tg:Expr} (a it:Addr):Turn P w K tg (Itt K a) [it] it (fun i h=>h.IsTupleIter it a i) where
 mem:=by simp
 obj:=fun i h st b hb=>by
  have e:b=it:=by simpa using hb
  subst e
  obtain ⟨o,e,c,d⟩:=st
  exact ⟨o,e,fun v z=>by rw [d] at z; cases z⟩
 keep:=fun i h h' st k=>st.at fun o e=>k it (by simp) o e
 item:=by
  intro X hP hw hK hc i pins s σ H E I hf st hg
  subst hP hw hK
  obtain ⟨xs,x,hq,hx⟩:=hg
  obtain ⟨its,rv,p,hz⟩:=I.tuple hq
  obtain ⟨u,hu,ru⟩:=rv.get hx
  obtain ⟨f0,f1,f2,f3,f4,f5⟩:=hf it (by simp)
  refine wpAny_pyNext_tuple_item st (show s.heap.IsTuple a its.toArray from p) (x:=u) (by simpa using hu) fun h' st' sb=>?_
  have I1:Inv X pins σ H { s with heap:=h' }:=I.turned (t':=s.toks) (fun b o hb e=>(sb.2 b hb).trans e) f0 f1 f3 f4 f5
  obtain ⟨o,e,c,d⟩:=id st'
  exact ⟨u,rfl,go_of (s:={ s with heap:=h' }) e c d (by decide) ⟨x,H,I1,ru,⟨rfl,fun ys hy=>by rw [I.tuple_inj hy hq]; exact hx⟩,st',fun b hb=>(hf b hb).1⟩⟩
 done:=by
  intro X hP hw hK hc i pins s σ H E I hf st hg
  subst hP hw hK
  obtain ⟨xs,hq,hx⟩:=hg
  obtain ⟨its,rv,p,hz⟩:=I.tuple hq
  obtain ⟨f0,f1,f2,f3,f4,f5⟩:=hf it (by simp)
  have hl:=rv.length
  exact wpAny_pyNext_tuple_end (I.ok.hd hc) st (show s.heap.IsTuple a its.toArray from p) (by simp; omega) fun h' eb=>⟨rfl,I.turned (t':=s.toks) (fun b o hb e=>eb b o hb e) f0 f1 f3 f4 f5⟩
 self:=fun _ _ _ _ _ st h=>wpAny_pyIter_tupleiter st h
theorem turn_range {P:Program} {w:World} {K:W.Frag} {tg:Expr} (it:Addr) (lo:Int) (n:Nat):Turn P w K tg (Itr lo n) [it] it (fun i h=>IsRangeIter h it (lo+(i:Nat)*1) ((n:Int) - (i:Nat)) 1) where
 mem:=by simp
 obj:=fun i h st b hb=>by
  have e:b=it:=by simpa using hb
  subst e
  exact ⟨_,st,fun v z=>by
   have z':Data.fields _=Data.cell v:=z
   cases z'⟩
 keep:=fun i h h' st k=>k it (by simp) _ st
 item:=by
  intro X hP hw hK hc i pins s σ H E I hf st hg
  subst hP hw hK
  obtain ⟨f0,f1,f2,f3,f4,f5⟩:=hf it (by simp)
  have W:=Walks.range (prog:=X.prog) (w:=X.w) (I.ok.hd hc) it lo 1 n
  refine W.item i s _ _ hg st fun v h' tk hv st' kk=>?_
  obtain ⟨t,rfl⟩:=hv
  have I1:Inv X pins σ H { s with heap:=h',toks:=tk }:=I.turned (fun b o hb e=>kk b o (by simpa using hb) e) f0 f1 f3 f4 f5
  refine ⟨_,rfl,go_of (s:={ s with heap:=h',toks:=tk }) (n := "range_iterator") st' rfl rfl (by decide) ⟨.int (lo+i),H,I1,⟨t,?_⟩,⟨rfl,rfl⟩,st',fun b hb=>(hf b hb).1⟩⟩
  rw [Int.mul_one]
 done:=by
  intro X hP hw hK hc i pins s σ H E I hf st hg
  subst hP hw hK
  obtain ⟨f0,f1,f2,f3,f4,f5⟩:=hf it (by simp)
  exact wpAny_pyNext_range_end (I.ok.hd hc) st (by have:n<=i:=hg; omega) fun h' eb=>⟨rfl,I.turned (t':=s.toks) (fun b o hb e=>eb b o hb e) f0 f1 f3 f4 f5⟩
 self:=fun _ _ _ _ _ st h=>wpAny_pyIter_rangeiter st h
end L2
namespace L2
open PySem PySem.Spec PyProof.Rows
section
variable {X:Cx} {tg:Expr}
def iList (K:W.Frag) (tl:TE):TI:=fun σ H R=>tl σ H fun x H1=>∃a,x = .ref a/\(∃xs,SqL K H1 a xs)/\R (Itl K a) H1
def iTup (K:W.Frag) (tl:TE):TI:=fun σ H R=>tl σ H fun x H1=>∃a,x = .ref a/\(∃xs,SqT K H1 a xs)/\R (Itt K a) H1
theorem pi_list {l:Expr} {tl:TE} (hl:PE X l tl):PI X tg l (iList X.K tl):=by
 intro pins s σ H R I h
 refine thn (hl pins s σ H _ I h) fun v s1 ⟨x,H1,I1,r1,q1⟩=>?_
 obtain ⟨a,e,⟨xs,hq⟩,q⟩:=q1
 subst e
 cases r1
 obtain ⟨its,rv,p,hz⟩:=I1.list hq
 refine wpAny_pyIter_list p.isList ?_
 refine ⟨s1.heap.objs.size,[s1.heap.objs.size],_,_,H1,rfl,I1.kept (t':=s1.toks) fun b o e=>Heap.get?_push_of_some _ e,turn_list a _,⟨_,Heap.get?_push_size _ rfl,rfl,rfl⟩,fun b hb=>?_,q⟩
 have e:b=s1.heap.objs.size:=by simpa using hb
 subst e
 exact I1.fpOk (Nat.le_refl _) (I1.hok.fresh (Nat.le_refl _))
theorem pi_tup {l:Expr} {tl:TE} (hl:PE X l tl):PI X tg l (iTup X.K tl):=by
 intro pins s σ H R I h
 refine thn (hl pins s σ H _ I h) fun v s1 ⟨x,H1,I1,r1,q1⟩=>?_
 obtain ⟨a,e,⟨xs,hq⟩,q⟩:=q1
 subst e
 cases r1
 obtain ⟨its,rv,p,hz⟩:=I1.tuple hq
 refine wpAny_pyIter_tuple (show s1.heap.IsTuple a its.toArray from p) ?_
 refine ⟨s1.heap.objs.size,[s1.heap.objs.size],_,_,H1,rfl,I1.kept (t':=s1.toks) fun b o e=>Heap.get?_push_of_some _ e,turn_tuple a _,⟨_,Heap.get?_push_size _ rfl,rfl,rfl⟩,fun b hb=>?_,q⟩
 have e:b=s1.heap.objs.size:=by simpa using hb
 subst e
 exact I1.fpOk (Nat.le_refl _) (I1.hok.fresh (Nat.le_refl _))
theorem range_it {pins:List (Addr×Obj)} {σ:St} {H:Hp} {s:Shared} {R:It->Hp->Prop} {E:Value->Shared->Prop} {lo hi:Int} {t u v:Tok} {tk:Nat} (I:Inv X pins σ H s) (h1:-(2 ^ 62)<=lo) (h2:lo<2 ^ 62) (h3:-(2 ^ 62)<=hi) (h4:hi<2 ^ 62)
  (q:R (Itr lo (hi - lo).toNat) H):wpAny (model X.prog X.w) X.A (pyIter (.ref s.heap.objs.size)) (PIE X pins σ tg R) E { s with heap:=s.heap.push { cls:=.type "range",data:=.fields #[.int lo t,.int hi u,.int 1 v] },toks:=tk }:=by
 refine wpAny_pyIter_range (IsRange.new ..) (small_one h1 h2 h3 h4) ?_
 have I1:Inv X pins σ H { s with heap:=s.heap.push { cls:=.type "range",data:=.fields #[.int lo t,.int hi u,.int 1 v] },toks:=tk }:=I.kept fun b o e=>Heap.get?_push_of_some _ e
 refine ⟨(s.heap.push { cls:=.type "range",data:=.fields #[.int lo t,.int hi u,.int 1 v] }).objs.size,[(s.heap.push { cls:=.type "range",data:=.fields #[.int lo t,.int hi u,.int 1 v] }).objs.size],_,_,H,rfl,
  I1.kept (t':=tk) fun b o e=>Heap.get?_push_of_some _ e,turn_range _ lo (hi - lo).toNat,?_,fun b hb=>?_,q⟩
 ·have e1:lo+((0:Nat):Int)*1=lo:=by simp
  have e2:(((hi - lo).toNat:Nat):Int) - ((0:Nat):Int)=Builtin.Range.rangeSize lo hi 1:=by rw [rangeSize_one]; split <;> omega
  show IsRangeIter _ _ (lo+((0:Nat):Int)*1) ((((hi - lo).toNat:Nat):Int) - ((0:Nat):Int)) 1
  rw [e1,e2]
  exact Heap.get?_push_size _ rfl
 ·have e:b=(s.heap.push { cls:=.type "range",data:=.fields #[.int lo t,.int hi u,.int 1 v] }).objs.size:=by simpa using hb
  subst e
  exact I1.fpOk (Nat.le_refl _) (I1.hok.fresh (Nat.le_refl _))
def iRng1 (ta:TA):TI:=fun σ H R=>ta σ H fun vs H1=>∃j:Int,vs=[.int j] /\ -(2 ^ 62)<=j/\j<2 ^ 62/\R (Itr 0 j.toNat) H1
def iRng2 (ta:TA):TI:=fun σ H R=>ta σ H fun vs H1=>∃i j:Int,vs=[.int i,.int j]/\(-(2 ^ 62)<=i/\i<2 ^ 62 /\ -(2 ^ 62)<=j/\j<2 ^ 62)/\R (Itr i (j - i).toNat) H1
theorem pi_range1 {a:Expr} {ta:TA} {p pos:Pos} (hg:Gl X "range") (hm:X.mg "range" = none) (ha:PA X [a] ta) (hs:starEach [a] X.env=[(false,eval a X.env)]:=by rfl):PI X tg (.Call (.Name "range" p) [a] [] pos) (iRng1 ta):=by
 intro pins s σ H R I h
 refine Call_ (ld_blt I hg hm boot_range (PyProof.Rows.callWith_type1 (thn (ha pos pins s σ H _ I h) fun us s1 ⟨vs,H1,I1,r1,q1⟩=>?_) hs rfl))
 obtain ⟨j,e,q1,q2,q⟩:=q1
 subst e
 cases r1 with
 | cons r rr=>
  cases rr
  obtain ⟨t,rfl⟩:=r
  exact call_range_1 (range_it I1 (by omega) (by omega) q1 q2 (by simpa using q))
theorem pi_range2 {a b:Expr} {ta:TA} {p pos:Pos} (hg:Gl X "range") (hm:X.mg "range" = none) (ha:PA X [a,b] ta) (hs:starEach [a,b] X.env=[(false,eval a X.env),(false,eval b X.env)]:=by rfl) (hs2:starEach [b] X.env=[(false,eval b X.env)]:=by rfl) :
  PI X tg (.Call (.Name "range" p) [a,b] [] pos) (iRng2 ta):=by
 intro pins s σ H R I h
 refine Call_ (ld_blt I hg hm boot_range (PyProof.Rows.callWith_type1 (thn (ha pos pins s σ H _ I h) fun us s1 ⟨vs,H1,I1,r1,q1⟩=>?_) (by rw [hs,hs2]) (by rw [hs2]; rfl)))
 obtain ⟨i,j,e,⟨q1,q2,q3,q4⟩,q⟩:=q1
 subst e
 cases r1 with
 | cons r rr=>
  cases rr with
  | cons r' rr=>
   cases rr
   obtain ⟨t,rfl⟩:=r
   obtain ⟨t',rfl⟩:=r'
   exact call_range_2 (range_it I1 q1 q2 q3 q4 q)
def tFor (wi:TI) (g:TG) (tb:TS):TS:=fun D σ H=>wi σ H fun J H1=>∃W:Nat->Nat->St->Hp->Prop,(∃m,W 0 m σ H1)/\∀i m σ H,W i m σ H ->
 (J.stop i H/\D.nx σ H)\/(J.go i H/\∃N:St->Hp->Prop,(∀σ' H',N σ' H'->∃m',m'<m/\W (i+1) m' σ' H')/\∀x H',J.yld i H x H'->g x σ H' fun σ2 H2=>tb { D with nx:=N,ct:=N,bk:=D.nx } σ2 H2)
def pinsAt (fp:List Addr) (h:Heap):List (Addr×Obj):=fp.filterMap fun b=>(h.get? b).map fun o=>(b,o)
theorem mem_pinsAt {fp:List Addr} {h:Heap} {b:Addr} {o:Obj} (hb:b∈fp) (e:h.get? b=some o):(b,o)∈pinsAt fp h:=List.mem_filterMap.mpr ⟨b,hb,by rw [e]; rfl⟩
theorem of_pinsAt {fp:List Addr} {h:Heap} {p:Addr×Obj} (hp:p∈pinsAt fp h):p.1∈fp/\h.get? p.1=some p.2:=by
 obtain ⟨b,hb,e⟩:=List.mem_filterMap.mp hp
 cases q:h.get? b with
 | none=>rw [q] at e; cases e
 | some o=>
  rw [q] at e
  have e':(b,o)=p:=Option.some.inj e
  subst e'
  exact ⟨hb,q⟩
theorem Inv.pinned {pins:List (Addr×Obj)} {σ:St} {H:Hp} {s:Shared} {fp:List Addr} (I:Inv X pins σ H s) (hf:∀b∈fp,FpOk X pins H b) (ho:∀b∈fp,∃o,s.heap.get? b=some o/\∀v,o.data ≠ .cell v):Inv X (pins++pinsAt fp s.heap) σ H s:=
 I.pins_of fun p hp=>(List.mem_append.mp hp).elim (fun z=>I.pin p (List.mem_append_right _ z)) fun z=>by
  obtain ⟨hb,e⟩:=of_pinsAt z
  obtain ⟨f0,f1,f2,_⟩:=hf p.1 hb
  obtain ⟨o,e',d⟩:=ho p.1 hb
  rw [e] at e'; cases e'
  exact ⟨e,f0,f1,f2,d⟩
theorem Inv.unpinned {pins pl:List (Addr×Obj)} {σ:St} {H:Hp} {s:Shared} (I:Inv X (pins++pl) σ H s):Inv X pins σ H s:=I.pins_of fun p hp=>I.pin p (List.mem_append_right _ (List.mem_append_left _ hp))
theorem ps_for {iter:Expr} {body:List Stmt} {wi:TI} {g:TG} {tb:TS} {pos:Pos} (hp:PassesOwn (model X.prog X.w) X.A X.env X.xe) (hc:X.calm=true) (hi:PI X tg iter wi) (hg:PG X tg g) (hb:PSs X body tb)
  (hs:∀x,foldedSetIterable iter X.env x=pure x:=by intro _; rfl):PS X (.For tg iter body [] pos) (tFor wi g tb):=by
 intro pins s σ H D I h
 refine wpAny_For (thn (hi pins s σ H _ I h) fun v s1 h1=>thn h1 fun itv s2 h2=>?_) hs
 obtain ⟨it,fp,tn,J,H2,e,I2,T,st2,f2,W,⟨m0,w0⟩,turn⟩:=h2
 subst e
 have stat:∀{H':Hp},(∀b∈fp,H' b=none)->∀b∈fp,FpOk X pins H' b:=fun hn b hb=>⟨hn b hb,(f2 b hb).2⟩
 refine codeAny_forLoop_any (fun n s'=>∃i σ' H',Inv X pins σ' H' s'/\tn i s'.heap/\(∀b∈fp,H' b=none)/\W i n σ' H') ?_ m0 ⟨0,σ,H2,I2,st2,fun b hb=>(f2 b hb).1,w0⟩
 rintro n s3 ⟨i,σ3,H3,I3,st3,fr3,w3⟩
 rcases turn i n σ3 H3 w3 with ⟨stop,qn⟩ | ⟨go,N,hN,step⟩
 ·refine wpAny_passesOwn hp (thn (T.done X rfl rfl rfl hc i pins s3 σ3 H3 X.xe I3 (stat fr3) st3 stop) fun r s4 ⟨hr,I4⟩=>?_)
  subst hr
  exact wpAny_execs_nil ⟨σ3,H3,I4,qn⟩
 ·refine wpAny_passesOwn hp (thn (T.item X rfl rfl rfl hc i pins s3 σ3 H3 X.xe I3 (stat fr3) st3 go) fun r s4 ⟨u,hr,h4⟩=>?_)
  subst hr
  refine wpAny_passesOwn hp (thn h4 fun _ s5 ⟨x,H5,I5,r5,y5,st5,fr5⟩=>?_)
  have I5':=I5.pinned (stat fr5) (T.obj _ _ st5)
  refine wpAny_passesOwn hp (thn (hg _ s5 σ3 H5 x u _ I5' r5 (step x H5 y5)) fun _ s6 ⟨σ6,H6,I6,q6⟩=>?_)
  refine wpAny_passesOwn hp (thn (hb _ s6 σ6 H6 _ I6 q6) fun f s7 q7=>?_)
  have again:∀{σ7:St} {H7:Hp},Inv X (pins++pinsAt fp s5.heap) σ7 H7 s7->N σ7 H7->∃m,m<n/\∃i σ' H',Inv X pins σ' H' s7/\tn i s7.heap/\(∀b∈fp,H' b=none)/\W i m σ' H':=fun {σ7 H7} I7 n7=>by
   obtain ⟨m',hm,w7⟩:=hN σ7 H7 n7
   refine ⟨m',hm,i+1,σ7,H7,I7.unpinned,T.keep _ _ _ st5 fun b hb o e=>(I7.pin (b,o) (List.mem_append_right _ (List.mem_append_right _ (mem_pinsAt hb e)))).1,fun b hb=>?_,w7⟩
   obtain ⟨o,e,d⟩:=T.obj _ _ st5 b hb
   exact (I7.pin (b,o) (List.mem_append_right _ (List.mem_append_right _ (mem_pinsAt hb e)))).2.1
  cases f with
  | next=>obtain ⟨σ7,H7,I7,n7⟩:=q7; exact again I7 n7
  | cont=>obtain ⟨σ7,H7,I7,n7⟩:=q7; exact again I7 n7
  | brk=>obtain ⟨σ7,H7,I7,q7⟩:=q7; exact ⟨σ7,H7,I7.unpinned,q7⟩
  | ret v=>obtain ⟨x7,σ7,H7,I7,r7,q7⟩:=q7; exact ⟨x7,σ7,H7,I7.unpinned,r7,q7⟩
end
theorem for_list {K:W.Frag} {a:Addr} {xs:List V} {g:TG} {tb:TS} {D:Ends} {σ:St} {H:Hp} (Pv:Nat->St->Hp->Prop) (h0:Pv 0 σ H) (hl:∀i σ H,i<=xs.length->Pv i σ H->SqL K H a xs)
  (hs:∀i x σ H,xs[i]?=some x->Pv i σ H->g x σ H fun σ2 H2=>tb { D with nx:=Pv (i+1),ct:=Pv (i+1),bk:=D.nx } σ2 H2) (hd:∀σ H,Pv xs.length σ H->D.nx σ H) :
  ∃W:Nat->Nat->St->Hp->Prop,(∃m,W 0 m σ H)/\∀i m σ H,W i m σ H ->
   ((Itl K a).stop i H/\D.nx σ H)\/((Itl K a).go i H/\∃N:St->Hp->Prop,(∀σ' H',N σ' H'->∃m',m'<m/\W (i+1) m' σ' H')/\∀x H',(Itl K a).yld i H x H'->g x σ H' fun σ2 H2=>tb { D with nx:=N,ct:=N,bk:=D.nx } σ2 H2):=by
 refine ⟨fun i m σ H=>m=xs.length - i/\i<=xs.length/\Pv i σ H,⟨xs.length,by simp,Nat.zero_le _,h0⟩,?_⟩
 rintro i m σ H ⟨rfl,hi,p⟩
 have q:=hl i σ H hi p
 by_cases hlt:i<xs.length
 ·refine .inr ⟨⟨xs,xs[i],q,by simp [hlt]⟩,Pv (i+1),fun σ' H' p'=>⟨xs.length - (i+1),by omega,rfl,hlt,p'⟩,fun x H' y=>?_⟩
  obtain ⟨e,y⟩:=y
  subst e
  exact hs i x σ _ (y xs q) p
 ·have e:i=xs.length:=by omega
  subst e
  exact .inl ⟨⟨xs,q,Nat.le_refl _⟩,hd σ H p⟩
theorem for_tup {K:W.Frag} {a:Addr} {xs:List V} {g:TG} {tb:TS} {D:Ends} {σ:St} {H:Hp} (Pv:Nat->St->Hp->Prop) (h0:Pv 0 σ H) (hl:∀i σ H,i<=xs.length->Pv i σ H->SqT K H a xs)
  (hs:∀i x σ H,xs[i]?=some x->Pv i σ H->g x σ H fun σ2 H2=>tb { D with nx:=Pv (i+1),ct:=Pv (i+1),bk:=D.nx } σ2 H2) (hd:∀σ H,Pv xs.length σ H->D.nx σ H) :
  ∃W:Nat->Nat->St->Hp->Prop,(∃m,W 0 m σ H)/\∀i m σ H,W i m σ H ->
   ((Itt K a).stop i H/\D.nx σ H)\/((Itt K a).go i H/\∃N:St->Hp->Prop,(∀σ' H',N σ' H'->∃m',m'<m/\W (i+1) m' σ' H')/\∀x H',(Itt K a).yld i H x H'->g x σ H' fun σ2 H2=>tb { D with nx:=N,ct:=N,bk:=D.nx } σ2 H2):=by
 refine ⟨fun i m σ H=>m=xs.length - i/\i<=xs.length/\Pv i σ H,⟨xs.length,by simp,Nat.zero_le _,h0⟩,?_⟩
 rintro i m σ H ⟨rfl,hi,p⟩
 have q:=hl i σ H hi p
 by_cases hlt:i<xs.length
 ·refine .inr ⟨⟨xs,xs[i],q,by simp [hlt]⟩,Pv (i+1),fun σ' H' p'=>⟨xs.length - (i+1),by omega,rfl,hlt,p'⟩,fun x H' y=>?_⟩
  obtain ⟨e,y⟩:=y
  subst e
  exact hs i x σ _ (y xs q) p
 ·have e:i=xs.length:=by omega
  subst e
  exact .inl ⟨⟨xs,q,Nat.le_refl _⟩,hd σ H p⟩
theorem for_range {lo:Int} {n:Nat} {g:TG} {tb:TS} {D:Ends} {σ:St} {H:Hp} (Pv:Nat->St->Hp->Prop) (h0:Pv 0 σ H)
  (hs:∀i σ H,i<n->Pv i σ H->g (.int (lo+i)) σ H fun σ2 H2=>tb { D with nx:=Pv (i+1),ct:=Pv (i+1),bk:=D.nx } σ2 H2) (hd:∀σ H,Pv n σ H->D.nx σ H) :
  ∃W:Nat->Nat->St->Hp->Prop,(∃m,W 0 m σ H)/\∀i m σ H,W i m σ H ->
   ((Itr lo n).stop i H/\D.nx σ H)\/((Itr lo n).go i H/\∃N:St->Hp->Prop,(∀σ' H',N σ' H'->∃m',m'<m/\W (i+1) m' σ' H')/\∀x H',(Itr lo n).yld i H x H'->g x σ H' fun σ2 H2=>tb { D with nx:=N,ct:=N,bk:=D.nx } σ2 H2):=by
 refine ⟨fun i m σ H=>m=n - i/\i<=n/\Pv i σ H,⟨n,by simp,Nat.zero_le _,h0⟩,?_⟩
 rintro i m σ H ⟨rfl,hi,p⟩
 by_cases hlt:i<n
 ·refine .inr ⟨hlt,Pv (i+1),fun σ' H' p'=>⟨n - (i+1),by omega,rfl,hlt,p'⟩,fun x H' y=>?_⟩
  obtain ⟨e,y⟩:=y
  subst e y
  exact hs i σ _ hlt p
 ·have e:i=n:=by omega
  subst e
  exact .inl ⟨Nat.le_refl _,hd σ H p⟩
end L2
namespace L2
open PySem PySem.Spec PyProof.Rows
abbrev R2:=V->V->Hp->VK->Prop
def OpR (X:Cx) (f:Value->Value->Sem Value) (r:R2):Prop:=
 ∀(pins:List (Addr×Obj)) (s:Shared) (σ:St) (H:Hp) (x y:V) (v u:Value) (Q:VK),Inv X pins σ H s->RelV x v->RelV y u->r x y H Q ->
  wpAny (model X.prog X.w) X.A (f v u) (EP X pins σ Q) X.xe s
def UnR (X:Cx) (f:Value->Sem Value) (r:V->Hp->VK->Prop):Prop:=
 ∀(pins:List (Addr×Obj)) (s:Shared) (σ:St) (H:Hp) (x:V) (v:Value) (Q:VK),Inv X pins σ H s->RelV x v->r x H Q ->
  wpAny (model X.prog X.w) X.A (f v) (EP X pins σ Q) X.xe s
def CallR (X:Cx) (f:Value) (r:List V->Hp->VK->Prop):Prop:=
 ∀(pins:List (Addr×Obj)) (s:Shared) (σ:St) (H:Hp) (xs:List V) (us:List Value) (Q:VK),Inv X pins σ H s->Vals xs us->r xs H Q ->
  wpAny (model X.prog X.w) X.A (call f us) (EP X pins σ Q) X.xe s
def TruR (X:Cx) (r:V->Hp->(Bool->Hp->Prop)->Prop):Prop:=
 ∀(pins:List (Addr×Obj)) (s:Shared) (σ:St) (H:Hp) (x:V) (v:Value) (Q:Bool->Hp->Prop),Inv X pins σ H s->RelV x v->r x H Q ->
  wpAny (model X.prog X.w) X.A (truthy v) (TP X pins σ Q) X.xe s
def tOp (r:R2) (ta tb:TE):TE:=fun σ H Q=>ta σ H fun x H1=>tb σ H1 fun y H2=>r x y H2 Q
def tUn (r:V->Hp->VK->Prop) (ta:TE):TE:=fun σ H Q=>ta σ H fun x H1=>r x H1 Q
def rI (C:Int->Int->Prop) (g:Int->Int->V):R2:=fun x y H Q=>∃i j,x = .int i/\y = .int j/\C i j/\Q (g i j) H
def rI0 (g:Int->Int->V):R2:=fun x y H Q=>∃i j,x = .int i/\y = .int j/\Q (g i j) H
def rU (g:Int->V):V->Hp->VK->Prop:=fun x H Q=>∃i,x = .int i/\Q (g i) H
section
variable {X:Cx} {a b c:Expr} {ta tb tc:TE} {pos:Pos}
theorem binT (ha:PE X a ta) (hb:PE X b tb) {pins:List (Addr×Obj)} {s:Shared} {σ:St} {H:Hp} {R:V->V->Hp->Prop} (I:Inv X pins σ H s)
  (h:ta σ H fun x H1=>tb σ H1 fun y H2=>R x y H2) {Q:Value->Shared->Prop} {f:Value->Value->Sem Value}
  (hf:∀v u s2 x y H2,Inv X pins σ H2 s2->RelV x v->RelV y u->R x y H2->wpAny (model X.prog X.w) X.A (f v u) Q X.xe s2) :
  wpAny (model X.prog X.w) X.A (eval a X.env) (fun v s₁=>wpAny (model X.prog X.w) X.A (eval b X.env) (fun u s₂=>wpAny (model X.prog X.w) X.A (f v u) Q X.xe s₂) X.xe s₁) X.xe s:=by
 refine thn (ha pins s σ H _ I h) fun v s1 ⟨x,H1,I1,r1,q1⟩=>?_
 refine thn (hb pins s1 σ H1 _ I1 q1) fun u s2 ⟨y,H2,I2,r2,q2⟩=>?_
 exact hf v u s2 x y H2 I2 r1 r2 q2
theorem pe_op {op:Operator} {r:R2} (ho:OpR X (binaryOp op) r) (ha:PE X a ta) (hb:PE X b tb):PE X (.BinOp a op b pos) (tOp r ta tb):=by
 intro pins s σ H Q I h
 exact wpAny_BinOp (binT ha hb I h fun v u s2 x y H2 I2 rx ry q=>ho pins s2 σ H2 x y v u Q I2 rx ry q)
theorem pe_un {op:UnaryOp} {r:V->Hp->VK->Prop} (ho:UnR X (unaryOp op) r) (ha:PE X a ta):PE X (.UnaryOp op a pos) (tUn r ta):=by
 intro pins s σ H Q I h
 exact UnaryOp_ (thn (ha pins s σ H _ I h) fun v s1 ⟨x,H1,I1,r1,q1⟩=>ho pins s1 σ H1 x v Q I1 r1 q1)
theorem opI {f:Value->Value->Sem Value} {C:Int->Int->Prop} {g:Int->Int->Int}
  (rule:∀(i j:Int) (t u:Tok) (s:Shared) (Q:Value->Shared->Prop) (E:Value->Shared->Prop),C i j->Q (.int (g i j) s.toks) { s with toks:=s.toks+1 }->wpAny (model X.prog X.w) X.A (f (.int i t) (.int j u)) Q E s) :
  OpR X f (rI C fun i j => .int (g i j)):=by
 intro pins s σ H x y v u Q I rx ry h
 obtain ⟨i,j,rfl,rfl,hc,q⟩:=h
 obtain ⟨t,rfl⟩:=rx
 obtain ⟨t',rfl⟩:=ry
 exact rule i j t t' s _ _ hc ⟨.int (g i j),H,I.tok _,⟨_,rfl⟩,q⟩
theorem opI0 {f:Value->Value->Sem Value} {g:Int->Int->Int}
  (rule:∀(i j:Int) (t u:Tok) (s:Shared) (Q:Value->Shared->Prop) (E:Value->Shared->Prop),Q (.int (g i j) s.toks) { s with toks:=s.toks+1 }->wpAny (model X.prog X.w) X.A (f (.int i t) (.int j u)) Q E s) :
  OpR X f (rI0 fun i j => .int (g i j)):=by
 intro pins s σ H x y v u Q I rx ry h
 obtain ⟨i,j,rfl,rfl,q⟩:=h
 obtain ⟨t,rfl⟩:=rx
 obtain ⟨t',rfl⟩:=ry
 exact rule i j t t' s _ _ ⟨.int (g i j),H,I.tok _,⟨_,rfl⟩,q⟩
theorem opB0 {f:Value->Value->Sem Value} {g:Int->Int->Bool}
  (rule:∀(i j:Int) (t u:Tok) (s:Shared) (Q:Value->Shared->Prop) (E:Value->Shared->Prop),Q (.bool (g i j)) s->wpAny (model X.prog X.w) X.A (f (.int i t) (.int j u)) Q E s) :
  OpR X f (rI0 fun i j => .bl (g i j)):=by
 intro pins s σ H x y v u Q I rx ry h
 obtain ⟨i,j,rfl,rfl,q⟩:=h
 obtain ⟨t,rfl⟩:=rx
 obtain ⟨t',rfl⟩:=ry
 exact rule i j t t' s _ _ ⟨.bl (g i j),H,I,rfl,q⟩
def CDiv (i j:Int):Prop:=0<j/\j<1073741824
def CDivN (i j:Int):Prop:=j≠0/\j.natAbs<1073741824
def CPow (i j:Int):Prop:=0<=j/\j<=1000000/\i.natAbs<2 ^ 64
def CMul (i j:Int):Prop:=(-(2 ^ 64)<i/\i<2 ^ 64)\/(-(2 ^ 64)<j/\j<2 ^ 64)
theorem CMul.ok {i j:Int} (h:CMul i j):IntMulOk i j:=by
 rcases h with ⟨h1,h2⟩ | ⟨h1,h2⟩
 ·exact .of_left (intBits_le_64 h1 h2)
 ·exact .of_right (intBits_le_64 h1 h2)
theorem op_add:OpR X (binaryOp .Add) (rI0 fun i j => .int (i+j)):=opI0 fun _ _ _ _ _ _ _ q=>add_int q
theorem op_sub:OpR X (binaryOp .Sub) (rI0 fun i j => .int (i - j)):=opI0 fun _ _ _ _ _ _ _ q=>sub_int q
theorem op_mod:OpR X (binaryOp .Mod) (rI (fun _ j=>0<j) fun i j => .int (i % j)):=opI fun i j _ _ _ _ _ hc q=>by
 have h1:(0:Int)<j:=hc
 exact mod_int' (by omega) (by rw [Int.fmod_eq_emod_of_nonneg i (by omega)]; exact q)
theorem unI {f:Value->Sem Value} {g:Int->Int}
  (rule:∀(i:Int) (t:Tok) (s:Shared) (Q:Value->Shared->Prop) (E:Value->Shared->Prop),Q (.int (g i) s.toks) { s with toks:=s.toks+1 }->wpAny (model X.prog X.w) X.A (f (.int i t)) Q E s) :
  UnR X f (rU fun i => .int (g i)):=by
 intro pins s σ H x v Q I rx h
 obtain ⟨i,rfl,q⟩:=h
 obtain ⟨t,rfl⟩:=rx
 exact rule i t s _ _ ⟨.int (g i),H,I.tok _,⟨_,rfl⟩,q⟩
theorem un_neg:UnR X (unaryOp .USub) (rU fun i => .int (-i)):=unI fun _ _ _ _ _ q=>neg_int q
end
def scal:V->V->Bool
 | .non,.non=>true | .non,.int _=>true | .int _,.non=>true | .non,.bl _=>true | .bl _,.non=>true | .non,.str _=>true | .str _,.non=>true
 | .int _,.int _=>true | .bl _,.bl _=>true | .str _,.str _=>true | .byt _,.byt _=>true
 | .int _,.str _=>true | .str _,.int _=>true | .bl _,.str _=>true | .str _,.bl _=>true
 | _,_=>false
def rEq:R2:=fun x y H Q=>scal x y=true/\Q (.bl (decide (x=y))) H
def rNe:R2:=fun x y H Q=>scal x y=true/\Q (.bl (!decide (x=y))) H
theorem dec_int {i j:Int}:decide (V.int i=V.int j)=(i == j):=by
 rw [Bool.eq_iff_iff]
 simp
theorem dec_bl {i j:Bool}:decide (V.bl i=V.bl j)=(i == j):=by
 rw [Bool.eq_iff_iff]
 simp
theorem dec_str {i j:Str}:decide (V.str i=V.str j)=(i == j):=by
 rw [Bool.eq_iff_iff]
 simp
theorem dec_byt {i j:Array UInt8}:decide (V.byt i=V.byt j)=(i.toList == j.toList):=by
 rw [Bool.eq_iff_iff]
 cases i
 cases j
 simp
section
variable {X:Cx} {a b c:Expr} {ta tb tc:TE} {pos:Pos}
theorem fin_bl {pins:List (Addr×Obj)} {σ:St} {H:Hp} {s:Shared} {Q:VK} {k k':Bool} (I:Inv X pins σ H s) (q:Q (.bl k) H) (e:k=k'):EP X pins σ Q (.bool k') s:=by
 subst e
 exact ⟨.bl k,H,I,rfl,q⟩
theorem op_eq:OpR X (compareOp .Eq) rEq:=by
 intro pins s σ H x y v u Q I rx ry h
 obtain ⟨hs,q⟩:=h
 cases x with
 | non=>
  cases rx
  cases y with
  | non=>cases ry; exact PySem.EqNone.eq_none_none (fin_bl I q (by simp))
  | bl j=>cases ry; exact PySem.EqNone.eq_none_bool (fin_bl I q (by simp))
  | int j=>obtain ⟨t',rfl⟩:=ry; exact PySem.EqNone.eq_none_int (fin_bl I q (by simp))
  | str j=>obtain ⟨t',rfl⟩:=ry; exact PySem.EqNone.eq_none_str (fin_bl I q (by simp))
  | _=>exact absurd (show false=true from hs) Bool.false_ne_true
 | bl i=>
  cases rx
  cases y with
  | non=>cases ry; exact PySem.EqNone.eq_bool_none (fin_bl I q (by simp))
  | bl j=>cases ry; exact eq_bool (fin_bl I q dec_bl)
  | str j=>obtain ⟨t',rfl⟩:=ry; exact PySem.EqMixed.eq_bool_str (fin_bl I q (by simp))
  | _=>exact absurd (show false=true from hs) Bool.false_ne_true
 | int i=>
  obtain ⟨t,rfl⟩:=rx
  cases y with
  | non=>cases ry; exact PySem.EqNone.eq_int_none (fin_bl I q (by simp))
  | int j=>obtain ⟨t',rfl⟩:=ry; exact eq_int (fin_bl I q dec_int)
  | str j=>obtain ⟨t',rfl⟩:=ry; exact PySem.EqMixed.eq_int_str (fin_bl I q (by simp))
  | _=>exact absurd (show false=true from hs) Bool.false_ne_true
 | str i=>
  obtain ⟨t,rfl⟩:=rx
  cases y with
  | non=>cases ry; exact PySem.EqNone.eq_str_none (fin_bl I q (by simp))
  | bl j=>cases ry; exact PySem.EqMixed.eq_str_bool (fin_bl I q (by simp))
  | int j=>obtain ⟨t',rfl⟩:=ry; exact PySem.EqMixed.eq_str_int (fin_bl I q (by simp))
  | str j=>obtain ⟨t',rfl⟩:=ry; exact eq_str (fin_bl I q dec_str)
  | _=>exact absurd (show false=true from hs) Bool.false_ne_true
 | byt i=>
  obtain ⟨t,rfl⟩:=rx
  cases y with
  | byt j=>obtain ⟨t',rfl⟩:=ry; exact W.eq_bytes (fin_bl I q dec_byt)
  | _=>exact absurd (show false=true from hs) Bool.false_ne_true
 | _=>cases y <;> exact absurd (show false=true from hs) Bool.false_ne_true
theorem op_ne:OpR X (compareOp .NotEq) rNe:=by
 intro pins s σ H x y v u Q I rx ry h
 obtain ⟨hs,q⟩:=h
 cases x with
 | non=>
  cases rx
  cases y with
  | non=>cases ry; exact PySem.EqNone.ne_none_none (fin_bl I q (by simp))
  | bl j=>cases ry; exact PySem.EqNone.ne_none_bool (fin_bl I q (by simp))
  | int j=>obtain ⟨t',rfl⟩:=ry; exact PySem.EqNone.ne_none_int (fin_bl I q (by simp))
  | str j=>obtain ⟨t',rfl⟩:=ry; exact PySem.EqNone.ne_none_str (fin_bl I q (by simp))
  | _=>exact absurd (show false=true from hs) Bool.false_ne_true
 | bl i=>
  cases rx
  cases y with
  | non=>cases ry; exact PySem.EqNone.ne_bool_none (fin_bl I q (by simp))
  | bl j=>cases ry; exact ne_bool (fin_bl I q (congrArg not dec_bl))
  | str j=>obtain ⟨t',rfl⟩:=ry; exact PySem.EqMixed.ne_bool_str (fin_bl I q (by simp))
  | _=>exact absurd (show false=true from hs) Bool.false_ne_true
 | int i=>
  obtain ⟨t,rfl⟩:=rx
  cases y with
  | non=>cases ry; exact PySem.EqNone.ne_int_none (fin_bl I q (by simp))
  | int j=>obtain ⟨t',rfl⟩:=ry; exact ne_int (fin_bl I q (congrArg not dec_int))
  | str j=>obtain ⟨t',rfl⟩:=ry; exact PySem.EqMixed.ne_int_str (fin_bl I q (by simp))
  | _=>exact absurd (show false=true from hs) Bool.false_ne_true
 | str i=>
  obtain ⟨t,rfl⟩:=rx
  cases y with
  | non=>cases ry; exact PySem.EqNone.ne_str_none (fin_bl I q (by simp))
  | bl j=>cases ry; exact PySem.EqMixed.ne_str_bool (fin_bl I q (by simp))
  | int j=>obtain ⟨t',rfl⟩:=ry; exact PySem.EqMixed.ne_str_int (fin_bl I q (by simp))
  | str j=>obtain ⟨t',rfl⟩:=ry; exact ne_str (fin_bl I q (congrArg not dec_str))
  | _=>exact absurd (show false=true from hs) Bool.false_ne_true
 | byt i=>
  obtain ⟨t,rfl⟩:=rx
  cases y with
  | byt j=>obtain ⟨t',rfl⟩:=ry; exact W.ne_bytes (fin_bl I q (congrArg not dec_byt))
  | _=>exact absurd (show false=true from hs) Bool.false_ne_true
 | _=>cases y <;> exact absurd (show false=true from hs) Bool.false_ne_true
theorem op_lt:OpR X (compareOp .Lt) (rI0 fun i j => .bl (decide (i<j))):=opB0 fun _ _ _ _ _ _ _ q=>lt_int q
theorem op_le:OpR X (compareOp .LtE) (rI0 fun i j => .bl (decide (i<=j))):=opB0 fun _ _ _ _ _ _ _ q=>le_int q
theorem op_gt:OpR X (compareOp .Gt) (rI0 fun i j => .bl (decide (j<i))):=opB0 fun _ _ _ _ _ _ _ q=>gt_int q
theorem op_ge:OpR X (compareOp .GtE) (rI0 fun i j => .bl (decide (j<=i))):=opB0 fun _ _ _ _ _ _ _ q=>ge_int q
theorem op_isN:OpR X (compareOp .Is) (fun x y H Q=>y = .non/\Q (.bl (decide (x = .non))) H):=by
 intro pins s σ H x y v u Q I rx ry h
 obtain ⟨rfl,q⟩:=h
 cases ry
 refine is_none_gen (fin_bl I q ?_)
 cases x <;> first
  | (cases rx; rfl)
  | (obtain ⟨t,rfl⟩:=rx; rfl)
theorem op_notN:OpR X (compareOp .IsNot) (fun x y H Q=>y = .non/\Q (.bl (!decide (x = .non))) H):=by
 intro pins s σ H x y v u Q I rx ry h
 obtain ⟨rfl,q⟩:=h
 cases ry
 refine isnot_none_gen (fin_bl I q ?_)
 cases x <;> first
  | (cases rx; rfl)
  | (obtain ⟨t,rfl⟩:=rx; rfl)
def isObj:HO->Bool
 | .lst _=>true
 | .ins _ _ _=>true
 | _=>false
theorem nomark (b:Expr) {op:CmpOp} (h:op ≠ .In:=by decide) (h2:op ≠ .NotIn:=by decide):behindInMarks op b=false:=by
 have e1:(op == CmpOp.In)=false:=by cases op <;> first | rfl | exact absurd rfl h
 have e2:(op == CmpOp.NotIn)=false:=by cases op <;> first | rfl | exact absurd rfl h2
 cases b <;> simp [behindInMarks,e1,e2]
theorem pe_cmpR {op:CmpOp} {r:R2} (ho:OpR X (compareOp op) r) (ha:PE X a ta) (hb:PE X b tb) (hm:behindInMarks op b=false):PE X (.Compare a [op] [b] pos) (tOp r ta tb):=by
 intro pins s σ H Q I h
 exact wpAny_Compare1 (binT ha hb I h fun v u s2 x y H2 I2 rx ry q=>ho pins s2 σ H2 x y v u Q I2 rx ry q) hm
def tTest (t:TE):TT:=fun σ H Q=>t σ H fun x H'=>∃k,x = .bl k/\Q k H'
theorem pt_cmpR {op:CmpOp} {r:R2} (ho:OpR X (compareOp op) r) (ha:PE X a ta) (hb:PE X b tb) (hm:behindInMarks op b=false):PT X (.Compare a [op] [b] pos) (tTest (tOp r ta tb)):=by
 intro pins s σ H Q I h
 refine wpAny_isTrue_Compare1 (thn (ha pins s σ H _ I h) fun v s1 ⟨x,H1,I1,r1,q1⟩=>thn (hb pins s1 σ H1 _ I1 q1) fun u s2 ⟨y,H2,I2,r2,q2⟩=>
  thn (ho pins s2 σ H2 x y v u _ I2 r1 r2 q2) fun c s3 ⟨z,H3,I3,r3,k,e,q3⟩=>?_) hm
 subst e
 cases r3
 exact wpAny_truthy_bool ⟨H3,I3,q3⟩
def tChain (r r':R2) (ta tb tc:TE):TE:=fun σ H Q=>ta σ H fun x H1=>tb σ H1 fun y H2=>r x y H2 fun z H3=>∃k,z = .bl k /\
 (if k=true then tc σ H3 fun w' H4=>r' y w' H4 Q else Q (.bl false) H3)
theorem pe_chain {op op':CmpOp} {r r':R2} (ho:OpR X (compareOp op) r) (ho':OpR X (compareOp op') r') (ha:PE X a ta) (hb:PE X b tb) (hc:PE X c tc)
  (hm:lastMarks [op,op'] [b,c]=false:=by with_unfolding_all rfl):PE X (.Compare a [op,op'] [b,c] pos) (tChain r r' ta tb tc):=by
 intro pins s σ H Q I h
 refine Compare_chain (thn (ha pins s σ H _ I h) fun v s1 ⟨x,H1,I1,r1,q1⟩=>chain_link (thn (hb pins s1 σ H1 _ I1 q1) fun u s2 ⟨y,H2,I2,r2,q2⟩=>
  thn (ho pins s2 σ H2 x y v u _ I2 r1 r2 q2) fun d s3 ⟨z,H3,I3,r3,k,e,q3⟩=>?_)) hm
 subst e
 cases r3
 refine wpAny_truthy_bool ?_
 cases k with
 | false=>exact ite_ff ⟨.bl false,H3,I3,rfl,q3⟩
 | true=>exact ite_tt (chain_last (thn (hc pins s3 σ H3 _ I3 q3) fun w' s4 ⟨z',H4,I4,r4,q4⟩=>ho' pins s4 σ H4 y z' u w' Q I4 r2 r4 q4))
def TruV (K:W.Frag) (x:V) (H:Hp) (k:Bool):Prop:=
 match x with
 | .non=>k=false
 | .bl b=>k=b
 | .int i=>k=(i != 0)
 | .str y=>y.length<=sizeLine/\k=((y.length:Int) != 0)
 | .byt y=>y.size<=sizeLine/\k=((y.size:Int) != 0)
 | .ref p=>(∃xs,SqL K H p xs/\k = !xs.isEmpty)\/(∃xs,SqT K H p xs/\k = !xs.isEmpty)\/∃kvs,H p=some (.dK kvs)/\k = !kvs.isEmpty
 | _=>False
theorem line63:(sizeLine:Nat)<2 ^ 63:=by rw [sizeLine_eq]; decide
def PlainIxT (b:Expr):Prop:=∀o i,subscripted b false o i=operate [o,i] (getItem o i)
theorem vals1 {x:V} {us:List Value} (r:Vals [x] us):∃u,us=[u]/\RelV x u:=by
 cases r with
 | cons r1 r2=>cases r2; exact ⟨_,rfl,r1⟩
theorem vals2 {x y:V} {us:List Value} (r:Vals [x,y] us):∃u w',us=[u,w']/\RelV x u/\RelV y w':=by
 cases r with
 | cons r1 r2=>
  cases r2 with
  | cons r3 r4=>cases r4; exact ⟨_,_,rfl,r1,r3⟩
theorem call_min2 (hc:X.calm=true):CallR X (.builtin "min") (fun xs H Q=>∃i j,xs=[.int i,.int j]/\Q (.int (if j<i then j else i)) H):=by
 intro pins s σ H xs us Q I r h
 obtain ⟨i,j,rfl,q⟩:=h
 obtain ⟨u,w',rfl,⟨t,rfl⟩,⟨t',rfl⟩⟩:=vals2 r
 refine min_two_ints (I.ok.hd hc) fun h' tk k=>⟨_,H,I.kept k,?_,q⟩
 by_cases hj:j<i
 ·rw [if_pos hj,if_pos hj]; exact ⟨_,rfl⟩
 ·rw [if_neg hj,if_neg hj]; exact ⟨_,rfl⟩
def LenV (K:W.Frag) (x:V) (H:Hp) (n:Nat):Prop:=
 match x with
 | .str y=>y.length<=sizeLine/\n=y.length
 | .byt y=>y.size<=sizeLine/\n=y.size
 | .ref p=>(∃xs,SqL K H p xs/\n=xs.length)\/∃xs,SqT K H p xs/\n=xs.length
 | _=>False
end
end L2
namespace L2
open PySem PySem.Spec PyProof.Rows
structure ObjM (h:Heap) (x dx C:Addr) (mA:Str->Option Value):Prop where
 obj:h.get? x=some (W.instObj C dx)
 ns:h.Ns1 dx mA
 ne:dx≠x
theorem lookIn_ns {h:Heap} {dx:Addr} {mA:Str->Option Value} (n:h.Ns1 dx mA):∃od,h.get? dx=some od/\∀name,W.lookIn name od=some (mA name):=by
 obtain ⟨o,es,ep,ho,hd,hk,_,hm⟩:=n
 refine ⟨o,ho,fun name=>?_⟩
 have e:=hm name
 unfold nsFind findBy at e
 rw [<-Array.find?_toList] at e
 unfold W.lookIn
 rw [hd]
 dsimp only
 split
 ·rename_i y q
  rw [q] at e
  exact congrArg some e
 ·rename_i q
  rw [q] at e
  have a:es.toList.any (·.refKey)=false:=by
   rw [List.any_eq_false]
   intro y hy
   obtain ⟨z,t,hkey⟩:=hk y (Array.mem_toList_iff.mp hy)
   simp [DictEntry.refKey,hkey]
  have a':¬es.toList.any (·.refKey)=true:=by rw [a]; exact Bool.false_ne_true
  rw [if_neg a']
  exact congrArg some e
theorem ObjM.look {h:Heap} {x dx C:Addr} {mA:Str->Option Value} (I:ObjM h x dx C mA):∃od,W.InstAt h x (W.instObj C dx) C (some od)/\∀name,W.lookIn name od=some (mA name):=
 let ⟨od,ho,hl⟩:=lookIn_ns I.ns
 ⟨od,⟨I.obj,rfl,rfl,ho⟩,hl⟩
section
variable {prog:Program} {w:World} {A:Around} {E:Value->Shared->Prop} {s:Shared} {K:W.Frag} {x dx C f:Addr} {mA:Str->Option Value} {name:Str} {v:Value}
theorem get_map {expr:Bool} {Q:Value->Shared->Prop} (X:K.In s.heap) (I:ObjM s.heap x dx C mA) (hg:W.plainGet K C name=true) (hh:W.hasDictIn K C=true)
  (ha:W.findIn K (.ref C) name=some none) (hv:mA name=some v) (hv':W.handedIn v=true) (h:Q v { s with toks:=s.toks+1 }) :
  wpAny (model prog w) A (getAttr (.ref x) name expr) Q E s:=by
 obtain ⟨od,J,hl⟩:=I.look
 exact W.get_value X J (W.plainGet_of hg).1 (W.findObj_own hh ha rfl (by rw [hl,hv])) hv' h
theorem get_meth {pl:Sem Bool} {Q:Value×List Value->Shared->Prop} (X:K.In s.heap) (I:ObjM s.heap x dx C mA) (hg:W.plainGet K C name=true)
  (hf:W.findIn K (.ref C) name=some (some (.ref f))) (ht:W.isFn K (.ref f)=true) (hv:mA name=none) (h:Q (.ref f,[.ref x]) s) :
  wpAny (model prog w) A (getMethod (.ref x) name pl) Q E s:=by
 obtain ⟨od,J,hl⟩:=I.look
 exact W.method_fn X J (W.plainGet_of hg).1 (W.plainGet_of hg).2 hf (beq_iff_eq.mp ht) (by show (W.lookIn name od).map (·.isSome)=some false; rw [hl,hv]; rfl) h
theorem set_map {ns:List Str} {Q:Unit->Shared->Prop} (X:K.In s.heap) (I:ObjM s.heap x dx C mA)
  (hs:W.findIn K (.ref C) "__setattr__" = some (some (.builtin "object.__setattr__"))) (hp:W.plainOver K C=true) (ht:W.takerIn K C name=some none) (hh:W.hasDictIn K C=true)
  (hw:PySem.Within mA ns) (hsz:ns.length<=sizeLine)
  (h:∀h',ObjM h' x dx C (fun y=>if y=name then some v else mA y)->Heap.SameBut dx s.heap h'->Q () { s with heap:=h',toks:=s.toks+2 }) :
  wpAny (model prog w) A (setAttr (.ref x) name v) Q E s:=by
 obtain ⟨od,J,hl⟩:=I.look
 refine W.set_plain X J hs (W.osa_open (s:={ s with toks:=s.toks+1 }) (r:=none) X J hp ht fun b=>?_)
 obtain ⟨cd,hc,hd'⟩:=W.any_some hh
 have hx:s.heap.get? x=some ⟨.ref C,some dx,.plain,#[]⟩:=I.obj
 refine wpAny_bind (wpAny_pure (wpAny_bind (wpAny_bind (wpAny_loadPart hx (wpAny_bind (W.Looks.here (s:={ s with toks:=s.toks+1 }) (W.looks_clsIn X hc) ?_))))))
 rw [hd']
 refine wpAny_pure (a:=some dx) (wpAny_bind (wpAny_pure (wpAny_bind ?_)))
 refine wpAny_nsSet1 (s:={ s with toks:=s.toks+1 }) I.ns fun h' hn2 hs2=>?_
 obtain ⟨oD,esD,epD,hoD,hdD,hcD⟩:=hn2.count (PySem.Within.cons name v hw)
 refine wpAny_bind (wpAny_lookBehind hoD (by rw [hdD]; exact pastItsLine_dict (Nat.le_trans hcD (by rw [List.length_cons]; omega))) ?_)
 exact wpAny_pure (h _ ⟨(hs2.2 _ (Ne.symm I.ne)).trans I.obj,hn2,I.ne⟩ hs2)
theorem make_map {R:Result->Shared->Prop} {vs:List Value} {kw:List (Str×Value)} (X:K.In s.heap) (hm:W.makesIn K C=true)
  (hi:W.findIn K (.ref C) "__init__" = some (some (.ref f))) (hf:W.typeIn K (.ref f)=some (.type "function"))
  (h:codeAny (model prog w) (A.under (.builtin "type.__call__" ⟨.ref C :: vs,kw⟩)) (.call (.ref f) ⟨.ref (s.heap.objs.size+1) :: vs,kw⟩) (W.InitBack (s.heap.objs.size+1) R)
   { s with heap:=(s.heap.push W.emptyDict).push (W.instObj C s.heap.objs.size) }) :
  codeAny (model prog w) A (.call (.ref C) ⟨vs,kw⟩) R s:=by
 obtain ⟨hh,g,d,t,os⟩:=s
 exact W.make_core (W.makes_of X hm) (W.looks_findIn X hi) (fun self=>W.bind_fn X self hf) (.inl rfl) h
end
def putF (f:Str) (v:V):List (Str×V)->List (Str×V)
 | []=>[(f,v)]
 | (g,x) :: r=>if g=f then (g,v) :: r else (g,x) :: putF f v r
theorem lookup_putF (f g:Str) (v:V):∀fs:List (Str×V),(putF f v fs).lookup g=if g=f then some v else fs.lookup g
 | []=>by
  show List.lookup g [(f,v)]=_
  by_cases h:g=f
  ·have hb:(g == f)=true:=beq_iff_eq.mpr h
   simp only [List.lookup,hb,if_pos h]
  ·have hb:(g == f)=false:=beq_eq_false_iff_ne.mpr h
   simp only [List.lookup,hb,if_neg h]
 | (k,x) :: r=>by
  have ih:=lookup_putF f g v r
  rw [show putF f v ((k,x) :: r)=(if k=f then (k,v) :: r else (k,x) :: putF f v r) from rfl]
  by_cases hk:k=f
  ·rw [if_pos hk]
   by_cases h:g=k
   ·have hb:(g == k)=true:=beq_iff_eq.mpr h
    simp only [List.lookup,hb,if_pos (h.trans hk)]
   ·have hb:(g == k)=false:=beq_eq_false_iff_ne.mpr h
    simp only [List.lookup,hb,if_neg (fun e:g=f=>h (e.trans hk.symm))]
  ·rw [if_neg hk]
   by_cases h:g=k
   ·have hb:(g == k)=true:=beq_iff_eq.mpr h
    simp only [List.lookup,hb,if_neg (fun e:g=f=>hk (h.symm.trans e))]
   ·have hb:(g == k)=false:=beq_eq_false_iff_ne.mpr h
    simp only [List.lookup,hb]
    exact ih
theorem keys_putF (f:Str) (v:V):∀fs:List (Str×V),f∈(putF f v fs).map (·.1)/\∀g,g∈fs.map (·.1)->g∈(putF f v fs).map (·.1)
 | []=>⟨by simp [putF],fun g h=>by simp at h⟩
 | (k,x) :: r=>by
  obtain ⟨i1,i2⟩:=keys_putF f v r
  rw [show putF f v ((k,x) :: r)=(if k=f then (k,v) :: r else (k,x) :: putF f v r) from rfl]
  by_cases hk:k=f
  ·rw [if_pos hk]
   subst hk
   exact ⟨by simp,fun g h=>by simpa using h⟩
  ·rw [if_neg hk]
   refine ⟨?_,fun g h=>?_⟩
   ·rw [List.map_cons]
    exact List.mem_cons_of_mem _ i1
   ·rw [List.map_cons] at h ⊢
    rcases List.mem_cons.mp h with e | e
    ·exact List.mem_cons.mpr (.inl e)
    ·exact List.mem_cons_of_mem _ (i2 g e)
theorem length_putF (f:Str) (v:V):∀fs:List (Str×V),(putF f v fs).length<=fs.length+1
 | []=>by simp [putF]
 | (k,x) :: r=>by
  have ih:=length_putF f v r
  rw [show putF f v ((k,x) :: r)=(if k=f then (k,v) :: r else (k,x) :: putF f v r) from rfl]
  by_cases hk:k=f
  ·rw [if_pos hk,List.length_cons,List.length_cons]; omega
  ·rw [if_neg hk,List.length_cons,List.length_cons]; omega
theorem RelO.some_of {v:V} {o:Option Value} (r:RelO (some v) o):∃u,o=some u/\RelV v u:=by
 cases o with
 | none=>exact (show False from r).elim
 | some u=>exact ⟨u,rfl,r⟩
theorem RelO.none_of {o:Option Value} (r:RelO none o):o=none:=by
 cases o with
 | none=>rfl
 | some u=>exact (show False from r).elim
theorem handed_of {v:V} {u:Value} (r:RelV v u):W.handedIn u=true:=by
 cases v with
 | non=>cases (show u=Value.none from r); rfl
 | bl b=>cases (show u=Value.bool b from r); rfl
 | int i=>obtain ⟨t,e⟩:=(show ∃t,u=Value.int i t from r); cases e; rfl
 | str x=>obtain ⟨t,e⟩:=(show ∃t,u=Value.str x t from r); cases e; rfl
 | byt b=>obtain ⟨t,e⟩:=(show ∃t,u=Value.bytes b t from r); cases e; rfl
 | flt b=>obtain ⟨t,e⟩:=(show ∃t,u=Value.float b t from r); cases e; rfl
 | ref a=>cases (show u=Value.ref a from r); rfl
 | ty n=>cases (show u=Value.type n from r); rfl
section
variable {P:Program} {w:World} {H H':Hp} {h h':Heap} {a C dx:Addr} {fs fs':List (Str×V)}
theorem ins_get (hok:HOk P w H h) (e:H a=some (.ins C dx fs)):∃mA,ObjM h a dx C mA/\(∀f,RelO (fs.lookup f) (mA f))/\PySem.Within mA (fs.map (·.1))/\fs.length<=1000/\H dx=some (.own a):=by
 obtain ⟨d,z,ne,ob,mA,n,r,q⟩:=(show ObjOk P w H h a (.ins C dx fs) from hok a _ e)
 exact ⟨mA,⟨ob,n,ne⟩,r,q,z,d⟩
end
structure Cls (K:W.Frag) (C:Addr):Prop where
 pg:W.plainGet K C Str.empty=true
 hd:W.hasDictIn K C=true
 po:W.plainOver K C=true
 sa:W.findIn K (.ref C) "__setattr__" = some (some (.builtin "object.__setattr__"))
theorem Cls.get {K:W.Frag} {C:Addr} (c:Cls K C) (f:Str):W.plainGet K C f=true:=c.pg
def NoAttr (K:W.Frag) (C:Addr) (f:Str):Prop:=W.findIn K (.ref C) f=some none
theorem NoAttr.taker {K:W.Frag} {C:Addr} {f:Str} (n:NoAttr K C f):W.takerIn K C f=some none:=by
 unfold W.takerIn
 rw [show W.findIn K (.ref C) f=some none from n]
 rfl
structure Con (K:W.Frag) (C:Addr) (f:Str) (v:V) (u:Value):Prop where
 at_:W.findIn K (.ref C) f=some (some u)
 rel:RelV v u
 get:W.specialIn K u "__get__" = some none
 cp:W.copiedNames.contains f=false
structure Meth (K:W.Frag) (C:Addr) (m:Str) (f:Addr):Prop where
 at_:W.findIn K (.ref C) m=some (some (.ref f))
 fn:W.isFn K (.ref f)=true
 kp:W.keepIn K (.ref f)=true
section
variable {X:Cx} {pins:List (Addr×Obj)} {σ:St} {H:Hp} {s:Shared} {a C dx:Addr} {fs:List (Str×V)} {f:Str} {v:V} {A:Around} {E:Value->Shared->Prop}
theorem getattr_ok {b:Bool} {Q:Value->Shared->Prop} (I:Inv X pins σ H s) (e:H a=some (.ins C dx fs)) (c:Cls X.K C) (n:NoAttr X.K C f) (l:fs.lookup f=some v)
  (h:∀u s',Inv X pins σ H s'->RelV v u->Q u s'):wpAny (model X.prog X.w) A (getAttr (.ref a) f b) Q E s:=by
 obtain ⟨mA,O,r,_,_,_⟩:=ins_get I.hok e
 obtain ⟨u,hu,ru⟩:=RelO.some_of (v:=v) (o:=mA f) (by rw [<-l]; exact r f)
 exact get_map I.kIn O (c.get f) c.hd n hu (handed_of ru) (h u _ (I.tok _) ru)
theorem getmeth_ok {m:Str} {g:Addr} {pl:Sem Bool} {Q:Value×List Value->Shared->Prop} (I:Inv X pins σ H s) (e:H a=some (.ins C dx fs)) (c:Cls X.K C) (k:Meth X.K C m g) (l:fs.lookup m=none)
  (h:Q (.ref g,[.ref a]) s):wpAny (model X.prog X.w) A (getMethod (.ref a) m pl) Q E s:=by
 obtain ⟨mA,O,r,_,_,_⟩:=ins_get I.hok e
 have hn:mA m=none:=RelO.none_of (by rw [<-l]; exact r m)
 exact get_meth I.kIn O (c.get m) k.at_ k.fn hn h
theorem setattr_ok {y:V} {u:Value} {Q:Unit->Shared->Prop} (I:Inv X pins σ H s) (e:H a=some (.ins C dx fs)) (c:Cls X.K C) (n:NoAttr X.K C f) (hl:fs.length<1000) (ry:RelV y u)
  (h:∀s',Inv X pins σ (upd H a (.ins C dx (putF f y fs))) s'->Q () s'):wpAny (model X.prog X.w) A (setAttr (.ref a) f u) Q E s:=by
 obtain ⟨mA,O,r,wi,_,ho⟩:=ins_get I.hok e
 have hz:(fs.map (·.1)).length<=sizeLine:=by rw [List.length_map,sizeLine_eq]; omega
 refine set_map I.kIn O c.sa c.po n.taker c.hd wi hz fun h' O' sb=>h _ ?_
 have hd:∃o,h'.get? dx=some o:=let ⟨o,_,_,e',_⟩:=O'.ns; ⟨o,e'⟩
 refine I.write (x:=a) (e:=dx) (by rw [e]; exact True.intro) (.inr ho) (fun b q hb z=>(sb.2 b hb).trans z) hd ?_
 refine ⟨by rw [upd_ne O.ne]; exact ho,?_,O.ne,O'.obj,_,O'.ns,fun g=>?_,fun g hg=>?_⟩
 ·have:=length_putF f y fs; omega
 ·show RelO ((putF f y fs).lookup g) (if g=f then some u else mA g)
  rw [lookup_putF]
  by_cases q:g=f
  ·rw [if_pos q,if_pos q]; exact ry
  ·rw [if_neg q,if_neg q]; exact r g
 ·by_cases q:g=f
  ·rw [q]; exact (keys_putF f y fs).1
  ·refine (keys_putF f y fs).2 g (wi g fun z=>hg ?_)
   show (if g=f then some u else mA g)=none
   rw [if_neg q]; exact z
theorem Inv.made (I:Inv X pins σ H s):Inv X pins σ (upd (upd H s.heap.objs.size (.own (s.heap.objs.size+1))) (s.heap.objs.size+1) (.ins C s.heap.objs.size []))
  { s with heap:=(s.heap.push W.emptyDict).push (W.instObj C s.heap.objs.size) }:=by
 have e1:(s.heap.push W.emptyDict).get? s.heap.objs.size=some W.emptyDict:=Heap.get?_push_size s.heap rfl
 have e2:((s.heap.push W.emptyDict).push (W.instObj C s.heap.objs.size)).get? (s.heap.objs.size+1)=some (W.instObj C s.heap.objs.size):=by
  have:=Heap.get?_push_size (s.heap.push W.emptyDict) (o:=W.instObj C s.heap.objs.size) rfl
  rwa [Heap.size_push] at this
 have e3:(s.heap.push W.emptyDict).Ns s.heap.objs.size (fun _=>none):=⟨W.emptyDict,#[],_,e1,rfl,(fun e he=>absurd he (by simp)),fun _=>rfl⟩
 have I1:=I.laid (a:=s.heap.objs.size) (o:=.own (s.heap.objs.size+1)) (h':=s.heap.push W.emptyDict) (t':=s.toks) (fun b u q=>Heap.get?_push_of_some _ q) (Nat.le_refl _) ⟨_,e1⟩
 refine I1.laid (a:=s.heap.objs.size+1) (o:=.ins C s.heap.objs.size []) (t':=s.toks) (fun b u q=>Heap.get?_push_of_some _ q) (Nat.le_of_eq (Heap.size_push _ _)) ?_
 have ne:s.heap.objs.size≠s.heap.objs.size+1:=Nat.ne_of_lt (Nat.lt_succ_self _)
 refine ⟨by rw [upd_ne ne,upd_same],Nat.zero_le _,ne,e2,fun _=>none,(Heap.Ns1.of_empty e3).at fun o q=>Heap.get?_push_of_some _ q,fun _=>True.intro,fun y hy=>absurd rfl hy⟩
theorem attr_of {prog:Program} {w:World} {env:Env} {e:Expr} {f:Str} {pos:Pos} {s:Shared} {Q:Value->Shared->Prop} (hb:attributeBase e f env (eval e env)=eval e env)
  (h:wpAny (model prog w) A (eval e env) (fun o s₁=>wpAny (model prog w) A (getAttr o f true) Q E s₁) E s):wpAny (model prog w) A (eval (.Attribute e f pos) env) Q E s:=
 Attribute_any_ h (by rw [arm_eval_Attribute,hb])
end
def tFld (K:W.Frag) (ta:TE) (f:Str):TE:=fun σ H Q=>ta σ H fun x H1=>∃a C dx fs v,x = .ref a/\H1 a=some (.ins C dx fs)/\Cls K C/\NoAttr K C f/\fs.lookup f=some v/\Q v H1
def tCon (K:W.Frag) (ta:TE) (f:Str):TE:=fun σ H Q=>ta σ H fun x H1=>∃a C dx fs v u,x = .ref a/\H1 a=some (.ins C dx fs)/\Cls K C/\Con K C f v u/\fs.lookup f=none/\Q v H1
def sFld (K:W.Frag) (ta tv:TE) (f:Str):TS:=fun D σ H=>tv σ H fun y H1=>ta σ H1 fun x H2=>∃a C dx fs,x = .ref a/\H2 a=some (.ins C dx fs)/\Cls K C/\NoAttr K C f/\fs.length<1000 /\
 D.nx σ (upd H2 a (.ins C dx (putF f y fs)))
def InOp (X:Cx) (op:Operator) (rd:V->V->Hp->VK->Prop):Prop:=
 ∀(pins:List (Addr×Obj)) (s:Shared) (σ:St) (H:Hp) (x y:V) (u v:Value) (Q:VK),Inv X pins σ H s->RelV x u->RelV y v->rd x y H Q->wpAny (model X.prog X.w) X.A (inplaceOp op u v) (EP X pins σ Q) X.xe s
def sFldAug (K:W.Frag) (ta tv:TE) (rd:V->V->Hp->VK->Prop) (f:Str):TS:=fun D σ H=>ta σ H fun x H1=>∃a C dx fs v,x = .ref a/\H1 a=some (.ins C dx fs)/\Cls K C/\NoAttr K C f/\fs.lookup f=some v /\
 tv σ H1 fun y H2=>rd v y H2 fun z H3=>∃dx' fs',H3 a=some (.ins C dx' fs')/\fs'.length<1000/\D.nx σ (upd H3 a (.ins C dx' (putF f z fs')))
section
variable {X:Cx} {o e value:Expr} {f:Str} {pos pos' tpos:Pos} {ta tv:TE}
theorem pe_fld (he:PE X e ta) (hb:attributeBase e f X.env (eval e X.env)=eval e X.env):PE X (.Attribute e f pos) (tFld X.K ta f):=by
 intro pins s σ H Q I h
 refine attr_of hb (thn (he pins s σ H _ I h) fun u s1 ⟨x,H1,I1,rx,a,C,dx,fs,v,ex,ea,c,n,l,q⟩=>?_)
 subst ex
 obtain rfl:u=Value.ref a:=rx
 exact getattr_ok I1 ea c n l fun u' s2 I2 ru=>⟨v,H1,I2,ru,q⟩
theorem ps_fld (ha:PE X o ta) (hv:PE X value tv) (hs:swapsWith value (some (.Attribute o f pos')) pos.line X.env=pure false):PS X (.Assign [.Attribute o f pos'] value pos) (sFld X.K ta tv f):=by
 intro pins s σ H D I h
 refine plainObj_wpAny_Assign_Attribute (thn (hv pins s σ H _ I h) fun u s1 ⟨y,H1,I1,ry,q⟩=>thn (ha pins s1 σ H1 _ I1 q) fun ov s2 ⟨x,H2,I2,rx,a,C,dx,fs,ex,ea,c,n,l,q2⟩=>?_) hs
 subst ex
 obtain rfl:ov=Value.ref a:=rx
 exact setattr_ok I2 ea c n l ry fun s3 I3=>⟨σ,_,I3,q2⟩
def rAdd:V->V->Hp->VK->Prop:=fun x y H Q=>∃i j,x = .int i/\y = .int j/\Q (.int (i+j)) H
def rSub:V->V->Hp->VK->Prop:=fun x y H Q=>∃i j,x = .int i/\y = .int j/\Q (.int (i - j)) H
end
section
variable {X:Cx} {pins:List (Addr×Obj)} {σ:St} {H:Hp} {s:Shared} {A:Around} {E:Value->Shared->Prop} {Q:Value->Shared->Prop} {c:Value} {b:Bool}
inductive TyOf (K:W.Frag) (H:Hp):V->Value->Prop where
 | non:TyOf K H .non (.type "NoneType")
 | bl (x:Bool):TyOf K H (.bl x) (.type "bool")
 | int (i:Int):TyOf K H (.int i) (.type "int")
 | str (x:Str):TyOf K H (.str x) (.type "str")
 | flt (x:UInt64):TyOf K H (.flt x) (.type "float")
 | lst {a:Addr} {xs:List V} (e:H a=some (.lst xs)):TyOf K H (.ref a) (.type "list")
 | frz {a:Addr} {o:Obj} {xs:List V} (e:H a=some (.frz o (.lst xs))):TyOf K H (.ref a) (.type "list")
 | tup {a:Addr} {xs:List V} (e:H a=some (.tup xs)):TyOf K H (.ref a) (.type "tuple")
 | dK {a:Addr} {kvs:List (Key×V)} (e:H a=some (.dK kvs)):TyOf K H (.ref a) (.type "dict")
 | dT {a:Addr} {kvs:List (List Key×V)} (e:H a=some (.dT kvs)):TyOf K H (.ref a) (.type "dict")
 | ins {a C dx:Addr} {fs:List (Str×V)} (e:H a=some (.ins C dx fs)) (cl:Cls K C) (ha:W.findIn K (.ref C) "__class__" = some (some (.builtin "object.__class__")))
   (hn:W.specialIn K (.builtin "object.__class__") "__get__" = some (some (.builtin "getset_descriptor.__get__"))) (htk:W.takesIn K (.builtin "object.__class__")=some true)
   (hm:W.mroIn K C (.type "object")=some true):TyOf K H (.ref a) (.ref C)
theorem isinst_ok {x:V} {u t:Value} (I:Inv X pins σ H s) (rx:RelV x u) (ty:TyOf X.K H x t) (e:W.kitOne X.K t c=some b) (h:∀tk,Q (.bool b) { s with toks:=tk }) :
  wpAny (model X.prog X.w) A (call (.builtin "isinstance") [u,c]) Q E s:=by
 cases ty with
 | non=>cases (show u=Value.none from rx); exact W.kia_one W.kitx_none I.kIn True.intro e (fun z=>nomatch z) h
 | bl y=>cases (show u=Value.bool y from rx); exact W.kia_one W.kitx_bool I.kIn True.intro e (fun z=>nomatch z) h
 | int i=>obtain ⟨t,q⟩:=(show ∃t,u=Value.int i t from rx); cases q; exact W.kia_one W.kitx_int I.kIn True.intro e (fun z=>nomatch z) h
 | str y=>obtain ⟨t,q⟩:=(show ∃t,u=Value.str y t from rx); cases q; exact W.kia_one W.kitx_str I.kIn True.intro e (fun z=>nomatch z) h
 | flt y=>obtain ⟨t,q⟩:=(show ∃t,u=Value.float y t from rx); cases q; exact W.kia_one W.kitx_float I.kIn True.intro e (fun z=>nomatch z) h
 | @lst a xs ea=>
  cases (show u=Value.ref a from rx)
  obtain ⟨_,_,n,_,h1⟩:=(show ObjOk X.prog X.w H s.heap a (.lst xs) from I.hok a _ ea)
  exact W.kia_one W.kitx_list I.kIn ⟨_,h1,rfl⟩ e (fun z=>nomatch z) h
 | @frz a ob xs ea=>
  cases (show u=Value.ref a from rx)
  obtain ⟨_,_,_,n,_,h1⟩:=(show ObjOk X.prog X.w H s.heap a (.frz ob (.lst xs)) from I.hok a _ ea)
  exact W.kia_one W.kitx_list I.kIn ⟨_,h1,rfl⟩ e (fun z=>nomatch z) h
 | @tup a xs ea=>
  cases (show u=Value.ref a from rx)
  obtain ⟨_,_,_,p⟩:=(show ObjOk X.prog X.w H s.heap a (.tup xs) from I.hok a _ ea)
  obtain ⟨o,h1,h2,_⟩:=p
  exact W.kia_one W.kitx_tuple I.kIn ⟨o,h1,h2⟩ e (fun z=>nomatch z) h
 | @dK a kvs ea=>
  cases (show u=Value.ref a from rx)
  obtain ⟨_,_,vs,_,p⟩:=(show ObjOk X.prog X.w H s.heap a (.dK kvs) from I.hok a _ ea)
  obtain ⟨o,es,ep,h1,h2,_⟩:=p
  exact W.kia_one W.kitx_dict I.kIn ⟨o,h1,h2.1⟩ e (fun z=>nomatch z) h
 | @dT a kvs ea=>
  cases (show u=Value.ref a from rx)
  obtain ⟨_,_,xs,_,o,es,ep,h1,h2,_⟩:=(show ObjOk X.prog X.w H s.heap a (.dT kvs) from I.hok a _ ea)
  exact W.kia_one W.kitx_dict I.kIn ⟨o,h1,h2.1⟩ e (fun z=>nomatch z) h
 | @ins a C dx fs ea cl ha hn htk hm=>
  cases (show u=Value.ref a from rx)
  obtain ⟨mA,O,_⟩:=ins_get I.hok ea
  obtain ⟨od,J,_⟩:=O.look
  exact W.kia_one (W.kitx_own (cl.get _) cl.hd ha hn htk hm) I.kIn J e (fun z=>nomatch z) h
end
end L2
namespace L2
open PySem PySem.Spec PyProof.Rows
structure Room (k:Nat) (A:Around):Prop where
 hd:A.handled=none
 dp:A.depth+3*k+5<recursionLimit
 un:A.units+16*k+200<cLine
theorem Room.mono {j k:Nat} {A:Around} (r:Room k A) (h:j<=k):Room j A:=⟨r.hd,by have:=r.dp; omega,by have:=r.un; omega⟩
theorem Room.deeper {k:Nat} {A:Around} (r:Room (k+1) A) (env:Env):Room k (A.deeper env):=
 ⟨r.hd,by have:=r.dp; show A.depth+1+3*k+5<_; omega,by have:=r.un; show A.units+3+16*k+200<_; omega⟩
theorem make_depth {A:Around} {C:Addr} {us:List Value} {kw:List (Str×Value)}:(A.under (.builtin "type.__call__" ⟨.ref C :: us,kw⟩)).depth=A.depth+1:=by
 first | rfl | simp [Around.under,Code.weight,Code.isCreation,Code.isGuard,Code.isCaller,Code.frames,Code.isFrame,guardIds]
theorem make_units {A:Around} {C:Addr} {us:List Value} {kw:List (Str×Value)}:(A.under (.builtin "type.__call__" ⟨.ref C :: us,kw⟩)).units=A.units+1:=by
 first | rfl | simp [Around.under,Code.cUnits,Code.frames,Code.isFrame]
theorem Room.make {k:Nat} {A:Around} (r:Room (k+1) A) (C:Addr) (us:List Value) (kw:List (Str×Value)):Room k (A.under (.builtin "type.__call__" ⟨.ref C :: us,kw⟩)):=
 ⟨r.hd,by have:=r.dp; rw [make_depth]; omega,by have:=r.un; rw [make_units]; omega⟩
theorem Room.depth {k:Nat} {A:Around} (r:Room k A):A.depth<recursionLimit:=by have:=r.dp; omega
theorem Room.units {k:Nat} {A:Around} (r:Room k A):A.units+64<cLine:=by have:=r.un; omega
def tNil:TA:=fun _ H Q=>Q [] H
def tCons (ta:TE) (tr:TA):TA:=fun σ H Q=>ta σ H fun x H1=>tr σ H1 fun xs H2=>Q (x :: xs) H2
section
variable {X:Cx} {e:Expr} {es:List Expr} {te:TE} {t:TA} {pos:Pos}
theorem pa_nil:PA X [] tNil:=fun _ _ _ _ H Q I h=>Calls.spliced_nil ⟨[],H,I,.nil,h⟩
theorem pa_cons (ha:PE X e te) (hr:PA X es t) (hs:starEach (e :: es) X.env=(false,eval e X.env) :: starEach es X.env:=by rfl):PA X (e :: es) (tCons te t):=by
 intro pos pins s σ H Q I h
 rw [hs]
 show wpAny _ _ (spliced ((false,eval e X.env) :: backTo pos (starEach es X.env))) _ _ s
 refine Calls.spliced_cons (thn (ha pins s σ H _ I h) fun u s1 ⟨x,H1,I1,r1,q1⟩=>?_)
 exact thn (hr pos pins s1 σ H1 _ I1 q1) fun us s2 ⟨xs,H2,I2,r2,q2⟩=>⟨x :: xs,H2,I2,.cons r1 r2,q2⟩
def tTup (t:TA):TE:=fun σ H Q=>t σ H fun xs H1=>xs.length<=sizeLine/\∀p,H1 p=none->Q (.ref p) (upd H1 p (.tup xs))
def tLst (t:TA):TE:=fun σ H Q=>t σ H fun xs H1=>xs.length<=sizeLine/\∀p,H1 p=none->Q (.ref p) (upd H1 p (.lst xs))
theorem pe_tup {x1} (h:PA X es t):PE X (.Tuple es x1 pos) (tTup t):=by
 intro pins s σ H Q I hq
 refine wpAny_Tuple_spliced (thn (h pos pins s σ H _ I hq) fun us s1 ⟨xs,H1,I1,r,z,q⟩=>⟨by rw [<-r.length]; exact z,?_⟩)
 have hf:H1 s1.heap.objs.size=none:=I1.hok.fresh (Nat.le_refl _)
 refine ⟨.ref s1.heap.objs.size,upd H1 s1.heap.objs.size (.tup xs),I1.laid (t':=s1.toks) (fun b u e=>Heap.get?_push_of_some _ e) (Nat.le_refl _) ?_,rfl,q _ hf⟩
 exact ⟨z,us,r,⟨_,Heap.get?_push_size _ rfl,rfl,_,rfl⟩⟩
end
abbrev Sp:=List V->Hp->VK->XK->Prop
abbrev CXT:=List Env->Hp->Shared->XK->Value->Shared->Prop
structure Env0 (P:Program) (w:World) (K:W.Frag) (mg:Str->Option Value) (base:Heap) (A:Around) (outer:List Env) (s:Shared) (H:Hp):Prop where
 frames:A.frames=some outer
 mod:Mod K mg base
 bs:∀b o,base.get? b=some o->s.heap.get? b=some o/\H b=none
 bsz:base.objs.size<=s.heap.objs.size
 funs:s.heap.FunFrames base outer
 frf:∀b∈frs outer,H b=none
 hok:HOk P w H s.heap
 bare:AllBare s.gens
def CE (outer:List Env) (P:Program) (w:World) (H:Hp) (s:Shared) (Q:VK) (u:Value) (s':Shared):Prop:=
 ∃v H',s'.os=s.os/\AllBare s'.gens/\Un (frs outer) [] H H' s.heap s'.heap/\HOk P w H' s'.heap/\RelV v u/\Q v H'
def CR (CX:CXT) (outer:List Env) (P:Program) (w:World) (H:Hp) (s:Shared) (Q:VK) (E:XK) (r:Result) (s':Shared):Prop:=
 match r with
 | .ok (.ret u)=>CE outer P w H s Q u s'
 | .ok _=>False
 | .error e=>CX outer H s E e s'
structure FnOk (P:Program) (w:World) (K:W.Frag) (mg:Str->Option Value) (base:Heap) (CX:CXT) (k:Nat) (f:Addr) (fd:FuncData) (ps:List Str) (sp:Sp):Prop where
 len:∀vs H Q E,sp vs H Q E->vs.length=ps.length
 run:∀(A:Around) (outer:List Env) (s:Shared) (H:Hp) (args:Args) (us:List Value) (vs:List V) (Q:VK) (E:XK),Room k A->Env0 P w K mg base A outer s H->BindsTo s fd args (ps.zip us)->Vals vs us->sp vs H Q E ->
  codeAny (model P w) A (.call (.ref f) args) (CR CX outer P w H s Q E) s
theorem FnOk.imp {P:Program} {w:World} {K:W.Frag} {mg:Str->Option Value} {base:Heap} {CX:CXT} {k:Nat} {f:Addr} {fd:FuncData} {ps:List Str} {sp sp':Sp} (F:FnOk P w K mg base CX k f fd ps sp)
  (h:∀vs H Q E,sp' vs H Q E->sp vs H Q E):FnOk P w K mg base CX k f fd ps sp':=
 ⟨fun vs H Q E q=>F.len vs H Q E (h _ _ _ _ q),fun A outer s H args us vs Q E hr he hb hv hs=>F.run A outer s H args us vs Q E hr he hb hv (h _ _ _ _ hs)⟩
theorem Env0.make {P:Program} {w:World} {K:W.Frag} {mg:Str->Option Value} {base:Heap} {A:Around} {outer:List Env} {s:Shared} {H:Hp} (e:Env0 P w K mg base A outer s H) (C:Addr) (us:List Value) (kw:List (Str×Value)) :
  Env0 P w K mg base (A.under (.builtin "type.__call__" ⟨.ref C :: us,kw⟩)) outer s H:=⟨by first | exact e.frames | (simpa [Around.under,Code.envs,Code.isFrame,pushEnvs] using e.frames),e.mod,e.bs,e.bsz,e.funs,e.frf,e.hok,e.bare⟩
section
variable {X:Cx} {pins:List (Addr×Obj)} {σ:St} {H:Hp} {s s':Shared}
theorem Inv.env0 (I:Inv X pins σ H s):Env0 X.prog X.w X.K X.mg X.base X.A X.stack s H:=
 ⟨I.ok.frames,I.ok.mod,I.bs,Nat.le_trans I.ok.bsz I.sz,I.stack,I.stkFree,I.hok,I.bare⟩
theorem Inv.after {Q:VK} {u:Value} (I:Inv X pins σ H s) (h:CE X.stack X.prog X.w H s Q u s'):EP X pins σ Q u s':=by
 obtain ⟨v,H',os,bare,un,hok,r,q⟩:=h
 obtain ⟨hh,g,d,t,os'⟩:=s'
 obtain rfl:os'=s.os:=os
 exact ⟨v,H',I.call (h':=hh) (g':=g) (d':=d) (t':=t) (ch:=[]) un hok bare (fun b z=>absurd z (by simp)),r,q⟩
end
def tCall (sp:Sp) (dvs:List V) (E:XK) (t:TA):TE:=fun σ H Q=>t σ H fun vs H1=>sp (vs++dvs) H1 Q E
def tMeth (C:Addr) (m:Str) (sp:Sp) (dvs:List V) (E:XK) (ta:TE) (t:TA):TE:=fun σ H Q=>ta σ H fun x H1=>∃a dx fs,x = .ref a/\H1 a=some (.ins C dx fs)/\fs.lookup m=none /\
 t σ H1 fun vs H2=>sp (x :: (vs++dvs)) H2 Q E
def tMake (C:Addr) (sp:Sp) (dvs:List V) (E:XK) (t:TA):TE:=fun σ H Q=>t σ H fun vs H1=>∀x dx,H1 x=none->H1 dx=none->dx≠x ->
 sp (.ref x :: (vs++dvs)) (upd (upd H1 dx (.own x)) x (.ins C dx [])) (fun v H2=>v = .non/\Q (.ref x) H2) E
def Binds (K:W.Frag) (fd:FuncData) (ps:List Str) (ds:List Value):Prop:=
 ∀(s:Shared) (us:List Value),K.In s.heap->(us++ds).length=ps.length->BindsTo s fd ⟨us,[]⟩ (ps.zip (us++ds))
theorem Binds.all {K:W.Frag} {fd:FuncData} {ps:List Str} (h:∀us:List Value,us.length=ps.length->bindArgs fd ⟨us,[]⟩=pure (ps.zip us)):Binds K fd ps []:=fun s us _ hl=>by
 rw [List.append_nil] at hl ⊢
 exact .of_eq (h us hl)
def Passes (CX:CXT) (X:Cx) (E:XK):Prop:=∀(pins:List (Addr×Obj)) (σ:St) (H:Hp) (s:Shared) (e:Value) (s':Shared),Inv X pins σ H s->CX X.stack H s E e s'->X.xe e s'
section
variable {X:Cx} {CX:CXT} {k:Nat} {f C:Addr} {fd:FuncData} {ps:List Str} {sp:Sp} {dvs:List V} {ds:List Value} {E:XK} {x m:Str} {p pos apos:Pos} {e o:Expr} {es:List Expr} {ta:TE} {t:TA}
theorem run_fn {pins:List (Addr×Obj)} {σ:St} {H:Hp} {s:Shared} {Q:VK} {us:List Value} {vs:List V} (F:FnOk X.prog X.w X.K X.mg X.base CX k f fd ps sp) (hr:Room k X.A) (hb:Binds X.K fd ps ds) (hd:Vals dvs ds) (hx:Passes CX X E)
  (I:Inv X pins σ H s) (r:Vals vs us) (h:sp (vs++dvs) H Q E):wpAny (model X.prog X.w) X.A (call (.ref f) us) (EP X pins σ Q) X.xe s:=by
 have r2:Vals (vs++dvs) (us++ds):=r.append hd
 have hl:(us++ds).length=ps.length:=by rw [<-r2.length]; exact F.len _ _ _ _ h
 refine wpAny_call (codeAny_mono (F.run X.A X.stack s H ⟨us,[]⟩ (us++ds) (vs++dvs) Q E hr I.env0 (hb s us I.kIn hl) r2 h) fun r s' hq=>?_)
 cases r with
 | error e=>exact hx pins σ H s e s' I hq
 | ok fl=>
  cases fl with
  | ret u=>exact I.after hq
  | next=>exact False.elim hq
  | brk=>exact False.elim hq
  | cont=>exact False.elim hq
theorem pe_call (F:FnOk X.prog X.w X.K X.mg X.base CX k f fd ps sp) (hr:Room k X.A) (hg:Gl X x) (hm:X.mg x=some (.ref f)) (hk:W.keepIn X.K (.ref f)=true) (hb:Binds X.K fd ps ds) (hd:Vals dvs ds) (hx:Passes CX X E)
  (ha:PA X (e :: es) t) (hdb:(x == ("__debug__" : Str))=false:=by decide) (he:starEach (e :: es) X.env=(false,eval e X.env) :: starEach es X.env:=by rfl) (hpl:(backTo pos (starEach es X.env)).any (·.1)=false:=by rfl) :
  PE X (.Call (.Name x p) (e :: es) [] pos) (tCall sp dvs E t):=by
 intro pins s σ H Q I h
 refine wpAny_Call_Name_kw (ld_glob I hg hm ?_ hdb)
 refine W.callWith_K (h₀:=X.base) I.ok.mod.kin hk (thn (ha pos pins s σ H _ I h) fun us s1 ⟨vs,H1,I1,r,q⟩=>⟨I1.kIn,?_⟩) he hpl
 exact run_fn F hr hb hd hx I1 r q
theorem pe_meth {pl:Sem Bool} (he:PE X o ta) (c:Cls X.K C) (hm:Meth X.K C m f) (F:FnOk X.prog X.w X.K X.mg X.base CX k f fd ps sp) (hr:Room k X.A) (hb:Binds X.K fd ps ds) (hd:Vals dvs ds) (hx:Passes CX X E) (ha:PA X (e :: es) t)
  (hst:starEach (e :: es) X.env=(false,eval e X.env) :: starEach es X.env:=by rfl) (hpl:(backTo pos (starEach es X.env)).any (·.1)=false:=by rfl)
  (ht:eval (.Call (.Attribute o m apos) (e :: es) [] pos) X.env=(do
   let ov <-eval o X.env
   standAt apos.atName
   let (f,first) <-holding [ov] (getMethod ov m pl)
   callWith pos f first (backTo pos (starEach (e :: es) X.env)) (backToKw pos (keywordEach [] X.env))):=by rfl) :
  PE X (.Call (.Attribute o m apos) (e :: es) [] pos) (tMeth C m sp dvs E ta t):=by
 intro pins s σ H Q I h
 refine W.methodCall_KW (pl:=pl) (thn (he pins s σ H _ I h) fun u s1 ⟨x,H1,I1,rx,a,dx,fs,ex,ea,l,q⟩=>?_) ht
 subst ex
 obtain rfl:u=Value.ref a:=rx
 refine getmeth_ok I1 ea c hm l ?_
 refine W.callWith_K (first:=[.ref a]) (h₀:=X.base) I.ok.mod.kin hm.kp (thn (ha pos pins s1 σ H1 _ I1 q) fun us s2 ⟨vs,H2,I2,r,q2⟩=>⟨I2.kIn,?_⟩) hst hpl
 exact run_fn (us:=.ref a :: us) (vs:=.ref a :: vs) F hr hb hd hx I2 (.cons rfl r) q2
structure Mk (K:W.Frag) (C f:Addr):Prop where
 makes:W.makesIn K C=true
 init:W.findIn K (.ref C) "__init__" = some (some (.ref f))
 fn:W.isFn K (.ref f)=true
 kp:W.keepIn K (.ref C)=true
theorem run_make {pins:List (Addr×Obj)} {σ:St} {H:Hp} {s:Shared} {Q:VK} {us:List Value} {vs:List V} (M:Mk X.K C f) (F:FnOk X.prog X.w X.K X.mg X.base CX k f fd ps sp) (hr:Room (k+1) X.A) (hb:Binds X.K fd ps ds) (hd:Vals dvs ds)
  (hx:Passes CX X E) (I:Inv X pins σ H s) (r:Vals vs us)
  (h:∀x dx,H x=none->H dx=none->dx≠x->sp (.ref x :: (vs++dvs)) (upd (upd H dx (.own x)) x (.ins C dx [])) (fun v H2=>v = .non/\Q (.ref x) H2) E) :
  wpAny (model X.prog X.w) X.A (call (.ref C) us) (EP X pins σ Q) X.xe s:=by
 have hq:=h (s.heap.objs.size+1) s.heap.objs.size (I.hok.fresh (Nat.le_succ _)) (I.hok.fresh (Nat.le_refl _)) (Nat.ne_of_lt (Nat.lt_succ_self _))
 have I2:=Inv.made (C:=C) I
 have r2:Vals (V.ref (s.heap.objs.size+1) :: (vs++dvs)) (Value.ref (s.heap.objs.size+1) :: (us++ds)):=.cons rfl (r.append hd)
 have hl:(Value.ref (s.heap.objs.size+1) :: us++ds).length=ps.length:=by
  have e:=r2.length
  rw [F.len _ _ _ _ hq] at e
  exact e.symm
 refine wpAny_call (make_map (f:=f) I.kIn M.makes M.init (beq_iff_eq.mp M.fn) (codeAny_mono (F.run _ X.stack _ _ ⟨Value.ref (s.heap.objs.size+1) :: us,[]⟩ (Value.ref (s.heap.objs.size+1) :: (us++ds)) _ _ E (hr.make C us [])
  (I2.env0.make C us []) (hb _ (Value.ref (s.heap.objs.size+1) :: us) I2.kIn hl) r2 hq) fun r s' hq'=>?_))
 cases r with
 | error e=>exact hx pins σ _ _ e s' I2 hq'
 | ok fl=>
  cases fl with
  | ret u=>
   obtain ⟨v,H',I3,rv,ev,q3⟩:=I2.after hq'
   subst ev
   exact ⟨rv,⟨V.ref (s.heap.objs.size+1),H',I3,rfl,q3⟩⟩
  | next=>exact False.elim hq'
  | brk=>exact False.elim hq'
  | cont=>exact False.elim hq'
theorem pe_make (M:Mk X.K C f) (F:FnOk X.prog X.w X.K X.mg X.base CX k f fd ps sp) (hr:Room (k+1) X.A) (hg:Gl X x) (hm:X.mg x=some (.ref C)) (hb:Binds X.K fd ps ds) (hd:Vals dvs ds) (hx:Passes CX X E)
  (ha:PA X (e :: es) t) (hdb:(x == ("__debug__" : Str))=false:=by decide) (he:starEach (e :: es) X.env=(false,eval e X.env) :: starEach es X.env:=by rfl) (hpl:(backTo pos (starEach es X.env)).any (·.1)=false:=by rfl) :
  PE X (.Call (.Name x p) (e :: es) [] pos) (tMake C sp dvs E t):=by
 intro pins s σ H Q I h
 refine wpAny_Call_Name_kw (ld_glob I hg hm ?_ hdb)
 refine W.callWith_K (h₀:=X.base) I.ok.mod.kin M.kp (thn (ha pos pins s σ H _ I h) fun us s1 ⟨vs,H1,I1,r,q⟩=>⟨I1.kIn,?_⟩) he hpl
 exact run_make M F hr hb hd hx I1 r q
theorem pe_make0 (M:Mk X.K C f) (F:FnOk X.prog X.w X.K X.mg X.base CX k f fd ps sp) (hr:Room (k+1) X.A) (hg:Gl X x) (hm:X.mg x=some (.ref C)) (hb:Binds X.K fd ps ds) (hd:Vals dvs ds) (hx:Passes CX X E)
  (hdb:(x == ("__debug__" : Str))=false:=by decide):PE X (.Call (.Name x p) [] [] pos) (tMake C sp dvs E tNil):=by
 intro pins s σ H Q I h
 refine wpAny_Call_Name_kw (ld_glob I hg hm ?_ hdb)
 exact W.callWith_K0 I.kIn M.kp (run_make (us:=[]) M F hr hb hd hx I .nil h)
end
def PK (X:Cx) (kws:List Keyword) (t:TA):Prop:=
 ∀(pos:Pos) (pins:List (Addr×Obj)) (s:Shared) (σ:St) (H:Hp) (Q:List V->Hp->Prop),Inv X pins σ H s->t σ H Q->wpAny (model X.prog X.w) X.A (evalAll ((backToKw pos (keywordEach kws X.env)).map (·.2))) (AP X pins σ Q) X.xe s
section
variable {X:Cx} {CX:CXT} {k:Nat} {f C:Addr} {fd:FuncData} {ps ks:List Str} {sp:Sp} {E:XK} {x m:Str} {p pos apos kpos:Pos} {e o:Expr} {es:List Expr} {kws:List Keyword} {te ta:TE} {t tk:TA} {nm:Option Str}
structure KBinds (K:W.Frag) (fd:FuncData) (ps ks:List Str) (g:List Value->List Value->List Value) (gV:List V->List V->List V):Prop where
 to:∀(s:Shared) (us ws:List Value),K.In s.heap->(g us ws).length=ps.length->BindsTo s fd ⟨us,ks.zip ws⟩ (ps.zip (g us ws))
 rel:∀{vs:List V} {us:List Value} {zs:List V} {ws:List Value},Vals vs us->Vals zs ws->Vals (gV vs zs) (g us ws)
def tCallK (sp:Sp) (gV:List V->List V->List V) (E:XK) (t tk:TA):TE:=fun σ H Q=>t σ H fun vs H1=>tk σ H1 fun zs H2=>sp (gV vs zs) H2 Q E
variable {g:List Value->List Value->List Value} {gV:List V->List V->List V}
end
structure FnScope (N P:List Str) (sc:Scope):Prop where
 kind:sc.kind = .function
 co:sc.isCoroutine=false
 gen:sc.isGenerator=false
 nd:N.Nodup
 pre:N.take P.length=P
 par:∀x∈P,sc.names.lookup x=some .local\/sc.names.lookup x=some .cell
 nofree:∀y∈sc.names,y.2 ≠ .free
theorem bindL_out {kindOf:Str->Option NameKind} {x:Str}:∀{binds:List (Str×Value)} {m:Str->Option Value},(∀v,(x,v)∉binds)->bindL kindOf binds m x=m x
 | [],_,_=>rfl
 | (n,v) :: r,m,h=>by
  unfold bindL
  rw [bindL_out fun w hw=>h w (List.mem_cons_of_mem _ hw)]
  split
  ·have:x≠n:=by rintro rfl; exact h v List.mem_cons_self
   simp [this]
  ·rfl
theorem bindC_out {kindOf:Str->Option NameKind} {x:Str}:∀{binds:List (Str×Value)} {m:Str->Option Value},(∀v,(x,v)∉binds)->bindC kindOf binds m x=m x
 | [],_,_=>rfl
 | (n,v) :: r,m,h=>by
  unfold bindC
  rw [bindC_out fun w hw=>h w (List.mem_cons_of_mem _ hw)]
  split
  ·rfl
  ·have:x≠n:=by rintro rfl; exact h v List.mem_cons_self
   simp [this]
theorem bindL_get {kindOf:Str->Option NameKind} {x:Str} {v:Value}:∀{P:List Str} {vs:List Value} {i:Nat} {m:Str->Option Value},P.Nodup->P[i]?=some x->vs[i]?=some v->kindOf x=some .local ->
  bindL kindOf (P.zip vs) m x=some v
 | [],_,_,_,_,h,_,_=>by simp at h
 | _ :: _,[],_,_,_,_,h,_=>by simp at h
 | p :: P,w :: vs,0,m,nd,h1,h2,hk=>by
  simp at h1 h2; subst h1; subst h2
  show bindL kindOf ((p,w) :: P.zip vs) m p=_
  unfold bindL
  rw [bindL_out fun v hv=>(List.nodup_cons.mp nd).1 (List.of_mem_zip hv).1,if_pos hk]
  simp
 | p :: P,w :: vs,i+1,m,nd,h1,h2,hk=>by
  show bindL kindOf ((p,w) :: P.zip vs) m x=_
  unfold bindL
  exact bindL_get (i:=i) (List.nodup_cons.mp nd).2 (by simpa using h1) (by simpa using h2) hk
theorem bindC_get {kindOf:Str->Option NameKind} {x:Str} {v:Value}:∀{P:List Str} {vs:List Value} {i:Nat} {m:Str->Option Value},P.Nodup->P[i]?=some x->vs[i]?=some v->kindOf x≠some .local ->
  bindC kindOf (P.zip vs) m x=some v
 | [],_,_,_,_,h,_,_=>by simp at h
 | _ :: _,[],_,_,_,_,h,_=>by simp at h
 | p :: P,w :: vs,0,m,nd,h1,h2,hk=>by
  simp at h1 h2; subst h1; subst h2
  show bindC kindOf ((p,w) :: P.zip vs) m p=_
  unfold bindC
  rw [bindC_out fun v hv=>(List.nodup_cons.mp nd).1 (List.of_mem_zip hv).1,if_neg hk]
  simp
 | p :: P,w :: vs,i+1,m,nd,h1,h2,hk=>by
  show bindC kindOf ((p,w) :: P.zip vs) m x=_
  unfold bindC
  exact bindC_get (i:=i) (List.nodup_cons.mp nd).2 (by simpa using h1) (by simpa using h2) hk
def start (N:List Str) (vs:List V):St:=vs.map some++List.replicate (N.length - vs.length) none
def cxOf (CX:CXT) (P:Program) (w:World) (K:W.Frag) (mg:Str->Option Value) (base:Heap) (N:List Str) (qual:Str) (scope:Scope) (f:Addr) (cd:Value) (A:Around) (outer:List Env) (s:Shared) (H:Hp) (E:XK):Cx where
 prog:=P
 w:=w
 K:=K
 mg:=mg
 base:=base
 A:=A.deeper (envOfC qual scope s.heap.objs.size f cd)
 N:=N
 s₀:=s
 H₀:=H
 env:=envOfC qual scope s.heap.objs.size f cd
 outer:=outer
 stack:=envOfC qual scope s.heap.objs.size f cd :: outer
 ex:=[]
 calm:=true
 fn:=fun _=>true
 pn:=[]
 xe:=fun e s'=>wpAny (model P w) (A.deeper (envOfC qual scope s.heap.objs.size f cd)) (leaving (envOfC qual scope s.heap.objs.size f cd) e) (fun _ s''=>CX outer H s E e s'') (fun e' s''=>CX outer H s E e' s'') s'
theorem cell_has {sc:Scope} {n:Nat} {x:Str} (h:sc.names.lookup x=some .cell):∃c,(cellsFrom n sc.names []).lookup x=some c:=by
 have q:=W.cellsFrom_some sc.names n [] (.inl h)
 exact Option.isSome_iff_exists.mp q
theorem inv_start {CX:CXT} {P:Program} {w:World} {K:W.Frag} {mg:Str->Option Value} {base:Heap} {N ps:List Str} {qual:Str} {scope:Scope} {f:Addr} {cd:Value} {A:Around} {outer:List Env} {s s1:Shared} {H:Hp} {E:XK} {us:List Value} {vs:List V}
  (S:FnScope N ps scope) (hd:A.handled=none) (e0:Env0 P w K mg base A outer s H) (hl:vs.length=ps.length) (r:Vals vs us)
  (x:InCallC s s.heap.objs.size (bindL (envOfC qual scope s.heap.objs.size f cd).kindOf (ps.zip us) fun _=>none) (cellsFrom (s.heap.objs.size+1) scope.names []) (bindC (envOfC qual scope s.heap.objs.size f cd).kindOf (ps.zip us) fun _=>none) s1) :
  Inv (cxOf CX P w K mg base N qual scope f cd A outer s H E) [] (start N vs) H s1:=by
 have hpl:ps.length<=N.length:=by have:=congrArg List.length S.pre; rw [List.length_take] at this; omega
 obtain ⟨h1,tk,rfl,hk⟩:=x.done
 have noA:∀b:Addr,b∉(cxOf CX P w K mg base N qual scope f cd A outer s H E).ex:=fun b z=>absurd (show b∈([]:List Addr) from z) (by simp)
 refine ⟨⟨e0.mod,S.kind,rfl,rfl,Nat.le_refl _,fun y z c h1 h2=>?_,fun y hy=>?_,fun y c _ h=>?_,fun _=>hd,Around.frames_deeper e0.frames,.inr ⟨rfl,rfl⟩,fun b z=>absurd z (noA b),e0.bs,e0.bsz,fun b _ _=>noA b,fun b z=>absurd z (noA b),e0.funs,e0.frf⟩,
  rfl,e0.bare,Un.kept hk,⟨_,x.toInCall.ns,fun i y v h1 h2 h3=>?_⟩,fun y c h=>⟨_,x.cell y c h⟩,e0.hok.fresh (Nat.le_refl _),fun y c h=>?_,fun p hp=>absurd (show p∈([]:List (Addr×Obj)) from hp) (by simp),e0.hok.kept hk,?_⟩
 ·exact name_of_addr x.apart (PySem.mem_of_lookup h1) (PySem.mem_of_lookup h2)
 ·have hy:scope.names.lookup y=some .cell\/scope.names.lookup y=some .free:=hy
  rcases hy with hy | hy
  ·exact cell_has hy
  ·exact absurd rfl (S.nofree _ (PySem.mem_of_lookup hy))
 ·exact Nat.le_of_lt (x.above y c (PySem.mem_of_lookup h))
 ·have hi:i<vs.length:=by
   unfold start at h2
   by_cases hi:i<vs.length
   ·exact hi
   ·rw [List.getElem?_append_right (by simpa using hi)] at h2
    rw [List.getElem?_replicate] at h2
    split at h2 <;> cases h2
  have ha:vs[i]?=some v:=by
   unfold start at h2
   rw [List.getElem?_append_left (by simpa using hi),List.getElem?_map] at h2
   cases e:vs[i]? with
   | none=>rw [e] at h2; cases h2
   | some a=>rw [e] at h2; cases h2; rfl
  obtain ⟨u,hu,rv⟩:=r.get ha
  have hp:ps[i]?=some y:=by
   rw [<-S.pre,List.getElem?_take_of_lt (by omega)]; exact h1
  have ndP:ps.Nodup:=by rw [<-S.pre]; exact S.nd.sublist (List.take_sublist _ _)
  refine ⟨u,rv,?_⟩
  rcases S.par y (List.mem_of_getElem? hp) with k | k
  ·exact .inl ⟨k,bindL_get ndP hp hu k⟩
  ·obtain ⟨c,e⟩:=cell_has (n:=s.heap.objs.size+1) k
   refine .inr ⟨.inl k,c,e,?_⟩
   have q:=x.cell y c e
   rw [bindC_get ndP hp hu (by show scope.names.lookup y≠_; rw [k]; decide)] at q
   exact q
 ·exact e0.hok.fresh (Nat.le_of_lt (x.above y c (PySem.mem_of_lookup h)))
 ·unfold start
  show _=N.length
  rw [List.length_append,List.length_map,List.length_replicate]
  omega
theorem fn_of {CX:CXT} {P:Program} {w:World} {K:W.Frag} {mg:Str->Option Value} {base:Heap} {k:Nat} {f:Addr} {name qual:Str} {params:Arguments} {body:List Stmt} {scope:Scope} {dV kV doc pm cdv ct oc:Value} {an od:Option Addr}
  {osl:Array (Option Value)} {N ps:List Str} {sp:Sp} (lk:K.lookup f=some ⟨oc,od,.func (W.fnOf name qual params body scope dV kV doc pm an cdv ct),osl⟩) (hcd:W.codeIn K cdv qual=true) (S:FnScope N ps scope)
  (len:∀vs H Q E,sp vs H Q E->vs.length=ps.length)
  (hbody:∀(A:Around) (outer:List Env) (s:Shared) (H:Hp) (vs:List V) (Q:VK) (E:XK),Room k (A.deeper (envOfC qual scope s.heap.objs.size f cdv))->sp vs H Q E ->
   ∃t,PSs (cxOf CX P w K mg base N qual scope f cdv A outer s H E) body t/\t { nx:=fun _ H'=>Q .non H',rt:=Q } (start N vs) H) :
  FnOk P w K mg base CX (k+1) f (W.fnOf name qual params body scope dV kV doc pm an cdv ct) ps sp:=by
 refine ⟨len,fun A outer s H args us vs Q E hr e0 hb r hsp=>?_⟩
 have hl:=len _ _ _ _ hsp
 have KX:K.In s.heap:=e0.mod.kin.keeps fun b o e=>(e0.bs b o e).1
 have lim:s.heap.NoLimit:=e0.mod.nolimit.keeps fun b o e=>(e0.bs b o e).1
 have hkind:∀y∈ps.zip us,scope.names.lookup y.1=some .local\/(scope.names.lookup y.1=some .cell/\((cellsFrom (s.heap.objs.size+1) scope.names []).lookup y.1).isSome=true):=fun ⟨n,v⟩ hy=>by
  rcases S.par n (List.of_mem_zip hy).1 with q | q
  ·exact .inl q
  ·exact .inr ⟨q,W.cellsFrom_some _ _ _ (.inl q)⟩
 refine codeAny_call_function hr.depth (KX _ _ lk) rfl S.co S.gen rfl (W.codeRec_of KX hcd) (hb _ _ _ _ ?_)
 refine wpAny_newFunctionEnv_cells S.kind hkind fun env he s1 x=>?_
 subst he
 refine ⟨lim.keeps x.toInCall.keep,codeAny_func ?_⟩
 obtain ⟨t,ht,hq⟩:=hbody A outer s H vs Q E (hr.deeper _) hsp
 have I:Inv (cxOf CX P w K mg base N qual scope f cdv A outer s H E) [] (start N vs) H s1:=inv_start S hr.hd e0 hl r x
 refine wpAny_mono (ht [] s1 (start N vs) H _ I hq) (fun fl s' hs=>?_) fun e s' hs=>hs
 have fin:∀{σ':St} {H':Hp} {v:V} {u:Value},Inv (cxOf CX P w K mg base N qual scope f cdv A outer s H E) [] σ' H' s'->RelV v u->Q v H'->CE outer P w H s Q u s':=
  fun {σ' H' v u} J rv q=>⟨v,H',J.os,J.bare,J.base,J.hok,rv,q⟩
 cases fl with
 | ret u=>
  obtain ⟨v,σ',H',J,rv,q⟩:=hs
  exact fin J rv q
 | next=>
  obtain ⟨σ',H',J,q⟩:=hs
  exact fin (v:=V.non) (u:=Value.none) J rfl q
 | brk=>
  obtain ⟨_,_,_,q⟩:=hs
  exact False.elim q
 | cont=>
  obtain ⟨_,_,_,q⟩:=hs
  exact False.elim q
end L2
namespace L2
open PySem PySem.Spec PyProof.Rows
section
variable {X:Cx} {x:Str} {p pos:Pos} {e:Expr} {es:List Expr} {t:TA} {id T:String} {r:List V->Hp->VK->Prop}
def tCB (r:List V->Hp->VK->Prop) (t:TA):TE:=fun σ H Q=>t σ H fun vs H1=>r vs H1 Q
theorem pe_callB (hc:CallR X (.builtin id) r) (hg:Gl X x) (hm:X.mg x=none) (hv:bootBuiltins x=some (.builtin id)) (ha:PA X (e :: es) t) (hn:x ≠ "__name__" := by decide) (hdb:(x == ("__debug__" : Str))=false:=by decide)
  (he:starEach (e :: es) X.env=(false,eval e X.env) :: starEach es X.env:=by rfl) (hpl:(backTo pos (starEach es X.env)).any (·.1)=false:=by rfl):PE X (.Call (.Name x p) (e :: es) [] pos) (tCB r t):=by
 intro pins s σ H Q I h
 refine wpAny_Call_Name_kw (ld_blt I hg hm hv ?_ hn hdb)
 exact PyProof.Rows.callWith_builtin1 (thn (ha pos pins s σ H _ I h) fun us s1 ⟨vs,H1,I1,r1,q1⟩=>hc pins s1 σ H1 vs us Q I1 r1 q1) he hpl
theorem pe_callTy (hc:CallR X (.type T) r) (hg:Gl X x) (hm:X.mg x=none) (hv:bootBuiltins x=some (.type T)) (ha:PA X (e :: es) t) (hn:x ≠ "__name__" := by decide) (hdb:(x == ("__debug__" : Str))=false:=by decide)
  (he:starEach (e :: es) X.env=(false,eval e X.env) :: starEach es X.env:=by rfl) (hpl:(backTo pos (starEach es X.env)).any (·.1)=false:=by rfl):PE X (.Call (.Name x p) (e :: es) [] pos) (tCB r t):=by
 intro pins s σ H Q I h
 refine wpAny_Call_Name_kw (ld_blt I hg hm hv ?_ hn hdb)
 exact PyProof.Rows.callWith_type1 (thn (ha pos pins s σ H _ I h) fun us s1 ⟨vs,H1,I1,r1,q1⟩=>hc pins s1 σ H1 vs us Q I1 r1 q1) he hpl
end
end L2
namespace HT
open PySem PyProof.Rows
def lexLt:List Int->List Int->Bool
 | [],[]=>false
 | [],_ :: _=>true
 | _ :: _,[]=>false
 | x :: xs,y :: ys=>if x=y then lexLt xs ys else decide (x<y)
section
open PySem.SeqAt
open PySem.AutoSeq1 (wpAny_loadPart')
open PySem.MeetsSeq PySem.MeetsSeq2 PySem.MeetsSeq3
end
section
variable {prog:Program} {w:World} {A:Around} {E:Value->Shared->Prop} {s:Shared}
def sIx (n d:Nat):Option Int->Nat
 | none=>d
 | some v=>if v<0 then (v+(n:Int)).toNat else min v.toNat n
end
end HT
namespace L2
open PySem PySem.Spec PyProof.Rows
abbrev TO:=St->Hp->(Option Int->Hp->Prop)->Prop
def PO (X:Cx) (e:Option Expr) (t:TO):Prop:=
 ∀(pins:List (Addr×Obj)) (s:Shared) (σ:St) (H:Hp) (Q:Option Int->Hp->Prop),Inv X pins σ H s->t σ H Q ->
  wpAny (model X.prog X.w) X.A (evalPart e X.env) (fun u s'=>∃o H',Inv X pins σ H' s'/\IsPart u o/\Q o H') X.xe s
def tNoPart:TO:=fun _ H Q=>Q none H
def tPart (t:TE):TO:=fun σ H Q=>t σ H fun x H1=>∃i,x = .int i/\Q (some i) H1
theorem intsAre_of {ns:List Int}:∀{us:List Value},Vals (ns.map V.int) us->IntsAre us ns:=by
 induction ns with
 | nil=>intro us r; rw [List.map_nil] at r; cases r; exact .nil
 | cons n ns ih=>
  intro us r
  rw [List.map_cons] at r
  cases r with
  | cons r1 r2=>
   obtain ⟨t,e⟩:=r1
   subst e
   exact .cons n t (ih r2)
section
variable {X:Cx} {e:Expr} {te:TE} {lo hi:Option Expr} {tl th:TO} {pos p2:Pos}
theorem po_none:PO X none tNoPart:=by
 intro pins s σ H Q I h
 rw [evalPart_none]
 exact wpAny_pure ⟨none,H,I,.none,h⟩
theorem po_some (h:PE X e te):PO X (some e) (tPart te):=by
 intro pins s σ H Q I hw
 rw [evalPart_some]
 refine thn (h pins s σ H _ I hw) fun u s1 ⟨x,H1,I1,r1,q1⟩=>?_
 obtain ⟨i,rfl,q⟩:=q1
 obtain ⟨t,rfl⟩:=r1
 exact ⟨some i,H1,I1,.int i t,q⟩
def SlR (X:Cx) (r:V->Option Int->Option Int->Hp->VK->Prop):Prop:=
 ∀(pins:List (Addr×Obj)) (s:Shared) (σ:St) (H:Hp) (x:V) (v vl vu:Value) (lo hi:Option Int) (sl:Addr) (Q:VK),Inv X pins σ H s->RelV x v->s.heap.IsSliceOf sl vl vu .none->IsPart vl lo->IsPart vu hi->r x lo hi H Q ->
  ∃T id,typeLookup (.type T) "__getitem__" = pure (some (.builtin id))/\s.TypeIs v T/\wpAny (model X.prog X.w) X.A (getItem v (.ref sl)) (EP X pins σ Q) X.xe s
def tSl (r:V->Option Int->Option Int->Hp->VK->Prop) (te:TE) (tl th:TO):TE:=fun σ H Q=>te σ H fun x H1=>tl σ H1 fun l H2=>th σ H2 fun u H3=>r x l u H3 Q
theorem pe_slice {r:V->Option Int->Option Int->Hp->VK->Prop} (hr:SlR X r) (he:PE X e te) (hl:PO X lo tl) (hu:PO X hi th):PE X (.Subscript e (.Slice lo hi none p2) pos) (tSl r te tl th):=by
 intro pins s σ H Q I h
 refine Subscript_ (thn (he pins s σ H _ I h) fun v s1 ⟨x,H1,I1,r1,q1⟩=>?_)
 refine wpAny_Slice (thn (hl pins s1 σ H1 _ I1 q1) fun vl s2 ⟨l,H2,I2,pl,q2⟩=>thn (hu pins s2 σ H2 _ I2 q2) fun vu s3 ⟨u,H3,I3,pu,q3⟩=>?_)
 rw [evalPart_none]
 refine wpAny_pure ?_
 have I4:Inv X pins σ H3 { s3 with heap:=s3.heap.push { cls:=.type "slice",data:=.fields #[vl,vu,.none] } }:=I3.kept (t':=s3.toks) fun b ob q=>Heap.get?_push_of_some _ q
 obtain ⟨T,id,hT,ht,hg⟩:=hr pins { s3 with heap:=s3.heap.push { cls:=.type "slice",data:=.fields #[vl,vu,.none] } } σ H3 x v vl vu l u s3.heap.objs.size Q I4 r1 (Heap.IsSliceOf.new ..) pl pu q3
 show wpAny (model X.prog X.w) X.A (subscriptTail e (.Slice lo hi none p2) v (.ref s3.heap.objs.size)) (EP X pins σ Q) X.xe { s3 with heap:=s3.heap.push { cls:=.type "slice",data:=.fields #[vl,vu,.none] } }
 exact tail_any (ops:=[.ref s3.heap.objs.size,v]) ht hT hg (by with_unfolding_all rfl)
def cutV (xs:List V) (lo hi:Option Int):List V:=(xs.drop (HT.sIx xs.length 0 lo)).take (HT.sIx xs.length xs.length hi - HT.sIx xs.length 0 lo)
theorem cutV_length (xs:List V) (lo hi:Option Int):(cutV xs lo hi).length<=xs.length:=by
 unfold cutV
 rw [List.length_take,List.length_drop]
 omega
def rSlT (K:W.Frag):V->Option Int->Option Int->Hp->VK->Prop:=fun x lo hi H Q=>∃a xs,x = .ref a/\SqT K H a xs /\
 ¬(HT.sIx xs.length 0 lo=0/\HT.sIx xs.length xs.length hi=xs.length)/\∀p,H p=none->Q (.ref p) (upd H p (.tup (cutV xs lo hi)))
def rLtT (K:W.Frag):R2:=fun x y H Q=>∃a b ns ms,x = .ref a/\y = .ref b/\SqT K H a (ns.map V.int)/\SqT K H b (ms.map V.int)/\Q (.bl (HT.lexLt ns ms)) H
def rCatT (K:W.Frag):R2:=fun x y H Q=>∃a b xs ys,x = .ref a/\y = .ref b/\SqT K H a xs/\SqT K H b ys/\xs≠[]/\xs.length+ys.length<=sizeLine /\
 (ys=[]->Q (.ref a) H)/\(ys≠[]->∀p,H p=none->Q (.ref p) (upd H p (.tup (xs++ys))))
end
end L2
namespace L2
open PySem PySem.Spec PyProof.Rows
def ixN (n:Nat) (i:Int):Option Nat:=if 0<=i then (if i<n then some i.toNat else none) else if -(n:Int)<=i then some (i+n).toNat else none
def atI {α:Type} (xs:List α) (i:Int):Option α:=(ixN xs.length i).bind fun j=>xs[j]?
theorem ixN_seq {n:Nat} {i:Int} {j:Nat} (h:ixN n i=some j):seqIndex? i n=some j/\j<n /\ -(n:Int)<=i/\i<n:=by
 unfold ixN at h
 by_cases h0:0<=i
 ·rw [if_pos h0] at h
  by_cases h1:i<n
  ·rw [if_pos h1] at h
   have e:i.toNat=j:=Option.some.inj h
   exact ⟨by rw [seqIndex_of h0 h1,e],by omega,by omega,h1⟩
  ·rw [if_neg h1] at h; cases h
 ·rw [if_neg h0] at h
  by_cases h1:-(n:Int)<=i
  ·rw [if_pos h1] at h
   have e:(i+n).toNat=j:=Option.some.inj h
   exact ⟨by rw [seqIndex_neg (by omega) h1,e],by omega,h1,by omega⟩
  ·rw [if_neg h1] at h; cases h
theorem atI_get {α:Type} {xs:List α} {i:Int} {v:α} (h:atI xs i=some v):∃j,seqIndex? i xs.length=some j/\xs[j]?=some v/\j<xs.length /\ -(xs.length:Int)<=i/\i<xs.length:=by
 unfold atI at h
 cases e:ixN xs.length i with
 | none=>rw [e] at h; cases h
 | some j=>
  rw [e] at h
  obtain ⟨h1,h2,h3,h4⟩:=ixN_seq e
  exact ⟨j,h1,h,h2,h3,h4⟩
theorem atI_nat {α:Type} {xs:List α} {j:Nat} {v:α} (h:xs[j]?=some v):atI xs (j:Int)=some v:=by
 have hj:j<xs.length:=(List.getElem?_eq_some_iff.mp h).1
 have e:ixN xs.length (j:Int)=some j:=by
  unfold ixN
  rw [if_pos (by omega),if_pos (by omega)]; simp
 unfold atI; rw [e]; exact h
def PlainIx (b:Expr):Prop:=∀o i,subscripted b false o i=operate [o,i] (getItem o i)
def IxR (X:Cx) (r:R2):Prop:=
 ∀(value slice:Expr) (pins:List (Addr×Obj)) (s:Shared) (σ:St) (H:Hp) (x y:V) (v u:Value) (Q:VK),Inv X pins σ H s->RelV x v->RelV y u->r x y H Q ->
  subscripted slice false v u=operate [v,u] (getItem v u)->wpAny (model X.prog X.w) X.A (subscriptTail value slice v u) (EP X pins σ Q) X.xe s
def MtR (X:Cx) (id:String) (r:V->List V->Hp->VK->Prop):Prop:=
 ∀(pins:List (Addr×Obj)) (s:Shared) (σ:St) (H:Hp) (x:V) (xs:List V) (v:Value) (us:List Value) (Q:VK),Inv X pins σ H s->RelV x v->Vals xs us->r x xs H Q ->
  wpAny (model X.prog X.w) X.A (call (.builtin id) (v :: us)) (EP X pins σ Q) X.xe s
section
variable {X:Cx} {a b:Expr} {ta tb:TE} {pos:Pos}
theorem pe_ix {r:R2} (hr:IxR X r) (ha:PE X a ta) (hb:PE X b tb) (hs:PlainIx b):PE X (.Subscript a b pos) (tOp r ta tb):=by
 intro pins s σ H Q I h
 exact Subscript_ (binT ha hb I h fun v u s2 x y H2 I2 rx ry q=>hr a b pins s2 σ H2 x y v u Q I2 rx ry q (hs _ _))
def rIxL (K:W.Frag):R2:=fun x y H Q=>∃p xs i v,x = .ref p/\y = .int i/\SqL K H p xs/\atI xs i=some v/\Q v H
def rIxT (K:W.Frag):R2:=fun x y H Q=>∃p xs i v,x = .ref p/\y = .int i/\SqT K H p xs/\atI xs i=some v/\Q v H
def rIxS:R2:=fun x y H Q=>∃z i c,x = .str z/\y = .int i/\z.length<=sizeLine/\atI z.cps.toList i=some c/\Q (.str ⟨#[c]⟩) H
theorem ix_list:IxR X (rIxL X.K):=by
 intro value slice pins s σ H x y v u Q I rx ry h hs
 obtain ⟨p,xs,i,z,rfl,rfl,hq,he,q⟩:=h
 cases rx
 obtain ⟨t,rfl⟩:=ry
 obtain ⟨its,r,pl,hz⟩:=I.list hq
 obtain ⟨j,h1,h2,h3,h4,h5⟩:=atI_get he
 obtain ⟨w,ew,rw'⟩:=r.get h2
 have hl:=r.length
 have hn:=line63
 have fin:EP X pins σ Q w s:=⟨z,H,I,rw',q⟩
 by_cases h0:0<=i
 ·have hj:i.toNat=j:=by
   rw [seqIndex_of h0 h5] at h1
   exact Option.some.inj h1
  exact item_listR pl.isList h0 (by omega) (by rw [hj]; simpa using ew) fin hs
 ·have hj:(i+(its.toArray.size:Int)).toNat=j:=by
   rw [seqIndex_neg (by omega) h4] at h1
   rw [List.size_toArray,<-hl]
   exact Option.some.inj h1
  exact subscriptTail_builtinR (x:=w) pl.isList.typeIs slot_list_getitem.lookup
   (wpAny_getItem_list_neg (Q:=fun r s'=>r=w/\EP X pins σ Q r s') pl.isList (by omega) (by rw [List.size_toArray] <;> omega) (by omega) (by rw [hj]; simpa using ew) ⟨rfl,fin⟩) hs
theorem ix_tup:IxR X (rIxT X.K):=by
 intro value slice pins s σ H x y v u Q I rx ry h hs
 obtain ⟨p,xs,i,z,rfl,rfl,hq,he,q⟩:=h
 cases rx
 obtain ⟨t,rfl⟩:=ry
 obtain ⟨its,r,pl,hz⟩:=I.tuple hq
 obtain ⟨j,h1,h2,h3,h4,h5⟩:=atI_get he
 obtain ⟨w,ew,rw'⟩:=r.get h2
 have hl:=r.length
 have hn:=line63
 have fin:EP X pins σ Q w s:=⟨z,H,I,rw',q⟩
 exact subscriptTail_builtinR (x:=w) pl.typeIs slot_tuple_getitem.lookup
  (getItem_tuple (j:=j) (Q:=fun r s'=>r=w/\EP X pins σ Q r s') pl (by omega) (by omega) (by rw [List.size_toArray,<-hl]; exact h1) (by simpa using ew) ⟨rfl,fin⟩) hs
def rIx (K:W.Frag):R2:=fun x y H Q=>rIxL K x y H Q\/rIxT K x y H Q\/rIxS x y H Q
theorem mapSeq_set (its:List Value) (n j:Nat) (u:Value):Obj.mapSeq (·.setIfInBounds j u) { cls:=.type "list",data:=.seq its.toArray n }={ cls:=.type "list",data:=.seq (its.set j u).toArray n }:=by
 simp [Obj.mapSeq]
theorem Inv.lst {pins:List (Addr×Obj)} {σ:St} {H:Hp} {s:Shared} {p:Addr} {xs:List V} (I:Inv X pins σ H s) (h:H p=some (.lst xs)) :
  ∃(its:List Value) (n:Nat),Vals xs its/\s.heap.get? p=some { cls:=.type "list",data:=.seq its.toArray n }/\xs.length<=sizeLine:=by
 obtain ⟨z,its,n,r,e⟩:=I.hok p _ h
 exact ⟨its,n,r,e,z⟩
theorem Inv.lstUpd {pins:List (Addr×Obj)} {σ:St} {H:Hp} {s:Shared} {p:Addr} {xs ys:List V} {its its':List Value} {n n':Nat} {f:Obj->Obj} (I:Inv X pins σ H s) (h:H p=some (.lst xs))
  (ho:s.heap.get? p=some { cls:=.type "list",data:=.seq its.toArray n }) (hf:f { cls:=.type "list",data:=.seq its.toArray n }={ cls:=.type "list",data:=.seq its'.toArray n' }) (r:Vals ys its') (hz:ys.length<=sizeLine) (t:Nat) :
  Inv X pins σ (upd H p (.lst ys)) { s with heap:=s.heap.update p f,toks:=t }:=by
 have e:(s.heap.update p f).get? p=some { cls:=.type "list",data:=.seq its'.toArray n' }:=by
  rw [Heap.get?_update_self f ho (by rw [hf] <;> rfl),hf]
 refine I.write (x:=p) (e:=p) (by rw [h]; trivial) (.inl rfl) (fun b u hb q=>(Heap.get?_update_other _ _ (Ne.symm hb)).trans q) ⟨_,e⟩ ?_
 exact ⟨hz,its',n',r,e⟩
def rSetL:V->V->V->Hp->(Hp->Prop)->Prop:=fun o i v H Q=>∃p xs k j,o = .ref p/\i = .int k/\H p=some (.lst xs)/\ixN xs.length k=some j/\Q (upd H p (.lst (xs.set j v)))
theorem set_list:PSet X rSetL:=by
 intro pins s σ H o i v ov iv u Q I ro ri rv h
 obtain ⟨p,xs,k,j,rfl,rfl,hp,hj,q⟩:=h
 cases ro
 obtain ⟨t,rfl⟩:=ri
 obtain ⟨its,n,r,ho,hz⟩:=I.lst hp
 obtain ⟨h1,h2,h3,h4⟩:=ixN_seq hj
 have hl:=r.length
 have hn:=line63
 have I':Inv X pins σ (upd H p (.lst (xs.set j v))) { s with heap:=s.heap.update p (Obj.mapSeq (·.setIfInBounds j u)) }:=
  I.lstUpd hp ho (mapSeq_set its n j u) (r.set rv j) (by rw [List.length_set]; exact hz) s.toks
 by_cases h0:0<=k
 ·have hk:k.toNat=j:=by
   rw [seqIndex_of h0 h4] at h1
   exact Option.some.inj h1
  exact W.ki_setAt ho h0 (by omega) (by rw [List.size_toArray,<-hl]; exact h4) (by rw [hk]; exact ⟨_,I',q⟩)
 ·have hk:(k+(its.toArray.size:Int)).toNat=j:=by
   rw [seqIndex_neg (by omega) h3] at h1
   rw [List.size_toArray,<-hl]
   exact Option.some.inj h1
  exact W.ki_setBack ho (by omega) (by rw [List.size_toArray,<-hl]; exact h3) (by omega) (by rw [hk]; exact ⟨_,I',q⟩)
theorem slice_bounds (lo hi:Option Int) (n:Nat):(sliceBounds lo hi none n).1=((HT.sIx n 0 lo:Nat):Int)/\(sliceBounds lo hi none n).2.1=((HT.sIx n n hi:Nat):Int)/\(sliceBounds lo hi none n).2.2=1:=by
 refine ⟨?_,?_,rfl⟩
 ·cases lo with
  | none=>simp [sliceBounds,HT.sIx]
  | some i=>
   simp only [sliceBounds,HT.sIx,Option.getD_none,show (1:Int) > 0 by decide,if_true]
   by_cases h:i<0
   ·simp only [h,if_true] <;> omega
   ·simp only [h,if_false] <;> omega
 ·cases hi with
  | none=>simp [sliceBounds,HT.sIx]
  | some i=>
   simp only [sliceBounds,HT.sIx,Option.getD_none,show (1:Int) > 0 by decide,if_true]
   by_cases h:i<0
   ·simp only [h,if_true] <;> omega
   ·simp only [h,if_false] <;> omega
theorem slicePick_cut (its:List Value) (lo hi:Option Int):slicePick its.toArray lo hi none=((its.drop (HT.sIx its.length 0 lo)).take (HT.sIx its.length its.length hi - HT.sIx its.length 0 lo)).toArray:=by
 obtain ⟨h1,h2,h3⟩:=slice_bounds lo hi its.toArray.size
 unfold slicePick
 rw [h1,h2,h3]
 simp only [sliceRange_one,pick_run,List.size_toArray] <;> rfl
def rSlL (K:W.Frag):V->Option Int->Option Int->Hp->VK->Prop:=fun x lo hi H Q=>∃a xs,x = .ref a/\SqL K H a xs/\∀p,H p=none->Q (.ref p) (upd H p (.lst (cutV xs lo hi)))
theorem sl_list:SlR X (rSlL X.K):=by
 intro pins s σ H x v vl vu lo hi sl Q I rx hs pl pu h
 obtain ⟨a,xs,rfl,hx,q⟩:=h
 cases rx
 obtain ⟨its,r,ht,hz⟩:=I.list hx
 have hlen:=r.length
 refine ⟨"list",_,slot_list_getitem.lookup,ht.isList.typeIs,?_⟩
 refine wpAny_getItem_list_slice ht.isList hs pl pu .none (by simp) ?_ (by rw [List.size_toArray] <;> omega)
 rw [slicePick_cut,<-hlen]
 refine ⟨.ref s.heap.objs.size,_,I.laid (t':=s.toks) (o:=.lst (cutV xs lo hi)) (fun b ob q=>Heap.get?_push_of_some _ q) (Nat.le_refl _) ?_,rfl,q _ (I.hok.fresh (Nat.le_refl _))⟩
 exact ⟨Nat.le_trans (cutV_length xs lo hi) hz,_,0,(r.drop (HT.sIx xs.length 0 lo)).take (HT.sIx xs.length xs.length hi - HT.sIx xs.length 0 lo),Heap.get?_push_size _ rfl⟩
def flatV:V->Bool
 | .non=>true
 | .bl _=>true
 | .int _=>true
 | .str _=>true
 | _=>false
def eqV:V->V->Bool
 | .non,.non=>true
 | .bl a,.bl b=>a == b
 | .bl a,.int b=>(if a then 1 else 0) == b
 | .int a,.bl b=>a == (if b then 1 else 0)
 | .int a,.int b=>a == b
 | .str a,.str b=>a == b
 | _,_=>false
theorem eqAt_V {A:Around} {s:Shared} {y x:V} {u v:Value} (ry:RelV y u) (rx:RelV x v) (fy:flatV y=true) (fx:flatV x=true):SeqAt.EqAt A s u v (eqV y x):=by
 cases y with
 | non=>
  cases ry
  cases x with
  | non=>cases rx; exact SeqAt.EqAt.same _
  | bl b=>cases rx; exact SeqAt.EqAt.none_bool b
  | int b=>obtain ⟨t,rfl⟩:=rx; exact SeqAt.EqAt.none_int b t
  | str b=>obtain ⟨t,rfl⟩:=rx; exact SeqAt.EqAt.none_str b t
  | _=>exact absurd (show false=true from fx) Bool.false_ne_true
 | bl a=>
  cases ry
  cases x with
  | non=>cases rx; exact SeqAt.EqAt.bool_none a
  | bl b=>cases rx; exact SeqAt.EqAt.bool_bool a b
  | int b=>obtain ⟨t,rfl⟩:=rx; exact SeqAt.EqAt.bool_int a b t
  | str b=>obtain ⟨t,rfl⟩:=rx; exact SeqAt.EqAt.bool_str a b t
  | _=>exact absurd (show false=true from fx) Bool.false_ne_true
 | int a=>
  obtain ⟨t',rfl⟩:=ry
  cases x with
  | non=>cases rx; exact SeqAt.EqAt.int_none a t'
  | bl b=>cases rx; exact SeqAt.EqAt.int_bool a t' b
  | int b=>obtain ⟨t,rfl⟩:=rx; exact SeqAt.EqAt.int_int a t' b t
  | str b=>obtain ⟨t,rfl⟩:=rx; exact SeqAt.EqAt.int_str a t' b t
  | _=>exact absurd (show false=true from fx) Bool.false_ne_true
 | str a=>
  obtain ⟨t',rfl⟩:=ry
  cases x with
  | non=>cases rx; exact SeqAt.EqAt.str_none a t'
  | bl b=>cases rx; exact SeqAt.EqAt.str_bool a t' b
  | int b=>obtain ⟨t,rfl⟩:=rx; exact SeqAt.EqAt.str_int a t' b t
  | str b=>obtain ⟨t,rfl⟩:=rx; exact SeqAt.EqAt.str_str a t' b t
  | _=>exact absurd (show false=true from fx) Bool.false_ne_true
 | _=>exact absurd (show false=true from fy) Bool.false_ne_true
def eqU (x:V) (u:Value):Bool:=match u with
 | .none=>eqV .non x
 | .bool b=>eqV (.bl b) x
 | .int i _=>eqV (.int i) x
 | .str z _=>eqV (.str z) x
 | _=>false
theorem eqU_of {x y:V} {u:Value} (r:RelV y u) (f:flatV y=true):eqU x u=eqV y x:=by
 cases y with
 | non=>cases r; rfl
 | bl b=>cases r; rfl
 | int i=>obtain ⟨t,rfl⟩:=r; rfl
 | str z=>obtain ⟨t,rfl⟩:=r; rfl
 | _=>exact absurd (show false=true from f) Bool.false_ne_true
theorem any_eqU {x:V}:∀{xs:List V} {us:List Value},Vals xs us->xs.all flatV=true->us.any (eqU x)=xs.any fun y=>eqV y x
 | _,_,.nil,_=>rfl
 | y :: xs,u :: us,.cons r t,f=>by
  rw [List.all_cons,Bool.and_eq_true] at f
  rw [List.any_cons,List.any_cons,eqU_of r f.1,any_eqU t f.2]
theorem mem_eqAt {A:Around} {s:Shared} {x:V} {v:Value} (rx:RelV x v) (fx:flatV x=true):∀{xs:List V} {us:List Value},Vals xs us->xs.all flatV=true->∀u∈us,SeqAt.EqAt A s u v (eqU x u)
 | _,_,.nil,_=>fun u hu=>by cases hu
 | y :: xs,u :: us,.cons r t,f=>fun u' hu=>by
  rw [List.all_cons,Bool.and_eq_true] at f
  rcases List.mem_cons.mp hu with rfl | hu
  ·rw [eqU_of r f.1]; exact eqAt_V r rx f.1 fx
  ·exact mem_eqAt rx fx t f.2 u' hu
def inV (x:V) (xs:List V):Bool:=xs.any fun y=>eqV y x
def rIn (K:W.Frag) (neg:Bool):R2:=fun x y H Q=>∃p xs,y = .ref p/\(SqL K H p xs\/SqT K H p xs)/\flatV x=true/\xs.all flatV=true/\Q (.bl (if neg then !inV x xs else inV x xs)) H
theorem op_in_seq:OpR X (compareOp .In) (rIn X.K false):=by
 intro pins s σ H x y v u Q I rx ry h
 obtain ⟨p,xs,rfl,hq,fx,fs,q⟩:=h
 cases ry
 rcases hq with hq | hq
 ·obtain ⟨its,r,pl,hz⟩:=I.list hq
  refine SeqAt.in_listAt (eqU x) pl.isList (fun w hw=>mem_eqAt rx fx r fs w (by simpa using hw)) ⟨.bl _,H,I,rfl,?_⟩
  rw [show its.toArray.any (eqU x)=its.any (eqU x) by simp,any_eqU r fs]
  exact q
 ·obtain ⟨its,r,pl,hz⟩:=I.tuple hq
  refine SeqAt.in_tupleAt (eqU x) pl (fun w hw=>mem_eqAt rx fx r fs w (by simpa using hw)) ⟨.bl _,H,I,rfl,?_⟩
  rw [show its.toArray.any (eqU x)=its.any (eqU x) by simp,any_eqU r fs]
  exact q
theorem op_notIn_seq:OpR X (compareOp .NotIn) (rIn X.K true):=by
 intro pins s σ H x y v u Q I rx ry h
 obtain ⟨p,xs,rfl,hq,fx,fs,q⟩:=h
 cases ry
 rcases hq with hq | hq
 ·obtain ⟨its,r,pl,hz⟩:=I.list hq
  refine SeqAt.notIn_listAt (eqU x) pl.isList (fun w hw=>mem_eqAt rx fx r fs w (by simpa using hw)) ⟨.bl _,H,I,rfl,?_⟩
  rw [show its.toArray.any (eqU x)=its.any (eqU x) by simp,any_eqU r fs]
  exact q
 ·obtain ⟨its,r,pl,hz⟩:=I.tuple hq
  refine SeqAt.notIn_tupleAt (eqU x) pl (fun w hw=>mem_eqAt rx fx r fs w (by simpa using hw)) ⟨.bl _,H,I,rfl,?_⟩
  rw [show its.toArray.any (eqU x)=its.any (eqU x) by simp,any_eqU r fs]
  exact q
theorem call_len_seq:CallR X (.builtin "len") (fun xs H Q=>∃p ys,xs=[.ref p]/\(SqL X.K H p ys\/SqT X.K H p ys)/\Q (.int ys.length) H):=by
 intro pins s σ H xs us Q I r h
 obtain ⟨p,ys,rfl,hq,q⟩:=h
 obtain ⟨u,rfl,rx⟩:=vals1 r
 cases rx
 have hn:=line63
 rcases hq with hq | hq
 ·obtain ⟨its,r',pl,hz⟩:=I.list hq
  have hlen:=r'.length
  exact Calls.call_len_list pl.isList (by simp only [List.size_toArray] <;> omega) ⟨.int ys.length,H,I.tok _,⟨s.toks+1,by rw [List.size_toArray,hlen]⟩,q⟩
 ·obtain ⟨its,r',pl,hz⟩:=I.tuple hq
  have hlen:=r'.length
  exact len_tuple pl (by simp only [List.size_toArray] <;> omega) ⟨.int ys.length,H,I.tok _,⟨s.toks+1,by rw [List.size_toArray,hlen]⟩,q⟩
theorem call_list_of:CallR X (.type "list") (fun xs H Q=>∃p ys,xs=[.ref p]/\(SqL X.K H p ys\/SqT X.K H p ys)/\∀l,H l=none->Q (.ref l) (upd H l (.lst ys))):=by
 intro pins s σ H xs us Q I r h
 obtain ⟨p,ys,rfl,hq,q⟩:=h
 obtain ⟨u,rfl,rx⟩:=vals1 r
 cases rx
 have fin:∀(its:List Value),Vals ys its->ys.length<=sizeLine->∀(h':Heap) (c':Nat),(∀b o',s.heap.get? b=some o'->h'.get? b=some o') ->
   h'.get? s.heap.objs.size=some { cls:=.type "list",dict:=none,data:=.seq its.toArray c',slots:=#[] }->EP X pins σ Q (.ref s.heap.objs.size) { s with heap:=h' }:=fun its r' hz h' c' kp e=>
  ⟨.ref s.heap.objs.size,_,I.laid (t':=s.toks) kp (Nat.le_refl _) (show ObjOk X.prog X.w _ h' _ (.lst ys) from ⟨hz,its,c',r',e⟩),rfl,q _ (I.hok.fresh (Nat.le_refl _))⟩
 rcases hq with hq | hq
 ·obtain ⟨its,r',pl,hz⟩:=I.list hq
  have hlen:=r'.length
  obtain ⟨o,ho,hc,n,hd⟩:=pl.isList
  exact call_list_seq p (.inl rfl) ho hc hd (fun h' c' kp e=>fin its r' hz h' c' kp e) (by simp only [List.size_toArray] <;> omega)
 ·obtain ⟨its,r',pl,hz⟩:=I.tuple hq
  have hlen:=r'.length
  obtain ⟨o,ho,hc,n,hd⟩:=pl
  exact call_list_seq p (.inr rfl) ho hc hd (fun h' c' kp e=>fin its r' hz h' c' kp e) (by simp only [List.size_toArray] <;> omega)
def tyV (K:W.Frag) (T:String) (x:V) (H:Hp):Prop:=match x with
 | .str _=>T = "str"
 | .int _=>T = "int"
 | .ref p=>(T = "list" /\ ∃xs,SqL K H p xs)\/(T = "tuple" /\ ∃o,K.lookup p=some o/\o.cls = .type "tuple" /\ o.dict=none) \/
   (T = "dict" /\ ((∃kvs,H p=some (.dK kvs))\/∃kvs,H p=some (.dT kvs)))\/(T = "set" /\ ∃S n,H p=some (.set S n))
 | _=>False
theorem tyV_is {pins:List (Addr×Obj)} {σ:St} {H:Hp} {s:Shared} {T:String} {x:V} {v:Value} (I:Inv X pins σ H s) (r:RelV x v) (ty:tyV X.K T x H) :
  s.TypeIs v T/\∀a,v = .ref a->∃ob,s.heap.get? a=some ob/\ob.dict=none:=by
 cases x with
 | str z=>
  obtain ⟨t,rfl⟩:=r
  cases (show T = "str" from ty)
  exact ⟨typeIs_str s z t,fun _ e=>nomatch e⟩
 | int i=>
  obtain ⟨t,rfl⟩:=r
  cases (show T = "int" from ty)
  exact ⟨typeIs_int s i t,fun _ e=>nomatch e⟩
 | ref p=>
  cases r
  rcases ty with ⟨rfl,xs,hq⟩ | ⟨rfl,o,hk,hc,hd⟩ | ⟨rfl,hk⟩ | ⟨rfl,S,n,hk⟩
  ·obtain ⟨its,_,pl,_⟩:=I.list hq
   refine ⟨pl.isList.typeIs,fun a e=>?_⟩
   cases e
   obtain ⟨o,n,e,c,hd,_⟩:=pl
   exact ⟨o,e,hd⟩
  ·refine ⟨⟨o,I.kIn p o hk,hc⟩,fun a e=>?_⟩
   cases e
   exact ⟨o,I.kIn _ o hk,hd⟩
  ·have z:∃o,s.heap.get? p=some o/\o.ExactDict:=by
    rcases hk with ⟨kvs,hk⟩ | ⟨kvs,hk⟩
    ·obtain ⟨_,_,_,_,o,_,_,e,ex,_⟩:=I.hok p _ hk
     exact ⟨o,e,ex⟩
    ·obtain ⟨_,_,_,_,o,_,_,e,ex,_⟩:=I.hok p _ hk
     exact ⟨o,e,ex⟩
   obtain ⟨o,e,ex⟩:=z
   refine ⟨⟨o,e,ex.1⟩,fun a e2=>?_⟩
   cases e2
   exact ⟨o,e,ex.2.1⟩
  ·obtain ⟨o,_,_,_,e,ex,_⟩:=I.hok p _ hk
   refine ⟨⟨o,e,ex.1⟩,fun a e2=>?_⟩
   cases e2
   exact ⟨o,e,ex.2.1⟩
 | _=>exact False.elim ty
def tBM0 (K:W.Frag) (T:String) (r:V->List V->Hp->VK->Prop) (to:TE):TE:=fun σ H Q=>to σ H fun x H1=>tyV K T x H1/\r x [] H1 Q
def tBM (K:W.Frag) (T:String) (r:V->List V->Hp->VK->Prop) (to:TE) (t:TA):TE:=fun σ H Q=>to σ H fun x H1=>tyV K T x H1/\t σ H1 fun xs H2=>r x xs H2 Q
variable {o e:Expr} {es:List Expr} {to:TE} {t:TA} {name:Str} {apos cpos:Pos} {T id:String} {r:V->List V->Hp->VK->Prop}
theorem pe_bm (pa:PlainAttrs T) (slot:Slot T name id) (hty:typeOf (.builtin id)=pure (.type "method_descriptor")) (hm:MtR X id r) (ho:PE X o to) (ha:PA X (e :: es) t)
  (hbase:attributeBase o name X.env (eval o X.env)=eval o X.env:=by rfl)
  (hfew:((backTo cpos (starEach (e :: es) X.env)).all (fun x=>!x.1)&&(backToKw cpos (keywordEach [] X.env)).all (fun x=>x.1.isSome)
   && decide ((e :: es).length+([]:List Keyword).length+(if ([]:List Keyword).isEmpty then 0 else 1)<30))=true:=by rfl)
  (hline:(apos.endLine == cpos.line)=true:=by rfl) (hs:starEach (e :: es) X.env=(false,eval e X.env) :: starEach es X.env:=by rfl) (hplain:(backTo cpos (starEach es X.env)).any (·.1)=false:=by rfl) :
  PE X (.Call (.Attribute o name apos) (e :: es) [] cpos) (tBM X.K T r to t):=by
 intro pins s σ H Q I h
 refine wpAny_Call_method_late hbase hfew hline rfl (thn (ho pins s σ H _ I h) fun v s1 ⟨x,H1,I1,r1,ty,q1⟩=>?_)
 obtain ⟨h1,h2⟩:=tyV_is I1 r1 ty
 refine ⟨T,id,pa,slot,hty,h1,h2,?_⟩
 have hA:=ha cpos pins s1 σ H1 _ I1 q1
 rw [hs] at hA ⊢
 refine Calls.callWith_builtin (by show (false || (backTo cpos (starEach es X.env)).any (·.1))=false; rw [hplain] <;> rfl) (Calls.evalArgs_plain ?_)
 exact thn hA fun us s2 ⟨vs,H2,I2,r2,q2⟩=>hm pins s2 σ H2 x vs v us Q I2 r1 r2 q2
end
end L2
namespace L2
open PySem PySem.Spec PyProof.Rows
def MtM (X:Cx) (id:String) (r:V->List V->Hp->VK->Prop):Prop:=
 ∀(pins:List (Addr×Obj)) (s:Shared) (σ:St) (H:Hp) (x:V) (xs:List V) (v:Value) (us:List Value) (Q:VK),Inv X pins σ H s->RelV x v->Vals xs us->r x xs H Q ->
  wpAny (model X.prog X.w) X.A (call (.builtin id) (v :: us)) (EP X pins σ Q) X.xe s
theorem Vals.one:∀{x:V} {us:List Value},Vals [x] us->∃u,us=[u]/\RelV x u
 | _,_,.cons r .nil=>⟨_,rfl,r⟩
theorem Vals.eraseIdx:∀{xs:List V} {us:List Value} (i:Nat),Vals xs us->Vals (xs.eraseIdx i) (us.eraseIdx i)
 | _,_,_,.nil => .nil
 | _,_,0,.cons _ t=>t
 | _,_,i+1,.cons r t => .cons r (Vals.eraseIdx i t)
theorem len_erase {α:Type}:∀(l:List α) (i:Nat),(l.eraseIdx i).length<=l.length
 | [],_=>Nat.le_refl _
 | _ :: _,0=>Nat.le_succ _
 | _ :: r,i+1=>Nat.succ_le_succ (len_erase r i)
section
variable {X:Cx} {pins:List (Addr×Obj)} {σ:St} {H:Hp} {s:Shared} {l b:Addr} {xs ys zs:List V}
theorem Inv.lset {its its':List Value} {n:Nat} {f:Array Value->Array Value} {t':Nat} (I:Inv X pins σ H s) (hH:H l=some (.lst xs))
  (e:s.heap.get? l=some { cls:=.type "list",data:=.seq its.toArray n }) (hf:f its.toArray=its'.toArray) (hv:Vals ys its') (hz:ys.length<=sizeLine) :
  Inv X pins σ (upd H l (.lst ys)) { s with heap:=s.heap.update l (Obj.mapSeq f),toks:=t' }:=by
 have q:=PySem.IsL.update e f
 rw [hf] at q
 refine I.write (x:=l) (e:=l) (by rw [hH]; exact trivial) (.inl rfl) (fun b' u hb hu=>(Heap.get?_update_other s.heap (Obj.mapSeq f) (Ne.symm hb)).trans hu) ⟨_,q⟩ ?_
 exact ⟨hz,its',_,hv,q⟩
theorem Inv.lnew {its:List Value} {t':Nat} (I:Inv X pins σ H s) (hv:Vals ys its) (hz:ys.length<=sizeLine) :
  Inv X pins σ (upd H s.heap.objs.size (.lst ys)) { s with heap:=s.heap.push { cls:=.type "list",data:=.seq its.toArray },toks:=t' }:=
 I.laid (fun _ _ q=>Heap.get?_push_of_some _ q) (Nat.le_refl _) ⟨hz,its,0,hv,Heap.get?_push_size _ rfl⟩
theorem Inv.fresh (I:Inv X pins σ H s):H s.heap.objs.size=none:=I.hok.fresh (Nat.le_refl _)
theorem Inv.lstM (I:Inv X pins σ H s) (hH:H l=some (.lst xs)):xs.length<=sizeLine/\∃(its:List Value) (n:Nat),Vals xs its/\xs.length=its.length/\s.heap.get? l=some { cls:=.type "list",data:=.seq its.toArray n }:=by
 obtain ⟨z,its,n,r,e⟩:=I.hok l _ hH
 exact ⟨z,its,n,r,r.length,e⟩
theorem notLongL {n:Nat} (h:n<=sizeLine):Builtin.List.listTooLong n=false:=by
 unfold Builtin.List.listTooLong
 exact decide_eq_false (by omega)
end
section
variable {X:Cx}
def rAppend:V->List V->Hp->VK->Prop:=fun x vs H Q=>∃l xs y,x = .ref l/\vs=[y]/\H l=some (.lst xs)/\xs.length<sizeLine/\Q .non (upd H l (.lst (xs++[y])))
theorem mt_append:MtM X "list.append" rAppend:=by
 intro pins s σ H x vs v us Q I rx rv h
 obtain ⟨l,xs,y,rfl,rfl,hH,hz,q⟩:=h
 cases rx
 obtain ⟨u,rfl,ru⟩:=rv.one
 obtain ⟨z,its,n,r,hl,e⟩:=I.lstM hH
 refine call_meets F.slot_list_append ⟨_,e,rfl⟩ F.entry_list_append (F.args_list_append_2 _ _) (PySem.list_append l its.toArray n u (by rw [List.size_toArray]; omega)) ⟨e,?_⟩
 refine ⟨.non,_,I.lset (its':=its++[u]) hH e (by simp) (r.append (.cons ru .nil)) ?_,rfl,q⟩
 rw [List.length_append,List.length_singleton]
 omega
def rExtend:V->List V->Hp->VK->Prop:=fun x vs H Q=>∃l b xs zs,x = .ref l/\vs=[.ref b]/\H l=some (.lst xs)/\H b=some (.lst zs)/\xs.length+zs.length<=sizeLine/\Q .non (upd H l (.lst (xs++zs)))
theorem mt_extend:MtM X "list.extend" rExtend:=by
 intro pins s σ H x vs v us Q I rx rv h
 obtain ⟨l,b,xs,zs,rfl,rfl,hH,hB,hz,q⟩:=h
 cases rx
 obtain ⟨u,rfl,ru⟩:=rv.one
 cases ru
 obtain ⟨z,its,n,r,hl,e⟩:=I.lstM hH
 obtain ⟨z2,its2,n2,r2,hl2,e2⟩:=I.lstM hB
 have hsz:its.toArray.size+its2.toArray.size<=sizeLine:=by rw [List.size_toArray,List.size_toArray]; omega
 have hlong:¬(!its.toArray.isEmpty&&Builtin.List.listTooLong (its.toArray.size+its2.toArray.size))=true:=by
  rw [notLongL hsz,Bool.and_false]
  exact Bool.false_ne_true
 refine call_meets F.slot_list_extend ⟨_,e,rfl⟩ F.entry_list_extend (F.args_list_extend_2 _ _)
  (AutoSeq1.list_extend_list_list_0 l its.toArray n b its2.toArray n2 hlong (by rw [List.size_toArray]; omega) (by omega)) ⟨e,e2,?_⟩
 refine ⟨.non,_,I.lset (its':=its++its2) hH e (by simp) (r.append r2) ?_,rfl,q⟩
 rw [List.length_append]
 omega
def rPop:V->List V->Hp->VK->Prop:=fun x vs H Q=>∃l xs y,x = .ref l/\vs=[]/\H l=some (.lst xs)/\xs[xs.length - 1]?=some y/\Q y (upd H l (.lst xs.dropLast))
def rPopAt:V->List V->Hp->VK->Prop:=fun x vs H Q=>∃l xs i k y,x = .ref l/\vs=[.int i]/\H l=some (.lst xs) /\ -(2 ^ 63)<=i/\i<2 ^ 63/\seqIndex? i xs.length=some k/\xs[k]?=some y/\Q y (upd H l (.lst (xs.eraseIdx k)))
theorem mt_popAt:MtM X "list.pop" rPopAt:=by
 intro pins s σ H x vs v us Q I rx rv h
 obtain ⟨l,xs,i,k,y,rfl,rfl,hH,h1,h2,hk,hy,q⟩:=h
 cases rx
 obtain ⟨u,rfl,ru⟩:=rv.one
 obtain ⟨t,rfl⟩:=ru
 obtain ⟨z,its,n,r,hl,e⟩:=I.lstM hH
 obtain ⟨w,hw,rw'⟩:=r.get hy
 refine call_meets F.slot_list_pop ⟨_,e,rfl⟩ F.entry_list_pop (F.args_list_pop_2 _ _)
  (MeetsSeq.list_pop_at l its.toArray n i t k w (fitsIndex_both h1 h2) (by rw [List.size_toArray,<-hl]; exact hk) (by rw [<-Array.getElem?_toList]; exact hw) (by rw [List.size_toArray]; omega)) ⟨e,?_⟩
 refine ⟨y,_,I.lset (its':=its.eraseIdx k) hH e ?_ (r.eraseIdx k) ?_,rw',q⟩
 ·show its.toArray.eraseIdxIfInBounds k=(its.eraseIdx k).toArray
  rw [List.eraseIdxIfInBounds_toArray]
 ·have:=len_erase xs k
  omega
def rReverse:V->List V->Hp->VK->Prop:=fun x vs H Q=>∃l xs,x = .ref l/\vs=[]/\H l=some (.lst xs)/\Q .non (upd H l (.lst xs.reverse))
def rClear:V->List V->Hp->VK->Prop:=fun x vs H Q=>∃l xs,x = .ref l/\vs=[]/\H l=some (.lst xs)/\Q .non (upd H l (.lst []))
def rCat:R2:=fun x y H Q=>∃l b xs zs,x = .ref l/\y = .ref b/\H l=some (.lst xs)/\H b=some (.lst zs)/\xs.length+zs.length<=sizeLine/\∀p,H p=none->Q (.ref p) (upd H p (.lst (xs++zs)))
theorem op_cat:OpR X (binaryOp .Add) rCat:=by
 intro pins s σ H x y v u Q I rx ry h
 obtain ⟨l,b,xs,zs,rfl,rfl,hH,hB,hz,q⟩:=h
 cases rx
 cases ry
 obtain ⟨z,its,n,r,hl,e⟩:=I.lstM hH
 obtain ⟨z2,its2,n2,r2,hl2,e2⟩:=I.lstM hB
 refine PySem.P.add_list e e2 ?_ (by rw [List.size_toArray,List.size_toArray]; omega)
 have ea:its.toArray++its2.toArray=(its++its2).toArray:=by simp
 rw [ea]
 exact ⟨.ref _,_,I.lnew (t':=s.toks) (r.append r2) (by rw [List.length_append]; omega),rfl,q _ I.fresh⟩
def rRep:R2:=fun x y H Q=>∃l k xs,x = .ref l/\y = .int k/\H l=some (.lst xs) /\ -(2 ^ 63)<=k/\k<2 ^ 63/\xs.length*k.toNat<=sizeLine /\
 ∀p,H p=none->Q (.ref p) (upd H p (.lst (List.replicate k.toNat xs).flatten))
end
section
variable {prog:Program} {w:World} {A:Around} {E:Value->Shared->Prop} {s:Shared}
set_option maxRecDepth 100000 in
end
section
variable {X:Cx}
end
end L2
namespace Att
open PySem PySem.W PySem.Calls PyProof.Rows
theorem ints_of_wellAll {P:Params} {h:Heap}:∀(ns:List Int) (vs:List Value),WellAll P h vs (ns.map WData.int)->IntsAre vs ns:=by
 intro ns
 induction ns with
 | nil=>
  intro vs w
  rw [List.map_nil] at w
  cases w
  exact .nil
 | cons n ns ih=>
  intro vs w
  rw [List.map_cons] at w
  cases w with
  | cons a b=>
   cases a
   exact .cons _ _ (ih _ b)
theorem script_of {l:OpenLaw} {n:Nat} (hn:l.most=some n) {P:Params} {h:Heap} {args:List WData} {vals:List Value}
  (hpre:l.row.toRowW.claim.pre args=true) (hwl:WellAll P h vals args) :
  ∃a vs ns,vals=[Value.ref a]/\args=[WData.list (ns.map WData.int)]/\h.get? a=some { cls:=.type "list",data:=.seq vs.toArray }/\IntsAre vs ns/\ns.length<=n:=by
 have hsh:WShape.hasAll [] args [.list .int]=true:=(pre_splitW hpre).1
 have hc:l.pre.holds [] { args:=args }=true:=(pre_splitW hpre).2
 obtain ⟨d,r,rfl,h1,h2⟩:=hasAllW_cons hsh
 obtain rfl:=hasAllW_nil h2
 obtain ⟨xs,rfl,h3⟩:=hasW_list h1
 obtain ⟨ns,rfl⟩:=items_int h3
 have hlen:ns.length<=n:=by
  unfold OpenLaw.pre at hc
  have h4:(WTm.not (.lt (.lit (.int (n:Int))) (.len (.arg 0)))).holds [] { args:=[.list (ns.map .int)] }=true:=by
   have h4:=(holds_andW hc).1
   rw [hn] at h4
   exact h4
  have h5:=condW_of h4 (w_not (w_lt w_lit (w_len_list (w_arg rfl))))
  rw [List.length_map] at h5
  refine Nat.le_of_not_lt fun q=>?_
  have q':(n:Int)<((ns.length:Nat):Int):=by omega
  first
   | (rw [decide_eq_true q'] at h5; exact absurd h5 (by decide))
   | (simp at h5; omega)
 cases hwl with
 | cons w1 w2=>
  cases w2
  cases w1 with
  | list ho hall=>exact ⟨_,_,ns,rfl,rfl,ho,ints_of_wellAll ns _ hall,hlen⟩
theorem post_true (l:OpenLaw) (args:List WData):l.row.toRowW.claim.post args (.bool true) args=true:=
 postW_of (r:=l.row.toRowW) (X:=(true == true))
  (show WShape.has [] (.bool true) .bool=true by first | rfl | decide | simp [WShape.has,WShape.arms,WShape.armsAll])
  (show (WTm.eq .res (.lit (.bool true))).value [] { args:=args,res:=some (.bool true),after:=args }=some (.bool (true == true)) from w_eq_bool (w_res rfl) w_lit) rfl
theorem attach_call {l:OpenLaw} {n:Nat} {q:Program} {loose:List Str} {XP:(Str->Option Value)->Heap->Prop} {YP:World->Heap->Prop} {d:DefRec}
  (hn:l.most=some n) (hdf:d.params.defaults=[])
  (call:∀(w:World) (s₀ s₁:Shared) (mg mb:Str->Option Value) (fa:Addr) (o:Obj) (pm cd doc:Value) (a:Addr) (vs:List Value) (ns:List Int),
   Ground q loose [] XP w s₀ mg mb s₁.heap->YP w s₁.heap ->
   s₁.heap.get? fa=some o->o.data = .func (docDef d.name d.params d.body d.scope pm cd doc)->s₁.heap.CodeRec cd d.name->mg d.name=some (.ref fa) ->
   s₁.heap.get? a=some { cls:=.type "list",data:=.seq vs.toArray }->IntsAre vs ns->ns.length<=n->s₁.gens = #[] ->
   codeAny (model l.prog w) callerA (.call (.ref fa) ⟨[.ref a],[]⟩) (fun r s'=>r = .ok (.ret (.bool true))/\OldK s₁.heap s'.heap/\s'.os=s₁.os/\AllBare s'.gens) s₁) :
  WalkO q loose XP YP l.row.toRowW d [] (fun f vs=>PySem.call f vs):=by
 intro w s₀ s₁ mg mb G Y fa o pm cd doc dV kV ho hd hcd hD hmg hg args vals as hpre hlay hrd hwl hlo
 obtain rfl:dV = .none:=Dflts.none hD hdf
 obtain rfl:kV = .none:=Dflts.noKw hD
 obtain ⟨a,vs,ns,rfl,rfl,hobj,hints,hlen⟩:=script_of hn hpre hwl
 refine enter_call (codeAny_mono (call w s₀ s₁ mg mb fa o pm cd doc a vs ns G Y ho (fd_plain hd) hcd hmg hobj hints hlen hg) fun r s' hq=>?_)
 obtain ⟨rfl,h2,h3,h4⟩:=hq
 exact ⟨.inl ⟨.bool true,.bool true,[],rfl,fun _=>rfl,.bool true,post_true l _,fun _=>⟨List.Pairwise.nil,fun _ hm=>(nomatch hm)⟩⟩,h2,h3,h4⟩
section
variable {prog:Program} {w:World} {A:Around} {E:Value->Shared->Prop} {s:Shared} {K:Frag}
def noObjs (h:Heap):Heap:={ h with objs:=#[] }
def ledger (h:Heap) (L d:Addr):List (Addr×Obj):=(List.range h.objs.size).filterMap fun a=>if a=L\/a=d then none else (h.get? a).map fun o=>(a,o)
end
end Att
namespace L2
open PySem PySem.Spec PyProof.Rows
theorem vals_ints:∀{vs:List Value} {ns:List Int},IntsAre vs ns->Vals (ns.map V.int) vs
 | _,_,.nil => .nil
 | _,_,.cons n t h => .cons ⟨t,rfl⟩ (vals_ints h)
def Only (H:Hp):Prop:=∀b,H b=none\/∃o xs,H b=some (.frz o (.lst xs))
theorem law_call {P:Program} {w:World} {K:W.Frag} {mg mb:Str->Option Value} {CX:CXT} {k:Nat} {fa a:Addr} {fd:FuncData} {x:Str} {sp:Sp} {s₁:Shared} {vs:List Value} {ns:List Int}
  (KX:K.In s₁.heap) (hns:s₁.heap.Ns mainGlobals mg) (hb:s₁.heap.Ns builtinsNs mb) (hbb:∀x:Str,x ≠ "__name__" -> mb x=bootBuiltins x) (hlim:s₁.heap.NoLimit) (hg:s₁.gens = #[])
  (ha:s₁.heap.get? a=some { cls:=.type "list",data:=.seq vs.toArray }) (hi:IntsAre vs ns) (hl:ns.length<=sizeLine) (hr:Room k callerA)
  (F:∀base:Heap,K.In base->base.Ns mainGlobals mg->FnOk P w K mg base CX k fa fd [x] sp) (hbind:∀(s:Shared) (u:Value),BindsTo s fd ⟨[u],[]⟩ [(x,u)])
  (hsp:∀H:Hp,Only H->SqL K H a (ns.map V.int)->sp [.ref a] H (fun v _=>v = .bl true) fun _ _ _=>False)
  (hCX:∀H e s',CX [] H s₁ (fun _ _ _=>False) e s'->False) :
  codeAny (model P w) callerA (.call (.ref fa) ⟨[.ref a],[]⟩) (fun r s'=>r = .ok (.ret (.bool true))/\OldK s₁.heap s'.heap/\s'.os=s₁.os/\AllBare s'.gens) s₁:=by
 have rv:=vals_ints hi
 have lenV:=hi.length
 have core:∀H:Hp,Only H->SqL K H a (ns.map V.int)->HOk P w H s₁.heap->(∀b,H b≠none->b=a)->(H a≠none->K.lookup a=none) ->
   codeAny (model P w) callerA (.call (.ref fa) ⟨[.ref a],[]⟩) (fun r s'=>r = .ok (.ret (.bool true))/\OldK s₁.heap s'.heap/\s'.os=s₁.os/\AllBare s'.gens) s₁:=by
  intro H hO hS hok hA hK
  have base_of:∀{b:Addr} {o:Obj},s₁.heap.get? b=some o->H b=none->(hidT s₁.heap H).get? b=some o:=fun e n=>hidT_get e n
  have noA:∀{b:Addr} {o:Obj} {es:Array DictEntry} {ep:Nat},s₁.heap.get? b=some o->o.data = .dict es ep->H b=none:=fun {b o es ep} e d=>by
   cases q:H b with
   | none=>rfl
   | some u=>
    have e':b=a:=hA b (by rw [q]; simp)
    subst e'
    rw [ha] at e; cases e
    have d':Data.seq vs.toArray _=Data.dict es ep:=d
    cases d'
  have nsK:∀{b:Addr} {m:Str->Option Value},s₁.heap.Ns b m->(hidT s₁.heap H).Ns b m:=fun {b m} ⟨o,es,ep,e,d,r⟩=>⟨o,es,ep,base_of e (noA e d),d,r⟩
  have hKb:K.In (hidT s₁.heap H):=fun b o e=>base_of (KX b o e) (by
   cases q:H b with
   | none=>rfl
   | some u=>
    have e':b=a:=hA b (by rw [q]; simp)
    subst e'
    rw [hK (by rw [q]; simp)] at e; cases e)
  have hM:Mod K mg (hidT s₁.heap H):=⟨hKb,nsK hns,⟨mb,nsK hb,hbb⟩,let ⟨mc,h1,h2⟩:=hlim; ⟨mc,nsK h1,h2⟩⟩
  have e0:Env0 P w K mg (hidT s₁.heap H) callerA [] s₁ H:=⟨rfl,hM,fun b o e=>of_hidT e,Nat.le_of_eq (hidT_size _ _),trivial,fun b hb=>absurd (show b∈([]:List Addr) from hb) (by simp),hok,.of_eq hg⟩
  refine codeAny_mono ((F _ hKb (nsK hns)).run callerA [] s₁ H ⟨[.ref a],[]⟩ [.ref a] [.ref a] _ _ hr e0 (hbind s₁ (.ref a)) (.cons rfl .nil) (hsp H hO hS)) fun r s' h=>?_
  cases r with
  | error e=>exact (hCX H e s' h).elim
  | ok fl=>
   cases fl with
   | next=>exact False.elim h
   | brk=>exact False.elim h
   | cont=>exact False.elim h
   | ret u=>
    obtain ⟨v,H',os,bare,un,hok',r',q⟩:=h
    have q':v = .bl true:=q
    subst q'
    obtain rfl:u=Value.bool true:=r'
    refine ⟨rfl,OldK.of_keep fun b o e=>?_,os,bare⟩
    cases q:H b with
    | none=>exact un.keep b o e q (by intro z; exact absurd (show b∈([]:List Addr) from z) (by simp)) (by simp)
    | some u=>
     rcases hO b with z | ⟨ob,xs,z⟩
     ·rw [q] at z; cases z
     ·have z2:=un.frzs b ob _ z
      obtain ⟨e1,_⟩:=hok b _ z
      obtain ⟨e2,_⟩:=hok' b _ z2
      rw [e] at e1; cases e1
      exact e2
 cases hk:K.lookup a with
 | some o=>
  have e:=KX a o hk
  rw [ha] at e
  cases e
  refine core (fun _=>none) (fun _ => .inl rfl) (.inr ⟨_,vs.toArray,_,hk,rfl,rfl,rfl,by rw [List.size_toArray,lenV]; exact hl,by simpa using rv⟩) (fun b u z=>by have z':(none:Option HO)=some u:=z; cases z') (fun b z=>absurd rfl z) fun z=>absurd rfl z
 | none=>
  refine core (fun b=>if b=a then some (.frz { cls:=.type "list",data:=.seq vs.toArray } (.lst (ns.map V.int))) else none) (fun b=>?_) (.inl (.inr ⟨{ cls:=.type "list",data:=.seq vs.toArray },if_pos rfl⟩)) (fun b u z=>?_) (fun b z=>?_) fun _=>hk
  ·by_cases hb:b=a
   ·exact .inr ⟨_,_,if_pos hb⟩
   ·exact .inl (if_neg hb)
  ·by_cases hb:b=a
   ·have z':=(if_pos hb).symm.trans z
    cases z'
    subst hb
    exact ⟨ha,by rw [List.length_map]; exact hl,vs,_,rv,ha⟩
   ·have z':=(if_neg hb).symm.trans z
    cases z'
  ·by_cases hb:b=a
   ·exact hb
   ·exact absurd (if_neg hb) z
end L2
namespace L2
open PySem PySem.Spec PyProof.Rows
abbrev KOf {K:W.Frag} {h:Heap} (_:K.In h):W.Frag:=K
theorem walk_of {l:W.OpenLaw} {n k:Nat} {q:Program} {loose:List Str} {XP:(Str->Option Value)->Heap->Prop} {YP:World->Heap->Prop} {d:DefRec} {K:Params->W.Frag} {CX:World->CXT} {sp:World->Sp} {x:Str}
  (hn:l.most=some n) (hn2:n<=sizeLine) (hdf:d.params.defaults=[]) (hr:Room k callerA)
  (hY:∀(w:World) (h:Heap),YP w h->(K w.params).In h)
  (F:∀(w:World) (mg:Str->Option Value) (fa:Addr) (h:Heap),(K w.params).In h->h.Ns mainGlobals mg->mg d.name=some (.ref fa) ->
   ∃fd:FuncData,(∀(s:Shared) (u:Value),BindsTo s fd ⟨[u],[]⟩ [(x,u)]) /\
    ∀base:Heap,(K w.params).In base->base.Ns mainGlobals mg->FnOk l.prog w (K w.params) mg base (CX w) k fa fd [x] (sp w))
  (hsp:∀(w:World) (H:Hp) (a:Addr) (ns:List Int),ns.length<=n->Only H->SqL (K w.params) H a (ns.map V.int)->sp w [.ref a] H (fun v _=>v = .bl true) fun _ _ _=>False)
  (hCX:∀(w:World) (H:Hp) (s:Shared) (e:Value) (s':Shared),CX w [] H s (fun _ _ _=>False) e s'->False) :
  W.WalkO q loose XP YP l.row.toRowW d [] (fun f vs=>PySem.call f vs):=by
 refine Att.attach_call hn hdf fun w s₀ s₁ mg mb fa o pm cd doc a vs ns G Y ho hd hcd hmg hobj hints hlen hg=>?_
 have KX:=hY w _ Y
 obtain ⟨fd,hb,hF⟩:=F w mg fa _ KX G.T.g hmg
 exact law_call KX G.T.g G.T.b G.T.builtins G.T.nolimit hg hobj hints (Nat.le_trans hlen hn2) hr hF hb (fun H hO hS=>hsp w H a ns hlen hO hS) fun H e s'=>hCX w H s₁ e s'
theorem walk_ofK {l:W.OpenLaw} {n k:Nat} {q:Program} {loose:List Str} {XP:(Str->Option Value)->Heap->Prop} {YP:World->Heap->Prop} {d:DefRec} {K:Params->W.Frag} {CX:CXT} {sp:W.Frag->Sp} {x:Str}
  (hn:l.most=some n) (hn2:n<=sizeLine) (hdf:d.params.defaults=[]) (hr:Room k callerA)
  (hY:∀(w:World) (h:Heap),YP w h->(K w.params).In h)
  (F:∀(w:World) (mg:Str->Option Value) (fa:Addr) (h:Heap),(K w.params).In h->h.Ns mainGlobals mg->mg d.name=some (.ref fa) ->
   ∃fd:FuncData,(∀(s:Shared) (u:Value),BindsTo s fd ⟨[u],[]⟩ [(x,u)]) /\
    ∀base:Heap,(K w.params).In base->base.Ns mainGlobals mg->FnOk l.prog w (K w.params) mg base CX k fa fd [x] (sp (K w.params)))
  (hsp:∀(K:W.Frag) (H:Hp) (a:Addr) (ns:List Int),ns.length<=n->Only H->SqL K H a (ns.map V.int)->sp K [.ref a] H (fun v _=>v = .bl true) fun _ _ _=>False)
  (hCX:∀(H:Hp) (s:Shared) (e:Value) (s':Shared),CX [] H s (fun _ _ _=>False) e s'->False) :
  W.WalkO q loose XP YP l.row.toRowW d [] (fun f vs=>PySem.call f vs):=
 walk_of (K:=K) (CX:=fun _=>CX) (sp:=fun w=>sp (K w.params)) hn hn2 hdf hr hY F (fun w H a ns h1 h2 h3=>hsp (K w.params) H a ns h1 h2 h3) fun _ H s e s'=>hCX H s e s'
end L2
namespace L2
open PySem PySem.Spec PyProof.Rows
def inClass (s:Stmt) (j:Nat):Stmt:=match s with
 | .ClassDef _ _ _ body _ _ _ _ _ _ _=>body.getD j (.Pass ⟨0,0,0,0⟩)
 | _ => .Pass ⟨0,0,0,0⟩
def defArgs (s:Stmt):Arguments:=match s with
 | .FunctionDef _ a _ _ _ _ _ _ _ _=>a
 | _=>{ posonlyargs:=[],args:=[],vararg:=none,kwonlyargs:=[],kw_defaults:=[],kwarg:=none,defaults:=[] }
def defBody (s:Stmt):List Stmt:=match s with
 | .FunctionDef _ _ b _ _ _ _ _ _ _=>b
 | _=>[]
def defScope (s:Stmt):Scope:=match s with
 | .FunctionDef _ _ _ _ _ _ sc _ _ _=>sc
 | _=>{ kind:=.function,names:=[],isGenerator:=false,isCoroutine:=false }
abbrev CX0:CXT:=fun _ _ _ _ _ _=>False
abbrev E0:XK:=fun _ _ _=>False
theorem pass0 {X:Cx}:Passes CX0 X E0:=fun _ _ _ _ _ _ _ h=>h.elim
structure Fun (K:W.Frag) (x qual:Str) (st:Stmt) (f:Addr) (fd:FuncData):Prop where
 ex:∃(oc:Value) (od:Option Addr) (kV doc pm:Value) (an:Option Addr) (cdv ct:Value) (osl:Array (Option Value)),
  fd=W.fnOf x qual (defArgs st) (defBody st) (defScope st) .none kV doc pm an cdv ct/\K.lookup f=some ⟨oc,od,.func fd,osl⟩/\W.codeIn K cdv qual=true
 kp:W.keepIn K (.ref f)=true
section
variable {P:Program} {w:World} {K:W.Frag} {mg:Str->Option Value} {base:Heap}
theorem Fun.ok {x qual:Str} {st:Stmt} {f:Addr} {fd:FuncData} {N ps:List Str} {k:Nat} {sp:Sp} (F:Fun K x qual st f fd) (S:FnScope N ps (defScope st)) (len:∀vs H Q E,sp vs H Q E->vs.length=ps.length)
  (hbody:∀(cdv:Value) (A:Around) (outer:List Env) (s:Shared) (H:Hp) (vs:List V) (Q:VK) (E:XK),Room k (A.deeper (envOfC qual (defScope st) s.heap.objs.size f cdv))->sp vs H Q E ->
   ∃t,PSs (cxOf CX0 P w K mg base N qual (defScope st) f cdv A outer s H E).nox (defBody st) t/\t { nx:=fun _ H'=>Q .non H',rt:=Q } (start N vs) H):FnOk P w K mg base CX0 (k+1) f fd ps sp:=by
 obtain ⟨oc,od,kV,doc,pm,an,cdv,ct,osl,rfl,lk,hcd⟩:=F.ex
 refine fn_of lk hcd S len fun A outer s H vs Q E hr hsp=>?_
 obtain ⟨t,h,q⟩:=hbody cdv A outer s H vs Q E hr hsp
 exact ⟨t,h.nox,q⟩
theorem Fun.binds {x qual:Str} {st:Stmt} {f:Addr} {fd:FuncData} {ps:List Str} (F:Fun K x qual st f fd)
  (h:∀(kV doc pm:Value) (an:Option Addr) (cdv ct:Value) (us:List Value),us.length=ps.length->bindArgs (W.fnOf x qual (defArgs st) (defBody st) (defScope st) .none kV doc pm an cdv ct) ⟨us,[]⟩=pure (ps.zip us)):Binds K fd ps []:=by
 obtain ⟨oc,od,kV,doc,pm,an,cdv,ct,osl,rfl,lk,hcd⟩:=F.ex
 exact .all (h kV doc pm an cdv ct)
theorem fun_mk {x qual:Str} {st:Stmt} {f:Addr} {oc:Value} {od an:Option Addr} {osl:Array (Option Value)} {kV doc pm cdv ct:Value} (l:K.lookup f=some ⟨oc,od,.func (W.fnOf x qual (defArgs st) (defBody st) (defScope st) .none kV doc pm an cdv ct),osl⟩)
  (c:W.codeIn K cdv qual=true) (k:W.keepIn K (.ref f)=true):Fun K x qual st f (W.fnOf x qual (defArgs st) (defBody st) (defScope st) .none kV doc pm an cdv ct):=⟨⟨oc,od,kV,doc,pm,an,cdv,ct,osl,rfl,l,c⟩,k⟩
end
section
variable {X:Cx}
theorem pv (i:Nat) {x:Str} {pos:Pos} (hN:X.N[i]?=some x:=by rfl) (hv:Vis X.env.scope x:=by first | exact Or.inl rfl | exact Or.inr (Or.inl rfl) | exact Or.inr (Or.inr rfl)) (hd:(x == ("__debug__" : Str))=false:=by decide)
  (hcd:(x == ("__classdict__" : Str))=false:=by decide):PE X (.Name x pos) (tVar i):=pe_var hN hv hd hcd
end
theorem iteF {A B:Prop} (h:B):if false=true then A else B:=by
 rw [if_neg Bool.false_ne_true]
 exact h
theorem iteT {A B:Prop} (h:A):if true=true then A else B:=by
 rw [if_pos rfl]
 exact h
theorem ite2 {c A B:Prop} [Decidable c] (h1:c->A) (h2:¬c->B):if c then A else B:=by
 by_cases h:c
 ·rw [if_pos h]
  exact h1 h
 ·rw [if_neg h]
  exact h2 h
def Same (H H':Hp):Prop:=∀b o,H b=some o->H' b=some o
theorem Same.refl (H:Hp):Same H H:=fun _ _ h=>h
theorem Same.trans {H H1 H2:Hp} (a:Same H H1) (b:Same H1 H2):Same H H2:=fun c o h=>b c o (a c o h)
theorem Same.free {H H':Hp} (e:Same H H') {l:Addr} (h:H' l=Option.none):H l=Option.none:=by
 cases q:H l with
 | none=>rfl
 | some o=>
  rw [e l o q] at h
  cases h
theorem Same.seq {K:W.Frag} {H H':Hp} {a:Addr} {xs:List V} (e:Same H H') (h:SqL K H a xs):SqL K H' a xs:=by
 rcases h with (h | ⟨o,h⟩) | h
 ·exact .inl (.inl (e _ _ h))
 ·exact .inl (.inr ⟨o,e _ _ h⟩)
 ·exact .inr h
end L2
set_option maxHeartbeats 4000000
namespace L2
open PySem PySem.Spec PyProof.Rows
section
variable {κ:Type} [DecidableEq κ]
def valV (kvs:List (κ×V)) (k:κ):Option V:=(kvs.find? fun kv=>decide (kv.1=k)).map (·.2)
def putK (kvs:List (κ×V)) (k:κ) (v:V):List (κ×V):=
 if (kvs.any fun kv=>decide (kv.1=k))=true then kvs.map (fun kv=>if kv.1=k then (kv.1,v) else kv) else kvs++[(k,v)]
def dropK (kvs:List (κ×V)) (k:κ):List (κ×V):=kvs.filter fun kv=>decide (kv.1≠k)
theorem valV_pos {p:κ×V} {r:List (κ×V)} {k:κ} (e:p.1=k):valV (p :: r) k=some p.2:=by simp [valV,List.find?_cons,e]
theorem valV_neg {p:κ×V} {r:List (κ×V)} {k:κ} (e:¬p.1=k):valV (p :: r) k=valV r k:=by simp [valV,List.find?_cons,e]
theorem valV_any (k:κ):∀kvs:List (κ×V),(kvs.any fun kv=>decide (kv.1=k))=(valV kvs k).isSome
 | []=>rfl
 | p :: r=>by
  rw [List.any_cons]
  by_cases e:p.1=k
  ·simp only [valV_pos e,decide_eq_true e,Bool.true_or,Option.isSome_some]
  ·rw [valV_neg e,decide_eq_false e,Bool.false_or]; exact valV_any k r
theorem valV_map (k j:κ) (y:V):∀kvs:List (κ×V),valV (kvs.map fun kv=>if kv.1=k then (kv.1,y) else kv) j=(valV kvs j).map fun x=>if j=k then y else x
 | []=>rfl
 | p :: r=>by
  have ih:=valV_map k j y r
  rw [List.map_cons]
  by_cases h:p.1=k
  ·rw [if_pos h]
   by_cases e:p.1=j
   ·rw [valV_pos (p:=(p.1,y)) e,valV_pos e,Option.map_some,if_pos (e.symm.trans h)]
   ·rw [valV_neg (p:=(p.1,y)) e,valV_neg e,ih]
  ·rw [if_neg h]
   by_cases e:p.1=j
   ·rw [valV_pos (p:=p) e,valV_pos e,Option.map_some,if_neg (fun z=>h (e.trans z))]
   ·rw [valV_neg (p:=p) e,valV_neg e,ih]
theorem valV_snoc (k j:κ) (y:V):∀kvs:List (κ×V),valV kvs k=none->valV (kvs++[(k,y)]) j=if j=k then some y else valV kvs j
 | [],_=>by
  by_cases e:k=j
  ·rw [if_pos e.symm]; exact valV_pos (p:=(k,y)) e
  ·rw [if_neg (fun z=>e z.symm)]; exact valV_neg (p:=(k,y)) e
 | p :: r,hn=>by
  rw [List.cons_append]
  have hk:¬p.1=k:=fun z=>by rw [valV_pos z] at hn; cases hn
  rw [valV_neg hk] at hn
  have ih:=valV_snoc k j y r hn
  by_cases e:p.1=j
  ·rw [valV_pos e,valV_pos e,if_neg (fun z=>hk (e.trans z))]
  ·rw [valV_neg e,valV_neg e,ih]
theorem valV_put (kvs:List (κ×V)) (k j:κ) (y:V):valV (putK kvs k y) j=if j=k then some y else valV kvs j:=by
 unfold putK
 by_cases a:(kvs.any fun kv=>decide (kv.1=k))=true
 ·rw [if_pos a,valV_map]
  rw [valV_any] at a
  by_cases e:j=k
  ·obtain ⟨x,hx⟩:=Option.isSome_iff_exists.mp a
   rw [if_pos e,e,hx,Option.map_some,if_pos rfl]
  ·rw [if_neg e]
   cases valV kvs j with
   | none=>rfl
   | some x=>rw [Option.map_some,if_neg e]
 ·rw [if_neg a]
  refine valV_snoc k j y kvs ?_
  rw [valV_any] at a
  cases q:valV kvs k with
  | none=>rfl
  | some x=>rw [q] at a; exact (a rfl).elim
theorem length_putK (kvs:List (κ×V)) (k:κ) (v:V):(putK kvs k v).length<=kvs.length+1:=by
 unfold putK
 split
 ·rw [List.length_map]; omega
 ·rw [List.length_append,List.length_cons,List.length_nil]; omega
theorem RelO.isSome_eq {o:Option V} {u:Option Value} (r:RelO o u):o.isSome=u.isSome:=by
 cases o with
 | none=>cases u with
  | none=>rfl
  | some _=>exact (show False from r).elim
 | some _=>cases u with
  | none=>exact (show False from r).elim
  | some _=>rfl
theorem KV.val {kvs:List (κ×V)} {vs:List (κ×Value)} (r:KV kvs vs) (k:κ):RelO (valV kvs k) (valueAt vs k):=by
 unfold KV at r
 induction r with
 | nil=>exact True.intro
 | @cons p q ps qs h t ih=>
  obtain ⟨h1,h2⟩:=h
  by_cases e:p.1=k
  ·have e':q.1=k:=h1.symm.trans e
   have b:valueAt (q :: qs) k=some q.2:=by simp [valueAt,List.find?_cons,e']
   rw [valV_pos e,b]; exact h2
  ·have e':¬q.1=k:=fun z=>e (h1.trans z)
   have b:valueAt (q :: qs) k=valueAt qs k:=by simp [valueAt,List.find?_cons,e']
   rw [valV_neg e,b]; exact ih
theorem KV.any {kvs:List (κ×V)} {vs:List (κ×Value)} (r:KV kvs vs) (k:κ):(kvs.any fun kv=>decide (kv.1=k))=vs.any fun kv=>decide (kv.1=k):=by
 unfold KV at r
 induction r with
 | nil=>rfl
 | cons h t ih=>rw [List.any_cons,List.any_cons,ih,h.1]
theorem KV.repl {kvs:List (κ×V)} {vs:List (κ×Value)} (r:KV kvs vs) (k:κ) {y:V} {u:Value} (ry:RelV y u) :
  KV (kvs.map fun kv=>if kv.1=k then (kv.1,y) else kv) (vs.map fun kv=>if kv.1=k then (kv.1,u) else kv):=by
 unfold KV at r ⊢
 induction r with
 | nil=>exact .nil
 | @cons p q ps qs h t ih=>
  rw [List.map_cons,List.map_cons]
  refine .cons ?_ ih
  obtain ⟨h1,h2⟩:=h
  by_cases e:p.1=k
  ·rw [if_pos e,if_pos (h1.symm.trans e)]; exact ⟨h1,ry⟩
  ·rw [if_neg e,if_neg (fun z=>e (h1.trans z))]; exact ⟨h1,h2⟩
theorem KV.put {kvs:List (κ×V)} {vs:List (κ×Value)} (r:KV kvs vs) (k:κ) {y:V} {u:Value} (ry:RelV y u):KV (putK kvs k y) (stored vs k u):=by
 unfold putK stored
 rw [r.any k]
 by_cases e:(vs.any fun kv=>decide (kv.1=k))=true
 ·rw [if_pos e,if_pos e]; exact r.repl k ry
 ·rw [if_neg e,if_neg e]; exact Paired.snoc r ⟨rfl,ry⟩
theorem KV.drop {kvs:List (κ×V)} {vs:List (κ×Value)} (r:KV kvs vs) (k:κ):KV (dropK kvs k) (without vs k):=by
 unfold KV at r ⊢
 unfold dropK without
 induction r with
 | nil=>exact .nil
 | @cons p q ps qs h t ih=>
  obtain ⟨h1,h2⟩:=h
  rw [List.filter_cons,List.filter_cons]
  by_cases e:p.1=k
  ·have a:¬decide (p.1≠k)=true:=by simp [e]
   have b:¬decide (q.1≠k)=true:=by simp [h1.symm.trans e]
   rw [if_neg a,if_neg b]; exact ih
  ·have e':¬q.1=k:=fun z=>e (h1.trans z)
   have a:decide (p.1≠k)=true:=by simp [e]
   have b:decide (q.1≠k)=true:=by simp [e']
   rw [if_pos a,if_pos b]; exact .cons ⟨h1,h2⟩ ih
theorem KV.length {kvs:List (κ×V)} {vs:List (κ×Value)} (r:KV kvs vs):kvs.length=vs.length:=Paired.length r
theorem dropK_le (kvs:List (κ×V)) (k:κ):(dropK kvs k).length<=kvs.length:=List.length_filter_le _ _
end
theorem kV_is {P:Program} {w:World} {k:Key} {u:Value} (r:RelV (kV k) u):(mixKind P w).is k u=true:=by
 cases k with
 | inl i=>obtain ⟨t,e⟩:=(show ∃t,u=Value.int i t from r); subst e; exact mixKind_int P w i t
 | inr x=>obtain ⟨t,e⟩:=(show ∃t,u=Value.str x t from r); subst e; exact mixKind_str P w x t
theorem items_are {P:Program} {w:World}:∀{ks:List Key} {us:List Value},Vals (ks.map kV) us->ItemsAre (mixKind P w) ks us
 | [],_,r=>by rw [List.map_nil] at r; cases r; exact .nil
 | k :: ks,_,r=>by
  rw [List.map_cons] at r
  cases r with
  | cons h t=>exact .cons (kV_is h) (items_are t)
abbrev KT (H:Hp):List (List Key×V)->List (List Key×Addr×Value)->Prop:=Paired fun p q=>p.1=q.1/\H q.2.1=some (.tup (p.1.map kV))/\RelV p.2 q.2.2
theorem KT.val {H:Hp} {kvs:List (List Key×V)} {xs:List (List Key×Addr×Value)} (r:KT H kvs xs) (k:List Key):RelO (valV kvs k) ((atKey xs k).map (·.2)):=by
 induction r with
 | nil=>exact True.intro
 | @cons p q ps qs h t ih=>
  obtain ⟨h1,_,h2⟩:=h
  by_cases e:p.1=k
  ·have e':q.1=k:=h1.symm.trans e
   have b:atKey (q :: qs) k=some q.2:=by simp [atKey,List.find?_cons,e']
   rw [valV_pos e,b]; exact h2
  ·have e':¬q.1=k:=fun z=>e (h1.trans z)
   have b:atKey (q :: qs) k=atKey qs k:=by simp [atKey,List.find?_cons,e']
   rw [valV_neg e,b]; exact ih
theorem KT.repl {H:Hp} {kvs:List (List Key×V)} {xs:List (List Key×Addr×Value)} (r:KT H kvs xs) (k:List Key) {y:V} {u:Value} (ry:RelV y u) :
  KT H (kvs.map fun kv=>if kv.1=k then (kv.1,y) else kv) (xs.map (putAt k u)):=by
 induction r with
 | nil=>exact .nil
 | @cons p q ps qs h t ih=>
  rw [List.map_cons,List.map_cons]
  refine .cons ?_ ih
  obtain ⟨h1,h2,h3⟩:=h
  unfold putAt
  by_cases e:p.1=k
  ·rw [if_pos e,if_pos (h1.symm.trans e)]; exact ⟨h1,h2,ry⟩
  ·rw [if_neg e,if_neg (fun z=>e (h1.trans z))]; exact ⟨h1,h2,h3⟩
theorem KT.put {H:Hp} {kvs:List (List Key×V)} {xs:List (List Key×Addr×Value)} (r:KT H kvs xs) (k:List Key) {b:Addr} {y:V} {u:Value} (hb:H b=some (.tup (k.map kV))) (ry:RelV y u) :
  KT H (putK kvs k y) (storedH xs k b u):=by
 have e:(kvs.any fun kv=>decide (kv.1=k))=(atKey xs k).isSome:=by
  rw [valV_any,(r.val k).isSome_eq,Option.isSome_map]
 unfold putK storedH
 rw [e]
 by_cases q:(atKey xs k).isSome=true
 ·rw [if_pos q,if_pos q]; exact r.repl k ry
 ·rw [if_neg q,if_neg q]; exact Paired.snoc r ⟨rfl,hb,ry⟩
theorem KT.keeps {H H':Hp} {kvs:List (List Key×V)} {xs:List (List Key×Addr×Value)} (r:KT H kvs xs) (ht:∀b ys,H b=some (.tup ys)->H' b=some (.tup ys)):KT H' kvs xs:=
 Paired.mapP r fun _ _ z=>⟨z.1,ht _ _ z.2.1,z.2.2⟩
section
variable {P:Program} {w:World} {H:Hp} {h:Heap} {a:Addr}
theorem rd_of {u:HO} (ok:HOk P w H h) (e:Rd H a u):ObjOk P w H h a u:=e.ok ok
theorem dk_rd {kvs:List (Key×V)} (ok:HOk P w H h) (e:Rd H a (.dK kvs)):kvs.length<=sizeLine/\(a == sysModules)=false/\∃vs,KV kvs vs/\h.DictOf (mixKind P w) a vs:=
 show ObjOk P w H h a (.dK kvs) from rd_of ok e
theorem dk_of {kvs:List (Key×V)} (ok:HOk P w H h) (e:H a=some (.dK kvs)):kvs.length<=sizeLine/\(a == sysModules)=false/\∃vs,KV kvs vs/\h.DictOf (mixKind P w) a vs:=dk_rd ok (.inl e)
theorem key_of {ks:List Key} (ok:HOk P w H h) (e:H a=some (.tup (ks.map kV))):(tupleKind (mixKind P w)).is h ks a:=by
 obtain ⟨_,its,r,o,h1,h2,n,h3⟩:=(show ObjOk P w H h a (.tup (ks.map kV)) from ok a _ e)
 exact ⟨o,its.toArray,n,h1,h2,h3,by simpa using items_are r⟩
theorem dt_rd {kvs:List (List Key×V)} (ok:HOk P w H h) (e:Rd H a (.dT kvs)):kvs.length<=sizeLine/\(a == sysModules)=false /\
  ∃xs,KT H kvs xs/\h.DictOfH (tupleKind (mixKind P w)) a xs:=by
 obtain ⟨z,y,xs,r,o,es,ep,h1,h2,h3,h4,h5⟩:=(show ObjOk P w H h a (.dT kvs) from rd_of ok e)
 refine ⟨z,y,xs,r,o,es,ep,h1,h2,h3,h4,fun x hx=>?_,h5⟩
 have all:∀{l:List (List Key×V)} {m:List (List Key×Addr×Value)},KT H l m->∀x∈m,(tupleKind (mixKind P w)).is h x.1 x.2.1:=by
  intro l m q
  induction q with
  | nil=>intro x hx; exact nomatch hx
  | @cons p q ps qs hq t ih=>
   intro x hx
   rcases List.mem_cons.mp hx with e | hx
   ·subst e
    exact key_of ok (by rw [<-hq.1]; exact hq.2.1)
   ·exact ih x hx
 exact all r x hx
theorem dt_of {kvs:List (List Key×V)} (ok:HOk P w H h) (e:H a=some (.dT kvs)):kvs.length<=sizeLine/\(a == sysModules)=false /\
  ∃xs,KT H kvs xs/\h.DictOfH (tupleKind (mixKind P w)) a xs:=dt_rd ok (.inl e)
end
def DGet (H:Hp) (a:Addr) (y:V) (r:Option V):Prop:=
 (∃kvs k,Rd H a (.dK kvs)/\y=kV k/\r=valV kvs k)\/∃kvs k b,Rd H a (.dT kvs)/\y = .ref b/\H b=some (.tup (k.map kV))/\r=valV kvs k
def DPut (H:Hp) (a:Addr) (y v:V) (H':Hp):Prop:=
 (∃kvs k,H a=some (.dK kvs)/\y=kV k/\kvs.length<sizeLine/\H'=upd H a (.dK (putK kvs k v))) \/
 ∃kvs k b,H a=some (.dT kvs)/\y = .ref b/\H b=some (.tup (k.map kV))/\kvs.length<sizeLine/\H'=upd H a (.dT (putK kvs k v))
theorem DPut.k {H:Hp} {a:Addr} {kvs:List (Key×V)} {k:Key} {v:V} (e:H a=some (.dK kvs)) (hl:kvs.length<sizeLine):DPut H a (kV k) v (upd H a (.dK (putK kvs k v))):=.inl ⟨kvs,k,e,rfl,hl,rfl⟩
section
variable {X:Cx} {pins:List (Addr×Obj)} {σ:St} {H:Hp} {s:Shared} {a:Addr} {y v:V} {u r:Value} {o:Option V} {A:Around} {E:Value->Shared->Prop}
theorem Inv.big (I:Inv X pins σ H s):sysModules<s.heap.objs.size:=by
 have h:mainGlobals<s.heap.objs.size:=(I.mod.glob.keeps I.bk).lt
 exact Nat.lt_trans (by decide) h
theorem d_getItem {Q:Value->Shared->Prop} (hu:A.units+1<cLine) (I:Inv X pins σ H s) (g:DGet H a y (some v)) (ry:RelV y u) (h:∀w' s',Inv X pins σ H s'->RelV v w'->Q w' s') :
  wpAny (model X.prog X.w) A (getItem (.ref a) u) Q E s:=by
 rcases g with ⟨kvs,k,e,ey,l⟩ | ⟨kvs,k,b,e,ey,eb,l⟩
 ·subst ey
  obtain ⟨z,hd,vs,rel,dd⟩:=dk_rd I.hok e
  obtain ⟨w',hw,rw'⟩:=RelO.some_of (v:=v) (o:=valueAt vs k) (by rw [l]; exact rel.val k)
  exact wpAny_getItem_of (kV_is ry) dd.mapOf hw (h w' _ (I.tok _) rw')
 ·subst ey
  cases (show u=Value.ref b from ry)
  obtain ⟨z,hd,xs,rel,dd⟩:=dt_rd I.hok e
  obtain ⟨w',hw,rw'⟩:=RelO.some_of (v:=v) (o:=(atKey xs k).map (·.2)) (by rw [l]; exact rel.val k)
  obtain ⟨p,hp,hp2⟩:=Option.map_eq_some_iff.mp hw
  refine wpAny_getItem_heap (tupleKind_room_in1 hu) (key_of I.hok eb) dd hp ?_
  rw [hp2]
  exact h w' _ (I.tok _) rw'
theorem d_write {h':Heap} {t':Nat} {ob:HO} (I:Inv X pins σ H s) (mu:Mut (H a)) (hs:Heap.SameBut a s.heap h') (he:∃q,h'.get? a=some q) (new:ObjOk X.prog X.w (upd H a ob) h' a ob) :
  Inv X pins σ (upd H a ob) { s with heap:=h',toks:=t' }:=
 I.write (x:=a) (e:=a) mu (.inl rfl) (fun b q hb z=>(hs.2 b hb).trans z) he new
theorem dk_new {P:Program} {w:World} {H':Hp} {h':Heap} {kvs:List (Key×V)} {vs:List (Key×Value)} (z:kvs.length<=sizeLine) (hd:(a == sysModules)=false) (rel:KV kvs vs) (dd:h'.DictOf (mixKind P w) a vs) :
  ObjOk P w H' h' a (.dK kvs):=⟨z,hd,vs,rel,dd⟩
theorem d_setItem {H':Hp} {Q:Unit->Shared->Prop} (hu:A.units+1<cLine) (I:Inv X pins σ H s) (g:DPut H a y v H') (ry:RelV y u) (rv:RelV v r) (h:∀s',Inv X pins σ H' s'->Q () s') :
  wpAny (model X.prog X.w) A (setItem (.ref a) u r) Q E s:=by
 rcases g with ⟨kvs,k,e,ey,l,eH⟩ | ⟨kvs,k,b,e,ey,eb,l,eH⟩
 ·subst ey eH
  obtain ⟨z,hd,vs,rel,dd⟩:=dk_of I.hok e
  have hz:vs.length<=sizeLine:=by rw [<-rel.length]; exact z
  have hl:(putK kvs k v).length<=sizeLine:=by have:=length_putK kvs k v; omega
  refine wpAny_setItem_pairs (hsz:=hz) (kV_is ry) dd fun h' dd' hs=>h _ ?_
  have he:∃q,h'.get? a=some q:=let ⟨q,_,_,hq,_⟩:=dd'; ⟨q,hq⟩
  exact d_write I (by rw [e]; exact True.intro) hs he (dk_new hl hd (rel.put k rv) dd')
 ·subst ey eH
  cases (show u=Value.ref b from ry)
  obtain ⟨z,hd,xs,rel,dd⟩:=dt_of I.hok e
  have hz:xs.length<=sizeLine:=by rw [<-Paired.length rel]; exact z
  have hl:(putK kvs k v).length<=sizeLine:=by have:=length_putK kvs k v; omega
  refine wpAny_setItem_heap (hsz:=hz) (tupleKind_room_in1 hu) (key_of I.hok eb) dd fun h' dd' hs=>h _ ?_
  obtain ⟨q,es,ep,hq,h2,h3,h4,_,h5⟩:=dd'
  refine d_write I (by rw [e]; exact True.intro) hs ⟨q,hq⟩ ⟨hl,hd,_,(rel.put k eb rv).keeps fun c ys ec=>?_,q,es,ep,hq,h2,h3,h4,h5⟩
  rw [upd_ne (ne_of ec e (fun z=>nomatch z))]
  exact ec
end
section
variable {X:Cx} {pins:List (Addr×Obj)} {σ:St} {H:Hp} {s:Shared} {a:Addr} {kvs:List (Key×V)} {k:Key} {u:Value} {A:Around} {E:Value->Shared->Prop}
theorem d_pop {v:V} {more:List Value} {Q:Value->Shared->Prop} (I:Inv X pins σ H s) (e:H a=some (.dK kvs)) (ry:RelV (kV k) u) (l:valV kvs k=some v) (hm:more=[]\/∃x,more=[x])
  (h:∀w' s',Inv X pins σ (upd H a (.dK (dropK kvs k))) s'->RelV v w'->Q w' s'):wpAny (model X.prog X.w) A (call (.builtin "dict.pop") (.ref a :: u :: more)) Q E s:=by
 obtain ⟨z,hd,vs,rel,dd⟩:=dk_of I.hok e
 obtain ⟨w',hw,rw'⟩:=RelO.some_of (v:=v) (o:=valueAt vs k) (by rw [<-l]; exact rel.val k)
 have hp:(keyPart u).isSome=true:=by
  cases k with
  | inl i=>obtain ⟨t,q⟩:=(show ∃t,u=Value.int i t from ry); subst q; rfl
  | inr x=>obtain ⟨t,q⟩:=(show ∃t,u=Value.str x t from ry); subst q; rfl
 have ha:argsOk "dict.pop" ⟨.ref a :: u :: more,[]⟩:=by
  rcases hm with q | ⟨x,q⟩
  ·subst q; exact PySem.F.args_dict_pop_2 _ _
  ·subst q; exact PySem.F.args_dict_pop_3 _ _ _
 refine call_meetsIn PySem.F.slot_dict_pop dd.typeIs PySem.F.entry_dict_pop ha (meets_dict_pop_there (mixKind X.prog X.w) a (kV_is ry) more hm hp)
  ⟨vs,w',dd,by rw [<-rel.length]; exact z,hw,fun h' dd' hs=>h w' _ ?_ rw'⟩
 have he:∃q,h'.get? a=some q:=let ⟨q,_,_,hq,_⟩:=dd'; ⟨q,hq⟩
 exact d_write I (by rw [e]; exact True.intro) hs he (dk_new (Nat.le_trans (dropK_le kvs k) z) hd (rel.drop k) dd')
theorem d_popD {r:Value} {Q:Value->Shared->Prop} (I:Inv X pins σ H s) (e:H a=some (.dK kvs)) (ry:RelV (kV k) u) (l:valV kvs k=none) (h:∀s',Inv X pins σ H s'->Q r s') :
  wpAny (model X.prog X.w) A (call (.builtin "dict.pop") [.ref a,u,r]) Q E s:=by
 obtain ⟨z,hd,vs,rel,dd⟩:=dk_of I.hok e
 have hn:valueAt vs k=none:=RelO.none_of (by rw [<-l]; exact rel.val k)
 have hp:(keyPart u).isSome=true:=by
  cases k with
  | inl i=>obtain ⟨t,q⟩:=(show ∃t,u=Value.int i t from ry); subst q; rfl
  | inr x=>obtain ⟨t,q⟩:=(show ∃t,u=Value.str x t from ry); subst q; rfl
 exact call_meetsIn PySem.F.slot_dict_pop dd.typeIs PySem.F.entry_dict_pop (PySem.F.args_dict_pop_3 _ _ _) (meets_dict_pop_default (mixKind X.prog X.w) a (kV_is ry) hd hp r) ⟨vs,dd,hn,h _ (I.tok _)⟩
end
def NoSl (i:Expr):Prop:=∀ov iv,subscripted i false ov iv=operate [ov,iv] (getItem ov iv)
theorem subD_of {prog:Program} {w:World} {A:Around} {E:Value->Shared->Prop} {s:Shared} {env:Env} {value slice:Expr} {pos:Pos} {T id:String} {Q:Value->Shared->Prop}
  (hl:typeLookup (.type T) "__getitem__" = pure (some (.builtin id))) (hs:NoSl slice)
  (h:wpAny (model prog w) A (eval value env) (fun o s₁=>wpAny (model prog w) A (eval slice env) (fun i s₂=>s₂.TypeIs o T/\wpAny (model prog w) A (getItem o i) Q E s₂) E s₁) E s) :
  wpAny (model prog w) A (eval (.Subscript value slice pos) env) Q E s:=by
 refine Subscript_ (wpAny_mono h (fun o s₁ h₁=>wpAny_mono h₁ (fun i s₂ h₂=>?_) fun _ _ x=>x) fun _ _ x=>x)
 obtain ⟨hT,h₂⟩:=h₂
 unfold subscriptTail
 refine wpAny_bind ?_
 rw [getitemInPython_of_ne hT.not_modules]
 refine wpAny_bind (wpAny_specialOf hT hl ?_)
 have fin:wpAny (model prog w) A (subscripted slice false o i) (fun r s₃=>wpAny (model prog w) A (letTemporaryGo value o r >>= fun _=>pure r) Q E s₃) E s₂:=by
  rw [hs o i]
  exact wpAny_operating (wpAny_mono h₂ (fun r s₃ h₃=>wpAny_bind (wpAny_letTemporaryGo (wpAny_pure h₃))) fun _ _ x=>x)
 first
  | exact wpAny_pure (wpAny_bind fin)
  | exact wpAny_bind (wpAny_pure (wpAny_bind fin))
  | exact wpAny_bind fin
theorem dict_typeIs {X:Cx} {pins:List (Addr×Obj)} {σ:St} {H:Hp} {s:Shared} {a:Addr} {y:V} {o:Option V} (I:Inv X pins σ H s) (g:DGet H a y o):s.TypeIs (.ref a) "dict" := by
 rcases g with ⟨kvs,k,e,_,_⟩ | ⟨kvs,k,b,e,_,_,_⟩
 ·obtain ⟨_,_,vs,_,dd⟩:=dk_rd I.hok e
  exact dd.typeIs
 ·obtain ⟨_,_,xs,_,dd⟩:=dt_rd I.hok e
  exact dd.typeIs
def tDGet (td ty:TE):TE:=fun σ H Q=>td σ H fun x H1=>ty σ H1 fun y H2=>∃a v,x = .ref a/\DGet H2 a y (some v)/\Q v H2
def tDIn (ty td:TE):TE:=fun σ H Q=>ty σ H fun y H1=>td σ H1 fun x H2=>∃a o,x = .ref a/\DGet H2 a y o/\Q (.bl o.isSome) H2
def tDNotIn (ty td:TE):TE:=fun σ H Q=>ty σ H fun y H1=>td σ H1 fun x H2=>∃a o,x = .ref a/\DGet H2 a y o/\Q (.bl (!o.isSome)) H2
def sDPut (td ty tv:TE):TS:=fun D σ H=>tv σ H fun v H1=>td σ H1 fun x H2=>ty σ H2 fun y H3=>∃a H4,x = .ref a/\DPut H3 a y v H4/\D.nx σ H4
def sDAug (td ty tv:TE) (rd:V->V->Hp->VK->Prop):TS:=fun D σ H=>td σ H fun x H1=>ty σ H1 fun y H2=>∃a v,x = .ref a/\DGet H2 a y (some v) /\
 tv σ H2 fun y2 H3=>rd v y2 H3 fun z H4=>∃H5,DPut H4 a y z H5/\D.nx σ H5
def sDDel (td ty:TE):TS:=fun D σ H=>td σ H fun x H1=>ty σ H1 fun y H2=>∃a kvs k,x = .ref a/\H2 a=some (.dK kvs)/\y=kV k/\(valV kvs k).isSome=true/\D.nx σ (upd H2 a (.dK (dropK kvs k)))
section
variable {X:Cx} {o i e value:Expr} {pos pos' tpos:Pos} {td ty tv:TE}
theorem pe_dget (hu:X.A.units+1<cLine) (ho:PE X o td) (hi:PE X i ty) (hs:NoSl i):PE X (.Subscript o i pos) (tDGet td ty):=by
 intro pins s σ H Q I h
 refine subD_of PySem.F.slot_dict_getitem.lookup hs (thn (ho pins s σ H _ I h) fun u s1 ⟨x,H1,I1,rx,q1⟩=>thn (hi pins s1 σ H1 _ I1 q1) fun iv s2 ⟨y,H2,I2,ry,a,v,ex,g,q2⟩=>?_)
 subst ex
 obtain rfl:u=Value.ref a:=rx
 exact ⟨dict_typeIs I2 g,d_getItem hu I2 g ry fun w' s3 I3 rw'=>⟨v,H2,I3,rw',q2⟩⟩
end
theorem dk_empty {P:Program} {w:World} {H:Hp} (h:Heap) (hb:sysModules<h.objs.size):ObjOk P w H (h.push { cls:=.type "dict",data:=.dict #[] }) h.objs.size (.dK []):=
 ⟨Nat.zero_le _,beq_eq_false_iff_ne.mpr (Ne.symm (Nat.ne_of_lt hb)),[],.nil,Heap.DictOf.new h⟩
def tDNewK:TE:=fun _ H Q=>∀p,H p=none->Q (.ref p) (upd H p (.dK []))
def tDNewT:TE:=fun _ H Q=>∀p,H p=none->Q (.ref p) (upd H p (.dT []))
section
variable {X:Cx} {pos:Pos}
theorem pe_dnewK:PE X (.Dict [] [] pos) tDNewK:=fun pins s σ H Q I h=>
 wpAny_Dict_empty ⟨.ref s.heap.objs.size,_,I.laid (a:=s.heap.objs.size) (o:=.dK []) (t':=s.toks) (fun _ _ q=>Heap.get?_push_of_some _ q) (Nat.le_refl _) (dk_empty s.heap I.big),rfl,h _ (I.hok.fresh (Nat.le_refl _))⟩
end
def tPairs:List (TE×TE)->St->Hp->(List (V×V)->Hp->Prop)->Prop
 | [],_,H,Q=>Q [] H
 | (tk,tv) :: r,σ,H,Q=>tk σ H fun x H1=>tv σ H1 fun y H2=>tPairs r σ H2 fun ps H3=>Q ((x,y) :: ps) H3
abbrev VV:List (V×V)->List (Value×Value)->Prop:=Paired fun p q=>RelV p.1 q.1/\RelV p.2 q.2
def PPs (X:Cx) (pos:Pos) (keys:List (Option Expr)) (values:List Expr) (trs:List (TE×TE)):Prop:=
 ∀(pins:List (Addr×Obj)) (s:Shared) (σ:St) (H:Hp) (Q:List (V×V)->Hp->Prop),Inv X pins σ H s->tPairs trs σ H Q ->
  wpAny (model X.prog X.w) X.A (evalPairs (pairTrees keys values X.env pos)) (fun vs s'=>∃ps H',Inv X pins σ H' s'/\VV ps vs/\Q ps H') X.xe s
def mergeK (kvs more:List (Key×V)):List (Key×V):=more.foldl (fun acc kv=>putK acc kv.1 kv.2) kvs
def tDisp (trs:List (TE×TE)):TE:=fun σ H Q=>∀p,H p=none->tPairs trs σ (upd H p (.dK [])) fun ps H2=>H2 p=some (.dK [])/\∃kvs:List (Key×V),ps=kvs.map (fun kv=>(kV kv.1,kv.2))/\kvs.length<=15/\Q (.ref p) (upd H2 p (.dK (mergeK [] kvs)))
structure M1 (X:Cx) (o:Expr) (m:Str) (apos:Pos) (e:Expr) (cpos:Pos):Prop where
 base:attributeBase o m X.env (eval o X.env)=eval o X.env
 few:((backTo cpos (starEach [e] X.env)).all (fun x=>!x.1)&&(backToKw cpos (keywordEach [] X.env)).all (fun x=>x.1.isSome)
  && decide (([e]:List Expr).length+([]:List Keyword).length+(if ([]:List Keyword).isEmpty then 0 else 1)<30))=true
 line:(apos.endLine == cpos.line)=true
 trees:backTo cpos (starEach [e] X.env)=[(false,eval e X.env)]
structure M2 (X:Cx) (o:Expr) (m:Str) (apos:Pos) (e f:Expr) (cpos:Pos):Prop where
 base:attributeBase o m X.env (eval o X.env)=eval o X.env
 few:((backTo cpos (starEach [e,f] X.env)).all (fun x=>!x.1)&&(backToKw cpos (keywordEach [] X.env)).all (fun x=>x.1.isSome)
  && decide (([e,f]:List Expr).length+([]:List Keyword).length+(if ([]:List Keyword).isEmpty then 0 else 1)<30))=true
 line:(apos.endLine == cpos.line)=true
 trees:backTo cpos (starEach [e,f] X.env)=[(false,eval e X.env),(false,eval f X.env)]
def IsD (H:Hp) (a:Addr):Prop:=(∃kvs,Rd H a (.dK kvs))\/∃kvs,Rd H a (.dT kvs)
theorem isD_at {X:Cx} {pins:List (Addr×Obj)} {σ:St} {H:Hp} {s:Shared} {a:Addr} (I:Inv X pins σ H s) (d:IsD H a) :
  s.TypeIs (.ref a) "dict" /\ (∀b,Value.ref a = .ref b->∃ob,s.heap.get? b=some ob/\ob.dict=none)/\(a == sysModules)=false:=by
 rcases d with ⟨kvs,e⟩ | ⟨kvs,e⟩
 ·obtain ⟨_,hd,vs,_,dd⟩:=dk_rd I.hok e
  refine ⟨dd.typeIs,fun b q=>?_,hd⟩
  cases q
  obtain ⟨ob,_,_,h1,h2,_⟩:=dd
  exact ⟨ob,h1,h2.2.1⟩
 ·obtain ⟨_,hd,xs,_,dd⟩:=dt_rd I.hok e
  refine ⟨dd.typeIs,fun b q=>?_,hd⟩
  cases q
  obtain ⟨ob,_,_,h1,h2,_⟩:=dd
  exact ⟨ob,h1,h2.2.1⟩
section
variable {X:Cx} {pins:List (Addr×Obj)} {σ:St} {H:Hp} {s:Shared} {a:Addr} {y d:V} {u r:Value} {o:Option V} {A:Around} {E:Value->Shared->Prop}
end
def tDGet1 (td ty:TE):TE:=fun σ H Q=>td σ H fun x H1=>∃a,x = .ref a/\IsD H1 a/\ty σ H1 fun y H2=>∃o,DGet H2 a y o/\Q (o.getD .non) H2
def tDGet2 (td ty tx:TE):TE:=fun σ H Q=>td σ H fun x H1=>∃a,x = .ref a/\IsD H1 a/\ty σ H1 fun y H2=>tx σ H2 fun z H3=>∃o,DGet H3 a y o/\Q (o.getD z) H3
def tDPop1 (td ty:TE):TE:=fun σ H Q=>td σ H fun x H1=>∃a,x = .ref a/\IsD H1 a/\ty σ H1 fun y H2=>∃kvs k v,H2 a=some (.dK kvs)/\y=kV k/\valV kvs k=some v/\Q v (upd H2 a (.dK (dropK kvs k)))
def tDPop2 (td ty tx:TE):TE:=fun σ H Q=>td σ H fun x H1=>∃a,x = .ref a/\IsD H1 a/\ty σ H1 fun y H2=>tx σ H2 fun z H3=>∃kvs k,H3 a=some (.dK kvs)/\y=kV k /\
 (∀v,valV kvs k=some v->Q v (upd H3 a (.dK (dropK kvs k))))/\(valV kvs k=none->Q z H3)
section
variable {X:Cx} {o e f:Expr} {apos cpos:Pos} {td ty tx:TE}
end
section
variable {X:Cx} {pins:List (Addr×Obj)} {σ:St} {H:Hp} {s:Shared} {a:Addr} {kvs:List (Key×V)} {A:Around} {E:Value->Shared->Prop}
end
section
variable {X:Cx} {pins:List (Addr×Obj)} {σ:St} {H:Hp} {s:Shared} {a:Addr} {y:V} {u:Value} {A:Around} {E:Value->Shared->Prop}
end
end L2
namespace SW
def gcdI (a b:Int):Int:=(Int.gcd a b:Int)
theorem gcdI_pos {a b:Int} (h:0<b):0<gcdI a b:=by
 have:=Int.gcd_pos_of_ne_zero_right a (by omega:b≠0)
 unfold gcdI; omega
theorem gcdI_zero {a:Int} (h:0<=a):gcdI a 0=a:=by
 unfold gcdI; rw [Int.gcd_zero_right]; omega
theorem gcdI_step {a b:Int}:gcdI b (a % b)=gcdI a b:=by
 unfold gcdI
 rw [Int.emod_def,Int.gcd_sub_right_right_of_dvd a (Int.dvd_mul_right b _),Int.gcd_comm]
theorem gcdI_dvd_left (a b:Int):gcdI a b ∣ a:=Int.gcd_dvd_left ..
theorem gcdI_dvd_right (a b:Int):gcdI a b ∣ b:=Int.gcd_dvd_right ..
theorem gcdI_le {a b:Int} (hb:0<b):gcdI a b<=b:=Int.le_of_dvd hb (gcdI_dvd_right a b)
structure Low (a b x y:Int):Prop where
 x0:0<=x
 y0:0<y
 one:gcdI x y=1
 eq:x*b=y*a
 lex:x<=a
 ley:y<=b
theorem low_ok {a b:Int} (ha:0<=a) (hb:0<b):Low a b (a / gcdI a b) (b / gcdI a b):=by
 have hg:=gcdI_pos (a:=a) hb
 obtain ⟨x,hx⟩:=gcdI_dvd_left a b
 obtain ⟨y,hy⟩:=gcdI_dvd_right a b
 have ex:a / gcdI a b=x:=by
  conv=>lhs; arg 1; rw [hx]
  exact Int.mul_ediv_cancel_left _ (by omega)
 have ey:b / gcdI a b=y:=by
  conv=>lhs; arg 1; rw [hy]
  exact Int.mul_ediv_cancel_left _ (by omega)
 have one:gcdI (a / gcdI a b) (b / gcdI a b)=1:=by
  unfold gcdI
  rw [Int.gcd_ediv (Int.gcd_dvd_left ..) (Int.gcd_dvd_right ..),Int.natAbs_natCast]
  have:0<Int.gcd a b:=by unfold gcdI at hg; omega
  rw [Nat.div_self this]; rfl
 rw [ex,ey] at one ⊢
 have hy0:0<y:=Int.pos_of_mul_pos_right (by rw [<-hy]; exact hb) hg
 have hx0:0<=x:=by
  rcases Int.lt_or_le x 0 with h | h
  ·have:gcdI a b*x<gcdI a b*0:=Int.mul_lt_mul_of_pos_left h hg
   rw [<-hx,Int.mul_zero] at this
   omega
  ·exact h
 refine ⟨hx0,hy0,one,?_,?_,?_⟩
 ·grind
 ·have h1:1*x<=gcdI a b*x:=Int.mul_le_mul_of_nonneg_right (by omega) hx0
  omega
 ·have h1:1*y<=gcdI a b*y:=Int.mul_le_mul_of_nonneg_right (by omega) (by omega)
  omega
theorem mul_bd {a b m n:Int} (ha:0<=a) (ha':a<=m) (hb:0<=b) (hb':b<=n):0<=a*b/\a*b<=m*n:=
 ⟨Int.mul_nonneg ha hb,Int.mul_le_mul ha' hb' hb (by omega)⟩
end SW
namespace SW
end SW
namespace L2
open PySem PySem.Spec PyProof.Rows
def Fits (i:Int):Prop:=i.natAbs<2 ^ 8192
theorem Fits.log {i:Int} (h:Fits i):i.natAbs.log2<8192:=by
 by_cases h0:i.natAbs=0
 ·rw [h0]; exact (by decide:Nat.log2 0<8192)
 ·exact (Nat.log2_lt h0).mpr h
theorem Fits.bits {i:Int} (h:Fits i):Builtin.Int.intBits i<=2 ^ 20:=by
 have h1:=h.log
 have h2:(8193:Nat)<=2 ^ 20:=by decide
 unfold Builtin.Int.intBits
 split
 ·exact Nat.zero_le _
 ·omega
theorem pow100:(10 ^ 100:Nat)<=2 ^ 8192:=Nat.le_trans (by decide +kernel:(10 ^ 100:Nat)<=2 ^ 340) (Nat.pow_le_pow_right (by decide) (by decide))
theorem fits_of {i:Int} (h1:-(10 ^ 100)<i) (h2:i<10 ^ 100):Fits i:=by
 have h3:i.natAbs<10 ^ 100:=by omega
 exact Nat.lt_of_lt_of_le h3 pow100
def CMulF (i j:Int):Prop:=CMul i j\/(Fits i/\Fits j)
def CDivF (_ j:Int):Prop:=0<j/\Fits j
theorem CMulF.ok {i j:Int} (h:CMulF i j):IntMulOk i j:=by
 rcases h with h | ⟨h1,h2⟩
 ·exact h.ok
 ·exact .of_bits h1.bits h2.bits
section
variable {X:Cx}
theorem ZC:OpR X (binaryOp .Mult) (rI CMulF fun i j => .int (i*j)):=opI fun _ _ _ _ _ _ _ hc q=>mul_int q hc.ok
theorem op_fdivF:OpR X (binaryOp .FloorDiv) (rI CDivF fun i j => .int (i / j)):=opI fun i j _ _ _ _ _ hc q=>by
 have h1:(0:Int)<j:=hc.1
 have h2:j.natAbs.log2<9000:=by have:=hc.2.log; omega
 refine floordiv_int (by omega) ?_ (.inl (PyProof.noPylong_of_log2 h2))
 rw [Int.fdiv_eq_ediv_of_nonneg i (by omega)]
 exact q
theorem call_isT {n:String}:CallR X (.builtin "isinstance") (fun xs H Q=>∃x t b,xs=[x,.ty n]/\TyOf X.K H x t/\W.kitOne X.K t (.type n)=some b/\Q (.bl b) H):=by
 intro pins s σ H xs us Q I r h
 obtain ⟨x,t,b,rfl,ty,e,q⟩:=h
 obtain ⟨u,w',rfl,rx,ry⟩:=vals2 r
 cases ry
 exact isinst_ok I rx ty e fun tk=>⟨.bl b,H,I.tok tk,rfl,q⟩
theorem call_isO {C:Addr}:CallR X (.builtin "isinstance") (fun xs H Q=>∃x t b,xs=[x,.ref C]/\TyOf X.K H x t/\W.kitOne X.K t (.ref C)=some b/\Q (.bl b) H):=by
 intro pins s σ H xs us Q I r h
 obtain ⟨x,t,b,rfl,ty,e,q⟩:=h
 obtain ⟨u,w',rfl,rx,ry⟩:=vals2 r
 cases ry
 exact isinst_ok I rx ty e fun tk=>⟨.bl b,H,I.tok tk,rfl,q⟩
theorem pe_isinstT {e:Expr} {te:TE} {T:Str} {n:String} {p p2 pos:Pos} (hg:Gl X "isinstance") (hm:X.mg "isinstance" = none) (hgT:Gl X T) (hmT:X.mg T=none) (hvT:bootBuiltins T=some (.type n)) (he:PE X e te)
  (hn:T ≠ "__name__" := by decide) (hd:(T == ("__debug__" : Str))=false:=by decide)
  (s1:starEach [e,.Name T p2] X.env=(false,eval e X.env) :: starEach [.Name T p2] X.env:=by rfl) (hpl:(backTo pos (starEach [.Name T p2] X.env)).any (·.1)=false:=by rfl) :
  PE X (.Call (.Name "isinstance" p) [e,.Name T p2] [] pos) (tCB (fun xs H Q=>∃x t b,xs=[x,.ty n]/\TyOf X.K H x t/\W.kitOne X.K t (.type n)=some b/\Q (.bl b) H) (tCons te (tCons (tC (.ty n)) tNil))):=
 pe_callB call_isT hg hm boot_isinstance (pa_cons he (pa_cons (pe_bltn hgT hmT hvT rfl hn hd) pa_nil) s1) (by decide) (by decide) s1 hpl
theorem pe_isinst {e:Expr} {te:TE} {T:Str} {C:Addr} {p p2 pos:Pos} (hg:Gl X "isinstance") (hm:X.mg "isinstance" = none) (hgT:Gl X T) (hmT:X.mg T=some (.ref C)) (he:PE X e te)
  (hd:(T == ("__debug__" : Str))=false:=by decide)
  (s1:starEach [e,.Name T p2] X.env=(false,eval e X.env) :: starEach [.Name T p2] X.env:=by rfl) (hpl:(backTo pos (starEach [.Name T p2] X.env)).any (·.1)=false:=by rfl) :
  PE X (.Call (.Name "isinstance" p) [e,.Name T p2] [] pos) (tCB (fun xs H Q=>∃x t b,xs=[x,.ref C]/\TyOf X.K H x t/\W.kitOne X.K t (.ref C)=some b/\Q (.bl b) H) (tCons te (tCons (tC (.ref C)) tNil))):=
 pe_callB call_isO hg hm boot_isinstance (pa_cons he (pa_cons (pe_glob hgT hmT rfl hd) pa_nil) s1) (by decide) (by decide) s1 hpl
end
theorem kit_tt (K:W.Frag) {S T:String} {b:Bool} (h1:(Value.type S == Value.type T)=false) (h2:W.kitMeta T=true) (h3:(PySem.fastBuiltinMro S).map (·.contains (Value.type T))=some b) :
  W.kitOne K (.type S) (.type T)=some b:=by
 unfold W.kitOne
 rw [if_neg (by rw [h1]; exact Bool.false_ne_true)]
 show (if W.kitMeta T=true then W.subIn K (.type S) (.type T) else none)=some b
 rw [if_pos h2]
 exact h3
theorem kit_same (K:W.Frag) (t:Value):W.kitOne K t t=some true:=by
 unfold W.kitOne
 rw [if_pos (beq_self_eq_true t)]
theorem kit_int_bool (K:W.Frag):W.kitOne K (.type "int") (.type "bool")=some false:=kit_tt K (by decide +kernel) (by decide +kernel) (by decide +kernel)
theorem kit_int_int (K:W.Frag):W.kitOne K (.type "int") (.type "int")=some true:=kit_same K _
theorem kit_bool_bool (K:W.Frag):W.kitOne K (.type "bool") (.type "bool")=some true:=kit_same K _
theorem kit_list_list (K:W.Frag):W.kitOne K (.type "list") (.type "list")=some true:=kit_same K _
def Sq (K:W.Frag) (H:Hp) (a:Addr) (xs:List V):Prop:=SqL K H a xs\/SqT K H a xs
def rAt (K:W.Frag):R2:=fun x y H Q=>∃p xs i v,x = .ref p/\y = .int i/\Sq K H p xs/\atI xs i=some v/\Q v H
section
variable {X:Cx}
theorem ix_any:IxR X (rAt X.K):=by
 intro value slice pins s σ H x y v u Q I rx ry h hs
 obtain ⟨p,xs,i,z,e1,e2,hq | hq,he,q⟩:=h
 ·exact ix_list value slice pins s σ H x y v u Q I rx ry ⟨p,xs,i,z,e1,e2,hq,he,q⟩ hs
 ·exact ix_tup value slice pins s σ H x y v u Q I rx ry ⟨p,xs,i,z,e1,e2,hq,he,q⟩ hs
end
theorem atI_of {α:Type} {xs:List α} {i:Int} {v:α} (h0:0<=i) (h:xs[i.toNat]?=some v):atI xs i=some v:=by
 obtain ⟨n,rfl⟩:=Int.eq_ofNat_of_zero_le h0
 exact atI_nat (by simpa using h)
theorem Same.tup {K:W.Frag} {H H':Hp} {a:Addr} {xs:List V} (e:Same H H') (h:SqT K H a xs):SqT K H' a xs:=by
 rcases h with (h | ⟨o,h⟩) | h
 ·exact .inl (.inl (e _ _ h))
 ·exact .inl (.inr ⟨o,e _ _ h⟩)
 ·exact .inr h
theorem Same.sq {K:W.Frag} {H H':Hp} {a:Addr} {xs:List V} (e:Same H H') (h:Sq K H a xs):Sq K H' a xs:=h.elim (fun h => .inl (e.seq h)) fun h => .inr (e.tup h)
theorem same_new {H:Hp} {p:Addr} (h:H p=none) (o:HO):Same H (upd H p o):=fun b u e=>by
 rw [upd_ne (ne_of_none e h)]; exact e
mutual
def Rep (K:W.Frag) (H:Hp):PyData->V->Prop
 | .none,v=>v = .non
 | .bool b,v=>v = .bl b
 | .int i,v=>v = .int i
 | .str x,v=>v = .str x
 | .list ds,v=>∃p xs,v = .ref p/\SqL K H p xs/\RepAll K H ds xs
 | .tuple ds,v=>∃p xs,v = .ref p/\SqT K H p xs/\RepAll K H ds xs
 | .dict _,_=>False
def RepAll (K:W.Frag) (H:Hp):List PyData->List V->Prop
 | [],xs=>xs=[]
 | d :: ds,xs=>∃x r,xs=x :: r/\Rep K H d x/\RepAll K H ds r
end
section
variable {X:Cx} {pins:List (Addr×Obj)} {σ:St} {H:Hp} {s:Shared}
mutual
theorem rep_reads (I:Inv X pins σ H s):∀(d:PyData) (x:V) (u:Value),Rep X.K H d x->RelV x u->∃as,Reads s.heap u d as
 | .none,x,u,h,r=>by
  rw [Rep] at h; subst h; cases r; exact ⟨_,.none⟩
 | .bool b,x,u,h,r=>by
  rw [Rep] at h; subst h; cases r; exact ⟨_,.bool b⟩
 | .int i,x,u,h,r=>by
  rw [Rep] at h; subst h; obtain ⟨t,rfl⟩:=r; exact ⟨_,.int i t⟩
 | .str i,x,u,h,r=>by
  rw [Rep] at h; subst h; obtain ⟨t,rfl⟩:=r; exact ⟨_,.str i t⟩
 | .list ds,x,u,h,r=>by
  rw [Rep] at h
  obtain ⟨p,xs,rfl,hq,ha⟩:=h
  cases r
  obtain ⟨its,rv,⟨o,n,e,c,_,dd⟩,_⟩:=I.list hq
  obtain ⟨as,ra⟩:=repAll_reads I ds xs its ha rv
  exact ⟨_,.list e c dd (by simpa using ra)⟩
 | .tuple ds,x,u,h,r=>by
  rw [Rep] at h
  obtain ⟨p,xs,rfl,hq,ha⟩:=h
  cases r
  obtain ⟨its,rv,⟨o,e,c,n,dd⟩,_⟩:=I.tuple hq
  obtain ⟨as,ra⟩:=repAll_reads I ds xs its ha rv
  exact ⟨_,.tuple e c dd (by simpa using ra)⟩
 | .dict kvs,x,u,h,r=>by
  rw [Rep] at h; exact h.elim
theorem repAll_reads (I:Inv X pins σ H s):∀(ds:List PyData) (xs:List V) (us:List Value),RepAll X.K H ds xs->Vals xs us->∃as,ReadsAll s.heap us ds as
 | [],xs,us,h,r=>by
  rw [RepAll] at h; subst h; cases r; exact ⟨_,.nil⟩
 | d :: ds,xs,us,h,r=>by
  rw [RepAll] at h
  obtain ⟨x,t,rfl,h1,h2⟩:=h
  cases r with
  | cons r1 r2=>
   obtain ⟨as,ra⟩:=rep_reads I d x _ h1 r1
   obtain ⟨bs,rb⟩:=repAll_reads I ds t _ h2 r2
   exact ⟨_,.cons ra rb⟩
end
def rEqD (K:W.Frag):R2:=fun x y H Q=>∃d e,Rep K H d x/\Rep K H e y/\d.canLay0=true/\e.canLay0=true/\d.depth<=64/\Q (.bl (PyData.eqv d e)) H
def rNeD (K:W.Frag):R2:=fun x y H Q=>∃d e,Rep K H d x/\Rep K H e y/\d.canLay0=true/\e.canLay0=true/\d.depth<=64/\Q (.bl (!PyData.eqv d e)) H
theorem op_eqD (hu:X.A.units+64<cLine):OpR X (compareOp .Eq) (rEqD X.K):=by
 intro pins s σ H x y v u Q I rx ry h
 obtain ⟨d,e,h1,h2,c1,c2,dp,q⟩:=h
 obtain ⟨as,ra⟩:=rep_reads I d x v h1 rx
 obtain ⟨bs,rb⟩:=rep_reads I e y u h2 ry
 exact SeqAt.compareEq_reads ra rb c1 c2 (by omega) (fin_bl I q rfl)
theorem op_neD (hu:X.A.units+64<cLine):OpR X (compareOp .NotEq) (rNeD X.K):=by
 intro pins s σ H x y v u Q I rx ry h
 obtain ⟨d,e,h1,h2,c1,c2,dp,q⟩:=h
 obtain ⟨as,ra⟩:=rep_reads I d x v h1 rx
 obtain ⟨bs,rb⟩:=rep_reads I e y u h2 ry
 exact SeqAt.compareNe_reads ra rb c1 c2 (by omega) (fin_bl I q rfl)
end
end L2
namespace L2
open PySem PySem.Spec PyProof.Rows
section
variable {X:Cx} {st:Stmt} {e:Expr}
def tMeet (t:TS):TS:=fun D σ H=>∃M:St->Hp->Prop,t { D with nx:=M } σ H/\∀σ' H',M σ' H'->D.nx σ' H'
theorem ps_meet {t:TS} (h:PS X st t):PS X st (tMeet t):=by
 intro pins s σ H D I hw
 obtain ⟨M,hm,k⟩:=hw
 refine thn (h pins s σ H { D with nx:=M } I hm) fun f s1 q=>?_
 cases f with
 | next=>obtain ⟨σ',H',I',q⟩:=q; exact ⟨σ',H',I',k σ' H' q⟩
 | ret v=>exact q
 | brk=>exact q
 | cont=>exact q
def tMeetE (t:TE):TE:=fun σ H Q=>∃M:VK,t σ H M/\∀v H',M v H'->Q v H'
def tMeetT (t:TT):TT:=fun σ H Q=>∃M:Bool->Hp->Prop,t σ H M/\∀b H',M b H'->Q b H'
end
end L2
namespace L2
open PySem PySem.Spec PyProof.Rows
section
variable {X:Cx} {a b c d:Expr} {ta tb tc td:TE} {pos:Pos}
def tChain3 (r r' r'':R2) (ta tb tc td:TE):TE:=fun σ H Q=>ta σ H fun x H1=>tb σ H1 fun y H2=>r x y H2 fun z H3=>∃k,z = .bl k /\
 (if k=true then tc σ H3 fun u H4=>r' y u H4 fun z2 H5=>∃k2,z2 = .bl k2/\(if k2=true then td σ H5 fun v H6=>r'' u v H6 Q else Q (.bl false) H5) else Q (.bl false) H3)
theorem pt_chain3 {o1 o2 o3:CmpOp} {r r' r'':R2} (h1:OpR X (compareOp o1) r) (h2:OpR X (compareOp o2) r') (h3:OpR X (compareOp o3) r'') (ha:PE X a ta) (hb:PE X b tb) (hc:PE X c tc) (hd:PE X d td)
  (hm:lastMarks [o1,o2,o3] [b,c,d]=false:=by with_unfolding_all rfl):PT X (.Compare a [o1,o2,o3] [b,c,d] pos) (tTest (tChain3 r r' r'' ta tb tc td)):=by
 intro pins s σ H Q I h
 refine isTrue_chain (thn (ha pins s σ H _ I h) fun v s1 ⟨x,H1,I1,r1,q1⟩=>test_link (thn (hb pins s1 σ H1 _ I1 q1) fun u s2 ⟨y,H2,I2,r2,q2⟩=>thn (h1 pins s2 σ H2 x y v u _ I2 r1 r2 q2) fun w1 s3 ⟨z,H3,I3,r3,k,e,q3⟩=>?_)) hm
 subst e
 cases r3
 refine wpAny_truthy_bool ?_
 cases k with
 | false=>
  obtain ⟨k',e',q'⟩:=q3
  cases e'
  exact ite_ff ⟨H3,I3,q'⟩
 | true=>
  refine ite_tt (test_link (thn (hc pins s3 σ H3 _ I3 q3) fun u4 s4 ⟨z4,H4,I4,r4,q4⟩=>thn (h2 pins s4 σ H4 y z4 u u4 _ I4 r2 r4 q4) fun w5 s5 ⟨z5,H5,I5,r5,k5,e5,q5⟩=>?_))
  subst e5
  cases r5
  refine wpAny_truthy_bool ?_
  cases k5 with
  | false=>
   obtain ⟨k',e',q'⟩:=q5
   cases e'
   exact ite_ff ⟨H5,I5,q'⟩
  | true=>
   refine ite_tt (test_last (thn (hd pins s5 σ H5 _ I5 q5) fun u6 s6 ⟨z6,H6,I6,r6,q6⟩=>thn (h3 pins s6 σ H6 z4 z6 u4 u6 _ I6 r4 r6 q6) fun w7 s7 ⟨z7,H7,I7,r7,k7,e7,q7⟩=>?_))
   subst e7
   cases r7
   exact wpAny_truthy_bool ⟨H7,I7,q7⟩
def rCount (K:W.Frag):V->List V->Hp->VK->Prop:=fun x vs H Q=>∃l xs y,x = .ref l/\vs=[y]/\SqL K H l xs/\flatV y=true/\xs.all flatV=true/\Q (.int (xs.countP fun z=>eqV z y:Nat)) H
end
end L2
namespace L2
open PySem PySem.Spec PyProof.Rows
inductive Ints:List Expr->List Int->Prop where
 | nil:Ints [] []
 | cons {i:Int} {j pos} {es:List Expr} {is:List Int}:Ints es is->Ints (.Constant (.int i) j pos :: es) (i :: is)
def tInts (is:List Int):TA:=fun _ H Q=>Q (is.map V.int) H
theorem pa_ints {X:Cx} {es:List Expr} {is:List Int} (h:Ints es is):PA X es (tInts is):=by
 induction h with
 | nil=>exact pa_nil
 | cons _ ih=>exact pa_cons pe_int ih rfl
end L2
namespace L2
open PySem PySem.Spec PyProof.Rows
theorem ps_setInts {X:Cx} {i:Nat} {x:Str} {es:List Expr} {is:List Int} {x1} {p2 pos pos':Pos} (hN:X.N.Nodup) (hi:X.N[i]?=some x) (hx:Loc X.env.scope x) (h:Ints es is) (hf:X.fn x=true\/X.env.scope.names.lookup x=some .local) :
  PS X (.Assign [.Name x pos'] (.Tuple es x1 p2) pos) (tAsg (tTup (tInts is)) (gName i)):=ps_set hN hi hx (pe_tup (pa_ints h)) rfl hf
end L2
namespace L2
open PySem PySem.Spec PyProof.Rows
structure New (H H':Hp) (p:Addr) (o:HO):Prop where
 same:Same H H'
 gone:H p=none
 at_:H' p=some o
 back:∀q,q≠p->H' q=H q
theorem New.of {H:Hp} {p:Addr} {o:HO} (h:H p=none):New H (upd H p o) p o:=⟨same_new h o,h,upd_same,fun _ n=>upd_ne n⟩
section
variable {X:Cx} {es:List Expr} {t:TA} {pos:Pos}
def tTupA (t:TA):TE:=fun σ H Q=>t σ H fun xs H1=>xs.length<=sizeLine/\∀p H',New H1 H' p (.tup xs)->Q (.ref p) H'
def tLstA (t:TA):TE:=fun σ H Q=>t σ H fun xs H1=>xs.length<=sizeLine/\∀p H',New H1 H' p (.lst xs)->Q (.ref p) H'
theorem ZE {x1} (h:PA X es t):PE X (.Tuple es x1 pos) (tTupA t):=by
 intro pins s σ H Q I hq
 refine wpAny_Tuple_spliced (thn (h pos pins s σ H _ I hq) fun us s1 ⟨xs,H1,I1,r,z,q⟩=>⟨by rw [<-r.length]; exact z,?_⟩)
 have hf:H1 s1.heap.objs.size=none:=I1.hok.fresh (Nat.le_refl _)
 refine ⟨.ref s1.heap.objs.size,upd H1 s1.heap.objs.size (.tup xs),I1.laid (t':=s1.toks) (fun b u e=>Heap.get?_push_of_some _ e) (Nat.le_refl _) ?_,rfl,q _ _ (.of hf)⟩
 exact ⟨z,us,r,⟨_,Heap.get?_push_size _ rfl,rfl,_,rfl⟩⟩
theorem ZF (h:PA X es t):PE X (.List es pos) (tLstA t):=by
 intro pins s σ H Q I hq
 refine wpAny_List_spliced (thn (h pos pins s σ H _ I hq) fun us s1 ⟨xs,H1,I1,r,z,q⟩=>⟨by rw [<-r.length]; exact z,?_⟩)
 have hf:H1 s1.heap.objs.size=none:=I1.hok.fresh (Nat.le_refl _)
 refine ⟨.ref s1.heap.objs.size,upd H1 s1.heap.objs.size (.lst xs),I1.laid (t':=s1.toks) (fun b u e=>Heap.get?_push_of_some _ e) (Nat.le_refl _) ?_,rfl,q _ _ (.of hf)⟩
 exact ⟨z,us,0,r,Heap.get?_push_size _ rfl⟩
end
end L2
namespace L2
open PySem PySem.Spec PyProof.Rows
theorem dict_mapFields (o:Obj) (f:Array Value->Array Value):(Obj.mapFields f o).dict=o.dict:=by
 obtain ⟨c,d,dt,sl⟩:=o
 cases dt <;> rfl
def ExcAt (h base:Heap) (e:Addr) (cls:Value) (dd:Option Addr) (fl:Option Value):Prop:=
 ∃oe vs,h.get? e=some oe/\oe.cls=cls/\oe.dict=dd/\oe.data = .fields vs/\1<vs.size /\
  match fl with
  | none=>vs[1]?=some .none
  | some f=>∃T oT ts,vs[1]?=some (.ref T)/\base.get? T=none/\T≠e/\h.get? T=some oT/\oT.data = .fields ts/\ts[3]?=some f
structure Go (base:Heap) (l:List Env) (h h':Heap):Prop where
 st:base.StaysIn h'
 fr:h'.FunFrames base l
 up:h.UpToSlots h'
section
variable {M:Model} {A:Around} {E:Value->Shared->Prop} {s:Shared} {base:Heap} {env:Env} {outer l:List Env} {L e:Addr} {cls:Value} {dd:Option Addr} {Q:Unit->Shared->Prop}
theorem not_rec {h:Heap} {a b:Addr} {o u:Obj} {vs:Array Value} (ha:h.get? a=some o) (hd:o.data = .fields vs) (hb:h.get? b=some u) (nu:∀ws,u.data ≠ .fields ws):b≠a:=fun q=>by
 subst q
 rw [ha] at hb
 cases hb
 exact nu vs hd
theorem entry_exc {oe:Obj} {vs:Array Value} {head:Value} {hadNext:Bool} (hfr:A.frames=some (env :: outer)) (hl:s.heap.FunFrames base (env :: outer)) (hf:env.frame=some L)
  (he:s.heap.get? e=some oe) (st:base.StaysIn s.heap) (hen:base.get? e=none) (hd:oe.data = .fields vs) (hz:1<vs.size)
  (k:∀h',Go base (env :: outer) s.heap h'->ExcAt h' base e oe.cls oe.dict (some (rawInt L))->Q () { s with heap:=h' }) :
  wpAny M A (do let a <-frameOf env; let pl <-entryPlaceOf L hadNext; let b <-EntryCells.newEntry head a .none (rawInt L) .none pl; setField (.ref e) 1 b) Q E s:=by
 have ef:e∉(env :: outer).filterMap (·.frame):=fun z=>by
  obtain ⟨_,u,hu,nu⟩:=hl.mem z
  exact not_rec he hd hu nu rfl
 refine wpAny_bind (wpAny_frameOf_fun hfr hl hf fun g1 sl1=>?_)
 refine wpAny_bind (wpAny_entryPlaceOf fun pl hpl=>?_)
 unfold EntryCells.newEntry newFields
 refine wpAny_bind (wpAny_newObj_type ?_ (hpl.sizeOk5 _ _ _ _ _))
 have g1e:g1.get? e=some oe:=(sl1.2.1 e ef).trans he
 have st1:base.StaysIn g1:=fun b o z=>(sl1.2.1 b fun q=>by rw [(hl.mem q).1] at z; cases z).trans (st b o z)
 generalize hob:({ cls:=.type "traceback",dict:=none,data:=.fields ([head,.ref L,.none,rawInt L,.none]++(if pl.isEmpty then List.replicate 6 Value.none else pl)).toArray }:Obj)=ob
 have g2e:=Heap.get?_push_of_some ob g1e
 refine wpAny_setField g2e hd hz ?_
 have ne:g1.objs.size≠e:=Nat.ne_of_gt (Heap.lt_size g1e)
 have nd:=Obj.data_mapFields hd (·.setIfInBounds 1 (Value.ref g1.objs.size))
 have g3e:=Heap.get?_update_self (Obj.mapFields (·.setIfInBounds 1 (Value.ref g1.objs.size))) g2e (Obj.isFreed_of_fields nd)
 have g3T:((g1.push ob).update e (Obj.mapFields (·.setIfInBounds 1 (Value.ref g1.objs.size)))).get? g1.objs.size=some ob:=(Heap.get?_update_other _ _ (Ne.symm ne)).trans (Heap.get?_push_size g1 (by rw [<-hob]; rfl))
 have stay:∀b o,b≠e->g1.get? b=some o->((g1.push ob).update e (Obj.mapFields (·.setIfInBounds 1 (Value.ref g1.objs.size)))).get? b=some o:=fun b o nb z=>by
  rw [Heap.get?_update_other _ _ (Ne.symm nb)]
  exact Heap.get?_push_of_some _ z
 refine k _ ⟨fun b o z=>stay b o (fun q=>by rw [q,hen] at z; cases z) (st1 b o z),hl.of_keeps fun b o z nz=>?_,fun b o z nz=>?_⟩ ?_
 ·obtain ⟨sl,q⟩:=sl1.2.2 b o z
  exact ⟨_,stay b _ (not_rec he hd z nz) q,rfl⟩
 ·obtain ⟨sl,q⟩:=sl1.2.2 b o z
  exact ⟨sl,stay b _ (not_rec he hd z nz) q⟩
 ·refine ⟨_,_,g3e,Obj.cls_mapFields _ _,dict_mapFields _ _,nd,by simp [hz],g1.objs.size,ob,_,by simp [hz],st1.fresh,ne,g3T,by rw [<-hob],?_⟩
  first | (simp; done) | (rcases hpl with rfl | ⟨_,_,_,_,_,_,_,rfl⟩ <;> simp)
theorem note_exc {fl:Option Value} (hfr:A.frames=some (env :: outer)) (hl:s.heap.FunFrames base (env :: outer)) (hf:env.frame=some L) (st:base.StaysIn s.heap) (hen:base.get? e=none)
  (x:ExcAt s.heap base e cls dd fl) (hfl:fl=none\/fl=some .none) (k:∀h',Go base (env :: outer) s.heap h'->ExcAt h' base e cls dd (some (rawInt L))->Q () { s with heap:=h' }) :
  wpAny M A (noteFrame (.ref e) env) Q E s:=by
 obtain ⟨oe,vs,he,rfl,rfl,hd,hz,hx⟩:=x
 unfold noteFrame
 simp only [hf]
 rcases hfl with rfl | rfl
 ·refine wpAny_bind (wpAny_field he hd hx ?_)
  rw [if_neg (by decide)]
  exact entry_exc hfr hl hf he st hen hd hz k
 ·obtain ⟨T,oT,ts,h1,nT,ne,hT,dT,h3⟩:=hx
  refine wpAny_bind (wpAny_field he hd h1 ?_)
  rw [if_pos (show (Value.ref T != Value.none)=true by simp)]
  refine wpAny_bind (wpAny_field hT dT h3 ?_)
  rw [if_neg (show ¬((Value.none == rawInt L)=true) by simp [rawInt])]
  refine wpAny_bind (wpAny_setField hT dT (Array.getElem?_eq_some_iff.mp h3).1 ?_)
  have ot:∀b,b≠T->(s.heap.update T (Obj.mapFields (·.setIfInBounds 3 Value.none))).get? b=s.heap.get? b:=fun b nb=>Heap.get?_update_other _ _ (Ne.symm nb)
  refine entry_exc (s:={ s with heap:=s.heap.update T (Obj.mapFields (·.setIfInBounds 3 Value.none)) }) hfr (hl.of_keeps fun b o z nz=>⟨o,(ot b (not_rec hT dT z nz)).trans z,rfl⟩) hf ((ot e (Ne.symm ne)).trans he)
   (fun b o z=>(ot b fun q=>by rw [q,nT] at z; cases z).trans (st b o z)) hen hd hz fun h' g x'=>k h' ⟨g.st,g.fr,fun b o z nz=>g.up b o ((ot b (not_rec hT dT z nz)).trans z) nz⟩ x'
theorem flight_exc {f:Value} (hl:s.heap.FunFrames base l) (st:base.StaysIn s.heap) (x:ExcAt s.heap base e cls dd (some f))
  (k:∀h',Go base l s.heap h'->ExcAt h' base e cls dd (some .none)->Q () { s with heap:=h' }):wpAny M A (setFlight (.ref e) none) Q E s:=by
 obtain ⟨oe,vs,he,rfl,rfl,hd,hz,T,oT,ts,h1,nT,ne,hT,dT,h3⟩:=x
 have z3:3<ts.size:=(Array.getElem?_eq_some_iff.mp h3).1
 unfold setFlight
 refine wpAny_bind (wpAny_field he hd h1 ?_)
 rw [if_pos (show (Value.ref T != Value.none)=true by simp)]
 refine wpAny_setField hT dT z3 ?_
 have ot:∀b,b≠T->(s.heap.update T (Obj.mapFields (·.setIfInBounds 3 ((none:Option Addr).elim Value.none fun f=>rawInt f)))).get? b=s.heap.get? b:=fun b nb=>Heap.get?_update_other _ _ (Ne.symm nb)
 refine k _ ⟨fun b o z=>(ot b fun q=>by rw [q,nT] at z; cases z).trans (st b o z),hl.of_keeps fun b o z nz=>⟨o,(ot b (not_rec hT dT z nz)).trans z,rfl⟩,fun b o z nz=>⟨o.slots,(ot b (not_rec hT dT z nz)).trans z⟩⟩ ?_
 exact ⟨oe,vs,(ot e (Ne.symm ne)).trans he,rfl,rfl,hd,hz,T,_,_,h1,nT,ne,Heap.get?_update_self _ hT (Obj.isFreed_of_fields (Obj.data_mapFields dT _)),Obj.data_mapFields dT _,by simp [z3]⟩
theorem Go.trans {h1 h2 h3:Heap} (a:Go base l h1 h2) (b:Go base l h2 h3):Go base l h1 h3:=⟨b.st,b.fr,a.up.trans b.up⟩
theorem leave_exc {fl:Option Value} (hfr:A.frames=some (env :: outer)) (hl:s.heap.FunFrames base (env :: outer)) (hf:env.frame=some L) (st:base.StaysIn s.heap) (hen:base.get? e=none)
  (x:ExcAt s.heap base e cls dd fl) (hfl:fl=none\/fl=some .none) (k:∀h',Go base (env :: outer) s.heap h'->ExcAt h' base e cls dd (some .none)->Q () { s with heap:=h' }) :
  wpAny M A (leaving env (.ref e)) Q E s:=by
 unfold leaving
 refine wpAny_bind (note_exc hfr hl hf st hen x hfl fun h1 g1 x1=>?_)
 exact flight_exc (s:={ s with heap:=h1 }) g1.fr g1.st x1 fun h2 g2 x2=>k h2 (g1.trans g2) x2
end
end L2
namespace L2
open PySem PySem.Spec PyProof.Rows
structure Fly (P:Program) (w:World) (outer:List Env) (H H':Hp) (h h':Heap) (e:Addr) (cls:Value) (dd:Option Addr) (B:Heap):Prop where
 st:B.StaysIn h'
 en:B.get? e=none
 fr:h'.FunFrames B outer
 ex:ExcAt h' B e cls dd (some .none)
 hok:HOk P w H' B
 keep:∀b o,h.get? b=some o->H b=none->b∉frs outer->B.get? b=some o
 slot:∀b o,h.get? b=some o->H b=none->b∈frs outer->(∀vs,o.data ≠ .fields vs)->∃sl,h'.get? b=some { o with slots:=sl }
 free:∀b o,h.get? b=some o->H b=none->H' b=none
 there:∀b o,h.get? b=some o->b∉frs outer->∃o',B.get? b=some o'
 tups:∀b xs,H b=some (.tup xs)->H' b=some (.tup xs)
 frzs:∀b o u,H b=some (.frz o u)->H' b=some (.frz o u)
 tbls:∀b ps,H b=some (.tbl ps)->∃more,H' b=some (.tbl (ps++more))
def CX1 (P:Program) (w:World):CXT:=fun outer H s E ev s'=>∃(e:Addr) (cls:Value) (dd:Option Addr) (B:Heap) (H':Hp),ev = .ref e/\s'.os=s.os/\AllBare s'.gens/\Fly P w outer H H' s.heap s'.heap e cls dd B/\E cls dd H'
theorem frame_data {X:Cx} {pins:List (Addr×Obj)} {σ:St} {H:Hp} {s:Shared} (I:Inv X pins σ H s) {b:Addr} {o:Obj} (hb:b∈frs X.stack) (e:s.heap.get? b=some o):∀vs,o.data ≠ .fields vs:=by
 obtain ⟨_,o',e',d⟩:=I.stack.mem hb
 rw [e] at e'
 cases e'
 exact d
theorem frame_in {l:List Env}:∀env∈l,∀a,env.frame=some a->a∈frs l:=fun env he a hf=>List.mem_filterMap.mpr ⟨env,he,hf⟩
section
variable {X:Cx} {pins:List (Addr×Obj)} {σ:St} {H:Hp} {s:Shared}
def noFr (X:Cx) (h:Heap):Heap:=W.hideAll h (frs X.stack)
theorem noFr_get {h:Heap} {b:Addr} {o:Obj} (e:h.get? b=some o) (n:b∉frs X.stack):(noFr X h).get? b=some o:=W.hideAll_get _ e n
theorem noFr_ok (I:Inv X pins σ H s):HOk X.prog X.w H (noFr X s.heap):=fun a o e=>by
 refine (I.hok a o e).stay (fun b u hb q=>noFr_get q fun z=>?_) (fun _ q=>q) fun _ _ q=>q
 have n:=I.stkFree b z
 rcases hb with rfl | hb
 ·rw [e] at n; cases n
 ·rw [hb] at n; cases n
theorem old_ne (I:Inv X pins σ H s) {b:Addr} {o:Obj} (e:X.s₀.heap.get? b=some o):b≠X.env.locals:=Nat.ne_of_lt (Nat.lt_of_lt_of_le (Heap.lt_size e) I.ok.above)
theorem old_frs (I:Inv X pins σ H s) {b:Addr} {o:Obj} (e:X.s₀.heap.get? b=some o) (n:b∉X.fs):b∉frs X.stack:=fun z=>by
 rcases List.mem_cons.mp (I.stkSub b z) with q | q
 ·exact old_ne I e q
 ·exact n q
theorem raise_leaves (I:Inv X pins σ H s) (hX:X.stack=X.env :: X.outer) (hf:X.env.frame=some X.env.locals) (hex:X.ex=[]) {h':Heap} {e:Addr} {cls:Value} {dd:Option Addr} {E:XK} {N:Value->Shared->Prop}
  (kp:∀b o,s.heap.get? b=some o->h'.get? b=some o) (new:s.heap.get? e=none) (x:ExcAt h' (noFr X s.heap) e cls dd none) (q:E cls dd H) :
  wpAny (model X.prog X.w) X.A (leaving X.env (.ref e)) (fun _ s2=>CX1 X.prog X.w X.outer X.H₀ X.s₀ E (.ref e) s2) N { s with heap:=h' }:=by
 have nex:∀b:Addr,b∉X.ex:=fun b z=>by rw [hex] at z; cases z
 have en:(noFr X s.heap).get? e=none:=by
  cases z:(noFr X s.heap).get? e with
  | none=>rfl
  | some o=>have z':=W.of_hideAll _ z; rw [new] at z'; cases z'
 have fr0:s.heap.FunFrames (noFr X s.heap) (X.env :: X.outer):=by
  have z:=W.funFrames_hide (as:=frs X.stack) I.stack frame_in
  rw [hX] at z
  unfold noFr
  rw [hX]
  exact z
 refine leave_exc (s:={ s with heap:=h' }) (by rw [I.ok.frames,hX]) (fr0.of_keeps fun b o z _=>⟨o,kp b o z,rfl⟩) hf (fun b o z=>kp b o (W.of_hideAll _ z)) en x (.inl rfl) fun h2 g2 x2=>?_
 refine ⟨e,cls,dd,noFr X s.heap,H,rfl,I.os,I.bare,⟨g2.st,en,g2.fr.2.2,x2,noFr_ok I,fun b o z n nf=>?_,fun b o z n hb _=>?_,fun b o z n=>I.base.free b o z n (nex b),fun b o z nf=>?_,I.base.tups,I.base.frzs,I.base.tbls⟩,q⟩
 ·exact noFr_get (I.base.keep b o z n nf (nex b)) (old_frs I z nf)
 ·obtain ⟨sl,e1⟩:=I.base.slot b o z n hb (nex b)
  have hb':b∈frs X.stack:=by rw [hX]; unfold frs; rw [List.filterMap_cons,hf]; exact List.mem_cons_of_mem _ hb
  obtain ⟨sl2,e2⟩:=g2.up b _ (kp b _ e1) (frame_data I hb' e1)
  exact ⟨sl2,e2⟩
 ·obtain ⟨o',e1⟩:=I.base.there b o z (nex b)
  exact ⟨o',noFr_get e1 (old_frs I z nf)⟩
end
end L2
namespace L2
open PySem PySem.Spec PyProof.Rows
section
variable {X:Cx} {CX:CXT} {k:Nat} {f C:Addr} {fd:FuncData} {ps:List Str} {sp:Sp} {dvs:List V} {ds:List Value} {E:XK} {x c m:Str} {p np cpos pos apos:Pos} {e:Expr} {es:List Expr} {te:TE} {t:TA}
structure ClsFn (K:W.Frag) (C:Addr) (m:Str) (f:Addr):Prop where
 ga:W.specialIn K (.ref C) "__getattribute__" = some (some (.builtin "type.__getattribute__"))
 rd:W.readsIn K C (.type "type")=true
 fn:W.findCls K (.ref C) (.type "type") m=some (.val (.ref f))
 kp:W.keepIn K (.ref f)=true
theorem pe_cls {pl:Sem Bool} (F:FnOk X.prog X.w X.K X.mg X.base CX k f fd ps sp) (hr:Room k X.A) (hg:Gl X c) (hm:X.mg c=some (.ref C)) (hc:ClsFn X.K C m f) (hb:Binds X.K fd ps ds) (hd:Vals dvs ds) (hx:Passes CX X E)
  (ha:PA X (e :: es) t) (hdb:(c == ("__debug__" : Str))=false:=by decide) (hst:starEach (e :: es) X.env=(false,eval e X.env) :: starEach es X.env:=by rfl) (hpl:(backTo pos (starEach es X.env)).any (·.1)=false:=by rfl)
  (ht:eval (.Call (.Attribute (.Name c p) m apos) (e :: es) [] pos) X.env=(do
   let ov <-eval (.Name c p) X.env
   standAt apos.atName
   let (g,first) <-holding [ov] (getMethod ov m pl)
   callWith pos g first (backTo pos (starEach (e :: es) X.env)) (backToKw pos (keywordEach [] X.env))):=by rfl) :
  PE X (.Call (.Attribute (.Name c p) m apos) (e :: es) [] pos) (tCall sp dvs E t):=by
 intro pins s σ H Q I h
 refine W.methodCall_KW (pl:=pl) (ld_glob I hg hm ?_ hdb) ht
 refine W.method_cls I.kIn hc.ga (W.cls_value I.kIn hc.rd hc.fn rfl ?_)
 have I1:=I.tok (s.toks+1)
 refine W.callWith_K (first:=[]) (h₀:=X.base) I.ok.mod.kin hc.kp (thn (ha pos pins _ σ H _ I1 h) fun us s2 ⟨vs,H2,I2,r,q2⟩=>⟨I2.kIn,?_⟩) hst hpl
 exact run_fn (us:=us) (vs:=vs) F hr hb hd hx I2 r q2
theorem pe_fmt (he:PE X e te):PE X (.FormattedValue e (-1) none pos) (fun σ H Q=>te σ H fun v H1=>∃i,v = .int i/\i.natAbs.log2<1920/\Q (.str (toString i)) H1):=by
 intro pins s σ H Q I h
 refine FormattedValue_plain (thn (he pins s σ H _ I h) fun u s1 ⟨v,H1,I1,r,i,ev,hz,q⟩=>?_)
 subst ev
 obtain ⟨tk,rfl⟩:=r
 exact formatField_int_small hz ⟨.str _,H1,I1.tok _,⟨_,rfl⟩,q⟩
theorem pe_join2 {e1 e2:Expr} {t1 t2:TE} (h1:PE X e1 t1) (h2:PE X e2 t2) :
  PE X (.JoinedStr [e1,e2] pos) (fun σ H Q=>t1 σ H fun v H1=>∃y,v = .str y/\y.length<=1000000/\t2 σ H1 fun v2 H2=>∃z,v2 = .str z/\z.length<=1000000/\∀r,Q (.str r) H2):=by
 intro pins s σ H Q I h
 have hl:sizeLine=16777216:=sizeLine_eq
 refine JoinedStr_many (joinParts_cons (thn (h1 pins s σ H _ I h) fun u s1 ⟨v,H1,I1,r,y,ev,hy,q⟩=>?_))
 subst ev
 obtain ⟨tk,rfl⟩:=r
 refine ⟨by rw [strLen_append]; show 0+y.length<=sizeLine; omega,joinParts_cons (thn (h2 pins s1 σ H1 _ I1 q) fun u2 s2 ⟨v2,H2,I2,r2,z,ev2,hz,q2⟩=>?_)⟩
 subst ev2
 obtain ⟨tk2,rfl⟩:=r2
 have hs:(Str.empty++y++z).length<=sizeLine:=by rw [strLen_append,strLen_append]; show 0+y.length+z.length<=sizeLine; omega
 exact ⟨hs,joinParts_nil ⟨.str _,H2,I2.tok _,⟨_,rfl⟩,q2 _⟩ hs⟩
theorem exc_obj {K:W.Frag} {h:Heap} {bmB:List Value} {newId:String} (A:K.In h) (q:W.excIn K C bmB newId=true) :
  ∃bm N nm qn bs hdct sn sub ab col dd k0 k1 k2 k3 k5 mN,h.get? C=some (excClassObj nm qn C N bs bm hdct sn sub ab col dd k0 k1 k2 k3 k5 newId)/\h.Ns N mN/\mN "__init__" = none/\OwnTail h bmB bm:=by
 unfold W.excIn at q
 split at q
 case h_2=>cases q
 rename_i dd cd sl look
 split at q
 case h_2=>cases q
 rename_i C2 bm k0 k1 k2 k3 n k5 mroE slE
 simp only [Bool.and_eq_true,beq_iff_eq,Bool.not_eq_true'] at q
 obtain ⟨⟨⟨⟨⟨e1,e2⟩,e3⟩,e4⟩,e5⟩,e6⟩:=q
 subst e1 e2
 obtain ⟨nm,bs,mro,ns,qn,hdct,sn,sub,ab,col,del⟩:=cd
 dsimp only at mroE e3 e5 e6
 subst mroE e3
 have slA:sl = #[k0,k1,k2,k3,some (.builtin n),k5]:=by
  cases sl with
  | mk l=>exact congrArg Array.mk slE
 subst slA
 refine ⟨bm,ns,nm,qn,bs,hdct,sn,sub,ab,col,dd,k0,k1,k2,k3,k5,h.nsMap ns,A _ _ look,Heap.Ns.of_isNs (W.isNs_of_in A e5),?_,W.tail_of_in A e4⟩
 exact W.nsMap_none_of_in A e5 e6
def XeIs (X:Cx) (E:XK):Prop:=X.xe=fun e s'=>wpAny (model X.prog X.w) X.A (leaving X.env e) (fun _ s2=>CX1 X.prog X.w X.outer X.H₀ X.s₀ E e s2) (fun e' s2=>CX1 X.prog X.w X.outer X.H₀ X.s₀ E e' s2) s'
structure DefX (X:Cx):Prop where
 st:X.stack=X.env :: X.outer
 fr:X.env.frame=some X.env.locals
 ex:X.ex=[]
 calm:X.calm=true
def tRaise (C:Addr) (E:XK) (t:TA):TS:=fun _ σ H=>t σ H fun vs H1=>vs.length<=1000/\E (.ref C) none H1
theorem ps_raise {B newId initId:String} {bmB:List Value} (FB:ExcBaseFacts B newId initId bmB) (dx:DefX X) (hxe:XeIs X E) (hg:Gl X x) (hm:X.mg x=some (.ref C)) (hq:W.excIn X.K C bmB newId=true) (ha:PA X (e :: es) t)
  (hdb:(x == ("__debug__" : Str))=false:=by decide) (hst:starEach (e :: es) X.env=(false,eval e X.env) :: starEach es X.env:=by rfl) (hpl:(backTo cpos (starEach es X.env)).any (·.1)=false:=by rfl) :
  PS X (.Raise (some (.Call (.Name x np) (e :: es) [] cpos)) none pos) (tRaise C E t):=by
 intro pins s σ H D I h
 obtain ⟨bm,N,nm,qn,bs,hdct,sn,sub,ab,col,dd,k0,k1,k2,k3,k5,mN,hC,hN,hni,TL⟩:=exc_obj I.mod.kin hq
 have hl:sizeLine=16777216:=sizeLine_eq
 refine wpAny_Raise_call_subT (C:=C) (nm:=nm) (q:=qn) (N:=N) (bs:=bs) (bm:=bm) (hdct:=hdct) (sn:=sn) (sub:=sub) (ab:=ab) (col:=col) (dd:=dd) (k0:=k0) (k1:=k1) (k2:=k2) (k3:=k3) (k5:=k5) FB (mN:=mN)
  (TL.hasType FB.hasBase) (I.ok.hd dx.calm) ?_ hni (ld_glob I hg hm ⟨rfl,?_⟩ hdb)
 ·rw [hst]
  show (false || (backTo cpos (starEach es X.env)).any (·.1))=false
  rw [hpl]
  rfl
 have hs:=ha cpos pins s σ H _ I h
 rw [hst] at hs ⊢
 refine Calls.evalArgs_plain (thn hs fun us s2 ⟨vs,H2,I2,r,hz,q⟩=>?_)
 refine ⟨rfl,?_,I2.bk _ _ hC,hN.keeps I2.bk,TL.keeps I2.bk,fun h' ea hx=>?_⟩
 ·show us.length<=sizeLine
  rw [<-r.length]
  omega
 ·rw [hxe]
  obtain ⟨ta,te,_,_⟩:=hx.there
  exact raise_leaves (dd:=none) I2 dx.st dx.fr dx.ex hx.keeps hx.new ⟨_,_,te,rfl,rfl,rfl,(by decide:1<6),rfl⟩ q
end
end L2
namespace L2
open PySem PySem.Spec PyProof.Rows
def excO (e:Addr) (cls:Value) (dd:Option Addr):HO:=.ext fun h=>∃o vs,h.get? e=some o/\o.cls=cls/\o.dict=dd/\o.data = .fields vs
abbrev Cx.held (X:Cx) (e:Addr):Cx:={ X with A:=X.A.mark (some (.ref e)),calm:=false,xe:=fun _ _=>False }
structure Catches (K:W.Frag) (C D:Addr) (b:Bool):Prop where
 one:W.exmOne K (.ref C) (.ref D)=some b
end L2
namespace L2
open PySem PySem.Spec PySem.Calls PyProof.Rows
section
variable {prog:Program} {w:World} {A:Around} {E:Value->Shared->Prop} {s:Shared} {K:W.Frag} {x D:Addr} {ox:Obj} {odo:Option Obj} {name:Str}
end
end L2
namespace L2
open PySem PySem.Spec PyProof.Rows
structure ExcT (K:W.Frag) (C:Addr):Prop where
 ga:W.findIn K (.ref C) "__getattribute__" = some (some (.builtin "BaseException.__getattribute__"))
 gt:W.findIn K (.ref C) "__getattr__" = some none
 be:W.mroIn K C (.type "BaseException")=some true
 hd:W.hasDictIn K C=true
 ha:W.findIn K (.ref C) "__class__" = some (some (.builtin "object.__class__"))
 hn:W.specialIn K (.builtin "object.__class__") "__get__" = some (some (.builtin "getset_descriptor.__get__"))
 tk:W.takesIn K (.builtin "object.__class__")=some true
 ob:W.mroIn K C (.type "object")=some true
section
variable {X:Cx}
def rIsE (K:W.Frag) (c:V) (cv:Value):List V->Hp->VK->Prop:=fun xs H Q=>∃e C b,xs=[.ref e,c]/\H e=some (excO e (.ref C) none)/\ExcT K C/\W.kitOne K (.ref C) cv=some b/\Q (.bl b) H
end
end L2
namespace L2
open PySem PySem.Spec PyProof.Rows
def retOnly (D:Ends):Ends:={ nx:=fun _ _=>False,rt:=D.rt }
def CatchE (K:W.Frag) (D:Addr) (i:Nat) (th:TS) (Dn:Ends) (σ:St):XK:=fun cls dd H'=>∃C,cls = .ref C/\Catches K C D true/\∀e,H' e=none->th (retOnly Dn) (σ.set i (some (.ref e))) (upd H' e (excO e cls dd))
section
variable {X:Cx} {pins:List (Addr×Obj)} {σ:St} {H:Hp} {s:Shared}
end
end L2
namespace L2
open PySem PySem.Spec PyProof.Rows
section
variable {X:Cx} {CX:CXT} {k:Nat} {f C D:Addr} {fd:FuncData} {ps:List Str} {sp:Sp} {x d n:Str} {i:Nat} {p np cpos epos hpos pos:Pos} {e:Expr} {es:List Expr} {t:TA} {b₀:Stmt} {suite:List Stmt} {th:TS}
def tTryMake (K:W.Frag) (C D:Addr) (i:Nat) (sp:Sp) (t:TA) (th:TS):TS:=fun Dn σ H=>t σ H fun vs H1=>∀a da,H1 a=none->H1 da=none->da≠a ->
 sp (.ref a :: vs) (upd (upd H1 da (.own a)) a (.ins C da [])) (fun v H2=>v = .non/\Dn.nx σ H2) (CatchE K D i th Dn σ)
def tTryCall (K:W.Frag) (D:Addr) (i:Nat) (sp:Sp) (t:TA) (th:TS):TS:=fun Dn σ H=>t σ H fun vs H1=>sp vs H1 (fun _ H2=>Dn.nx σ H2) (CatchE K D i th Dn σ)
end
end L2
namespace L2
open PySem PySem.Spec PyProof.Rows
def relK (env:Env) (n:Str) (k:NameKind):NameKind:=if (k == .free&&env.scope.kind == .function&&env.kindOf n == some .cell) then .cell else k
theorem look_rel (env:Env) (x:Str):∀names:List (Str×NameKind),
  (names.map fun (n,k)=>if (k == NameKind.free&&env.scope.kind == .function&&env.kindOf n == some .cell) then (n,NameKind.cell) else (n,k)).lookup x=(names.lookup x).map (relK env x)
 | []=>rfl
 | (n,k) :: r=>by
  have ih:=look_rel env x r
  rw [List.map_cons]
  have e:(if (k == NameKind.free&&env.scope.kind == .function&&env.kindOf n == some .cell)=true then (n,NameKind.cell) else (n,k))=(n,relK env n k):=by
   unfold relK; split <;> rfl
  show List.lookup x ((if (k == NameKind.free&&env.scope.kind == .function&&env.kindOf n == some .cell)=true then (n,NameKind.cell) else (n,k)) :: _)=_
  rw [e,List.lookup_cons,List.lookup_cons]
  cases hx:x == n with
  | true=>obtain rfl:x=n:=eq_of_beq hx; rfl
  | false=>exact ih
theorem rel_look {sc:Scope} {env:Env} {x:Str} {k:NameKind} (h:(relabel sc env).names.lookup x=some k):∃k0,sc.names.lookup x=some k0/\relK env x k0=k:=by
 have e:(relabel sc env).names.lookup x=(sc.names.lookup x).map (relK env x):=look_rel env x sc.names
 rw [e] at h
 cases q:sc.names.lookup x with
 | none=>rw [q] at h; cases h
 | some k0=>rw [q] at h; exact ⟨k0,rfl,Option.some.inj h⟩
def closL (cells:List (Str×Addr)):List (Str×NameKind)->List (Str×Addr)->List (Str×Addr)
 | [],acc=>acc
 | (n,k) :: r,acc=>if k == .free then closL cells r ((n,(cells.lookup n).getD 0) :: acc) else closL cells r acc
theorem clos_run {env:Env} (f:Str×NameKind->List (Str×Addr)->Sem (ForInStep (List (Str×Addr))))
  (hf:∀n k c,f (n,k) c=if k == .free then (do let a <-cellOf env n; pure (.yield ((n,a) :: c))) else pure (.yield c)) :
  ∀(names:List (Str×NameKind)) (acc:List (Str×Addr)),(∀y∈names,y.2 = .free->∃c,env.cells.lookup y.1=some c)->forIn names acc f=pure (closL env.cells names acc)
 | [],_,_=>rfl
 | (n,k) :: r,acc,h=>by
  have ih:=fun a=>clos_run f hf r a fun y hy=>h y (List.mem_cons_of_mem _ hy)
  rw [List.forIn_cons,hf]
  unfold closL
  by_cases hk:(k == NameKind.free)=true
  ·obtain ⟨c,e⟩:=h (n,k) List.mem_cons_self (eq_of_beq hk)
   have e':env.cells.lookup n=some c:=e
   have ec:cellOf env n=pure c:=by unfold cellOf; rw [e']
   rw [if_pos hk,if_pos hk,ec,e']
   exact ih _
  ·rw [if_neg hk,if_neg hk]
   exact ih _
theorem clos_is {sc:Scope} {env:Env} (h:∀y∈sc.names,y.2 = .free->∃c,env.cells.lookup y.1=some c):closureFor sc env=pure (closL env.cells sc.names []):=by
 have q:=clos_run (env:=env) (fun (y:Str×NameKind) c=>if y.2 == .free then (do let a <-cellOf env y.1; pure (.yield ((y.1,a) :: c))) else pure (.yield c)) (fun _ _ _=>rfl) sc.names [] h
 have e:closureFor sc env=(forIn sc.names ([]:List (Str×Addr)) (fun (y:Str×NameKind) c=>if y.2 == .free then (do let a <-cellOf env y.1; pure (.yield ((y.1,a) :: c))) else pure (.yield c)) >>= fun cs=>pure cs):=rfl
 rw [e,q]
 rfl
theorem clos_look {cells:List (Str×Addr)} {x:Str}:∀(names:List (Str×NameKind)) (acc:List (Str×Addr)),
  (closL cells names acc).lookup x=some ((cells.lookup x).getD 0)\/((closL cells names acc).lookup x=acc.lookup x/\(x,NameKind.free)∉names)
 | [],acc => .inr ⟨rfl,by simp⟩
 | (n,k) :: r,acc=>by
  unfold closL
  split
  ·rename_i hk
   rcases clos_look (cells:=cells) (x:=x) r ((n,(cells.lookup n).getD 0) :: acc) with q | ⟨q,q2⟩
   ·exact .inl q
   ·rw [List.lookup_cons] at q
    cases hx:x == n with
    | true=>obtain rfl:x=n:=eq_of_beq hx; rw [hx] at q; exact .inl q
    | false=>
     rw [hx] at q
     refine .inr ⟨q,fun z=>?_⟩
     rcases List.mem_cons.mp z with z | z
     ·cases z; simp at hx
     ·exact q2 z
  ·rename_i hk
   rcases clos_look (cells:=cells) (x:=x) r acc with q | ⟨q,q2⟩
   ·exact .inl q
   ·refine .inr ⟨q,fun z=>?_⟩
    rcases List.mem_cons.mp z with z | z
    ·cases z; simp at hk
    ·exact q2 z
theorem cf_look {x:Str}:∀(names:List (Str×NameKind)) (n:Nat) (acc:List (Str×Addr)),
  (∃c:Nat,n<=c/\c<n+names.length/\(cellsFrom n names acc).lookup x=some c/\(x,NameKind.cell)∈names)\/((cellsFrom n names acc).lookup x=acc.lookup x/\(x,NameKind.cell)∉names)
 | [],n,acc => .inr ⟨rfl,by simp⟩
 | (m,k) :: r,n,acc=>by
  unfold cellsFrom
  split
  ·rename_i hk
   rcases cf_look (x:=x) r (n+1) ((m,n) :: acc) with ⟨c,h1,h2,h3,h4⟩ | ⟨q,q2⟩
   ·exact .inl ⟨c,by omega,by rw [List.length_cons]; omega,h3,List.mem_cons_of_mem _ h4⟩
   ·rw [List.lookup_cons] at q
    cases hx:x == m with
    | true=>
     obtain rfl:x=m:=eq_of_beq hx
     rw [hx] at q
     exact .inl ⟨n,Nat.le_refl _,by rw [List.length_cons]; omega,q,by rw [eq_of_beq hk]; exact List.mem_cons_self⟩
    | false=>
     rw [hx] at q
     refine .inr ⟨q,fun z=>?_⟩
     rcases List.mem_cons.mp z with z | z
     ·cases z; simp at hx
     ·exact q2 z
  ·rename_i hk
   rcases cf_look (x:=x) r n acc with ⟨c,h1,h2,h3,h4⟩ | ⟨q,q2⟩
   ·exact .inl ⟨c,h1,by rw [List.length_cons]; omega,h3,List.mem_cons_of_mem _ h4⟩
   ·refine .inr ⟨q,fun z=>?_⟩
    rcases List.mem_cons.mp z with z | z
    ·cases z; simp at hk
    ·exact q2 z
theorem cf_inj:∀(names:List (Str×NameKind)) (n:Nat) (acc:List (Str×Addr)),(∀(x:Str) (c:Nat),acc.lookup x=some c->c<n)->∀(x y:Str) (c:Nat),n<=c->(cellsFrom n names acc).lookup x=some c->(cellsFrom n names acc).lookup y=some c->x=y
 | [],n,acc,h,x,y,c,hc,e1,e2=>absurd (h x c e1) (by omega)
 | (m,k) :: r,n,acc,h,x,y,c,hc,e1,e2=>by
  unfold cellsFrom at e1 e2
  split at e1
  ·rename_i hk
   rw [if_pos hk] at e2
   by_cases hcn:n+1<=c
   ·refine cf_inj r (n+1) ((m,n) :: acc) (fun z c' q=>?_) x y c hcn e1 e2
    rw [List.lookup_cons] at q
    cases hz:z == m with
    | true=>rw [hz] at q; cases q; exact Nat.lt_succ_self _
    | false=>rw [hz] at q; have:=h z c' q; omega
   ·have ecn:c=n:=by omega
    subst ecn
    have one:∀z,(cellsFrom (c+1) r ((m,c) :: acc)).lookup z=some c->z=m:=fun z q=>by
     rcases cf_look (x:=z) r (c+1) ((m,c) :: acc) with ⟨c',h1,_,h3,_⟩ | ⟨q',_⟩
     ·rw [h3] at q; cases q; omega
     ·rw [q',List.lookup_cons] at q
      cases hz:z == m with
      | true=>exact eq_of_beq hz
      | false=>rw [hz] at q; have:=h z c q; omega
    rw [one x e1,one y e2]
  ·rename_i hk
   rw [if_neg hk] at e2
   exact cf_inj r n acc h x y c hc e1 e2
theorem pc_cell:∀(names:List (Str×NameKind)) (h:Heap) (acc:List (Str×Addr)) (x:Str) (c:Nat),h.objs.size<=c->(∀(y:Str) (c':Nat),acc.lookup y=some c'->c'<h.objs.size)->(cellsFrom h.objs.size names acc).lookup x=some c->(pushCells h names).IsCell c none
 | [],h,acc,x,c,hc,ha,e=>absurd (ha x c e) (by omega)
 | (m,k) :: r,h,acc,x,c,hc,ha,e=>by
  unfold cellsFrom at e
  unfold pushCells
  split
  ·rename_i hk
   rw [if_pos hk] at e
   have hsz:(h.push { cls:=.type "cell",data:=.cell none }).objs.size=h.objs.size+1:=Heap.size_push ..
   rw [<-hsz] at e
   by_cases hcn:h.objs.size+1<=c
   ·refine pc_cell r _ _ x c (by rw [hsz]; exact hcn) (fun y c' q=>?_) e
    rw [List.lookup_cons] at q
    cases hy:y == m with
    | true=>rw [hy] at q; cases q; rw [hsz]; exact Nat.lt_succ_self _
    | false=>rw [hy] at q; have:=ha y c' q; rw [hsz]; omega
   ·have ecn:c=h.objs.size:=by omega
    refine ⟨{ cls:=.type "cell",data:=.cell none },?_,rfl⟩
    rw [ecn]
    exact pushCells_keeps r _ _ _ (Heap.get?_push_size _ rfl)
  ·rename_i hk
   rw [if_neg hk] at e
   exact pc_cell r h acc x c hc ha e
end L2
namespace L2
open PySem PySem.Spec PyProof.Rows
structure BP where
 cl:List (Str×Addr)
 C:Addr
 s:Shared
 H:Hp
 ex:List Addr
 xe:Value->Shared->Prop
def blkEnv (sc:Scope) (cl:List (Str×Addr)) (C:Addr) (env:Env):Env:=
 { scope:=relabel sc env,locals:=C,globals:=env.globals,cells:=cellsFrom (C+1) sc.names cl,qual:=env.qual,func:=none,code:=env.code,frame:=env.frame,builtins:=env.builtins }
def blk (X:Cx) (sc:Scope) (b:BP):Cx:=
 { X with s₀:=b.s,H₀:=b.H,env:=blkEnv sc b.cl b.C X.env,outer:=X.stack,ex:=b.ex,fn:=fun x=>sc.names.lookup x == some .cell,pn:=[],xe:=b.xe }
structure BlkOk (N:List Str) (outer sc:Scope) (own:List Nat):Prop where
 kind:sc.kind = .function
 nd:(sc.names.map (·.1)).Nodup
 free:∀y∈sc.names,y.2 = .free->outer.names.lookup y.1=some .cell\/outer.names.lookup y.1=some .free
 own:∀y∈sc.names,(y.2 = .local\/y.2 = .cell)->∀i,N[i]?=some y.1->i∈own
theorem look_mem {l:List (Str×NameKind)} (nd:(l.map (·.1)).Nodup) {x:Str} {k:NameKind} (h:(x,k)∈l):l.lookup x=some k:=by
 induction l with
 | nil=>cases h
 | cons y r ih=>
  obtain ⟨n,k'⟩:=y
  rw [List.map_cons,List.nodup_cons] at nd
  rw [List.lookup_cons]
  rcases List.mem_cons.mp h with e | h
  ·cases e; simp
  ·have:(x == n)=false:=by
    rw [beq_eq_false_iff_ne]
    intro e
    exact nd.1 (List.mem_map.mpr ⟨_,h,e⟩)
   rw [this]
   exact ih nd.2 h
def wipe (own:List Nat) (σ:St):St:=own.foldl (fun σ i=>σ.set i none) σ
theorem wipe_len (own:List Nat):∀σ:St,(wipe own σ).length=σ.length:=by
 induction own with
 | nil=>intro σ; rfl
 | cons i r ih=>intro σ; show (wipe r (σ.set i none)).length=_; rw [ih]; simp
theorem wipe_get (own:List Nat):∀(σ:St) (i:Nat) (v:V),(wipe own σ)[i]?=some (some v)->σ[i]?=some (some v)/\i∉own:=by
 induction own with
 | nil=>intro σ i v h; exact ⟨h,by simp⟩
 | cons j r ih=>
  intro σ i v h
  obtain ⟨h1,h2⟩:=ih (σ.set j none) i v h
  by_cases hj:j=i
  ·subst hj
   rw [List.getElem?_set] at h1
   split at h1
   ·split at h1 <;> cases h1
   ·rename_i z; exact absurd rfl z
  ·rw [List.getElem?_set_ne hj] at h1
   exact ⟨h1,by simp [h2,Ne.symm hj]⟩
def Back (σ σ':St):Prop:=σ'.length=σ.length/\∀(i:Nat) v,σ[i]?=some (some v)->σ'[i]?=some (some v)
section
variable {X:Cx} {pins:List (Addr×Obj)} {σ:St} {H:Hp} {s:Shared} {sc:Scope} {own:List Nat} {fp:List Addr} {xe:Value->Shared->Prop}
theorem relK_vis {env:Env} {x:Str} {k k0:NameKind} (e:relK env x k0=k) (hk:k = .local\/k = .cell\/k = .free):k0=k\/(k0 = .free/\k = .cell):=by
 unfold relK at e
 split at e
 ·rename_i hc
  rw [Bool.and_eq_true,Bool.and_eq_true] at hc
  exact .inr ⟨eq_of_beq hc.1.1,e.symm⟩
 ·exact .inl e
theorem blk_start (I:Inv X pins σ H s) (B:BlkOk X.N X.env.scope sc own) (hf:∀b∈fp,FpOk X pins H b) (hfo:∀b∈fp,b<s.heap.objs.size) :
  Inv (blk X sc ⟨closL X.env.cells sc.names [],s.heap.objs.size+1,s,H,fp,xe⟩) [(s.heap.objs.size,{ cls:=.type "list",data:=.seq ([]:List Value).toArray })] (wipe own σ) H
   { s with heap:=pushCells ((s.heap.push { cls:=.type "list",data:=.seq ([]:List Value).toArray }).push { cls:=.type "dict",data:=.dict #[] }) sc.names }:=by
 generalize hh2:s.heap.push { cls:=.type "list",data:=.seq ([]:List Value).toArray }=h2
 have sz2:h2.objs.size=s.heap.objs.size+1:=by rw [<-hh2,Heap.size_push]
 generalize hh3:h2.push { cls:=.type "dict",data:=.dict #[] }=h3
 have sz3:h3.objs.size=s.heap.objs.size+2:=by rw [<-hh3,Heap.size_push,sz2]
 have k3:∀b o,h3.get? b=some o->(pushCells h3 sc.names).get? b=some o:=pushCells_keeps sc.names h3
 have k2:∀b o,h2.get? b=some o->(pushCells h3 sc.names).get? b=some o:=fun b o e=>k3 b o (by rw [<-hh3]; exact Heap.get?_push_of_some _ e)
 have k1:∀b o,s.heap.get? b=some o->(pushCells h3 sc.names).get? b=some o:=fun b o e=>k2 b o (by rw [<-hh2]; exact Heap.get?_push_of_some _ e)
 have free_has:∀x,(x,NameKind.free)∈sc.names->∃c,X.env.cells.lookup x=some c:=fun x hx=>I.ok.has x (B.free (x,.free) hx rfl)
 have clL:∀x c,(closL X.env.cells sc.names []).lookup x=some c->(x,NameKind.free)∈sc.names->X.env.cells.lookup x=some c:=fun x c e hx=>by
  obtain ⟨c',e'⟩:=free_has x hx
  rcases clos_look (cells:=X.env.cells) (x:=x) sc.names [] with q | ⟨q,q2⟩
  ·rw [q,e'] at e; rw [e']; exact e
  ·exact absurd hx q2
 have clM:∀x c,(closL X.env.cells sc.names []).lookup x=some c->(x,NameKind.free)∈sc.names\/(closL X.env.cells sc.names []).lookup x=none:=fun x c e=>by
  by_cases hx:(x,NameKind.free)∈sc.names
  ·exact .inl hx
  ·refine .inr ?_
   have:∀(names:List (Str×NameKind)) (acc:List (Str×Addr)),(x,NameKind.free)∉names->(closL X.env.cells names acc).lookup x=acc.lookup x:=by
    intro names
    induction names with
    | nil=>intro acc _; rfl
    | cons y r ih=>
     obtain ⟨n,k⟩:=y
     intro acc hn
     unfold closL
     split
     ·rename_i hk
      rw [ih _ fun z=>hn (List.mem_cons_of_mem _ z),List.lookup_cons]
      have:(x == n)=false:=by
       rw [beq_eq_false_iff_ne]
       rintro rfl
       exact hn (by rw [eq_of_beq hk]; exact List.mem_cons_self)
      rw [this]
     ·exact ih _ fun z=>hn (List.mem_cons_of_mem _ z)
   exact this sc.names [] hx
 have clX:∀x c,(closL X.env.cells sc.names []).lookup x=some c->X.env.cells.lookup x=some c/\(x,NameKind.free)∈sc.names:=fun x c e=>by
  rcases clM x c e with hx | hx
  ·exact ⟨clL x c e hx,hx⟩
  ·rw [hx] at e; cases e
 have clLt:∀(x:Str) (c:Nat),(closL X.env.cells sc.names []).lookup x=some c->c<s.heap.objs.size:=fun x c e=>by
  obtain ⟨v,q⟩:=I.cell x c (clX x c e).1
  exact q.lt
 have cells:∀(x:Str) (c:Nat),(cellsFrom (s.heap.objs.size+1+1) sc.names (closL X.env.cells sc.names [])).lookup x=some c ->
   (s.heap.objs.size+2<=c/\(x,NameKind.cell)∈sc.names/\(pushCells h3 sc.names).IsCell c none)\/(X.env.cells.lookup x=some c/\(x,NameKind.free)∈sc.names):=fun x c e=>by
  rcases cf_look (x:=x) sc.names (s.heap.objs.size+1+1) (closL X.env.cells sc.names []) with ⟨c',h1,_,h3',h4⟩ | ⟨q,_⟩
  ·rw [h3'] at e; cases e
   refine .inl ⟨h1,h4,?_⟩
   refine pc_cell sc.names h3 (closL X.env.cells sc.names []) x c (by rw [sz3]; exact h1) (fun y d q=>?_) (by rw [sz3]; exact h3')
   have:=clLt y d q
   rw [sz3]; omega
  ·rw [q] at e
   exact .inr (clX x c e)
 have hfrs:∀b∈frs X.stack,b<s.heap.objs.size:=fun b hb=>by
  obtain ⟨_,o,ho,_⟩:=I.stack.mem hb
  exact Heap.lt_size ho
 have newNs:(pushCells h3 sc.names).Ns (s.heap.objs.size+1) fun _=>none:=by
  have:=(Heap.Ns.new h2 (.type "dict")).keeps (h':=pushCells h3 sc.names) (by rw [hh3]; exact k3)
  rw [sz2] at this
  exact this
 refine ⟨⟨I.ok.mod,B.kind,I.ok.glob,I.ok.blt,Nat.le_succ _,fun x y c e1 e2=>?_,fun x hx=>?_,fun x c hx e=>?_,I.ok.hd,I.ok.frames,.inl rfl,fun b hb=>⟨?_,fun x c e=>?_⟩,fun b o e=>I.bs b o e,Nat.le_trans I.ok.bsz I.sz,fun b o e hb=>?_,fun b hb hb'=>?_,I.stack,I.stkFree⟩,
  rfl,I.bare,Un.kept k1,⟨_,newNs,fun i x v h1 h2' h3'=>?_⟩,fun x c e=>?_,I.hok.fresh (Nat.le_succ _),fun x c e=>?_,fun p hp=>?_,I.hok.kept k1,?_⟩
 · 
  rcases cells x c e1 with ⟨a1,a2,_⟩ | ⟨a1,_⟩ <;> rcases cells y c e2 with ⟨b1,b2,_⟩ | ⟨b1,_⟩
  ·exact cf_inj sc.names _ _ (fun z d q=>by have:=clLt z d q; omega) x y c a1 e1 e2
  ·obtain ⟨v,q⟩:=I.cell y c b1
   exact absurd q.lt (Nat.not_lt.mpr (Nat.le_trans (Nat.le_add_right _ 2) ‹_›))
  ·obtain ⟨v,q⟩:=I.cell x c a1
   exact absurd q.lt (Nat.not_lt.mpr (Nat.le_trans (Nat.le_add_right _ 2) ‹_›))
  ·exact I.ok.inj x y c a1 b1
 · 
  have hx:(relabel sc X.env).names.lookup x=some .cell\/(relabel sc X.env).names.lookup x=some .free:=hx
  have:(x,NameKind.cell)∈sc.names\/(x,NameKind.free)∈sc.names:=by
   rcases hx with hx | hx
   ·obtain ⟨k0,q1,q2⟩:=rel_look hx
    rcases relK_vis q2 (.inr (.inl rfl)) with rfl | ⟨rfl,_⟩
    ·exact .inl (PySem.mem_of_lookup q1)
    ·exact .inr (PySem.mem_of_lookup q1)
   ·obtain ⟨k0,q1,q2⟩:=rel_look hx
    rcases relK_vis q2 (.inr (.inr rfl)) with rfl | ⟨_,z⟩
    ·exact .inr (PySem.mem_of_lookup q1)
    ·cases z
  show ∃c,(cellsFrom (s.heap.objs.size+1+1) sc.names (closL X.env.cells sc.names [])).lookup x=some c
  rcases cf_look (x:=x) sc.names (s.heap.objs.size+1+1) (closL X.env.cells sc.names []) with ⟨c',_,_,h3',_⟩ | ⟨q,qn⟩
  ·exact ⟨c',h3'⟩
  ·rcases this with z | z
   ·exact absurd z qn
   ·rw [q]
    rcases clos_look (cells:=X.env.cells) (x:=x) sc.names [] with q' | ⟨_,q2⟩
    ·exact ⟨_,q'⟩
    ·exact absurd z q2
 · 
  rcases cells x c e with ⟨a1,_⟩ | ⟨_,a2⟩
  ·show s.heap.objs.size<=c; omega
  ·have hx':sc.names.lookup x=some .cell:=eq_of_beq hx
   rw [look_mem B.nd a2] at hx'
   cases hx'
 ·exact Nat.ne_of_lt (Nat.lt_succ_of_lt (hfo b hb))
 ·have:=hfo b hb
  rcases cells x c e with ⟨a1,_⟩ | ⟨a1,_⟩
  ·exact fun z=>absurd this (Nat.not_lt.mpr (by rw [<-z]; exact Nat.le_trans (Nat.le_add_right _ 2) a1))
  ·exact (hf b hb).2.2.2.2.1 x c a1
 · 
  rcases (hf b hb).2.2.2.1 with z | z
  ·exact I.ok.noex b o e z
  ·exact absurd (Heap.lt_size e) (Nat.not_lt.mpr (Nat.le_trans I.ok.bsz z))
 ·rcases List.mem_cons.mp (I.stkSub b hb') with z | z
  ·exact (hf b hb).2.1 z
  ·exact (hf b hb).2.2.1 z
 · 
  obtain ⟨h2a,h2b⟩:=wipe_get own σ i v h2'
  have h3c:(relabel sc X.env).names.lookup x=some .local\/(relabel sc X.env).names.lookup x=some .cell\/(relabel sc X.env).names.lookup x=some .free:=h3'
  have notown:∀k,sc.names.lookup x=some k->k ≠ .local/\k ≠ .cell:=fun k q=>⟨fun z=>h2b (B.own (x,k) (PySem.mem_of_lookup q) (.inl z) i h1),fun z=>h2b (B.own (x,k) (PySem.mem_of_lookup q) (.inr z) i h1)⟩
  have fr:(x,NameKind.free)∈sc.names:=by
   rcases h3c with z | z | z
   ·obtain ⟨k0,q1,q2⟩:=rel_look z
    rcases relK_vis q2 (.inl rfl) with rfl | ⟨_,z⟩
    ·exact absurd rfl (notown _ q1).1
    ·cases z
   ·obtain ⟨k0,q1,q2⟩:=rel_look z
    rcases relK_vis q2 (.inr (.inl rfl)) with rfl | ⟨rfl,_⟩
    ·exact absurd rfl (notown _ q1).2
    ·exact PySem.mem_of_lookup q1
   ·obtain ⟨k0,q1,q2⟩:=rel_look z
    rcases relK_vis q2 (.inr (.inr rfl)) with rfl | ⟨_,z⟩
    ·exact PySem.mem_of_lookup q1
    ·cases z
  obtain ⟨m,hn,hl⟩:=I.loc
  have hv:Vis X.env.scope x:=by
   rcases B.free _ fr rfl with z | z
   ·exact .inr (.inl z)
   ·exact .inr (.inr z)
  obtain ⟨u,r,l⟩:=hl i x v h1 h2a hv
  refine ⟨u,r,?_⟩
  have kk:(blkEnv sc (closL X.env.cells sc.names []) (s.heap.objs.size+1) X.env).kindOf x=some .cell\/(blkEnv sc (closL X.env.cells sc.names []) (s.heap.objs.size+1) X.env).kindOf x=some .free:=by
   rcases h3c with z | z | z
   ·obtain ⟨k0,q1,q2⟩:=rel_look z
    rw [look_mem B.nd fr] at q1
    cases q1
    rcases relK_vis q2 (.inl rfl) with z | ⟨_,z⟩ <;> cases z
   ·exact .inl z
   ·exact .inr z
  rcases l with ⟨l1,_⟩ | ⟨_,c,ec,z⟩
  ·have l1:X.env.scope.names.lookup x=some .local:=l1
   rcases B.free _ fr rfl with z | z <;> (rw [l1] at z; cases z)
  ·refine .inr ⟨kk,c,?_,z.keeps k1⟩
   show (cellsFrom (s.heap.objs.size+1+1) sc.names (closL X.env.cells sc.names [])).lookup x=some c
   rcases cf_look (x:=x) sc.names (s.heap.objs.size+1+1) (closL X.env.cells sc.names []) with ⟨c',_,_,_,h4⟩ | ⟨q,_⟩
   ·have:=look_mem B.nd h4
    rw [look_mem B.nd fr] at this
    cases this
   ·rw [q]
    rcases clos_look (cells:=X.env.cells) (x:=x) sc.names [] with q' | ⟨_,q2⟩
    ·rw [q',ec]; rfl
    ·exact absurd fr q2
 · 
  rcases cells x c e with ⟨_,_,a3⟩ | ⟨a1,_⟩
  ·exact ⟨_,a3⟩
  ·obtain ⟨v,q⟩:=I.cell x c a1
   exact ⟨v,q.keeps k1⟩
 · 
  rcases cells x c e with ⟨a1,_⟩ | ⟨a1,_⟩
  ·exact I.hok.fresh (by show s.heap.objs.size<=c; omega)
  ·exact I.freeC x c a1
 · 
  have hp':p∈([(s.heap.objs.size,{ cls:=.type "list",data:=.seq ([]:List Value).toArray })]:List (Addr×Obj)):=hp
  obtain rfl:p=(s.heap.objs.size,{ cls:=.type "list",data:=.seq ([]:List Value).toArray }):=by simpa using hp'
  refine ⟨k2 _ _ (by rw [<-hh2]; exact Heap.get?_push_size _ rfl),I.hok.fresh (Nat.le_refl _),Nat.ne_of_lt (Nat.lt_succ_self _),fun z=>Nat.lt_irrefl _ (hfrs _ z),fun v z=>?_⟩
  have z':Data.seq ([]:List Value).toArray 0=Data.cell v:=z
  cases z'
 ·rw [wipe_len]; exact I.len
end
end L2
namespace L2
open PySem PySem.Spec PyProof.Rows
def testsOf (ifs:List Expr) (env:Env):Sem Bool:=
 forIn ifs true fun c r=>if r=true then (do let ok <-isTrue c env (eval c env); pure (ForInStep.yield ok)) else pure (ForInStep.yield r)
def PTs (X:Cx) (ifs:List Expr) (t:TT):Prop:=
 ∀(pins:List (Addr×Obj)) (s:Shared) (σ:St) (H:Hp) (Q:Bool->Hp->Prop),Inv X pins σ H s->t σ H Q->wpAny (model X.prog X.w) X.A (testsOf ifs X.env) (TP X pins σ Q) X.xe s
def tYes:TT:=fun _ H Q=>Q true H
theorem ZL {X:Cx}:PTs X [] tYes:=fun _ _ _ H _ I h=>wpAny_tests_nil ⟨H,I,h⟩
theorem pts_one {X:Cx} {c:Expr} {t:TT} (hc:PT X c t):PTs X [c] t:=fun pins s σ H Q I h=>wpAny_tests_one (hc pins s σ H Q I h)
section
variable {prog:Program} {w:World} {A:Around} {E:Value->Shared->Prop} {R:Result->Shared->Prop} {s:Shared}
theorem newEnv_run {M:Model} {sc:Scope} {g:Addr} {cl:List (Str×Addr)} {qual:Str} {env:Env} {bl:Addr} {Q:Env->Shared->Prop}
  (h:Q { scope:=sc,locals:=s.heap.objs.size,globals:=g,cells:=cellsFrom (s.heap.objs.size+1) sc.names cl,qual:=qual,func:=none,code:=env.code,frame:=env.frame,builtins:=env.builtins }
   { s with heap:=pushCells (s.heap.push { cls:=.type "dict",data:=.dict #[] }) sc.names }):wpAny M A (newFunctionEnv sc g cl [] qual none .none (some env) bl) Q E s:=by
 simp only [newFunctionEnv,Option.isSome_some,if_true]
 refine wpAny_bind (wpAny_alloc ?_)
 refine wpAny_bind (wpAny_layCells _ (fun name kind cells=>by cases hkc:kind == NameKind.cell <;> simp [hkc]) _ _ _ _ ?_)
 rw [show ({ s with heap:=s.heap.push { cls:=.type "dict",data:=.dict #[] } }:Shared).heap.objs.size=s.heap.objs.size+1 from Heap.size_push ..]
 exact wpAny_bind (wpAny_pure (wpAny_pure h))
theorem comp_loop {elt tg iter:Expr} {ifs:List Expr} {sc:Scope} {pos:Pos} {it acc:Value} {env:Env} (J:Nat->Shared->Prop)
  (turn:∀n s,J n s->wpAny (model prog w) A (pyNext it) (fun r s1=>match r with
   | none=>R (.ok .next) s1
   | some v=>wpAny (model prog w) A (letOwnedTupleGo tg it v) (fun _ s2=>wpAny (model prog w) A (assign tg env v) (fun _ s3=>wpAny (model prog w) A (testsOf ifs env) (fun ok s4=>
     if ok=true then wpAny (model prog w) A (eval elt env) (fun x s5=>wpAny (model prog w) A (call (.builtin "list.append") [acc,x]) (fun _ s6=>∃m,m<n/\J m s6) (notedBy (model prog w) A env fun e s'=>R (.error e) s') s5) (notedBy (model prog w) A env fun e s'=>R (.error e) s') s4
     else ∃m,m<n/\J m s4) (notedBy (model prog w) A env fun e s'=>R (.error e) s') s3) (notedBy (model prog w) A env fun e s'=>R (.error e) s') s2) (notedBy (model prog w) A env fun e s'=>R (.error e) s') s1) (notedBy (model prog w) A env fun e s'=>R (.error e) s') s)
  (n:Nat) (h:J n s):codeAny (model prog w) A (.compLoop (.ListComp elt [⟨tg,iter,ifs,0⟩] sc pos) 0 it acc env) R s:=by
 refine codeAny_loop rfl J (fun n s hJ=>?_) n h
 show wpAny _ A ((compTurn (.ListComp elt [⟨tg,iter,ifs,0⟩] sc pos) 0 it acc env).onRaise fun x=>(do noteFrame x env; theTreesLotGoes x)) _ _ s
 refine wpAny_noted ?_
 rw [compTurn_list]
 refine wpAny_bind (wpAny_standAt (wpAny_bind (thn (turn n s hJ) fun r s1 h1=>?_)))
 cases r with
 | none=>exact wpAny_pure h1
 | some v=>
  refine wpAny_bind (thn h1 fun _ s2 h2=>wpAny_bind (thn h2 fun _ s3 h3=>wpAny_bind (thn h3 fun ok s4 h4=>?_)))
  cases ok with
  | false=>exact wpAny_pure ⟨rfl,h4⟩
  | true=>exact wpAny_bind (wpAny_bind (thn h4 fun x s5 h5=>wpAny_bind (thn h5 fun _ s6 h6=>wpAny_pure (wpAny_pure ⟨rfl,h6⟩))))
end
theorem HOk.track {P:Program} {w:World} {H:Hp} {h:Heap} {a:Addr} {o:HO} (x:HOk P w H h) (n:H a=none) (new:ObjOk P w (upd H a o) h a o):HOk P w (upd H a o) h:=fun b u e=>by
 by_cases hb:b=a
 ·subst hb; rw [upd_same] at e; cases e; exact new
 ·rw [upd_ne hb] at e
  exact (x b u e).stay (fun c v _ q=>q) (fun c q=>by rw [upd_ne (ne_of_none q n)]; exact q) fun c xs q=>by rw [upd_ne (ne_of_none q n)]; exact q
theorem Un.track {fs ex:List Addr} {H H':Hp} {h h':Heap} {a:Addr} {o:HO} (u:Un fs ex H H' h h') (n:H' a=none) (hz:h.objs.size<=a):Un fs ex H (upd H' a o) h h' where
 keep:=u.keep
 slot:=u.slot
 free:=fun b ob q m hx=>by rw [upd_ne (Nat.ne_of_lt (Nat.lt_of_lt_of_le (Heap.lt_size q) hz))]; exact u.free b ob q m hx
 there:=u.there
 tups:=fun b xs q=>by have:=u.tups b xs q; rw [upd_ne (ne_of_none this n)]; exact this
 frzs:=fun b ob w q=>by have:=u.frzs b ob w q; rw [upd_ne (ne_of_none this n)]; exact this
 tbls:=fun b ps q=>by obtain ⟨m,e⟩:=u.tbls b ps q; exact ⟨m,by rw [upd_ne (ne_of_none e n)]; exact e⟩
def CompW (J:It) (g:TG) (tt:TT) (te:TE) (σ0:St) (R:List V->Hp->Prop) (H1:Hp):Prop:=
 ∃W:Nat->Nat->List V->Hp->Prop,(∃m,W 0 m [] H1)/\∀i m ys H,W i m ys H ->
  (J.stop i H/\R ys H)\/(J.go i H/\i<sizeLine/\∃N:List V->Hp->Prop,(∀ys' H',N ys' H'->∃m',m'<m/\W (i+1) m' ys' H')/\∀x H',J.yld i H x H'->g x σ0 H' fun σ2 H2=>Back σ0 σ2/\tt σ2 H2 fun b H3=>
   if b=true then te σ2 H3 fun y H4=>N (ys++[y]) H4 else N ys H3)
section
variable {X:Cx} {sc:Scope} {own:List Nat} {tg iter elt:Expr} {ifs:List Expr} {wi:TI} {g:TG} {tt:TT} {te:TE}
theorem comp_run {pins:List (Addr×Obj)} {σ:St} {H:Hp} {s:Shared} {pos ppos:Pos} {use:Option (Value->Sem Unit)} {Qc:Value->Shared->Prop} {R:List V->Hp->Prop}
  (hc:X.calm=true) (B:BlkOk X.N X.env.scope sc own) (hi:PI X tg iter wi) (hg:∀b,PG (blk X sc b) tg g) (ht:∀b,PTs (blk X sc b) ifs tt) (he:∀b,PE (blk X sc b) elt te)
  (hs:∀x,foldedSetIterable iter X.env x=pure x) (I:Inv X pins σ H s) (h:wi σ H fun J H1=>CompW J g tt te (wipe own σ) R H1)
  (fin:∀D C H' ys s' m,Inv X pins σ (upd H' D (.lst ys)) s'->H' D=none->R ys H'->s'.heap.Ns C m->FpOk X pins (upd H' D (.lst ys)) C->compPost (model X.prog X.w) X.A X.xe use Qc (.ref D) C (.ok .next) s') :
  wpAny (model X.prog X.w) X.A (comprehension (.ListComp elt [⟨tg,iter,ifs,0⟩] sc pos) sc X.env ppos (newList []) false (eval iter X.env) use) Qc X.xe s:=by
 have hnames:∀x∈sc.names,x.2 = .local->sc.names.lookup x.1=some .local:=fun x hx e=>look_mem B.nd (by rw [<-e]; exact hx)
 refine wpAny_comprehension_free (cl:=closL X.env.cells sc.names []) (use:=use) rfl hs (clos_is fun y hy e=>I.ok.has y.1 (B.free y hy e)) B.kind hnames ?_
 refine thn (hi pins s σ H _ I h) fun v s1 h1=>thn h1 fun itv s2 h2=>?_
 obtain ⟨it,fp,tn,J,H2,e,I2,T,st2,f2,W,⟨m0,w0⟩,turn⟩:=h2
 subst e
 refine wpAny_newObj_type (newEnv_run ?_)
 have fpo:∀b∈fp,b<s2.heap.objs.size:=fun b hb=>let ⟨o,ho,_⟩:=T.obj _ _ st2 b hb; Heap.lt_size ho
 obtain ⟨D,hD⟩:∃D,D=s2.heap.objs.size:=⟨_,rfl⟩
 obtain ⟨C,hC⟩:∃C,C=s2.heap.objs.size+1:=⟨_,rfl⟩
 have szp:(s2.heap.push { cls:=.type "list",dict:=none,data:=.seq ([]:List Value).toArray }).objs.size=C:=by rw [hC,Heap.size_push]
 have hDC:D≠C:=by rw [hD,hC]; exact Nat.ne_of_lt (Nat.lt_succ_self _)
 have st:=blk_start (xe:=notedBy (model X.prog X.w) X.A (blkEnv sc (closL X.env.cells sc.names []) C X.env) fun e s'=>compPost (model X.prog X.w) X.A X.xe use Qc (.ref D) C (.error e) s') I2 B f2 fpo
 dsimp only
 rw [szp,<-hD]
 rw [<-hC,<-hD] at st
 generalize hX:blk X sc ⟨closL X.env.cells sc.names [],C,s2,H2,fp,notedBy (model X.prog X.w) X.A (blkEnv sc (closL X.env.cells sc.names []) C X.env) fun e s'=>compPost (model X.prog X.w) X.A X.xe use Qc (.ref D) C (.error e) s'⟩=Y at st
 have eY:Y.env=blkEnv sc (closL X.env.cells sc.names []) C X.env:=by rw [<-hX]; rfl
 have exY:Y.xe=notedBy (model X.prog X.w) X.A Y.env fun e s'=>compPost (model X.prog X.w) X.A X.xe use Qc (.ref D) C (.error e) s':=by rw [eY,<-hX]; rfl
 have pY:Y.prog=X.prog:=by rw [<-hX]; rfl
 have wY:Y.w=X.w:=by rw [<-hX]; rfl
 have KY:Y.K=X.K:=by rw [<-hX]; rfl
 have AY:Y.A=X.A:=by rw [<-hX]; rfl
 have cY:Y.calm=true:=by rw [<-hX]; exact hc
 have gY:=hg ⟨closL X.env.cells sc.names [],C,s2,H2,fp,notedBy (model X.prog X.w) X.A (blkEnv sc (closL X.env.cells sc.names []) C X.env) fun e s'=>compPost (model X.prog X.w) X.A X.xe use Qc (.ref D) C (.error e) s'⟩
 have tY:=ht ⟨closL X.env.cells sc.names [],C,s2,H2,fp,notedBy (model X.prog X.w) X.A (blkEnv sc (closL X.env.cells sc.names []) C X.env) fun e s'=>compPost (model X.prog X.w) X.A X.xe use Qc (.ref D) C (.error e) s'⟩
 have lY:=he ⟨closL X.env.cells sc.names [],C,s2,H2,fp,notedBy (model X.prog X.w) X.A (blkEnv sc (closL X.env.cells sc.names []) C X.env) fun e s'=>compPost (model X.prog X.w) X.A X.xe use Qc (.ref D) C (.error e) s'⟩
 rw [hX] at gY tY lY
 have fsY:Y.fs=frs X.stack:=by rw [<-hX]; rfl
 have exfY:Y.ex=fp:=by rw [<-hX]; rfl
 have s0Y:Y.s₀=s2:=by rw [<-hX]; rfl
 have H0Y:Y.H₀=H2:=by rw [<-hX]; rfl
 have LY:Y.env.locals=C:=by rw [eY]; rfl
 have pnY:Y.pn=[]:=by rw [<-hX]; rfl
 have eEnv:({ scope:=relabel sc X.env,locals:=C,globals:=X.env.globals,cells:=cellsFrom (C+1) sc.names (closL X.env.cells sc.names []),qual:=X.env.qual,func:=none,code:=X.env.code,frame:=X.env.frame,builtins:=X.env.builtins }:Env)=Y.env:=by rw [eY]; rfl
 rw [eEnv]
 have TY:Turn Y.prog Y.w Y.K tg J fp it tn:=by rw [pY,wY,KY]; exact T
 have dfp:∀b∈fp,b≠D:=fun b hb=>by rw [hD]; exact Nat.ne_of_lt (fpo b hb)
 have stat:∀{pl:List (Addr×Obj)} {H':Hp},(∀p∈pl,p.1=D)->(∀b∈fp,H' b=none)->∀b∈fp,FpOk Y pl H' b:=fun {pl H'} hpl hn b hb=>by
  have f:=st.ok.exf b (by rw [exfY]; exact hb)
  refine ⟨hn b hb,f.1,st.ok.exfs b (by rw [exfY]; exact hb),.inl (by rw [exfY]; exact hb),f.2,fun p hp=>?_⟩
  rw [pnY,List.nil_append] at hp
  rw [hpl p hp]
  exact Ne.symm (dfp b hb)
 let Lp:Nat->Shared->Prop:=fun n s'=>∃i ys us k H',Inv Y [(D,{ cls:=.type "list",data:=.seq (us:List Value).toArray k })] (wipe own σ) H' s'/\tn i s'.heap/\(∀b∈fp,H' b=none)/\Vals ys us/\ys.length<=sizeLine/\ys.length<=i/\W i n ys H'
 have start:Lp m0 { s2 with heap:=pushCells ((s2.heap.push { cls:=.type "list",dict:=none,data:=.seq ([]:List Value).toArray }).push { cls:=.type "dict",data:=.dict #[] }) sc.names }:=by
  refine ⟨0,[],[],0,H2,st,T.keep _ _ _ st2 fun b hb o e=>?_,fun b hb=>(f2 b hb).1,.nil,Nat.zero_le _,Nat.zero_le _,w0⟩
  exact pushCells_keeps sc.names _ _ _ (Heap.get?_push_of_some _ (Heap.get?_push_of_some _ e))
 have loop:∀s4,Lp m0 s4->codeAny (model X.prog X.w) X.A (.compLoop (.ListComp elt [⟨tg,iter,ifs,0⟩] sc pos) 0 (.ref it) (.ref D) Y.env) (compPost (model X.prog X.w) X.A X.xe use Qc (.ref D) C) s4:=by
  intro s4 h4
  refine comp_loop Lp ?_ m0 h4
  rintro n s5 ⟨i,ys,us,k,H5,I5,st5,fr5,vs5,le5,ll5,w5⟩
  rw [<-exY,<-pY,<-wY,<-AY]
  have pinD:∀p∈([(D,{ cls:=.type "list",data:=.seq us.toArray k })]:List (Addr×Obj)),p.1=D:=fun p hp=>by
   obtain rfl:p=(D,{ cls:=.type "list",data:=.seq us.toArray k }):=by simpa using hp
   rfl
  rcases turn i n ys H5 w5 with ⟨stop,qn⟩ | ⟨go,lt,N,hN,step⟩
  ·refine thn (TY.done Y rfl rfl rfl cY i _ s5 _ H5 Y.xe I5 (stat pinD fr5) st5 stop) fun r s6 ⟨hr,I6⟩=>?_
   subst hr
   obtain ⟨p1,p2,p3,p4,_⟩:=I6.pin (D,{ cls:=.type "list",data:=.seq us.toArray k }) (List.mem_append_right _ (by simp))
   have u6:Un (frs X.stack) fp H2 (upd H5 D (.lst ys)) s2.heap s6.heap:=by
    have u:=I6.base
    rw [fsY,exfY,s0Y,H0Y] at u
    exact u.track p2 (by rw [hD]; exact Nat.le_refl _)
   have hok:HOk X.prog X.w (upd H5 D (.lst ys)) s6.heap:=by
    have:=I6.hok
    rw [pY,wY] at this
    exact this.track p2 ⟨le5,us,k,vs5,p1⟩
   have I7:Inv X pins σ (upd H5 D (.lst ys)) s6:=I2.call' (ch:=fp) (by rw [<-s0Y]; exact I6.os) u6 hok I6.bare fun b hb=>⟨(f2 b hb).2.2.2.1,(f2 b hb).2.1,(f2 b hb).2.2.2.2.1,(f2 b hb).2.2.2.2.2⟩
   obtain ⟨m,hn,_⟩:=I6.loc
   rw [LY] at hn
   rw [pY,wY,AY]
   refine fin D C H5 ys s6 m I7 p2 qn hn (I2.fpOk (by rw [hC]; exact Nat.le_succ _) ?_)
   rw [upd_ne (Ne.symm hDC),<-LY]
   exact I6.free
  ·refine thn (TY.item Y rfl rfl rfl cY i _ s5 _ H5 Y.xe I5 (stat pinD fr5) st5 go) fun r s6 ⟨u,hr,h6⟩=>?_
   subst hr
   refine thn h6 fun _ s7 ⟨x,H7,I7,r7,y7,st7,fr7⟩=>?_
   have I7':=I7.pinned (stat pinD fr7) (T.obj _ _ st7)
   refine thn (gY _ s7 _ H7 x u _ I7' r7 (step x H7 y7)) fun _ s8 ⟨σ8,H8,I8,bk,q8⟩=>?_
   refine thn (tY _ s8 σ8 H8 _ I8 q8) fun ok s9 ⟨H9,I9,q9⟩=>?_
   have fpk:∀{σ':St} {H':Hp} {s':Shared},Inv Y ([(D,{ cls:=.type "list",data:=.seq us.toArray k })]++pinsAt fp s7.heap) σ' H' s'->tn (i+1) s'.heap/\(∀b∈fp,H' b=none):=fun {σ' H' s'} I'=>
    ⟨T.keep _ _ _ st7 fun b hb o e=>(I'.pin (b,o) (List.mem_append_right _ (List.mem_append_right _ (mem_pinsAt hb e)))).1,fun b hb=>by
     obtain ⟨o,e,d⟩:=T.obj _ _ st7 b hb
     exact (I'.pin (b,o) (List.mem_append_right _ (List.mem_append_right _ (mem_pinsAt hb e)))).2.1⟩
   cases ok with
   | false=>
    obtain ⟨m',hm,w'⟩:=hN _ _ q9
    obtain ⟨t9,fr9⟩:=fpk I9
    exact ⟨m',hm,i+1,ys,us,k,H9,I9.unpinned.weak bk.1.symm bk.2,t9,fr9,vs5,le5,Nat.le_succ_of_le ll5,w'⟩
   | true=>
    refine thn (lY _ s9 σ8 H9 _ I9 q9) fun yv sa ⟨y,Ha,Ia,ra,qa⟩=>?_
    obtain ⟨m',hm,w'⟩:=hN _ _ qa
    obtain ⟨ta,fra⟩:=fpk Ia
    obtain ⟨p1,p2,p3,p4,_⟩:=Ia.pin (D,{ cls:=.type "list",data:=.seq us.toArray k }) (List.mem_append_right _ (List.mem_append_left _ (by simp)))
    have lus:=vs5.length
    refine call_meets F.slot_list_append ⟨_,p1,rfl⟩ F.entry_list_append (F.args_list_append_2 _ _) (PySem.list_append D us.toArray k yv (by rw [List.size_toArray]; omega)) ⟨p1,?_⟩
    have q:=PySem.IsL.update p1 (fun z=>z.push yv)
    have Ib:Inv Y [] (wipe own σ) Ha { sa with heap:=sa.heap.update D (Obj.mapSeq fun z=>z.push yv) }:=by
     have I0:Inv Y [] (wipe own σ) Ha sa:=(Ia.pins_of (pins':=[]) fun p hp=>absurd hp (by simp)).weak bk.1.symm bk.2
     refine I0.turned (t':=sa.toks) (it:=D) (fun b o hb e=>(Heap.get?_update_other sa.heap _ (Ne.symm hb)).trans e) p2 (by rw [LY]; exact hDC) (.inr (by rw [s0Y,hD]; exact Nat.le_refl _)) (fun z c e=>?_) fun p hp=>absurd (show p∈([]:List (Addr×Obj)) by rw [<-pnY]; simpa using hp) (by simp)
     obtain ⟨v,o,ho,hd⟩:=st.cell z c e
     rintro rfl
     obtain ⟨o1,_⟩:=st.pin (c,{ cls:=.type "list",data:=.seq ([]:List Value).toArray }) (List.mem_append_right _ (by simp))
     rw [o1] at ho
     cases ho
     cases hd
    have q':(sa.heap.update D (Obj.mapSeq fun z=>z.push yv)).get? D=some { cls:=.type "list",data:=.seq (us++[yv]).toArray (if (us.toArray.push yv).size == us.toArray.size then k else k+1) }:=by
     have e1:(us++[yv]).toArray=us.toArray.push yv:=by simp
     rw [e1]; exact q
    refine ⟨m',hm,i+1,ys++[y],us++[yv],(if (us.toArray.push yv).size == us.toArray.size then k else k+1),Ha,Ib.pins_of fun p hp=>?_,T.keep _ _ _ ta fun b hb o e=>(Heap.get?_update_other sa.heap _ (Ne.symm (dfp b hb))).trans e,fra,vs5.append (.cons ra .nil),by rw [List.length_append,List.length_singleton]; omega,by rw [List.length_append,List.length_singleton]; omega,w'⟩
    obtain rfl:p=(D,{ cls:=.type "list",data:=.seq (us++[yv]).toArray (if (us.toArray.push yv).size == us.toArray.size then k else k+1) }):=by simpa using hp
    exact ⟨q',p2,by rw [LY]; exact hDC,p4,fun v z=>by
     have z':Data.seq (us++[yv]).toArray (if (us.toArray.push yv).size == us.toArray.size then k else k+1)=Data.cell v:=z
     cases z'⟩
 refine codeAny_compStart_list (loop _ start) ?_
 refine T.self X.A 0 _ _ _ ?_ (loop _ start)
 exact T.keep _ _ _ st2 fun b hb o e=>pushCells_keeps sc.names _ _ _ (Heap.get?_push_of_some _ (Heap.get?_push_of_some _ e))
end
end L2
namespace L2
open PySem PySem.Spec PyProof.Rows
def nodupS:List Str->Bool
 | []=>true
 | x :: r=>!(r.contains x)&&nodupS r
theorem nodupS_of:∀{l:List Str},nodupS l=true->l.Nodup
 | [],_=>List.nodup_nil
 | x :: r,h=>by
  unfold nodupS at h
  rw [Bool.and_eq_true] at h
  refine List.nodup_cons.mpr ⟨fun z=>?_,nodupS_of h.2⟩
  have:r.contains x=true:=List.contains_iff_mem.mpr z
  rw [this] at h
  exact absurd h.1 (by decide)
def blkB (N:List Str) (outer sc:Scope) (own:List Nat):Bool:=
 sc.kind == .function&&nodupS (sc.names.map (·.1))&&sc.names.all (fun y=>!(y.2 == .free) || (outer.names.lookup y.1 == some .cell || outer.names.lookup y.1 == some .free)) &&
  sc.names.all (fun y=>!(y.2 == .local || y.2 == .cell) || (List.range N.length).all fun i=>!(N[i]? == some y.1) || own.contains i)
theorem ZK {N:List Str} {outer sc:Scope} {own:List Nat} (h:blkB N outer sc own=true):BlkOk N outer sc own:=by
 unfold blkB at h
 rw [Bool.and_eq_true,Bool.and_eq_true,Bool.and_eq_true] at h
 obtain ⟨⟨⟨h1,h2⟩,h3⟩,h4⟩:=h
 refine ⟨eq_of_beq h1,nodupS_of h2,fun y hy e=>?_,fun y hy e i hi=>?_⟩
 ·have:=List.all_eq_true.mp h3 y hy
  rw [e] at this
  rw [show (!(NameKind.free == NameKind.free))=false from rfl,Bool.false_or,Bool.or_eq_true] at this
  exact this.imp eq_of_beq eq_of_beq
 ·have:=List.all_eq_true.mp h4 y hy
  have e':(y.2 == NameKind.local || y.2 == NameKind.cell)=true:=by
   rcases e with e | e <;> rw [e] <;> rfl
  rw [e',Bool.not_true,Bool.false_or] at this
  have hlt:i<N.length:=(List.getElem?_eq_some_iff.mp hi).1
  have:=List.all_eq_true.mp this i (List.mem_range.mpr hlt)
  rw [hi,beq_self_eq_true,Bool.not_true,Bool.false_or] at this
  exact List.contains_iff_mem.mp this
def tComp (wi:TI) (g:TG) (tt:TT) (te:TE) (own:List Nat):TE:=fun σ H Q=>wi σ H fun J H1=>CompW J g tt te (wipe own σ) (fun ys H'=>∀p H2,New H' H2 p (.lst ys)->Q (.ref p) H2) H1
section
variable {X:Cx} {sc:Scope} {tg iter elt:Expr} {ifs:List Expr} {wi:TI} {g:TG} {tt:TT} {te:TE} {pos:Pos}
theorem Heap.SameBut.keeps {a:Addr} {h h':Heap} (x:Heap.SameBut a h h'):∀b o,b≠a->h.get? b=some o->h'.get? b=some o:=fun b o hb e=>(x.2 b hb).trans e
theorem FpOk.turned {pins:List (Addr×Obj)} {σ:St} {H:Hp} {s:Shared} {C:Addr} {h':Heap} (I:Inv X pins σ H s) (f:FpOk X pins H C) (sb:Heap.SameBut C s.heap h'):Inv X pins σ H { s with heap:=h' }:=
 I.turned (t':=s.toks) (Heap.SameBut.keeps sb) f.1 f.2.1 f.2.2.2.1 f.2.2.2.2.1 f.2.2.2.2.2
theorem ZD (own:List Nat) (hc:X.calm=true) (B:BlkOk X.N X.env.scope sc own) (hi:PI X tg iter wi) (hg:∀b,PG (blk X sc b) tg g) (ht:∀b,PTs (blk X sc b) ifs tt) (he:∀b,PE (blk X sc b) elt te)
  (hs:∀x,foldedSetIterable iter X.env x=pure x:=by intro _; rfl):PE X (.ListComp elt [⟨tg,iter,ifs,0⟩] sc pos) (tComp wi g tt te own):=by
 intro pins s σ H Q I h
 rw [eval_ListComp]
 refine comp_run (use:=none) hc B hi hg ht he hs I h fun D C H' ys s' m I' n r hn f=>⟨m,hn,fun h' sb=>?_⟩
 exact ⟨.ref D,_,f.turned I' sb,rfl,r D _ (.of n)⟩
theorem ps_setC {i:Nat} {y:Str} {py spos:Pos} (own:List Nat) (hc:X.calm=true) (B:BlkOk X.N X.env.scope sc own) (hi:PI X tg iter wi) (hg:∀b,PG (blk X sc b) tg g) (ht:∀b,PTs (blk X sc b) ifs tt) (he:∀b,PE (blk X sc b) elt te)
  (hN:X.N.Nodup) (hy:X.N[i]?=some y) (hl:X.env.scope.names.lookup y=some .local)
  (hsw:swapsWith (.ListComp elt [⟨tg,iter,ifs,0⟩] sc pos) (some (.Name y py)) spos.line X.env=pure true:=by rfl)
  (hs:∀x,foldedSetIterable iter X.env x=pure x:=by intro _; rfl):PS X (.Assign [.Name y py] (.ListComp elt [⟨tg,iter,ifs,0⟩] sc pos) spos) (tAsg (tComp wi g tt te own) (gName i)):=by
 intro pins s σ H D I h
 rw [exec_Assign_Name_used _ _ _ _ hsw]
 refine wpAny_bind (wpAny_standAt (wpAny_bind ?_))
 show wpAny _ X.A (comprehension (.ListComp elt [⟨tg,iter,ifs,0⟩] sc pos) sc X.env _ (newList []) false (eval iter X.env) (some (assign (.Name y py) X.env)) >>= fun _=>pure ()) _ _ s
 refine wpAny_bind (comp_run (use:=some (assign (.Name y py) X.env)) (Qc:=fun _ s'=>wpAny (model X.prog X.w) X.A (pure ()) (fun _ s''=>wpAny (model X.prog X.w) X.A (pure Flow.next) (SP X pins D) X.xe s'') X.xe s') hc B hi hg ht he hs I h fun L C H' ys s' m I' n r hn f=>?_)
 refine wpAny_assign_Name (store_ok2 I' hN hy (.inl hl) (v:=.ref L) rfl (fun s2 I2 hsb=>?_) (.inr hl))
 obtain ⟨a,sb,ha⟩:=hsb
 have hCa:C≠a:=by
  rcases ha with z | z
  ·rw [z]; exact f.2.1
  ·exact Ne.symm (f.2.2.2.2.1 y a z)
 refine ⟨m,hn.sameBut sb hCa,fun h' sb2=>wpAny_pure (wpAny_pure ?_)⟩
 exact ⟨_,_,f.turned I2 sb2,r L _ (.of n)⟩
end
theorem back_set {σ:St} {j:Nat} {v:Option V} (h:∀x,σ[j]?≠some (some x)):Back σ (σ.set j v):=by
 refine ⟨by simp,fun i x e=>?_⟩
 by_cases hij:j=i
 ·subst hij; exact absurd e (h x)
 ·rw [List.getElem?_set_ne hij]; exact e
theorem wipe_one {σ:St} {j:Nat}:∀x,(wipe [j] σ)[j]?≠some (some x):=fun x e=>by
 have:=(wipe_get [j] σ j x e).2
 simp at this
theorem wipe_set {σ:St} {j:Nat} {v:Option V}:(wipe [j] σ).set j v=σ.set j v:=by
 show (σ.set j none).set j v=_
 simp
section
variable {K:W.Frag} {tt:TT} {te:TE} {σ:St} {j:Nat} {R:List V->Hp->Prop} {H1:Hp}
theorem comp_list {a:Addr} {xs:List V} (Pv:Nat->List V->Hp->Prop) (hz:xs.length<=sizeLine) (h0:Pv 0 [] H1) (hl:∀i ys H,i<=xs.length->Pv i ys H->SqL K H a xs)
  (hs:∀i x ys H,xs[i]?=some x->Pv i ys H->tt (σ.set j (some x)) H fun b H3=>if b=true then te (σ.set j (some x)) H3 fun y H4=>Pv (i+1) (ys++[y]) H4 else Pv (i+1) ys H3) (hd:∀ys H,Pv xs.length ys H->R ys H) :
  CompW (Itl K a) (gName j) tt te (wipe [j] σ) R H1:=by
 refine ⟨fun i m ys H=>m=xs.length - i/\i<=xs.length/\Pv i ys H,⟨xs.length,by simp,Nat.zero_le _,h0⟩,?_⟩
 rintro i m ys H ⟨rfl,hi,p⟩
 have q:=hl i ys H hi p
 by_cases hlt:i<xs.length
 ·refine .inr ⟨⟨xs,xs[i],q,by simp [hlt]⟩,by omega,Pv (i+1),fun ys' H' q'=>⟨xs.length - (i+1),by omega,rfl,hlt,q'⟩,fun x H' y=>?_⟩
  obtain ⟨e,y⟩:=y
  subst e
  show Back _ _/\_
  refine ⟨back_set wipe_one,?_⟩
  rw [wipe_set]
  exact hs i x ys _ (y xs q) p
 ·have e:i=xs.length:=by omega
  subst e
  exact .inl ⟨⟨xs,q,Nat.le_refl _⟩,hd ys H p⟩
theorem comp_range {lo:Int} {n:Nat} (Pv:Nat->List V->Hp->Prop) (hz:n<=sizeLine) (h0:Pv 0 [] H1)
  (hs:∀i ys H,i<n->Pv i ys H->tt (σ.set j (some (.int (lo+i)))) H fun b H3=>if b=true then te (σ.set j (some (.int (lo+i)))) H3 fun y H4=>Pv (i+1) (ys++[y]) H4 else Pv (i+1) ys H3) (hd:∀ys H,Pv n ys H->R ys H) :
  CompW (Itr lo n) (gName j) tt te (wipe [j] σ) R H1:=by
 refine ⟨fun i m ys H=>m=n - i/\i<=n/\Pv i ys H,⟨n,by simp,Nat.zero_le _,h0⟩,?_⟩
 rintro i m ys H ⟨rfl,hi,p⟩
 by_cases hlt:i<n
 ·refine .inr ⟨hlt,by omega,Pv (i+1),fun ys' H' q'=>⟨n - (i+1),by omega,rfl,hlt,q'⟩,fun x H' y=>?_⟩
  obtain ⟨e,y⟩:=y
  subst e y
  show Back _ _/\_
  refine ⟨back_set wipe_one,?_⟩
  rw [wipe_set]
  exact hs i ys _ hlt p
 ·have e:i=n:=by omega
  subst e
  exact .inl ⟨Nat.le_refl _,hd ys H p⟩
end
end L2
namespace L2
open PySem PySem.Spec PyProof.Rows
theorem ints_of:∀{ns:List Int} {us:List Value},Vals (ns.map V.int) us->∃xs:Array (Int×Tok),us.toArray=intItems xs/\ns=xs.toList.map (·.1)
 | [],_,.nil=>⟨#[],by simp [intItems],rfl⟩
 | n :: ns,u :: us,.cons r t=>by
  obtain ⟨tk,rfl⟩:=r
  obtain ⟨xs,e1,e2⟩:=ints_of t
  refine ⟨((n,tk) :: xs.toList).toArray,?_,by simp [e2]⟩
  have e3:us=(intItems xs).toList:=by rw [<-e1]
  rw [e3]
  simp [intItems]
theorem bools_of:∀{bs:List Bool} {us:List Value},Vals (bs.map V.bl) us->us=bs.map Value.bool
 | [],_,.nil=>rfl
 | b :: bs,u :: us,.cons r t=>by
  have r':u=Value.bool b:=r
  rw [r',bools_of t]
  rfl
section
variable {X:Cx}
theorem call_sumL (hc:X.calm=true):CallR X (.builtin "sum") (fun xs H Q=>∃(p:Addr) (ns:List Int),xs=[.ref p]/\SqL X.K H p (ns.map V.int)/\Q (.int ns.sum) H):=by
 intro pins s σ H xs us Q I r h
 obtain ⟨p,ns,rfl,hq,q⟩:=h
 obtain ⟨u,rfl,rx⟩:=vals1 r
 cases rx
 obtain ⟨its,rv,pl,_⟩:=I.list hq
 obtain ⟨xs,e1,e2⟩:=ints_of rv
 have hl:=pl.isList
 rw [e1] at hl
 refine sum_intListG (I.ok.hd hc) hl fun h' tk t' k=>⟨.int ns.sum,H,I.kept k,⟨t',?_⟩,q⟩
 rw [preSum_eq,List.take_of_length_le (by simp),e2]
theorem keptIt {h h':Heap} {o:Obj} (hk:∀b x,b∉[h.objs.size]->(h.push o).get? b=some x->h'.get? b=some x):∀b x,h.get? b=some x->h'.get? b=some x:=
 fun b x e=>hk b x (fun hm=>by rw [List.mem_singleton.mp hm] at e; exact Nat.lt_irrefl _ (Heap.lt_size e)) (Heap.get?_push_of_some _ e)
theorem call_anyL (hc:X.calm=true):CallR X (.builtin "any") (fun xs H Q=>∃(p:Addr) (bs:List Bool),xs=[.ref p]/\SqL X.K H p (bs.map V.bl)/\Q (.bl (bs.any id)) H):=by
 intro pins s σ H xs us Q I r h
 obtain ⟨p,bs,rfl,hq,q⟩:=h
 obtain ⟨u,rfl,rx⟩:=vals1 r
 cases rx
 obtain ⟨its,rv,pl,_⟩:=I.list hq
 have eb:=bools_of rv
 subst eb
 have hl:=pl.isList
 have hlt:p<s.heap.objs.size:=by obtain ⟨_,e,_⟩:=hl; exact Heap.lt_size e
 refine call_any_walk (wpAny_pyIter_list hl ?_)
 refine ⟨s.heap.objs.size,[s.heap.objs.size,p],[s.heap.objs.size],(bs.map Value.bool).toArray.size,_,_,fun i=>(bs[i]?).getD false,rfl,Walks.list (A:=X.A.in1) (I.ok.hd hc) _ p (Nat.ne_of_lt hlt) (bs.map Value.bool).toArray,
  ⟨⟨_,Heap.get?_push_size _ rfl,rfl,rfl⟩,hl.push _⟩,fun i v s' Q' E' hP hQ=>?_,fun h' tk hk=>?_⟩
 ·have hP':(bs.map Value.bool)[i]?=some v:=by simpa using hP
  rw [List.getElem?_map] at hP'
  cases e:bs[i]? with
  | none=>rw [e] at hP'; cases hP'
  | some b=>
   rw [e] at hP'
   cases hP'
   simp only [e,Option.getD_some] at hQ
   exact wpAny_truthy_bool hQ
 ·have e:((List.range (bs.map Value.bool).toArray.size).any fun i=>(bs[i]?).getD false)=bs.any id:=by
   rw [List.size_toArray,List.length_map]; exact LSm.range_any bs
  rw [e]
  exact ⟨.bl _,H,I.kept (keptIt hk),rfl,q⟩
end
section
variable {X:Cx}
theorem call_listN:CallR X (.type "list") (fun xs H Q=>∃p ys,xs=[.ref p]/\(SqL X.K H p ys\/SqT X.K H p ys)/\∀l H',New H H' l (.lst ys)->Q (.ref l) H'):=by
 intro pins s σ H xs us Q I r h
 obtain ⟨p,ys,e,hq,q⟩:=h
 exact call_list_of pins s σ H xs us Q I r ⟨p,ys,e,hq,fun l hl=>q l _ (.of hl)⟩
theorem op_catN:OpR X (binaryOp .Add) (fun x y H Q=>∃l b xs zs,x = .ref l/\y = .ref b/\H l=some (.lst xs)/\H b=some (.lst zs)/\xs.length+zs.length<=sizeLine/\∀p H',New H H' p (.lst (xs++zs))->Q (.ref p) H'):=by
 intro pins s σ H x y v u Q I rx ry h
 obtain ⟨l,b,xs,zs,e1,e2,h1,h2,h3,q⟩:=h
 exact op_cat pins s σ H x y v u Q I rx ry ⟨l,b,xs,zs,e1,e2,h1,h2,h3,fun p hp=>q p _ (.of hp)⟩
end
end L2
namespace L2
open PySem PySem.Spec PyProof.Rows
section
variable {X:Cx}
theorem get_list:PGet X (rIxL X.K):=by
 intro pins s σ H x y v u Q I rx ry h
 obtain ⟨p,xs,i,z,rfl,rfl,hq,he,q⟩:=h
 cases rx
 obtain ⟨t,rfl⟩:=ry
 obtain ⟨its,r,pl,hz⟩:=I.list hq
 obtain ⟨j,h1,h2,h3,h4,h5⟩:=atI_get he
 obtain ⟨w,ew,rw'⟩:=r.get h2
 have hl:=r.length
 have hn:=line63
 have fin:EP X pins σ Q w s:=⟨z,H,I,rw',q⟩
 by_cases h0:0<=i
 ·have hj:i.toNat=j:=by
   rw [seqIndex_of h0 h5] at h1
   exact Option.some.inj h1
  exact wpAny_getItem_list pl.isList h0 (by omega) (by rw [hj]; simpa using ew) fin
 ·have hj:(i+(its.toArray.size:Int)).toNat=j:=by
   rw [seqIndex_neg (by omega) h4] at h1
   rw [List.size_toArray,<-hl]
   exact Option.some.inj h1
  exact wpAny_getItem_list_neg pl.isList (by omega) (by rw [List.size_toArray] <;> omega) (by omega) (by rw [hj]; simpa using ew) fin
end
section
variable {K:W.Frag} {tt:TT} {te:TE} {σ:St} {j:Nat} {R:List V->Hp->Prop} {H1:Hp}
theorem yes {σ:St} {H:Hp} {F G:Hp->Prop} (h:F H):tYes σ H (fun b H3=>if b=true then F H3 else G H3):=by
 show if true=true then F H else G H
 exact iteT h
theorem take_map {α β:Type} (f:α->β) {xs:List α} {i:Nat} {x:α} (e:xs[i]?=some x):(xs.take i).map f++[f x]=(xs.take (i+1)).map f:=by
 rw [List.take_add_one,e]; simp
theorem comp_mapL {a:Addr} {xs:List V} (f:V->V) (hl:SqL K H1 a xs) (hz:xs.length<=sizeLine) (hs:∀(i:Nat) x (Q:VK),xs[i]?=some x->Q (f x) H1->te (σ.set j (some x)) H1 Q) (hd:R (xs.map f) H1) :
  CompW (Itl K a) (gName j) tYes te (wipe [j] σ) R H1:=by
 refine comp_list (fun i ys H=>H=H1/\ys=(xs.take i).map f) hz ⟨rfl,rfl⟩ (fun i ys H _ h=>by rw [h.1]; exact hl) (fun i x ys H e h=>?_) (fun ys H h=>?_)
 ·obtain ⟨rfl,rfl⟩:=h
  exact yes (hs i x _ e ⟨rfl,take_map f e⟩)
 ·obtain ⟨rfl,rfl⟩:=h
  rw [List.take_length]
  exact hd
theorem comp_mapR {lo:Int} {n:Nat} (f:Nat->V) (hz:n<=sizeLine) (hs:∀(i:Nat) (Q:VK),i<n->Q (f i) H1->te (σ.set j (some (.int (lo+i)))) H1 Q) (hd:R ((List.range n).map f) H1) :
  CompW (Itr lo n) (gName j) tYes te (wipe [j] σ) R H1:=by
 refine comp_range (fun i ys H=>H=H1/\ys=(List.range i).map f) hz ⟨rfl,rfl⟩ (fun i ys H e h=>?_) (fun ys H h=>?_)
 ·obtain ⟨rfl,rfl⟩:=h
  refine yes (hs i _ e ⟨rfl,?_⟩)
  rw [List.range_succ,List.map_append]; rfl
 ·obtain ⟨rfl,rfl⟩:=h
  exact hd
theorem comp_filR {lo:Int} {n:Nat} (p:Nat->Bool) (f:Nat->V) (hz:n<=sizeLine) (ht:∀(i:Nat) (Q:Bool->Hp->Prop),i<n->Q (p i) H1->tt (σ.set j (some (.int (lo+i)))) H1 Q) (hs:∀(i:Nat) (Q:VK),i<n->p i=true->Q (f i) H1->te (σ.set j (some (.int (lo+i)))) H1 Q)
  (hd:R (((List.range n).filter p).map f) H1):CompW (Itr lo n) (gName j) tt te (wipe [j] σ) R H1:=by
 refine comp_range (fun i ys H=>H=H1/\ys=((List.range i).filter p).map f) hz ⟨rfl,rfl⟩ (fun i ys H e h=>?_) (fun ys H h=>?_)
 ·obtain ⟨rfl,rfl⟩:=h
  refine ht i _ e ?_
  cases hp:p i with
  | true=>
   refine iteT (hs i _ e hp ⟨rfl,?_⟩)
   rw [List.range_succ,List.filter_append,List.filter_cons,List.filter_nil,hp]; simp
  | false=>
   refine iteF ⟨rfl,?_⟩
   rw [List.range_succ,List.filter_append,List.filter_cons,List.filter_nil,hp]; simp
 ·obtain ⟨rfl,rfl⟩:=h
  exact hd
theorem comp_filL {a:Addr} {xs:List V} (p:V->Bool) (f:V->V) (hl:SqL K H1 a xs) (hz:xs.length<=sizeLine) (ht:∀(i:Nat) x (Q:Bool->Hp->Prop),xs[i]?=some x->Q (p x) H1->tt (σ.set j (some x)) H1 Q)
  (hs:∀(i:Nat) x (Q:VK),xs[i]?=some x->p x=true->Q (f x) H1->te (σ.set j (some x)) H1 Q) (hd:R ((xs.filter p).map f) H1):CompW (Itl K a) (gName j) tt te (wipe [j] σ) R H1:=by
 refine comp_list (fun i ys H=>H=H1/\ys=((xs.take i).filter p).map f) hz ⟨rfl,rfl⟩ (fun i ys H _ h=>by rw [h.1]; exact hl) (fun i x ys H e h=>?_) (fun ys H h=>?_)
 ·obtain ⟨rfl,rfl⟩:=h
  refine ht i x _ e ?_
  cases hp:p x with
  | true=>
   refine iteT (hs i x _ e hp ⟨rfl,?_⟩)
   rw [List.take_add_one,e,List.filter_append,Option.toList_some,List.filter_cons,List.filter_nil,hp]; simp
  | false=>
   refine iteF ⟨rfl,?_⟩
   rw [List.take_add_one,e,List.filter_append,Option.toList_some,List.filter_cons,List.filter_nil,hp]; simp
 ·obtain ⟨rfl,rfl⟩:=h
  rw [List.take_length]
  exact hd
end
theorem Same.upd {H0 H:Hp} {l:Addr} {o:HO} (S:Same H0 H) (n:H0 l=none):Same H0 (upd H l o):=fun b u e=>by
 rw [upd_ne (ne_of_none e n)]
 exact S b u e
end L2
namespace L2
open PySem PySem.Spec PyProof.Rows
def rLen (K:W.Frag):List V->Hp->VK->Prop:=fun xs H Q=>∃(p:Addr) (ys:List V),xs=[.ref p]/\Sq K H p ys/\Q (.int ys.length) H
theorem call_lenQ {X:Cx}:CallR X (.builtin "len") (rLen X.K):=call_len_seq
def rSumL (K:W.Frag):List V->Hp->VK->Prop:=fun xs H Q=>∃(p:Addr) (ns:List Int),xs=[.ref p]/\SqL K H p (ns.map V.int)/\Q (.int ns.sum) H
def rIsT (K:W.Frag) (c:V) (cv:Value):List V->Hp->VK->Prop:=fun xs H Q=>∃x t b,xs=[x,c]/\TyOf K H x t/\W.kitOne K t cv=some b/\Q (.bl b) H
def rMaxL (K:W.Frag):List V->Hp->VK->Prop:=fun xs H Q=>∃(p:Addr) (ns:List Int),xs=[.ref p]/\SqL K H p (ns.map V.int)/\0<ns.length/\∀M,M∈ns->(∀a,a∈ns->a<=M)->Q (.int M) H
def rMinL (K:W.Frag):List V->Hp->VK->Prop:=fun xs H Q=>∃(p:Addr) (ns:List Int),xs=[.ref p]/\SqL K H p (ns.map V.int)/\0<ns.length/\∀M,M∈ns->(∀a,a∈ns->M<=a)->Q (.int M) H
def rAllL (K:W.Frag):List V->Hp->VK->Prop:=fun xs H Q=>∃(p:Addr) (bs:List Bool),xs=[.ref p]/\SqL K H p (bs.map V.bl)/\Q (.bl (bs.all id)) H
def rAnyL (K:W.Frag):List V->Hp->VK->Prop:=fun xs H Q=>∃(p:Addr) (bs:List Bool),xs=[.ref p]/\SqL K H p (bs.map V.bl)/\Q (.bl (bs.any id)) H
def rListN (K:W.Frag):List V->Hp->VK->Prop:=fun xs H Q=>∃p ys,xs=[.ref p]/\Sq K H p ys/\∀l H',New H H' l (.lst ys)->Q (.ref l) H'
theorem kit_bool_int (K:W.Frag):W.kitOne K (.type "bool") (.type "int")=some true:=kit_tt K (by decide +kernel) (by decide +kernel) (by decide +kernel)
theorem kit_str_int (K:W.Frag):W.kitOne K (.type "str") (.type "int")=some false:=kit_tt K (by decide +kernel) (by decide +kernel) (by decide +kernel)
theorem kit_none_int (K:W.Frag):W.kitOne K (.type "NoneType") (.type "int")=some false:=kit_tt K (by decide +kernel) (by decide +kernel) (by decide +kernel)
section
variable {X:Cx} (K:W.Frag)
theorem ix_Q (h:X.K=K:=by rfl):IxR X (rAt K):=by subst h; exact ix_any
theorem len_Q (h:X.K=K:=by rfl):CallR X (.builtin "len") (rLen K):=by subst h; exact call_lenQ
theorem sum_Q (hc:X.calm=true) (h:X.K=K:=by rfl):CallR X (.builtin "sum") (rSumL K):=by subst h; exact call_sumL hc
theorem any_Q (hc:X.calm=true) (h:X.K=K:=by rfl):CallR X (.builtin "any") (rAnyL K):=by subst h; exact call_anyL hc
theorem list_Q (h:X.K=K:=by rfl):CallR X (.type "list") (rListN K):=by subst h; exact call_listN
theorem ZB {tg l:Expr} {tl:TE} (hl:PE X l tl) (h:X.K=K:=by rfl):PI X tg l (iList K tl):=by subst h; exact pi_list hl
theorem pi_tupQ {tg l:Expr} {tl:TE} (hl:PE X l tl) (h:X.K=K:=by rfl):PI X tg l (iTup K tl):=by subst h; exact pi_tup hl
theorem in_Q (h:X.K=K:=by rfl):OpR X (compareOp .In) (rIn K false):=by subst h; exact op_in_seq
theorem notIn_Q (h:X.K=K:=by rfl):OpR X (compareOp .NotIn) (rIn K true):=by subst h; exact op_notIn_seq
theorem getL_Q (h:X.K=K:=by rfl):PGet X (rIxL K):=by subst h; exact get_list
theorem pg_tupQ {es:List Expr} {k:Nat} {t:TGs} {n:Nat} {pos:Pos} (hc:X.calm=true) (ht:PGs X es t) (hn:(assignEach es X.env).length=n:=by rfl) (hst:(assignEach es X.env).findIdx? (·.1)=none:=by rfl) (h:X.K=K:=by rfl) :
  PG X (.Tuple es k pos) (gTup K n t):=by subst h; exact pg_tup hc ht hn hst
theorem pe_isT {e:Expr} {te:TE} {T:Str} {n:String} {p p2 pos:Pos} (hg:Gl X "isinstance") (hm:X.mg "isinstance" = none) (hgT:Gl X T) (hmT:X.mg T=none) (hvT:bootBuiltins T=some (.type n)) (he:PE X e te)
  (hn:T ≠ "__name__" := by decide) (hd:(T == ("__debug__" : Str))=false:=by decide)
  (s1:starEach [e,.Name T p2] X.env=(false,eval e X.env) :: starEach [.Name T p2] X.env:=by rfl) (hpl:(backTo pos (starEach [.Name T p2] X.env)).any (·.1)=false:=by rfl) (h:X.K=K:=by rfl) :
  PE X (.Call (.Name "isinstance" p) [e,.Name T p2] [] pos) (tCB (rIsT K (.ty n) (.type n)) (tCons te (tCons (tC (.ty n)) tNil))):=by subst h; exact pe_isinstT hg hm hgT hmT hvT he hn hd s1 hpl
theorem pe_isC {e:Expr} {te:TE} {T:Str} {C:Addr} {p p2 pos:Pos} (hg:Gl X "isinstance") (hm:X.mg "isinstance" = none) (hgT:Gl X T) (hmT:X.mg T=some (.ref C)) (he:PE X e te)
  (hd:(T == ("__debug__" : Str))=false:=by decide)
  (s1:starEach [e,.Name T p2] X.env=(false,eval e X.env) :: starEach [.Name T p2] X.env:=by rfl) (hpl:(backTo pos (starEach [.Name T p2] X.env)).any (·.1)=false:=by rfl) (h:X.K=K:=by rfl) :
  PE X (.Call (.Name "isinstance" p) [e,.Name T p2] [] pos) (tCB (rIsT K (.ref C) (.ref C)) (tCons te (tCons (tC (.ref C)) tNil))):=by subst h; exact pe_isinst hg hm hgT hmT he hd s1 hpl
theorem op_eqI:OpR X (compareOp .Eq) (rI0 fun i j => .bl (decide (i=j))):=by
 intro pins s σ H x y v u Q I rx ry ⟨i,j,e1,e2,q⟩
 subst e1 e2
 refine op_eq pins s σ H _ _ v u Q I rx ry ⟨rfl,?_⟩
 rw [dec_int,Bool.beq_eq_decide_eq]
 exact q
theorem op_neI:OpR X (compareOp .NotEq) (rI0 fun i j => .bl (!decide (i=j))):=by
 intro pins s σ H x y v u Q I rx ry ⟨i,j,e1,e2,q⟩
 subst e1 e2
 refine op_ne pins s σ H _ _ v u Q I rx ry ⟨rfl,?_⟩
 rw [dec_int,Bool.beq_eq_decide_eq]
 exact q
end
theorem iteDT {c A B:Prop} [Decidable c] (hc:c) (h:A):if decide c=true then A else B:=by
 rw [decide_eq_true hc]
 exact iteT h
theorem iteDF {c A B:Prop} [Decidable c] (hc:¬c) (h:B):if decide c=true then A else B:=by
 rw [decide_eq_false hc]
 exact iteF h
theorem iteNT {c A B:Prop} [Decidable c] (hc:c) (h:B):if (!decide c)=true then A else B:=by
 rw [decide_eq_true hc]
 exact iteF h
theorem iteNF {c A B:Prop} [Decidable c] (hc:¬c) (h:A):if (!decide c)=true then A else B:=by
 rw [decide_eq_false hc]
 exact iteT h
theorem ite3 {c A B:Prop} [Decidable c] (h1:c->A) (h2:¬c->B):if decide c=true then A else B:=by
 by_cases h:c
 ·exact iteDT h (h1 h)
 ·exact iteDF h (h2 h)
end L2
namespace L2
open PySem PySem.Spec PyProof.Rows
section
variable {X:Cx}
def tRng1 (ta:TA):TE:=fun σ H Q=>ta σ H fun vs H1=>∃j:Int,vs=[.int j]/\∀p H2,New H1 H2 p (.rng 0 j)->Q (.ref p) H2
def tRng2 (ta:TA):TE:=fun σ H Q=>ta σ H fun vs H1=>∃i j:Int,vs=[.int i,.int j]/\∀p H2,New H1 H2 p (.rng i j)->Q (.ref p) H2
theorem pe_rng1 {a:Expr} {ta:TA} {p pos:Pos} (hg:Gl X "range") (hm:X.mg "range" = none) (ha:PA X [a] ta) (hs:starEach [a] X.env=[(false,eval a X.env)]:=by rfl):PE X (.Call (.Name "range" p) [a] [] pos) (tRng1 ta):=by
 intro pins s σ H Q I h
 refine Call_ (ld_blt I hg hm boot_range (PyProof.Rows.callWith_type1 (thn (ha pos pins s σ H _ I h) fun us s1 ⟨vs,H1,I1,r1,q1⟩=>?_) hs rfl))
 obtain ⟨j,e,q⟩:=q1
 subst e
 obtain ⟨u,rfl,t,rfl⟩:=vals1 r1
 refine call_range_1 ⟨.ref s1.heap.objs.size,_,I1.laid (o:=.rng 0 j) (fun b ob e=>Heap.get?_push_of_some _ e) (Nat.le_refl _) ⟨_,_,_,Heap.get?_push_size _ rfl⟩,rfl,q _ _ (.of (I1.hok.fresh (Nat.le_refl _)))⟩
def upZ (lo:Int) (n:Nat):List Int:=(List.range n).map fun (k:Nat)=>lo+(k:Int)
theorem vals_items {lo:Int}:∀{n:Nat} {us:List Value},us.length=n->(∀(j:Nat) v,us[j]?=some v->∃t,v=Value.int (lo+j) t)->Vals ((upZ lo n).map V.int) us:=by
 intro n us hl h
 unfold upZ
 rw [List.map_map]
 induction n generalizing us lo with
 | zero=>
  have:us=[]:=List.length_eq_zero_iff.mp hl
  subst this
  exact .nil
 | succ n ih=>
  match us,hl with
  | u :: us,hl=>
   rw [List.range_succ_eq_map,List.map_cons,List.map_map]
   refine .cons ?_ ?_
   ·obtain ⟨t,e⟩:=h 0 u rfl
    exact ⟨t,by simpa using e⟩
   ·have:=ih (us:=us) (lo:=lo+1) (by simpa using hl) fun j v e=>by
     obtain ⟨t,e'⟩:=h (j+1) v (by simpa using e)
     exact ⟨t,by rw [e',show lo+((j+1:Nat):Int)=lo+1+(j:Int) by omega]⟩
    have e2:List.map (V.int ∘ fun (k:Nat)=>lo+1+(k:Int)) (List.range n)=List.map ((V.int ∘ fun (k:Nat)=>lo+(k:Int)) ∘ Nat.succ) (List.range n):=by
     apply List.map_congr_left
     intro k _
     show V.int (lo+1+(k:Int))=V.int (lo+((k+1:Nat):Int))
     rw [show lo+1+(k:Int)=lo+((k+1:Nat):Int) by omega]
    rw [<-e2]
    exact this
def rListR:List V->Hp->VK->Prop:=fun xs H Q=>∃(p:Addr) (lo hi:Int),xs=[.ref p]/\H p=some (.rng lo hi) /\ -(2 ^ 62)<=lo/\lo<2 ^ 62 /\ -(2 ^ 62)<=hi/\hi<2 ^ 62/\(hi - lo).toNat<=16777216/\∀l H',New H H' l (.lst ((upZ lo (hi - lo).toNat).map V.int))->Q (.ref l) H'
theorem call_listR (hc:X.calm=true):CallR X (.type "list") rListR:=by
 intro pins s σ H xs us Q I r h
 obtain ⟨p,lo,hi,rfl,hp,h1,h2,h3,h4,hz,q⟩:=h
 obtain ⟨u,rfl,rx⟩:=vals1 r
 cases rx
 obtain ⟨t,u',v,e⟩:=I.hok p _ hp
 have en:Builtin.Range.rangeSize lo hi 1=((hi - lo).toNat:Nat):=by rw [rangeSize_one]; split <;> omega
 refine call_list_range (I.ok.hd hc) (show IsRange s.heap p lo hi 1 t u' v from e) (small_one h1 h2 h3 h4) en (by omega) fun h' tk acc c' kp ea it=>?_
 obtain ⟨i1,i2⟩:=it
 have ez:acc=acc.toList.toArray:=by simp
 refine ⟨.ref s.heap.objs.size,_,I.laid (o:=.lst ((upZ lo (hi - lo).toNat).map V.int)) kp (Nat.le_refl _) ⟨?_,acc.toList,c',?_,by rw [ea]⟩,rfl,q _ _ (.of (I.hok.fresh (Nat.le_refl _)))⟩
 ·unfold upZ
  rw [List.length_map,List.length_map,List.length_range]
  have:sizeLine=16777216:=sizeLine_eq
  omega
 ·refine vals_items (by simpa using i1) fun j v e=>?_
  obtain ⟨t,e'⟩:=i2 j v (by simpa using e)
  exact ⟨t,by rw [e',Int.mul_one]⟩
end
section
variable {prog:Program} {w:World} {A:Around} {R:Result->Shared->Prop} {I:Addr} {fp wr:List Addr} {n:Nat} {P:Nat->Value->Prop} {St:Nat->Heap->Prop} {d:Value}
end
section
variable {prog:Program} {w:World} {A:Around} {E:Value->Shared->Prop} {s:Shared}
end
def tMaxd (K:W.Frag) (ta:TA) (td:TE):TE:=fun σ H Q=>ta σ H fun vs H1=>td σ H1 fun _ H2=>∃(p:Addr) (ns:List Int),vs=[.ref p]/\SqL K H2 p (ns.map V.int)/\0<ns.length/\∀M,M∈ns->(∀a,a∈ns->a<=M)->Q (.int M) H2
section
variable {X:Cx}
def twoV (xs:List V) (lo:Option Int):List V:=(sliceRange (sliceBounds lo none (some 2) xs.length).1 (sliceBounds lo none (some 2) xs.length).2.1 2).filterMap (xs[·]?)
def tSl2 (K:W.Frag) (te:TE) (tl:TO):TE:=fun σ H Q=>te σ H fun x H1=>tl σ H1 fun l H2=>∃(p:Addr) (xs:List V),x = .ref p/\SqL K H2 p xs/\∀q H',New H2 H' q (.lst (twoV xs l))->Q (.ref q) H'
def rIndex (K:W.Frag):V->List V->Hp->VK->Prop:=fun x vs H Q=>∃l xs y j,x = .ref l/\vs=[y]/\SqL K H l xs/\flatV y=true/\xs.all flatV=true/\(∃z,xs[j]?=some z/\eqV z y=true)/\(∀m z,m<j->xs[m]?=some z->eqV z y=false)/\Q (.int (j:Nat)) H
theorem mt_index:MtR X "list.index" (rIndex X.K):=by
 intro pins s σ H x vs v us Q I rx rv h
 obtain ⟨l,xs,y,j,rfl,rfl,hq,fy,fs,⟨z,hz1,hz2⟩,hm,q⟩:=h
 cases rx
 obtain ⟨u,rfl,ru⟩:=vals1 rv
 obtain ⟨its,r,⟨o,n,ho,hc,hdd,hd⟩,hz⟩:=I.list hq
 obtain ⟨cls,dd,data,sl⟩:=o
 simp only at hc hd hdd
 subst hc hd hdd
 have lx:=r.length
 have hn:=line63
 have hjx:j<xs.length:=(List.getElem?_eq_some_iff.mp hz1).1
 have hj:j<its.toArray.size:=by rw [List.size_toArray]; omega
 have all:∀(m:Nat) (hm':m<its.toArray.size),∃z,xs[m]?=some z/\eqU y its.toArray[m]=eqV z y:=fun m hm'=>by
  have hmx:m<xs.length:=by rw [List.size_toArray] at hm'; omega
  obtain ⟨w',e1,e2⟩:=r.get (List.getElem?_eq_getElem hmx)
  refine ⟨xs[m],List.getElem?_eq_getElem hmx,?_⟩
  have:its.toArray[m]=w':=by
   rw [List.getElem_toArray]
   exact (List.getElem?_eq_some_iff.mp e1).2
  rw [this]
  exact eqU_of e2 (List.all_eq_true.mp fs _ (List.getElem_mem hmx))
 refine call_meets F.slot_list_index ⟨_,ho,rfl⟩ F.entry_list_index (F.args_list_index_2 _ _) (SeqAt.list_indexAt l its.toArray n none sl u (eqU y) j hj (by omega) ?_ fun m hm' hlt=>?_) ⟨ho,fun w' hw=>mem_eqAt ru fy r fs w' (by simpa using hw),?_⟩
 ·obtain ⟨z',e1,e2⟩:=all j hj
  rw [e2]
  rw [hz1] at e1
  cases e1
  exact hz2
 ·obtain ⟨z',e1,e2⟩:=all m hm'
  rw [e2]
  exact hm m z' hlt e1
 ·exact ⟨.int (j:Nat),H,I.tok _,⟨_,rfl⟩,q⟩
theorem pe_index (K:W.Frag) {o e:Expr} {to:TE} {t:TA} {apos cpos:Pos} (ho:PE X o to) (ha:PA X [e] t)
  (hbase:attributeBase o "index" X.env (eval o X.env)=eval o X.env:=by rfl)
  (hfew:((backTo cpos (starEach [e] X.env)).all (fun x=>!x.1)&&(backToKw cpos (keywordEach [] X.env)).all (fun x=>x.1.isSome)
   && decide ([e].length+([]:List Keyword).length+(if ([]:List Keyword).isEmpty then 0 else 1)<30))=true:=by rfl)
  (hline:(apos.endLine == cpos.line)=true:=by rfl) (hs:starEach [e] X.env=(false,eval e X.env) :: starEach [] X.env:=by rfl) (hplain:(backTo cpos (starEach [] X.env)).any (·.1)=false:=by rfl) (h:X.K=K:=by rfl) :
  PE X (.Call (.Attribute o "index" apos) [e] [] cpos) (tBM K "list" (rIndex K) to t):=by
 subst h
 exact pe_bm PySem.F.plainAttrs_list PySem.F.slot_list_index PySem.F.type_list_index mt_index ho ha hbase hfew hline hs hplain
end
end L2
namespace L2
open PySem PySem.Spec PyProof.Rows
def rSlN (K:W.Frag):V->Option Int->Option Int->Hp->VK->Prop:=fun x lo hi H Q=>∃a xs,x = .ref a/\SqL K H a xs/\∀p H',New H H' p (.lst (cutV xs lo hi))->Q (.ref p) H'
theorem sl_Q {X:Cx} (K:W.Frag) (h:X.K=K:=by rfl):SlR X (rSlN K):=by
 subst h
 intro pins s σ H x v vl vu lo hi sl Q I rx hs pl pu ⟨a,xs,e,hx,q⟩
 exact sl_list pins s σ H x v vl vu lo hi sl Q I rx hs pl pu ⟨a,xs,e,hx,fun p hp=>q p _ (.of hp)⟩
end L2
namespace L2
open PySem PySem.Spec PyProof.Rows
section
variable {X:Cx} {pins:List (Addr×Obj)} {σ:St} {H:Hp} {s:Shared} {a:Addr} {kvs:List (Key×V)} {o:Obj}
theorem Inv.freeze (I:Inv X pins σ H s) (e:H a=some (.dK kvs)) (ho:s.heap.get? a=some o):Inv X pins σ (upd H a (.frz o (.dK kvs))) s:=by
 have mu:Mut (H a):=by rw [e]; trivial
 have u:Un X.fs [] H (upd H a (.frz o (.dK kvs))) s.heap s.heap:=Un.write mu (.inl rfl) (fun _ _ _ q=>q) ⟨_,ho⟩
 have hok:HOk X.prog X.w (upd H a (.frz o (.dK kvs))) s.heap:=I.hok.write mu (.inl rfl) (fun _ _ _ q=>q) ⟨_,ho⟩ ⟨ho,dk_of I.hok e⟩
 exact I.un (t':=s.toks) u hok
theorem Inv.thaw (I:Inv X pins σ H s) (e:H a=some (.frz o (.dK kvs))) (h0:∀o u,X.H₀ a≠some (.frz o u)):Inv X pins σ (upd H a (.dK kvs)) s:=by
 have na:∀b,H b=none->b≠a:=fun b n z=>by rw [z,e] at n; cases n
 have nb:∀b u,H b=some u->(∀o v,u ≠ .frz o v)->b≠a:=fun b u q d z=>by rw [z,e] at q; exact d _ _ (Option.some.inj q).symm
 have up:∀b,H b=none->upd H a (.dK kvs) b=none:=fun b n=>by rw [upd_ne (na b n)]; exact n
 refine ⟨I.ok,I.os,I.bare,⟨I.base.keep,I.base.slot,fun b ob q n hx=>up b (I.base.free b ob q n hx),I.base.there,fun b xs q=>?_,fun b ob u q=>?_,fun b ps q=>?_⟩,I.loc,I.cell,up _ I.free,fun x c q=>up _ (I.freeC x c q),fun p hp=>?_,fun b u q=>?_,I.len⟩
 ·have h1:=I.base.tups b xs q
  rw [upd_ne (nb b _ h1 (by intro _ _ z; cases z))]
  exact h1
 ·have h1:=I.base.frzs b ob u q
  rw [upd_ne (fun z=>h0 ob u (by rw [<-z]; exact q))]
  exact h1
 ·obtain ⟨more,h1⟩:=I.base.tbls b ps q
  exact ⟨more,by rw [upd_ne (nb b _ h1 (by intro _ _ z; cases z))]; exact h1⟩
 ·obtain ⟨h1,h2,h3⟩:=I.pin p hp
  exact ⟨h1,up _ h2,h3⟩
 ·by_cases hb:b=a
  ·subst hb
   rw [upd_same] at q
   cases q
   exact (show ObjOk X.prog X.w H s.heap b (.frz o (.dK kvs)) from I.hok b _ e).2
  ·rw [upd_ne hb] at q
   exact (I.hok b u q).stay (fun c v _ z=>z) (fun c z=>by rw [upd_ne (nb c _ z (by intro _ _ z; cases z))]; exact z) fun c xs z=>by rw [upd_ne (nb c _ z (by intro _ _ z; cases z))]; exact z
end
theorem kV_rel {P:Program} {w:World} {k:Key} {u:Value} (h:(mixKind P w).is k u=true):RelV (kV k) u:=by
 rw [mixKind_is] at h
 rcases keyIs_shape h with ⟨i,t,rfl,rfl⟩ | ⟨x,t,rfl,rfl⟩
 ·exact ⟨t,rfl⟩
 ·exact ⟨t,rfl⟩
def Itd (a:Addr) (o:Obj) (kvs:List (Key×V)):It:=
 ⟨fun i H=>H a=some (.frz o (.dK kvs))/\∃kv,kvs[i]?=some kv,fun i H x H'=>H'=H/\∀kv,kvs[i]?=some kv->x=kV kv.1,fun i H=>H a=some (.frz o (.dK kvs))/\kvs.length<=i⟩
theorem dictAt_frz {X:Cx} {pins:List (Addr×Obj)} {σ:St} {H:Hp} {s:Shared} {a:Addr} {kvs:List (Key×V)} {o:Obj} {es:Array DictEntry} {ep:Nat} (I:Inv X pins σ H s) (hd:o.data = .dict es ep) (e:H a=some (.frz o (.dK kvs))) :
  ∃vs,KV kvs vs/\s.heap.DictAt (mixKind X.prog X.w) a vs ep:=by
 obtain ⟨ho,_,_,vs,r,o',es',ep',h1,h2,h3,h4⟩:=(show ObjOk X.prog X.w H s.heap a (.frz o (.dK kvs)) from I.hok a _ e)
 rw [ho] at h1
 cases h1
 rw [hd] at h3
 cases h3
 exact ⟨vs,r,_,_,ho,h2,hd,h4⟩
theorem KV.get {kvs:List (Key×V)} {vs:List (Key×Value)} (r:KV kvs vs):∀{i:Nat} {kv:Key×V},kvs[i]?=some kv->∃u,vs[i]?=some (kv.1,u)/\RelV kv.2 u:=by
 induction r with
 | nil=>intro i kv h; simp at h
 | @cons p q ps qs h t ih=>
  intro i kv hk
  cases i with
  | zero=>
   have:p=kv:=by simpa using hk
   subst this
   exact ⟨q.2,by rw [h.1]; rfl,h.2⟩
  | succ i=>
   obtain ⟨u,h1,h2⟩:=ih (i:=i) (kv:=kv) (by simpa using hk)
   exact ⟨u,by simpa using h1,h2⟩
theorem turn_dict {P:Program} {w:World} {K:W.Frag} {tg:Expr} {o:Obj} {es:Array DictEntry} {ep:Nat} {kvs:List (Key×V)} (a it:Addr) (hd:o.data = .dict es ep):Turn P w K tg (Itd a o kvs) [it] it (fun i h=>h.IsKeyIter it a i kvs.length ep) where
 mem:=by simp
 obj:=fun i h st b hb=>by
  have e:b=it:=by simpa using hb
  subst e
  obtain ⟨o,e,c,d⟩:=st
  exact ⟨o,e,fun v z=>by rw [d] at z; cases z⟩
 keep:=fun i h h' st k=>by
  obtain ⟨o,e,c⟩:=st
  exact ⟨o,k it (by simp) o e,c⟩
 item:=by
  intro X hP hw hK hc i pins s σ H E I hf st hg
  subst hP hw hK
  obtain ⟨hq,kv,hx⟩:=hg
  obtain ⟨vs,rv,dt⟩:=dictAt_frz I hd hq
  obtain ⟨u,hu,ru⟩:=rv.get hx
  obtain ⟨f0,f1,f2,f3,f4,f5⟩:=hf it (by simp)
  have hl:=rv.length
  rw [hl] at st
  refine wpAny_pyNext_dict_item st dt hu fun key h' hk st' sb=>?_
  have I1:Inv X pins σ H { s with heap:=h' }:=I.turned (t':=s.toks) (fun b o hb e=>(sb.2 b hb).trans e) f0 f1 f3 f4 f5
  obtain ⟨o',e',c',d'⟩:=id st'
  rw [<-hl] at st'
  exact ⟨key,rfl,go_of (s:={ s with heap:=h' }) e' c' d' (by decide) ⟨kV kv.1,H,I1,kV_rel hk,⟨rfl,fun kv' h=>by rw [hx] at h; cases h; rfl⟩,st',fun b hb=>(hf b hb).1⟩⟩
 done:=by
  intro X hP hw hK hc i pins s σ H E I hf st hg
  subst hP hw hK
  obtain ⟨hq,hx⟩:=hg
  obtain ⟨vs,rv,dt⟩:=dictAt_frz I hd hq
  obtain ⟨f0,f1,f2,f3,f4,f5⟩:=hf it (by simp)
  have hl:=rv.length
  rw [hl] at st
  exact wpAny_pyNext_dict_end (I.ok.hd hc) st dt (List.getElem?_eq_none (by omega)) fun h' eb=>⟨rfl,I.turned (t':=s.toks) (fun b o hb e=>eb b o hb e) f0 f1 f3 f4 f5⟩
 self:=fun _ _ _ _ _ st h=>wpAny_pyIter_keyiter st h
def iDict (td:TE):TI:=fun σ H R=>td σ H fun x H1=>∃a kvs,x = .ref a/\H1 a=some (.dK kvs)/\∀o,R (Itd a o kvs) (upd H1 a (.frz o (.dK kvs)))
theorem pi_dict {X:Cx} {tg l:Expr} {tl:TE} (hl:PE X l tl):PI X tg l (iDict tl):=by
 intro pins s σ H R I h
 refine thn (hl pins s σ H _ I h) fun v s1 ⟨x,H1,I1,r1,q1⟩=>?_
 obtain ⟨a,kvs,e,hq,q⟩:=q1
 subst e
 cases r1
 obtain ⟨z,hs,vs,rv,o,es,ep,h1,h2,h3,h4⟩:=dk_of I1.hok hq
 have dt:s1.heap.DictAt (mixKind X.prog X.w) a vs ep:=⟨o,es,h1,h2,h3,h4⟩
 refine wpAny_pyIter_dict hs dt ?_
 have I2:=(I1.freeze hq h1).kept (t':=s1.toks) (h':=s1.heap.push { cls:=.type "dict_keyiterator",data:=.fields #[.ref a,.int 0 0,.int vs.length 0,.int ep 0] }) fun b o e=>Heap.get?_push_of_some _ e
 have hn:upd H1 a (.frz o (.dK kvs)) s1.heap.objs.size=none:=(I1.freeze hq h1).hok.fresh (Nat.le_refl _)
 refine ⟨s1.heap.objs.size,[s1.heap.objs.size],_,_,_,rfl,I2,turn_dict a _ h3,⟨_,Heap.get?_push_size _ rfl,rfl,by rw [rv.length]; rfl⟩,fun b hb=>?_,q o⟩
 have e:b=s1.heap.objs.size:=by simpa using hb
 subst e
 exact I1.fpOk (Nat.le_refl _) hn
theorem for_dict {a:Addr} {o:Obj} {kvs:List (Key×V)} {g:TG} {tb:TS} {D:Ends} {σ:St} {H:Hp} (Pv:Nat->St->Hp->Prop) (h0:Pv 0 σ H) (hl:∀i σ H,i<=kvs.length->Pv i σ H->H a=some (.frz o (.dK kvs)))
  (hs:∀i kv σ H,kvs[i]?=some kv->Pv i σ H->g (kV kv.1) σ H fun σ2 H2=>tb { D with nx:=Pv (i+1),ct:=Pv (i+1),bk:=D.nx } σ2 H2) (hd:∀σ H,Pv kvs.length σ H->D.nx σ H) :
  ∃W:Nat->Nat->St->Hp->Prop,(∃m,W 0 m σ H)/\∀i m σ H,W i m σ H ->
   ((Itd a o kvs).stop i H/\D.nx σ H)\/((Itd a o kvs).go i H/\∃N:St->Hp->Prop,(∀σ' H',N σ' H'->∃m',m'<m/\W (i+1) m' σ' H')/\∀x H',(Itd a o kvs).yld i H x H'->g x σ H' fun σ2 H2=>tb { D with nx:=N,ct:=N,bk:=D.nx } σ2 H2):=by
 refine ⟨fun i m σ H=>m=kvs.length - i/\i<=kvs.length/\Pv i σ H,⟨kvs.length,by simp,Nat.zero_le _,h0⟩,?_⟩
 rintro i m σ H ⟨rfl,hi,p⟩
 have q:=hl i σ H hi p
 by_cases hlt:i<kvs.length
 ·have hk:kvs[i]?=some kvs[i]:=by simp [hlt]
  refine .inr ⟨⟨q,_,hk⟩,Pv (i+1),fun σ' H' p'=>⟨kvs.length - (i+1),by omega,rfl,hlt,p'⟩,fun x H' y=>?_⟩
  obtain ⟨e,y⟩:=y
  subst e
  rw [y _ hk]
  exact hs i _ σ _ hk p
 ·have e:i=kvs.length:=by omega
  subst e
  exact .inl ⟨⟨q,Nat.le_refl _⟩,hd σ H p⟩
def tThaw (H0:Hp) (t:TS):TS:=fun D σ H=>t { D with nx:=fun σ' H'=>∃a o kvs,H' a=some (.frz o (.dK kvs))/\(∀o u,H0 a≠some (.frz o u))/\D.nx σ' (upd H' a (.dK kvs)) } σ H
theorem ps_thaw {X:Cx} {st:Stmt} {t:TS} (H0:Hp) (h:PS X st t) (e:X.H₀=H0:=by rfl):PS X st (tThaw H0 t):=by
 intro pins s σ H D I hw
 subst e
 refine thn (h pins s σ H _ I hw) fun f s1 q=>?_
 cases f with
 | next=>obtain ⟨σ',H',I',a,o,kvs,q1,q2,q3⟩:=q; exact ⟨σ',_,I'.thaw q1 q2,q3⟩
 | ret v=>exact q
 | brk=>exact q
 | cont=>exact q
end L2
namespace L2
open PySem PySem.Spec PyProof.Rows
section
variable {X:Cx}
def rIns0:V->List V->Hp->VK->Prop:=fun x vs H Q=>∃l xs y,x = .ref l/\vs=[.int 0,y]/\H l=some (.lst xs)/\xs.length<sizeLine/\Q .non (upd H l (.lst (y :: xs)))
theorem mt_insert0:MtM X "list.insert" rIns0:=by
 intro pins s σ H x vs v us Q I rx rv h
 obtain ⟨l,xs,y,rfl,rfl,hH,hz,q⟩:=h
 cases rx
 obtain ⟨u0,u,rfl,⟨t,rfl⟩,ru⟩:=vals2 rv
 obtain ⟨z,its,n,r,hl,e⟩:=I.lstM hH
 refine call_meets F.slot_list_insert ⟨_,e,rfl⟩ F.entry_list_insert (F.args_list_insert_3 _ _ _) (AutoSeq1.list_insert_list_int_val_1 l its.toArray n 0 t u (by decide) (by rw [List.size_toArray]; omega)) ⟨e,?_⟩
 refine ⟨.non,_,I.lset (its':=u :: its) hH e (by simp) (.cons ru r) ?_,rfl,q⟩
 rw [List.length_cons]
 omega
end
end L2
namespace L2
open PySem PySem.Spec PyProof.Rows
theorem Room.u1 {k:Nat} {A:Around} (h:Room k A):A.units+1<cLine:=Nat.lt_of_le_of_lt (Nat.add_le_add_left (by decide:1<=64) _) h.units
def rFld (K:W.Frag) (f:Str):V->Hp->VK->Prop:=fun x H Q=>∃a C dx fs v,x = .ref a/\H a=some (.ins C dx fs)/\Cls K C/\NoAttr K C f/\fs.lookup f=some v/\Q v H
def tU1 (r:V->Hp->VK->Prop) (ta:TE):TE:=fun σ H Q=>ta σ H fun x H1=>r x H1 Q
section
variable {X:Cx} (K:W.Frag)
theorem ZA {e:Expr} {ta:TE} {f:Str} {pos:Pos} (he:PE X e ta) (hb:attributeBase e f X.env (eval e X.env)=eval e X.env) (h:X.K=K:=by rfl):PE X (.Attribute e f pos) (tU1 (rFld K f) ta):=by subst h; exact pe_fld he hb
end
def rDGet:R2:=fun x y H Q=>∃a v,x = .ref a/\DGet H a y (some v)/\Q v H
def tR2 (r:R2) (ta tb:TE):TE:=fun σ H Q=>ta σ H fun x H1=>tb σ H1 fun y H2=>r x y H2 Q
def rDPut:V->V->V->Hp->(Hp->Prop)->Prop:=fun x y v H Q=>∃a kvs k,x = .ref a/\y=kV k/\H a=some (.dK kvs)/\kvs.length<sizeLine/\Q (upd H a (.dK (putK kvs k v)))
def sR3 (r:V->V->V->Hp->(Hp->Prop)->Prop) (td ty tv:TE):TS:=fun D σ H=>tv σ H fun v H1=>td σ H1 fun x H2=>ty σ H2 fun y H3=>r x y v H3 fun H4=>D.nx σ H4
def tDPopN (td ty:TE):TE:=fun σ H Q=>td σ H fun x H1=>∃a kvs,x = .ref a/\H1 a=some (.dK kvs)/\ty σ H1 fun y H2=>∃kvs k,H2 a=some (.dK kvs)/\y=kV k /\
 (∀v,valV kvs k=some v->Q v (upd H2 a (.dK (dropK kvs k))))/\(valV kvs k=none->Q .non H2)
section
variable {X:Cx} {o i e value:Expr} {pos pos' apos cpos p:Pos} {td ty tv:TE}
theorem pe_dgetR (hu:X.A.units+1<cLine) (ho:PE X o td) (hi:PE X i ty) (hs:NoSl i):PE X (.Subscript o i pos) (tR2 rDGet td ty):=pe_dget hu ho hi hs
theorem ps_dputR (hu:X.A.units+1<cLine) (ho:PE X o td) (hi:PE X i ty) (hv:PE X value tv) (hs:swapsWith value (some (.Subscript o i pos')) pos.line X.env=pure false) :
  PS X (.Assign [.Subscript o i pos'] value pos) (sR3 rDPut td ty tv):=by
 intro pins s σ H D I h
 refine wpAny_Assign_Subscript (thn (hv pins s σ H _ I h) fun r s1 ⟨v,H1,I1,rv,q1⟩=>thn (ho pins s1 σ H1 _ I1 q1) fun u s2 ⟨x,H2,I2,rx,q2⟩=>thn (hi pins s2 σ H2 _ I2 q2) fun iv s3 ⟨y,H3,I3,ry,a,kvs,k,ex,ey,ha,hz,q3⟩=>?_) hs
 subst ex ey
 obtain rfl:u=Value.ref a:=rx
 exact d_setItem hu I3 (DPut.k ha hz) ry rv fun s4 I4=>⟨σ,_,I4,q3⟩
theorem pe_dpopN {jj:Nat} (ho:PE X o td) (he:PE X e ty) (m:M2 X o "pop" apos e (.Constant .none jj p) cpos):PE X (.Call (.Attribute o "pop" apos) [e,.Constant .none jj p] [] cpos) (tDPopN td ty):=by
 intro pins s σ H Q I h
 refine wpAny_Call_method m.base m.few m.line PySem.F.plainAttrs_dict PySem.F.slot_dict_pop PySem.F.type_dict_pop (thn (ho pins s σ H _ I h) fun u s1 ⟨x,H1,I1,rx,a,kv0,ex,d,q1⟩=>?_)
 subst ex
 obtain rfl:u=Value.ref a:=rx
 obtain ⟨t1,t2,_⟩:=isD_at I1 (.inl ⟨kv0,.inl d⟩)
 refine ⟨t1,t2,?_⟩
 rw [m.trees]
 refine Calls.callWith_builtin rfl (Calls.evalArgs_plain (Calls.spliced_cons (thn (he pins s1 σ H1 _ I1 q1) fun iv s2 ⟨y,H2,I2,ry,kvs,k,ea,ey,q3,q4⟩=>
  Calls.spliced_cons (thn ((pe_non (X:=X) (j:=jj) (pos:=p)) pins s2 σ H2 (fun z H3=>z = .non/\H3=H2) I2 ⟨rfl,rfl⟩) fun fv s3 ⟨z,H3,I3,rz,ez,e3⟩=>Calls.spliced_nil ?_))))
 subst ey ez e3
 cases l:valV kvs k with
 | some v=>exact d_pop I3 ea ry l (.inr ⟨fv,rfl⟩) fun w' s4 I4 rw'=>⟨v,_,I4,rw',q3 v l⟩
 | none=>exact d_popD I3 ea ry l fun s4 I4=>⟨.non,_,I4,rz,q4 l⟩
end
def rIsN:R2:=fun x y H Q=>y = .non/\Q (.bl (decide (x = .non))) H
def rNotN:R2:=fun x y H Q=>y = .non/\Q (.bl (!decide (x = .non))) H
theorem op_isNR {X:Cx}:OpR X (compareOp .Is) rIsN:=op_isN
theorem op_notNR {X:Cx}:OpR X (compareOp .IsNot) rNotN:=op_notN
end L2
namespace L2
open PySem PySem.Spec PyProof.Rows
section
variable {P:Program} {w:World} {K:W.Frag} {mg:Str->Option Value} {base:Heap}
theorem Fun.okX {CX:CXT} {x qual:Str} {st:Stmt} {f:Addr} {fd:FuncData} {N ps:List Str} {k:Nat} {sp:Sp} (F:Fun K x qual st f fd) (S:FnScope N ps (defScope st)) (len:∀vs H Q E,sp vs H Q E->vs.length=ps.length)
  (hbody:∀(cdv:Value) (A:Around) (outer:List Env) (s:Shared) (H:Hp) (vs:List V) (Q:VK) (E:XK),Room k (A.deeper (envOfC qual (defScope st) s.heap.objs.size f cdv))->sp vs H Q E ->
   ∃t,PSs (cxOf CX P w K mg base N qual (defScope st) f cdv A outer s H E) (defBody st) t/\t { nx:=fun _ H'=>Q .non H',rt:=Q } (start N vs) H):FnOk P w K mg base CX (k+1) f fd ps sp:=by
 obtain ⟨oc,od,kV,doc,pm,an,cdv,ct,osl,rfl,lk,hcd⟩:=F.ex
 exact fn_of lk hcd S len fun A outer s H vs Q E hr hsp=>hbody cdv A outer s H vs Q E hr hsp
end
theorem pass1F {P:Program} {w:World} {X:Cx}:Passes (CX1 P w) X E0:=fun _ _ _ _ _ _ _ h=>by
 obtain ⟨_,_,_,_,_,_,_,_,_,z⟩:=h
 exact z.elim
abbrev bmV:List Value:=[.type "ValueError",.type "Exception",.type "BaseException",.type "object"]
structure ClsTy (K:W.Frag) (C:Addr):Prop where
 ha:W.findIn K (.ref C) "__class__" = some (some (.builtin "object.__class__"))
 hn:W.specialIn K (.builtin "object.__class__") "__get__" = some (some (.builtin "getset_descriptor.__get__"))
 tk:W.takesIn K (.builtin "object.__class__")=some true
 ob:W.mroIn K C (.type "object")=some true
theorem ClsTy.of {K:W.Frag} {C a dx:Addr} {H:Hp} {fs:List (Str×V)} (t:ClsTy K C) (c:Cls K C) (e:H a=some (.ins C dx fs)):TyOf K H (.ref a) (.ref C):=.ins e c t.ha t.hn t.tk t.ob
theorem rep_pair {K:W.Frag} {H:Hp} {p:Addr} {a b:Int} (h:H p=some (.tup [.int a,.int b])):Rep K H (.tuple [.int a,.int b]) (.ref p):=by
 simp only [Rep,RepAll]
 exact ⟨p,_,rfl,SqT.of h,_,_,rfl,rfl,_,_,rfl,rfl,rfl⟩
theorem rep_ints {K:W.Frag} {H:Hp}:∀(ns:List Int),RepAll K H (ns.map PyData.int) (ns.map V.int)
 | []=>by simp only [List.map_nil,RepAll]
 | n :: ns=>by
  rw [List.map_cons,List.map_cons,RepAll]
  exact ⟨_,_,rfl,by rw [Rep],rep_ints ns⟩
theorem rep_list {K:W.Frag} {H:Hp} {p:Addr} {ns:List Int} (h:SqL K H p (ns.map V.int)):Rep K H (.list (ns.map PyData.int)) (.ref p):=by
 rw [Rep]
 exact ⟨p,_,rfl,h,rep_ints ns⟩
def But (p:Addr) (H H':Hp):Prop:=∀b o,H b=some o->b≠p->H' b=some o
theorem Fits.le {i j:Int} (h0:0<=i) (h:i<=j) (f:Fits j):Fits i:=by
 unfold Fits at *
 omega
end L2
namespace SW
open PySem L2
def spGcd:Sp:=fun vs H Q _=>∃a b:Int,vs=[.int a,.int b]/\0<=a/\0<=b/\Q (.int (gcdI a b)) H
def spRatio:Sp:=fun vs H Q _=>∃a b:Int,vs=[.int a,.int b]/\0<=a/\0<b/\Fits b /\
 ∀(p:Addr) (H':Hp) (x y:Int),Low a b x y->New H H' p (.tup [.int x,.int y])->Q (.ref p) H'
structure Rat (H:Hp) (p:Addr) (x y:Int):Prop where
 at_:H p=some (.tup [.int x,.int y])
 x0:0<=x
 y0:0<y
 xl:x<10 ^ 40
 yl:y<10 ^ 40
def spOver:Sp:=fun vs H Q _=>∃(p q:Addr) (a b c d:Int),vs=[.ref p,.ref q]/\Rat H p a b/\Rat H q c d/\0<c /\
 ∀(r:Addr) (H':Hp) (x y:Int),Low (a*d) (b*c) x y->New H H' r (.tup [.int x,.int y])->Q (.ref r) H'
def spDraw:Sp:=fun vs H Q _=>∃c k m:Int,vs=[.int c,.int k,.int m]/\0<=k/\k<1000/\0<m/\∀(v:Int) (H':Hp),0<=v->v<m->Same H H'->Q (.int v) H'
def spGreat:Sp:=fun vs H Q _=>∃c k m:Int,vs=[.int c,.int k,.int m]/\0<=k/\k<900/\0<m/\∀(v:Int) (H':Hp),0<=v->v<m->Same H H'->Q (.int v) H'
def spVote:Sp:=fun vs H Q _=>∃c:Int,vs=[.int c]/\∀(v:Int) (H':Hp),0<=v->v<=1000000000->Same H H'->Q (.int v) H'
def spCellAt (K:W.Frag):Sp:=fun vs H Q _=>∃(a:Addr) (ns:List Int) (k:Int),vs=[.ref a,.int k]/\SqL K H a (ns.map V.int)/\0<=k/\∀v:Int,Q (.int v) H
def plainV:V->Bool
 | .non=>true | .bl _=>true | .int _=>true | .str _=>true | _=>false
def wholeV:V->Bool
 | .int _=>true | _=>false
def spWhole:Sp:=fun vs H Q _=>∃v,vs=[v]/\plainV v=true/\Q (.bl (wholeV v)) H
def spRuleInit (K:W.Frag):Sp:=fun vs H Q _=>∃(p C dx t:Addr),vs=[.ref p,.ref t]/\H p=some (.ins C dx [])/\Cls K C/\NoAttr K C "whole" /\ Q .non (upd H p (.ins C dx [("whole",.ref t)]))
structure RuleC (K:W.Frag) (C fm:Addr) (ff:Option Addr):Prop where
 cl:Cls K C
 nw:NoAttr K C "whole"
 mr:Meth K C "mark" fm
 ft:∀f,ff=some f->Meth K C "fits" f
 ty:ClsTy K C
structure RuleAt (K:W.Frag) (fm:Addr) (ff:Option Addr) (H:Hp) (p:Addr) (a b:Int):Prop where
 ob:∃C dx t,RuleC K C fm ff/\H p=some (.ins C dx [("whole",.ref t)])/\H t=some (.tup [.int a,.int b])
 a0:0<a
 ab:a<=b
 b1:b<=1000
section
variable {K:W.Frag} {fm:Addr} {ff:Option Addr}
theorem RuleAt.same {H H':Hp} {p:Addr} {a b:Int} (R:RuleAt K fm ff H p a b) (S:Same H H'):RuleAt K fm ff H' p a b:=by
 obtain ⟨C,dx,t,hC,h1,h2⟩:=R.ob
 exact ⟨⟨C,dx,t,hC,S _ _ h1,S _ _ h2⟩,R.a0,R.ab,R.b1⟩
def Made (C:Addr) (H H':Hp) (p dx:Addr) (a b:Int):Prop:=∃t,H' p=some (.ins C dx [("whole",.ref t)])/\H' t=some (.tup [.int a,.int b])/\But p H H'
def spInit1 (C:Addr) (a b:Int):Sp:=fun vs H Q _=>∃p dx,vs=[.ref p]/\H p=some (.ins C dx [])/\∀H',Made C H H' p dx a b->Q .non H'
def goodPQ (u v:V):Prop:=∃p q:Int,u = .int p/\v = .int q/\0<p/\p<=q/\q<=1000
def spBetween (C B:Addr):Sp:=fun vs H Q E=>∃p dx u v,vs=[.ref p,u,v]/\H p=some (.ins C dx [])/\plainV u=true/\plainV v=true /\
 (∀m n H' x y,u = .int m->v = .int n->0<m->m<=n->n<=1000->Low m n x y->Made C H H' p dx x y->Q .non H')/\(¬goodPQ u v->∀H',Same H H'->E (.ref B) none H')
def spMark (K:W.Frag) (fm:Addr) (ff:Option Addr):Sp:=fun vs H Q _=>∃(p:Addr) (n a b:Int),vs=[.ref p,.int n]/\RuleAt K fm ff H p a b/\1<=n/\n<=1000 /\
 ∀(r:Addr) (H':Hp) (x y:Int),Low (a+(n - 1)*b) b x y->New H H' r (.tup [.int x,.int y])->Q (.ref r) H'
def fitsB (u v a b n:Int):Bool:=!(decide (0<n)&&decide (u*b<v*(a+(n - 1)*b)))&&decide (u*b<=v*(a+n*b))
def spRule (K:W.Frag) (fm:Addr) (ff:Option Addr):Sp:=fun vs H Q _=>∃c:Int,vs=[.int c]/\∀(r p t:Addr) (H':Hp) (a b m n:Int),H' r=some (.tup [.ref p,.ref t])->RuleAt K fm ff H' p a b->H' t=some (.tup [.int m,.int n])->0<m->m<=n->n<=1000->a*n=b*m->Same H H'->Q (.ref r) H'
def spLaw (K:W.Frag):Sp:=fun vs H Q _=>∃(a:Addr) (ns:List Int),vs=[.ref a]/\SqL K H a (ns.map V.int)/\ns.length<=63/\∀H',Q (.bl true) H'
theorem whole_look (t:Addr):List.lookup ("whole" : Str) ([("whole",V.ref t)]:List (Str×V))=some (.ref t):=by
 rw [List.lookup_cons,beq_self_eq_true]
theorem look_no {m:Str} (v:V) (h:(m == ("whole" : Str))=false):List.lookup m ([("whole",v)]:List (Str×V))=none:=by
 rw [List.lookup_cons,h]
 rfl
theorem made_of2 {C:Addr} {H H':Hp} {p dx t:Addr} {a b:Int} (N:New H H' t (.tup [.int a,.int b])) (hp:H p=some (.ins C dx [])):Made C H (upd H' p (.ins C dx [("whole",.ref t)])) p dx a b:=by
 have ne:t≠p:=fun e=>by rw [<-e,N.gone] at hp; cases hp
 refine ⟨t,upd_same,by rw [upd_ne ne]; exact N.at_,fun c o z n=>?_⟩
 rw [upd_ne n]
 exact N.same c o z
theorem same_made {C:Addr} {H H2:Hp} {x dx:Addr} {a b:Int} (nx:H x=none) (ndx:H dx=none) (M:Made C (upd (upd H dx (.own x)) x (.ins C dx [])) H2 x dx a b):Same H H2:=by
 obtain ⟨t,h1,h2,h3⟩:=M
 intro c o z
 refine h3 c o ?_ (ne_of_none z nx)
 rw [upd_ne (ne_of_none z nx),upd_ne (ne_of_none z ndx)]
 exact z
theorem rule_made {C:Addr} {H H2:Hp} {x dx:Addr} {a b:Int} (hC:RuleC K C fm ff) (M:Made C H H2 x dx a b) (a0:0<a) (ab:a<=b) (b1:b<=1000):RuleAt K fm ff H2 x a b:=by
 obtain ⟨t,h1,h2,_⟩:=M
 exact ⟨⟨C,dx,t,hC,h1,h2⟩,a0,ab,b1⟩
theorem not_good {u v:V} (h:¬(wholeV u=true/\wholeV v=true)):¬goodPQ u v:=fun ⟨p,q,e1,e2,_⟩=>h ⟨by rw [e1]; rfl,by rw [e2]; rfl⟩
theorem log_1000:(1000:Int).natAbs.log2<1920:=by decide
def tRuleM (K:W.Frag) (fm:Addr) (ff:Option Addr) (sp:Sp) (ta:TE) (t:TA):TE:=fun σ H Q=>ta σ H fun x H1=>∃a C dx t0,x = .ref a/\RuleC K C fm ff/\H1 a=some (.ins C dx [("whole",.ref t0)])/\t σ H1 fun vs H2=>sp (x :: vs) H2 Q E0
section
variable {X:Cx} {o e:Expr} {es:List Expr} {ta:TE} {t:TA} {apos pos:Pos} {fd:FuncData} {k:Nat} {ps:List Str} {sp:Sp}
theorem pe_mark {pl:Sem Bool} (F:FnOk X.prog X.w X.K X.mg X.base CX0 k fm fd ps sp) (hb:Binds X.K fd ps []) (hr:Room k X.A) (he:PE X o ta) (ha:PA X (e :: es) t) (hst:starEach (e :: es) X.env=(false,eval e X.env) :: starEach es X.env:=by rfl) (hpl:(backTo pos (starEach es X.env)).any (·.1)=false:=by rfl)
  (ht:eval (.Call (.Attribute o "mark" apos) (e :: es) [] pos) X.env=(do
   let ov <-eval o X.env
   standAt apos.atName
   let (f,first) <-holding [ov] (getMethod ov "mark" pl)
   callWith pos f first (backTo pos (starEach (e :: es) X.env)) (backToKw pos (keywordEach [] X.env))):=by rfl) :
  PE X (.Call (.Attribute o "mark" apos) (e :: es) [] pos) (tRuleM X.K fm ff sp ta t):=by
 intro pins s σ H Q I h
 refine W.methodCall_KW (pl:=pl) (thn (he pins s σ H _ I h) fun u s1 ⟨x,H1,I1,rx,a,C,dx,t0,ex,RC,ea,q⟩=>?_) ht
 subst ex
 obtain rfl:u=Value.ref a:=rx
 refine getmeth_ok I1 ea RC.cl RC.mr (look_no _ (by decide +kernel)) ?_
 refine W.callWith_K (first:=[.ref a]) (h₀:=X.base) I.ok.mod.kin RC.mr.kp (thn (ha pos pins s1 σ H1 _ I1 q) fun us s2 ⟨vs,H2,I2,r,q2⟩=>⟨I2.kIn,?_⟩) hst hpl
 exact run_fn (us:=.ref a :: us) (vs:=.ref a :: vs) (dvs:=[]) F hr hb .nil pass0 I2 (.cons rfl r) (by rw [List.append_nil]; exact q2)
end
end
theorem fitsB_same {u v a b p q n:Int} (b0:0<b) (q0:0<q) (e:a*q=b*p):fitsB u v a b n=fitsB u v p q n:=by
 have key:∀k:Int,q*(v*(a+k*b))=b*(v*(p+k*q)):=fun k=>by grind
 have key2:q*(u*b)=b*(u*q):=by grind
 have lt:∀k:Int,(u*b<v*(a+k*b))↔(u*q<v*(p+k*q)):=fun k=>by
  constructor
  ·intro h
   have:=Int.mul_lt_mul_of_pos_left h q0
   rw [key k,key2] at this
   exact Int.lt_of_mul_lt_mul_left this (Int.le_of_lt b0)
  ·intro h
   have:=Int.mul_lt_mul_of_pos_left h b0
   rw [<-key k,<-key2] at this
   exact Int.lt_of_mul_lt_mul_left this (Int.le_of_lt q0)
 have le:(u*b<=v*(a+n*b))↔(u*q<=v*(p+n*q)):=by
  constructor
  ·intro h
   have:=Int.mul_le_mul_of_nonneg_left h (Int.le_of_lt q0)
   rw [key n,key2] at this
   exact Int.le_of_mul_le_mul_left this b0
  ·intro h
   have:=Int.mul_le_mul_of_nonneg_left h (Int.le_of_lt b0)
   rw [<-key n,<-key2] at this
   exact Int.le_of_mul_le_mul_left this q0
 unfold fitsB
 rw [decide_eq_decide.mpr (lt (n - 1)),decide_eq_decide.mpr le]
def primes:List V:=[1000003,1000033,1000037,1000039,1000081,1000099,1000117,1000121,1000133,1000151,1000159,1000171,1000183,1000187,1000193,1000199].map V.int
theorem prime_at (k:Int) (h0:0<=k) (h1:k<16):∃n:Int,0<n/\atI primes k=some (.int n):=by
 have hk:k.toNat<16:=by omega
 have e:∀j:Nat,j<16->∃n:Int,0<n/\primes[j]?=some (.int n):=by
  intro j hj
  match j,hj with
  | (n+16),h=>exact absurd h (by omega)
  | 0,_ | 1,_ | 2,_ | 3,_ | 4,_ | 5,_ | 6,_ | 7,_ | 8,_ | 9,_ | 10,_ | 11,_ | 12,_ | 13,_ | 14,_ | 15,_=>exact ⟨_,by decide,rfl⟩
 obtain ⟨n,hn,e'⟩:=e k.toNat hk
 exact ⟨n,hn,atI_of h0 e'⟩
end SW
namespace L2
open PySem PySem.Spec PyProof.Rows
def dI (ns:List Int):PyData:=.list (ns.map .int)
def dM (rs:List (List Int)):PyData:=.list (rs.map dI)
def dP (a b:Int):PyData:=.tuple [.int a,.int b]
theorem lay_ints:∀ns:List Int,PyData.canLayAll0 (ns.map .int)=true
 | []=>by simp [PyData.canLayAll0]
 | n :: ns=>by simp [PyData.canLayAll0,PyData.canLay0,lay_ints ns]
theorem lay_dI (ns:List Int):(dI ns).canLay0=true:=by unfold dI; rw [PyData.canLay0]; exact lay_ints ns
theorem lay_rows:∀rs:List (List Int),PyData.canLayAll0 (rs.map dI)=true
 | []=>by simp [PyData.canLayAll0]
 | r :: rs=>by rw [List.map_cons,PyData.canLayAll0,lay_dI,lay_rows rs]; rfl
theorem lay_dM (rs:List (List Int)):(dM rs).canLay0=true:=by unfold dM; rw [PyData.canLay0]; exact lay_rows rs
theorem lay_dP (a b:Int):(dP a b).canLay0=true:=by simp [dP,PyData.canLay0,PyData.canLayAll0]
theorem dep_ints:∀ns:List Int,PyData.depthAll (ns.map .int)=0
 | []=>by simp [PyData.depthAll]
 | n :: ns=>by simp [PyData.depthAll,PyData.depth,dep_ints ns]
theorem dep_dI (ns:List Int):(dI ns).depth<=64:=by unfold dI; rw [PyData.depth,dep_ints]; decide
theorem dep_rows:∀rs:List (List Int),PyData.depthAll (rs.map dI)<=1
 | []=>by simp [PyData.depthAll]
 | r :: rs=>by
  rw [List.map_cons,PyData.depthAll]
  have h1:=dep_rows rs
  have h2:(dI r).depth=1:=by unfold dI; rw [PyData.depth,dep_ints]
  omega
theorem dep_dM (rs:List (List Int)):(dM rs).depth<=64:=by unfold dM; rw [PyData.depth]; have:=dep_rows rs; omega
theorem eqv_ints:∀ns ms:List Int,PyData.eqvAll (ns.map .int) (ms.map .int)=decide (ns=ms)
 | [],[]=>by simp [PyData.eqvAll]
 | [],_ :: _=>by simp [PyData.eqvAll]
 | _ :: _,[]=>by simp [PyData.eqvAll]
 | n :: ns,m :: ms=>by
  rw [List.map_cons,List.map_cons,PyData.eqvAll,PyData.eqv,eqv_ints ns ms]
  by_cases h:n=m
  ·subst h; simp
  ·simp [h]
theorem eqv_dI (ns ms:List Int):PyData.eqv (dI ns) (dI ms)=decide (ns=ms):=by unfold dI; rw [PyData.eqv]; exact eqv_ints ns ms
theorem eqv_rows:∀rs ss:List (List Int),PyData.eqvAll (rs.map dI) (ss.map dI)=decide (rs=ss)
 | [],[]=>by simp [PyData.eqvAll]
 | [],_ :: _=>by simp [PyData.eqvAll]
 | _ :: _,[]=>by simp [PyData.eqvAll]
 | r :: rs,t :: ss=>by
  rw [List.map_cons,List.map_cons,PyData.eqvAll,eqv_dI,eqv_rows rs ss]
  by_cases h:r=t
  ·subst h; simp
  ·simp [h]
theorem eqv_dM (rs ss:List (List Int)):PyData.eqv (dM rs) (dM ss)=decide (rs=ss):=by unfold dM; rw [PyData.eqv]; exact eqv_rows rs ss
theorem eqv_dP (a b c d:Int):PyData.eqv (dP a b) (dP c d)=decide (a=c/\b=d):=by
 unfold dP
 rw [PyData.eqv,PyData.eqvAll,PyData.eqvAll,PyData.eqvAll,PyData.eqv,PyData.eqv]
 by_cases h:a=c <;> by_cases h':b=d <;> simp [h,h']
section
variable {K:W.Frag} {H:Hp}
theorem rep_dI {p:Addr} {ns:List Int} (h:SqL K H p (ns.map V.int)):Rep K H (dI ns) (.ref p):=rep_list h
theorem rep_dP {p:Addr} {a b:Int} (h:H p=some (.tup [.int a,.int b])):Rep K H (dP a b) (.ref p):=rep_pair h
def Mat (K:W.Frag) (H:Hp) (p:Addr) (rs:List (List Int)):Prop:=∃as:List Addr,SqL K H p (as.map V.ref)/\as.length=rs.length/\∀(i:Nat) (a:Addr) (r:List Int),as[i]?=some a->rs[i]?=some r->SqL K H a (r.map V.int)
theorem Mat.same {H':Hp} {p:Addr} {rs:List (List Int)} (m:Mat K H p rs) (S:Same H H'):Mat K H' p rs:=by
 obtain ⟨as,h1,h2,h3⟩:=m
 exact ⟨as,S.seq h1,h2,fun i a r e1 e2=>S.seq (h3 i a r e1 e2)⟩
theorem rep_rows:∀(as:List Addr) (rs:List (List Int)),as.length=rs.length->(∀(i:Nat) (a:Addr) (r:List Int),as[i]?=some a->rs[i]?=some r->SqL K H a (r.map V.int))->RepAll K H (rs.map dI) (as.map V.ref)
 | [],[],_,_=>by simp only [List.map_nil,RepAll]
 | [],_ :: _,h,_=>by simp at h
 | _ :: _,[],h,_=>by simp at h
 | a :: as,r :: rs,h,hr=>by
  rw [List.map_cons,List.map_cons,RepAll]
  exact ⟨_,_,rfl,rep_dI (hr 0 a r rfl rfl),rep_rows as rs (by simpa using h) fun i a' r' e1 e2=>hr (i+1) a' r' (by simpa using e1) (by simpa using e2)⟩
theorem rep_dM {p:Addr} {rs:List (List Int)} (m:Mat K H p rs):Rep K H (dM rs) (.ref p):=by
 obtain ⟨as,h1,h2,h3⟩:=m
 unfold dM
 rw [Rep]
 exact ⟨p,_,rfl,h1,rep_rows as rs h2 h3⟩
end
def rEqLI (K:W.Frag) (neg:Bool):R2:=fun x y H Q=>∃(p q:Addr) (ns ms:List Int),x = .ref p/\y = .ref q/\SqL K H p (ns.map V.int)/\SqL K H q (ms.map V.int)/\Q (.bl (if neg then !decide (ns=ms) else decide (ns=ms))) H
def rEqM (K:W.Frag) (neg:Bool):R2:=fun x y H Q=>∃(p q:Addr) (ns ms:List (List Int)),x = .ref p/\y = .ref q/\Mat K H p ns/\Mat K H q ms/\Q (.bl (if neg then !decide (ns=ms) else decide (ns=ms))) H
def rEqP (neg:Bool):R2:=fun x y H Q=>∃(p q:Addr) (a b c d:Int),x = .ref p/\y = .ref q/\H p=some (.tup [.int a,.int b])/\H q=some (.tup [.int c,.int d])/\Q (.bl (if neg then !decide (a=c/\b=d) else decide (a=c/\b=d))) H
section
variable {X:Cx}
theorem op_neLI (hu:X.A.units+64<cLine):OpR X (compareOp .NotEq) (rEqLI X.K true):=by
 intro pins s σ H x y v u Q I rx ry ⟨p,q,ns,ms,e1,e2,h1,h2,k⟩
 subst e1 e2
 exact op_neD hu pins s σ H _ _ v u Q I rx ry ⟨_,_,rep_dI h1,rep_dI h2,lay_dI _,lay_dI _,dep_dI _,by rw [eqv_dI]; exact k⟩
theorem op_eqM (hu:X.A.units+64<cLine):OpR X (compareOp .Eq) (rEqM X.K false):=by
 intro pins s σ H x y v u Q I rx ry ⟨p,q,ns,ms,e1,e2,h1,h2,k⟩
 subst e1 e2
 exact op_eqD hu pins s σ H _ _ v u Q I rx ry ⟨_,_,rep_dM h1,rep_dM h2,lay_dM _,lay_dM _,dep_dM _,by rw [eqv_dM]; exact k⟩
end
section
variable {X:Cx} (K:W.Frag)
theorem neLI_Q (hu:X.A.units+64<cLine) (h:X.K=K:=by rfl):OpR X (compareOp .NotEq) (rEqLI K true):=by subst h; exact op_neLI hu
theorem eqM_Q (hu:X.A.units+64<cLine) (h:X.K=K:=by rfl):OpR X (compareOp .Eq) (rEqM K false):=by subst h; exact op_eqM hu
end
end L2
namespace SW
structure Pr (a b v n x y:Int):Prop where
 x0:0<x
 y0:0<y
 one:gcdI x y=1
 eq:x*(b*v)=y*(a+(n - 1)*b)
 xl:x<=a+(n - 1)*b
 yl:y<=b*v
theorem pr_of {a b v n m k x y:Int} (b0:0<b) (v0:0<v) (A0:0<a+(n - 1)*b) (L1:Low (a+(n - 1)*b) b m k) (L2:Low (m*1) (k*v) x y):Pr a b v n x y:=by
 have e1:=L1.eq
 have e2:=L2.eq
 have k0:=L1.y0
 have y0:=L2.y0
 have eq:x*(b*v)=y*(a+(n - 1)*b):=by
  have:k*(x*(b*v))=k*(y*(a+(n - 1)*b)):=by grind
  exact Int.eq_of_mul_eq_mul_left (Int.ne_of_gt k0) this
 have x0:0<x:=by
  rcases Int.lt_or_le 0 x with z | z
  ·exact z
  ·have:x=0:=by have:=L2.x0; omega
   subst this
   have:=Int.mul_pos y0 A0
   rw [Int.zero_mul] at eq
   omega
 refine ⟨x0,y0,L2.one,eq,?_,?_⟩
 ·have h1:=L2.lex; have h2:=L1.lex; omega
 ·have h1:=L2.ley
  have h2:=Int.mul_le_mul_of_nonneg_right L1.ley (Int.le_of_lt v0)
  omega
structure Dl (a b:Int) (vs gs:List Int) (n N D:Int):Prop where
 len:gs.length=vs.length
 sum:gs.sum=n
 nn:∀(k:Nat) (v g:Int),vs[k]?=some v->gs[k]?=some g->0<=g/\(v=0->g=0)
 hi:∀(k:Nat) (v g:Int),vs[k]?=some v->gs[k]?=some g->0<v->N*(b*v)<=D*(a+g*b)
 lo:∀(k:Nat) (v g:Int),vs[k]?=some v->gs[k]?=some g->0<v->0<g->D*(a+(g - 1)*b)<=N*(b*v)
 giver:0<n->∃(k:Nat) (v g:Int),vs[k]?=some v/\gs[k]?=some g/\0<v/\0<g/\N*(b*v)=D*(a+(g - 1)*b)
 taker:n=0->(∃v,v∈vs/\0<v)->∃(k:Nat) (v:Int),vs[k]?=some v/\gs[k]?=some 0/\0<v/\N*(b*v)=D*a
 tie:∀(k j:Nat) (v g w h:Int),vs[k]?=some v->gs[k]?=some g->0<v->0<g->N*(b*v)=D*(a+(g - 1)*b)->vs[j]?=some w->gs[j]?=some h->0<w->N*(b*w)=D*(a+h*b)->k<j
 N0:0<N
 D0:0<D
 one:gcdI N D=1
 none:(∀v,v∈vs->v=0)->N=1/\D=1
end SW
namespace SW
def sumZ:Nat->(Nat->Int)->Int
 | 0,_=>0
 | n+1,f=>sumZ n f+f n
theorem sumZ_congr {f g:Nat->Int}:∀{n:Nat},(∀i,i<n->f i=g i)->sumZ n f=sumZ n g
 | 0,_=>rfl
 | n+1,h=>by unfold sumZ; rw [sumZ_congr fun i hi=>h i (by omega),h n (by omega)]
theorem sumZ_add (f g:Nat->Int):∀n,sumZ n (fun i=>f i+g i)=sumZ n f+sumZ n g
 | 0=>rfl
 | n+1=>by unfold sumZ; rw [sumZ_add f g n]; dsimp only; omega
theorem sumZ_zero:∀n,sumZ n (fun _=>0)=0
 | 0=>rfl
 | n+1=>by unfold sumZ; rw [sumZ_zero n]; rfl
theorem sumZ_swap (f:Nat->Nat->Int) (m:Nat):∀n,sumZ n (fun i=>sumZ m (f i))=sumZ m (fun j=>sumZ n (fun i=>f i j))
 | 0=>by
  show (0:Int)=_
  exact (sumZ_zero m).symm
 | n+1=>by
  have:sumZ m (fun j=>sumZ (n+1) fun i=>f i j)=sumZ m (fun j=>sumZ n (fun i=>f i j)+f n j):=rfl
  rw [this,sumZ_add,<-sumZ_swap f m n]
  rfl
theorem sumZ_upd {f g:Nat->Int} {k:Nat} (h:∀i,i≠k->g i=f i):∀n,sumZ n g=sumZ n f+(if k<n then g k - f k else 0)
 | 0=>by simp [sumZ]
 | n+1=>by
  unfold sumZ
  rw [sumZ_upd h n]
  by_cases hk:k<n
  ·rw [if_pos hk,if_pos (by omega),h n (by omega)]; omega
  ·by_cases hn:k=n
   ·subst hn; rw [if_neg (by omega),if_pos (by omega)]; omega
   ·rw [if_neg hk,if_neg (by omega),h n (by omega)]; omega
theorem sumZ_le {f g:Nat->Int}:∀{n:Nat},(∀i,i<n->f i<=g i)->sumZ n f<=sumZ n g
 | 0,_=>Int.le_refl _
 | n+1,h=>by
  unfold sumZ
  have h1:=sumZ_le (n:=n) fun i hi=>h i (by omega)
  have h2:=h n (by omega)
  omega
theorem sumZ_lt {f g:Nat->Int} {k:Nat}:∀{n:Nat},(∀i,i<n->f i<=g i)->k<n->f k<g k->sumZ n f<sumZ n g
 | 0,_,hk,_=>absurd hk (Nat.not_lt_zero _)
 | n+1,h,hk,hl=>by
  unfold sumZ
  have h2:=h n (by omega)
  by_cases e:k=n
  ·subst e
   have h1:=sumZ_le (n:=k) fun i hi=>h i (by omega)
   omega
  ·have h1:=sumZ_lt (n:=n) (fun i hi=>h i (by omega)) (by omega) hl
   omega
def upd2 (P:Nat->Nat->Int) (i j:Nat) (v:Int):Nat->Nat->Int:=fun a b=>if a=i/\b=j then v else P a b
theorem upd2_same (P:Nat->Nat->Int) (i j:Nat) (v:Int):upd2 P i j v i j=v:=by unfold upd2; rw [if_pos ⟨rfl,rfl⟩]
theorem upd2_ne {P:Nat->Nat->Int} {i j a b:Nat} {v:Int} (h:¬(a=i/\b=j)):upd2 P i j v a b=P a b:=by unfold upd2; rw [if_neg h]
def ls (h m:Nat) (P:Nat->Nat->Int) (x:Nat):Int:=if x<h then sumZ m (P x) else sumZ h fun i=>P i (x - h)
def cr (h x y:Nat):Nat:=if x<h then x else y
def cc (h x y:Nat):Nat:=if x<h then y - h else x - h
def cv (h:Nat) (P:Nat->Nat->Int) (x y:Nat):Int:=P (cr h x y) (cc h x y)
def opp (h m x y:Nat):Prop:=(x<h/\h<=y/\y<h+m)\/(h<=x/\x<h+m/\y<h)
def fr (w v:Int):Prop:=0<v/\v<w
theorem opp_cell {h m x y:Nat} (o:opp h m x y):cr h x y<h/\cc h x y<m/\((x=cr h x y/\y=h+cc h x y)\/(y=cr h x y/\x=h+cc h x y)):=by
 unfold cr cc
 rcases o with ⟨h1,h2,h3⟩ | ⟨h1,h2,h3⟩
 ·rw [if_pos h1,if_pos h1]; exact ⟨h1,by omega,.inl ⟨rfl,by omega⟩⟩
 ·rw [if_neg (by omega),if_neg (by omega)]; exact ⟨h3,by omega,.inr ⟨rfl,by omega⟩⟩
theorem ls_upd {h m i j x:Nat} {P:Nat->Nat->Int} {v:Int} (hi:i<h) (hj:j<m) (hx:x<h+m):ls h m (upd2 P i j v) x=ls h m P x+(v - P i j)*((if i=x then 1 else 0)+(if h+j=x then 1 else 0)):=by
 unfold ls
 by_cases hxh:x<h
 ·rw [if_pos hxh,if_pos hxh,if_neg (by omega:¬h+j=x),Int.add_zero]
  by_cases e:i=x
  ·subst e
   rw [if_pos rfl,Int.mul_one,sumZ_upd (f:=P i) (g:=upd2 P i j v i) (k:=j) (fun b hb=>upd2_ne (by omega)) m,if_pos hj,upd2_same]
  ·rw [if_neg e,Int.mul_zero,Int.add_zero]
   exact sumZ_congr fun b _=>upd2_ne (by omega)
 ·rw [if_neg hxh,if_neg hxh,if_neg (by omega:¬i=x),Int.zero_add]
  by_cases e:h+j=x
  ·have ej:x - h=j:=by omega
   rw [if_pos e,Int.mul_one,ej,sumZ_upd (f:=fun a=>P a j) (g:=fun a=>upd2 P i j v a j) (k:=i) (fun b hb=>upd2_ne (by omega)) h,if_pos hi,upd2_same]
  ·rw [if_neg e,Int.mul_zero,Int.add_zero]
   exact sumZ_congr fun b _=>upd2_ne (by omega)
theorem nodup_bound:∀(n:Nat) (l:List Nat),l.Nodup->(∀x,x∈l->x<n)->l.length<=n
 | 0,l,_,h=>by
  cases l with
  | nil=>exact Nat.le_refl _
  | cons x r=>exact absurd (h x List.mem_cons_self) (Nat.not_lt_zero _)
 | n+1,l,nd,h=>by
  by_cases hn:n∈l
  ·have h1:=nodup_bound n (l.erase n) (nd.sublist List.erase_sublist) fun x hx=>by
    have h2:=h x (List.mem_of_mem_erase hx)
    have h3:x≠n:=fun e=>by
     subst e
     exact (nd.not_mem_erase) hx
    omega
   have:=List.length_erase_of_mem hn
   omega
  ·have:=nodup_bound n l nd fun x hx=>by
    have h2:=h x hx
    have h3:x≠n:=fun e=>by subst e; exact hn hx
    omega
   omega
structure Ring (h m:Nat) (w:Int) (P:Nat->Nat->Int) (r:Nat->Nat) (L:Nat):Prop where
 big:3<=L
 back:r L=r 0
 way:∀k,k<L->opp h m (r k) (r (k+1))
 frac:∀k,k<L->fr w (cv h P (r k) (r (k+1)))
 apart:∀i j,i<j->j<L->r i≠r j
theorem Ring.alt {h m:Nat} {w:Int} {P:Nat->Nat->Int} {r:Nat->Nat} {L:Nat} (R:Ring h m w P r L):∀k,k<=L->(r k<h↔(r 0<h↔k % 2=0)):=by
 intro k
 induction k with
 | zero=>intro _; simp
 | succ k ih=>
  intro hk
  have i1:=ih (by omega)
  have:r k<h↔¬r (k+1)<h:=by
   rcases R.way k (by omega) with ⟨a,b,c⟩ | ⟨a,b,c⟩ <;> omega
  omega
theorem Ring.even {h m:Nat} {w:Int} {P:Nat->Nat->Int} {r:Nat->Nat} {L:Nat} (R:Ring h m w P r L):L % 2=0:=by
 have:=R.alt L (Nat.le_refl _)
 rw [R.back] at this
 omega
def rr (h:Nat) (r:Nat->Nat) (k:Nat):Nat:=cr h (r k) (r (k+1))
def rc (h:Nat) (r:Nat->Nat) (k:Nat):Nat:=cc h (r k) (r (k+1))
theorem Ring.cells {h m:Nat} {w:Int} {P:Nat->Nat->Int} {r:Nat->Nat} {L:Nat} (R:Ring h m w P r L) {i j:Nat} (hij:i<j) (hj:j<L):¬(rr h r i=rr h r j/\rc h r i=rc h r j):=by
 rintro ⟨e1,e2⟩
 obtain ⟨_,_,a⟩:=opp_cell (R.way i (by omega))
 obtain ⟨_,_,b⟩:=opp_cell (R.way j hj)
 have big:=R.big
 unfold rr at e1
 unfold rc at e2
 rw [e1,e2] at a
 have same:r i≠r j:=R.apart i j hij hj
 have ex:r i=r (j+1)/\r (i+1)=r j:=by
  rcases a with ⟨a1,a2⟩ | ⟨a1,a2⟩ <;> rcases b with ⟨b1,b2⟩ | ⟨b1,b2⟩
  ·exact absurd (a1.trans b1.symm) same
  ·exact ⟨a1.trans b1.symm,a2.trans b2.symm⟩
  ·exact ⟨a2.trans b2.symm,a1.trans b1.symm⟩
  ·exact absurd (a2.trans b2.symm) same
 obtain ⟨x1,x2⟩:=ex
 by_cases h1:i+1=j
 ·subst h1
  by_cases h2:i+1+1=L
  ·rw [h2,R.back] at x1
   by_cases h0:i=0
   ·omega
   ·exact R.apart 0 i (by omega) (by omega) x1.symm
  ·exact R.apart i (i+1+1) (by omega) (by omega) x1
 ·exact R.apart (i+1) j (by omega) hj x2
def dlt (st:Int) (k:Nat):Int:=if k % 2=0 then st else -st
def moved (h:Nat) (r:Nat->Nat) (st:Int) (P:Nat->Nat->Int):Nat->Nat->Nat->Int
 | 0=>P
 | k+1=>upd2 (moved h r st P k) (rr h r k) (rc h r k) (P (rr h r k) (rc h r k)+dlt st k)
theorem moved_out {h:Nat} {r:Nat->Nat} {st:Int} {P:Nat->Nat->Int} {a b:Nat}:∀{k:Nat},(∀i,i<k->¬(a=rr h r i/\b=rc h r i))->moved h r st P k a b=P a b
 | 0,_=>rfl
 | k+1,hn=>by
  show upd2 _ _ _ _ a b=_
  rw [upd2_ne (hn k (by omega)),moved_out fun i hi=>hn i (by omega)]
section
variable {h m:Nat} {w:Int} {P:Nat->Nat->Int} {r:Nat->Nat} {L:Nat} {st:Int}
end
def cnt (h m:Nat) (w:Int) (P:Nat->Nat->Int):Int:=sumZ h fun i=>sumZ m fun j=>if 0<P i j/\P i j<w then 1 else 0
end SW
namespace SW
abbrev Q2:=Int×Int
def qpos (p:Q2):Prop:=0<p.1/\0<p.2
def qle (p q:Q2):Prop:=p.1*q.2<=q.1*p.2
def qlt (p q:Q2):Prop:=p.1*q.2<q.1*p.2
def qmul (p q:Q2):Q2:=(p.1*q.1,p.2*q.2)
def rho (d p:Q2):Q2:=(d.1*p.2,d.2*p.1)
theorem qpos.mul {p q:Q2} (hp:qpos p) (hq:qpos q):qpos (qmul p q):=⟨Int.mul_pos hp.1 hq.1,Int.mul_pos hp.2 hq.2⟩
theorem qpos.rho {p q:Q2} (hp:qpos p) (hq:qpos q):qpos (rho p q):=⟨Int.mul_pos hp.1 hq.2,Int.mul_pos hp.2 hq.1⟩
theorem qle_refl (p:Q2):qle p p:=Int.le_refl _
theorem qle_total (p q:Q2):qle p q\/qle q p:=by unfold qle; omega
theorem qlt_not {p q:Q2}:qlt p q↔¬qle q p:=by unfold qlt qle; omega
theorem qlt.le {p q:Q2} (h:qlt p q):qle p q:=by unfold qlt at h; unfold qle; omega
theorem cancel_le {k x y:Int} (k0:0<k) (h:k*x<=k*y):x<=y:=Int.le_of_mul_le_mul_left h k0
theorem qle_trans {p q r:Q2} (hp:qpos p) (hq:qpos q) (hr:qpos r) (h:qle p q) (g:qle q r):qle p r:=by
 unfold qle at *
 have h1:=Int.mul_le_mul_of_nonneg_right h (Int.le_of_lt hr.2)
 have h2:=Int.mul_le_mul_of_nonneg_right g (Int.le_of_lt hp.2)
 refine cancel_le hq.2 ?_
 grind
theorem qle_mul {p q r:Q2} (hr:qpos r) (h:qle p q):qle (qmul p r) (qmul q r):=by
 unfold qle qmul at *
 have h1:=Int.mul_le_mul_of_nonneg_right h (Int.le_of_lt (Int.mul_pos hr.1 hr.2))
 show p.1*r.1*(q.2*r.2)<=q.1*r.1*(p.2*r.2)
 grind
theorem rho_step {d w p q:Q2} (hd:qpos d) (e:qle q (qmul p w)):qle (rho d p) (rho (qmul d w) q):=by
 unfold qle qmul rho at *
 have h1:=Int.mul_le_mul_of_nonneg_right e (Int.le_of_lt (Int.mul_pos hd.1 hd.2))
 show d.1*p.2*(d.2*w.2*q.1)<=d.1*w.1*q.2*(d.2*p.1)
 dsimp only at h1
 grind
theorem rho_mono {d d' p:Q2} (hp:qpos p) (h:qle d d'):qle (rho d p) (rho d' p):=by
 unfold qle rho at *
 have h1:=Int.mul_le_mul_of_nonneg_right h (Int.le_of_lt (Int.mul_pos hp.1 hp.2))
 show d.1*p.2*(d'.2*p.1)<=d'.1*p.2*(d.2*p.1)
 grind
theorem rho_back {d d' p:Q2} (hp:qpos p) (h:qle (rho d p) (rho d' p)):qle d d':=by
 unfold qle rho at *
 dsimp only at h
 refine cancel_le (Int.mul_pos hp.1 hp.2) ?_
 grind
def fset {α:Type} (f:Nat->α) (v:Nat) (x:α):Nat->α:=fun z=>if z=v then x else f z
theorem ZH {α:Type} (f:Nat->α) (v:Nat) (x:α):fset f v x v=x:=by unfold fset; rw [if_pos rfl]
theorem ZI {α:Type} {f:Nat->α} {v z:Nat} {x:α} (h:z≠v):fset f v x z=f z:=by unfold fset; rw [if_neg h]
inductive Up (ah:Nat->Option Nat):Nat->Nat->Prop where
 | root {v:Nat} (h:ah v=none):Up ah v 0
 | step {v u k:Nat} (h:ah v=some u) (r:Up ah u k):Up ah v (k+1)
inductive On (ah:Nat->Option Nat):Nat->Nat->Prop where
 | here (v:Nat):On ah v v
 | up {v u x:Nat} (h:ah v=some u) (r:On ah u x):On ah v x
theorem Up.det {ah:Nat->Option Nat} {v k m:Nat} (h:Up ah v k):Up ah v m->k=m:=by
 induction h generalizing m with
 | root h=>
  intro g
  cases g with
  | root=>rfl
  | step h'=>rw [h] at h'; cases h'
 | step h r ih=>
  intro g
  cases g with
  | root h'=>rw [h] at h'; cases h'
  | step h' r'=>
   rw [h] at h'
   cases h'
   rw [ih r']
theorem Up.keep {ah:Nat->Option Nat} {u v k:Nat} {x:Option Nat} (h:Up ah u k) (no:¬On ah u v):Up (fset ah v x) u k:=by
 induction h with
 | @root z h=>exact .root (by rw [ZI (fun e=>no (by rw [e]; exact .here v))]; exact h)
 | @step z y k h r ih=>exact .step (by rw [ZI (fun e=>no (by rw [e]; exact .here v))]; exact h) (ih fun q=>no (.up h q))
theorem Up.all {ah:Nat->Option Nat} {u v k:Nat} (hu:Up ah u k) (no:¬On ah u v) {x m:Nat} (h:Up ah x m):∃m',Up (fset ah v (some u)) x m':=by
 have hv:∃m',Up (fset ah v (some u)) v m':=⟨k+1,.step (ZH _ _ _) (hu.keep no)⟩
 induction h with
 | @root z h=>
  by_cases e:z=v
  ·rw [e]; exact hv
  ·exact ⟨0,.root (by rw [ZI e]; exact h)⟩
 | @step z y k h r ih=>
  by_cases e:z=v
  ·rw [e]; exact hv
  ·obtain ⟨m',q⟩:=ih
   exact ⟨m'+1,.step (by rw [ZI e]; exact h) q⟩
theorem Up.way {ah:Nat->Option Nat} {t k:Nat} (h:Up ah t k):∃p:Nat->Nat,p k=t/\ah (p 0)=none/\(∀j,j<k->ah (p (j+1))=some (p j))/\∀j,j<=k->Up ah (p j) j:=by
 induction h with
 | @root v h=>
  refine ⟨fun _=>v,rfl,h,fun j hj=>absurd hj (Nat.not_lt_zero _),fun j hj=>?_⟩
  have:j=0:=by omega
  subst this
  exact .root h
 | @step v u k h r ih=>
  obtain ⟨p,h1,h2,h3,h4⟩:=ih
  refine ⟨fset p (k+1) v,ZH _ _ _,by rw [ZI (by omega)]; exact h2,fun j hj=>?_,fun j hj=>?_⟩
  ·by_cases e:j=k
   ·subst e
    rw [ZH,ZI (by omega),h1]
    exact h
   ·rw [ZI (by omega),ZI (by omega)]
    exact h3 j (by omega)
  ·by_cases e:j=k+1
   ·subst e
    rw [ZH]
    exact .step h r
   ·rw [ZI e]
    exact h4 j (by omega)
structure Gr (n:Nat) (E:Nat->Nat->Option Q2) (pi:Nat->Q2):Prop where
 lt:∀u v w,E u v=some w->u<n/\v<n/\u≠v
 pos:∀u v w,E u v=some w->qpos w/\w.1<2 ^ 80/\w.2<2 ^ 80
 ppos:∀v,qpos (pi v)
 pot:∀u v w,E u v=some w->qle (pi v) (qmul (pi u) w)
structure Lab (n:Nat) (E:Nat->Nat->Option Q2) (pi:Nat->Q2) (st:Nat->Prop) (D:Nat->Option Q2) (ah:Nat->Option Nat) (wt:Nat->Prop):Prop where
 dom:∀v d,D v=some d->v<n/\qpos d
 sta:∀v,st v->∃d,D v=some d
 root:∀v d,D v=some d->ah v=none->st v/\d=(1,1)
 par:∀v u,ah v=some u->∃du dv w,D u=some du/\D v=some dv/\E u v=some w/\qle (qmul du w) dv
 up:∀v d,D v=some d->∃k,Up ah v k
 sz:∀v d,D v=some d->∃l:List Nat,l.Nodup/\(∀z,z∈l->∃dz,D z=some dz/\qle (rho dz (pi z)) (rho d (pi v)))/\d.1<2 ^ (80*l.length+1)/\d.2<2 ^ (80*l.length+1)
 opt:∀u d v w,D u=some d->¬wt u->E u v=some w->∃dv,D v=some dv/\qle dv (qmul d w)
section
variable {n:Nat} {E:Nat->Nat->Option Q2} {pi:Nat->Q2} {st:Nat->Prop} {D:Nat->Option Q2} {ah:Nat->Option Nat} {wt wt':Nat->Prop}
theorem Lab.mono (L:Lab n E pi st D ah wt) (h:∀u,wt u->wt' u):Lab n E pi st D ah wt':=⟨L.dom,L.sta,L.root,L.par,L.up,L.sz,fun u d v w h1 h2 h3=>L.opt u d v w h1 (fun z=>h2 (h u z)) h3⟩
theorem Lab.on (G:Gr n E pi) (L:Lab n E pi st D ah wt) {u x:Nat} (h:On ah u x):∀du,D u=some du->∃dx,D x=some dx/\qle (rho dx (pi x)) (rho du (pi u)):=by
 induction h with
 | here v=>exact fun d hd=>⟨d,hd,qle_refl _⟩
 | @up v y x h r ih=>
  intro dv hv
  obtain ⟨dy,dv',w,e1,e2,e3,e4⟩:=L.par v y h
  rw [hv] at e2
  cases e2
  obtain ⟨dx,h1,h2⟩:=ih dy e1
  have py:=(L.dom y dy e1).2
  have pv:=(L.dom v dv hv).2
  have pw:=(G.pos y v w e3).1
  refine ⟨dx,h1,qle_trans ((L.dom x dx h1).2.rho (G.ppos x)) (py.rho (G.ppos y)) (pv.rho (G.ppos v)) h2 ?_⟩
  exact qle_trans (py.rho (G.ppos y)) ((py.mul pw).rho (G.ppos v)) (pv.rho (G.ppos v)) (rho_step py (G.pot y v w e3)) (rho_mono (G.ppos v) e4)
theorem Lab.size (L:Lab n E pi st D ah wt) {v:Nat} {d:Q2} (h:D v=some d):d.1<2 ^ (80*n+1)/\d.2<2 ^ (80*n+1):=by
 obtain ⟨l,nd,hl,h1,h2⟩:=L.sz v d h
 have hn:=nodup_bound n l nd fun x hx=>by
  obtain ⟨dz,e,_⟩:=hl x hx
  exact (L.dom x dz e).1
 have hp:(2:Int) ^ (80*l.length+1)<=2 ^ (80*n+1):=by
  have:=Nat.pow_le_pow_right (n:=2) (by decide) (show 80*l.length+1<=80*n+1 by omega)
  exact_mod_cast this
 omega
theorem Lab.relax (G:Gr n E pi) (L:Lab n E pi st D ah wt) {u v:Nat} {du w:Q2} (hu:D u=some du) (hw:E u v=some w) (hv:∀dv,D v=some dv->qlt (qmul du w) dv) :
  Lab n E pi st (fset D v (some (qmul du w))) (fset ah v (some u)) (fun z=>wt z\/z=v):=by
 obtain ⟨un,vn,uv⟩:=G.lt u v w hw
 obtain ⟨pw,w1,w2⟩:=G.pos u v w hw
 have pu:=(L.dom u du hu).2
 have pnew:=pu.mul pw
 have key:∀dv,D v=some dv->¬qle (rho dv (pi v)) (rho du (pi u)):=fun dv hd q=>by
  have pv:=(L.dom v dv hd).2
  have h1:=rho_step (p:=pi u) (q:=pi v) pu (G.pot u v w hw)
  have h2:=qle_trans (pv.rho (G.ppos v)) (pu.rho (G.ppos u)) (pnew.rho (G.ppos v)) q h1
  exact qlt_not.mp (hv dv hd) (rho_back (G.ppos v) h2)
 have noOn:¬On ah u v:=fun q=>by
  obtain ⟨dv,e1,e2⟩:=L.on G q du hu
  exact key dv e1 e2
 have less:∀z dz,D z=some dz->∃dz',fset D v (some (qmul du w)) z=some dz'/\qpos dz'/\qle dz' dz:=fun z dz hz=>by
  by_cases e:z=v
  ·subst e
   exact ⟨_,ZH _ _ _,pnew,(hv dz hz).le⟩
  ·exact ⟨dz,by rw [ZI e]; exact hz,(L.dom z dz hz).2,qle_refl _⟩
 have ulab:fset D v (some (qmul du w)) u=some du:=by rw [ZI uv]; exact hu
 refine ⟨fun z d hz=>?_,fun z hz=>?_,fun z d hz ha=>?_,fun z y ha=>?_,fun z d hz=>?_,fun z d hz=>?_,fun z d x w' hz hn he=>?_⟩
 ·by_cases e:z=v
  ·subst e
   rw [ZH] at hz
   cases hz
   exact ⟨vn,pnew⟩
  ·rw [ZI e] at hz
   exact L.dom z d hz
 ·obtain ⟨d,hd⟩:=L.sta z hz
  obtain ⟨d',h1,_⟩:=less z d hd
  exact ⟨d',h1⟩
 ·by_cases e:z=v
  ·subst e; rw [ZH] at ha; cases ha
  ·rw [ZI e] at hz ha
   exact L.root z d hz ha
 ·by_cases e:z=v
  ·subst e
   rw [ZH] at ha
   cases ha
   exact ⟨du,qmul du w,w,ulab,ZH _ _ _,hw,qle_refl _⟩
  ·rw [ZI e] at ha
   obtain ⟨dy,dz,w',h1,h2,h3,h4⟩:=L.par z y ha
   obtain ⟨dy',g1,g2,g3⟩:=less y dy h1
   have pw':=(G.pos y z w' h3).1
   refine ⟨dy',dz,w',g1,by rw [ZI e]; exact h2,h3,?_⟩
   exact qle_trans (g2.mul pw') ((L.dom y dy h1).2.mul pw') (L.dom z dz h2).2 (qle_mul pw' g3) h4
 ·obtain ⟨k,hk⟩:=L.up u du hu
  by_cases e:z=v
  ·subst e
   exact ⟨k+1,.step (ZH _ _ _) (hk.keep noOn)⟩
  ·rw [ZI e] at hz
   obtain ⟨m,hm⟩:=L.up z d hz
   exact Up.all hk noOn hm
 ·by_cases e:z=v
  ·subst e
   rw [ZH] at hz
   cases hz
   obtain ⟨l,nd,hl,b1,b2⟩:=L.sz u du hu
   have nl:z∉l:=fun q=>by
    obtain ⟨dz,e1,e2⟩:=hl z q
    exact key dz e1 e2
   have st1:qle (rho du (pi u)) (rho (qmul du w) (pi z)):=rho_step pu (G.pot u z w hw)
   refine ⟨z :: l,List.nodup_cons.mpr ⟨nl,nd⟩,fun x hx=>?_,?_,?_⟩
   ·rcases List.mem_cons.mp hx with e | hx
    ·subst e
     exact ⟨_,ZH _ _ _,qle_refl _⟩
    ·obtain ⟨dx,e1,e2⟩:=hl x hx
     have nx:x≠z:=fun q=>nl (q ▸ hx)
     exact ⟨dx,by rw [ZI nx]; exact e1,qle_trans ((L.dom x dx e1).2.rho (G.ppos x)) (pu.rho (G.ppos u)) (pnew.rho (G.ppos z)) e2 st1⟩
   ·have:(2:Int) ^ (80*(z :: l).length+1)=2 ^ (80*l.length+1)*2 ^ 80:=by rw [List.length_cons,<-Int.pow_add,show 80*(l.length+1)+1=80*l.length+1+80 by omega]
    rw [this]
    exact Int.lt_of_lt_of_le (Int.mul_lt_mul_of_pos_right b1 pw.1) (Int.mul_le_mul_of_nonneg_left (Int.le_of_lt w1) (Int.le_of_lt (Int.pow_pos (by decide))))
   ·have:(2:Int) ^ (80*(z :: l).length+1)=2 ^ (80*l.length+1)*2 ^ 80:=by rw [List.length_cons,<-Int.pow_add,show 80*(l.length+1)+1=80*l.length+1+80 by omega]
    rw [this]
    exact Int.lt_of_lt_of_le (Int.mul_lt_mul_of_pos_right b2 pw.2) (Int.mul_le_mul_of_nonneg_left (Int.le_of_lt w2) (Int.le_of_lt (Int.pow_pos (by decide))))
  ·rw [ZI e] at hz
   obtain ⟨l,nd,hl,b⟩:=L.sz z d hz
   refine ⟨l,nd,fun x hx=>?_,b⟩
   obtain ⟨dx,e1,e2⟩:=hl x hx
   obtain ⟨dx',g1,g2,g3⟩:=less x dx e1
   exact ⟨dx',g1,qle_trans (g2.rho (G.ppos x)) ((L.dom x dx e1).2.rho (G.ppos x)) ((L.dom z d hz).2.rho (G.ppos z)) (rho_mono (G.ppos x) g3) e2⟩
 ·have nv:z≠v:=fun e=>hn (.inr e)
  rw [ZI nv] at hz
  obtain ⟨dx,e1,e2⟩:=L.opt z d x w' hz (fun q=>hn (.inl q)) he
  obtain ⟨dx',g1,g2,g3⟩:=less x dx e1
  exact ⟨dx',g1,qle_trans g2 (L.dom x dx e1).2 ((L.dom z d hz).2.mul (G.pos z x w' he).1) g3 e2⟩
end
end SW
namespace SW
def mu (B:Int):Option Q2->Int
 | none=>B*B*B+1
 | some d=>d.1*(B*B) / d.2
theorem mu_nonneg {B:Int} (B0:0<B) {o:Option Q2} (h:∀d,o=some d->qpos d):0<=mu B o:=by
 cases o with
 | none=>have:=Int.mul_pos (Int.mul_pos B0 B0) B0; show 0<=B*B*B+1; omega
 | some d=>
  have h1:=h d rfl
  exact Int.ediv_nonneg (Int.mul_nonneg (Int.le_of_lt h1.1) (Int.le_of_lt (Int.mul_pos B0 B0))) (Int.le_of_lt h1.2)
theorem mu_lt {B:Int} {d:Q2} {o:Option Q2} (hd:qpos d) (d1:d.1<B) (d2:d.2<B) (ho:∀e,o=some e->qpos e/\e.2<B/\qlt d e):mu B (some d)<mu B o:=by
 have B0:0<B:=by have:=hd.1; omega
 have BB:=Int.mul_pos B0 B0
 cases o with
 | none=>
  show d.1*(B*B) / d.2<B*B*B+1
  have h1:d.1*(B*B) / d.2<=d.1*(B*B):=Int.ediv_le_self _ (Int.mul_nonneg (Int.le_of_lt hd.1) (Int.le_of_lt BB))
  have h2:d.1*(B*B)<=B*(B*B):=Int.mul_le_mul_of_nonneg_right (Int.le_of_lt d1) (Int.le_of_lt BB)
  have h3:B*(B*B)=B*B*B:=by grind
  omega
 | some e=>
  obtain ⟨he,e2,hl⟩:=ho e rfl
  show d.1*(B*B) / d.2<e.1*(B*B) / e.2
  have h1:d.1*(B*B) / d.2*d.2<=d.1*(B*B):=Int.ediv_mul_le _ (Int.ne_of_gt hd.2)
  refine Int.lt_of_lt_of_le (Int.lt_succ _) ((Int.le_ediv_iff_mul_le he.2).mpr ?_)
  generalize d.1*(B*B) / d.2=q at *
  unfold qlt at hl
  have h2:d.1*e.2+1<=e.1*d.2:=hl
  have h3:=Int.mul_le_mul_of_nonneg_right h2 (Int.le_of_lt BB)
  have h4:d.2*e.2<=B*B:=Int.le_trans (Int.mul_le_mul_of_nonneg_left (Int.le_of_lt e2) (Int.le_of_lt hd.2)) (Int.mul_le_mul_of_nonneg_right (Int.le_of_lt d2) (Int.le_of_lt B0))
  have h5:=Int.mul_le_mul_of_nonneg_right h1 (Int.le_of_lt he.2)
  refine cancel_le hd.2 ?_
  have e1:d.2*((q+1)*e.2)=q*d.2*e.2+d.2*e.2:=by grind
  have e3:d.2*(e.1*(B*B))=e.1*d.2*(B*B):=by grind
  have e4:(d.1*e.2+1)*(B*B)=d.1*(B*B)*e.2+B*B:=by grind
  omega
def mus (n:Nat) (D:Nat->Option Q2):Int:=sumZ n fun v=>mu (2 ^ (80*n+1)) (D v)
section
variable {n:Nat} {E:Nat->Nat->Option Q2} {pi:Nat->Q2} {st:Nat->Prop} {D:Nat->Option Q2} {ah:Nat->Option Nat} {wt:Nat->Prop}
theorem mus_nonneg (L:Lab n E pi st D ah wt):0<=mus n D:=by
 have:=sumZ_le (n:=n) (f:=fun _=>0) (g:=fun v=>mu (2 ^ (80*n+1)) (D v)) fun v _=>mu_nonneg (Int.pow_pos (by decide)) fun d h=>(L.dom v d h).2
 rw [sumZ_zero] at this
 exact this
theorem mus_relax (G:Gr n E pi) (L:Lab n E pi st D ah wt) {u v:Nat} {du w:Q2} (hu:D u=some du) (hw:E u v=some w) (hv:∀dv,D v=some dv->qlt (qmul du w) dv):mus n (fset D v (some (qmul du w)))<mus n D:=by
 have L':=L.relax G hu hw hv
 have hs:=L'.size (ZH _ _ _)
 have vn:=(G.lt u v w hw).2.1
 have e:=sumZ_upd (f:=fun z=>mu (2 ^ (80*n+1)) (D z)) (g:=fun z=>mu (2 ^ (80*n+1)) (fset D v (some (qmul du w)) z)) (k:=v) (fun z hz=>by rw [ZI hz]) n
 rw [if_pos vn,ZH] at e
 have lt:=mu_lt (B:=2 ^ (80*n+1)) (d:=qmul du w) (o:=D v) ((L.dom u du hu).2.mul (G.pos u v w hw).1) hs.1 hs.2 fun dv h=>⟨(L.dom v dv h).2,(L.size h).2,hv dv h⟩
 unfold mus
 omega
theorem exM (G:Gr n E pi) (hp:∀v d,D v=some d->qpos d):∀m,∃M,qpos M/\∀v d,v<m->D v=some d->qle d (qmul M (pi v))
 | 0=>⟨(1,1),⟨by decide,by decide⟩,fun v d h=>absurd h (Nat.not_lt_zero _)⟩
 | m+1=>by
  obtain ⟨M,M0,hM⟩:=exM G hp m
  cases hd:D m with
  | none=>
   refine ⟨M,M0,fun v d hv e=>?_⟩
   by_cases q:v=m
   ·subst q; rw [hd] at e; cases e
   ·exact hM v d (by omega) e
  | some d=>
   have d0:=hp m d hd
   have r0:=d0.rho (G.ppos m)
   have self:qle d (qmul (rho d (pi m)) (pi m)):=by
    unfold qle qmul rho
    show d.1*(d.2*(pi m).1*(pi m).2)<=d.1*(pi m).2*(pi m).1*d.2
    exact Int.le_of_eq (by grind)
   rcases qle_total M (rho d (pi m)) with q | q
   ·refine ⟨rho d (pi m),r0,fun v e hv he=>?_⟩
    by_cases z:v=m
    ·subst z; rw [hd] at he; cases he; exact self
    ·exact qle_trans (hp v e he) (M0.mul (G.ppos v)) (r0.mul (G.ppos v)) (hM v e (by omega) he) (qle_mul (G.ppos v) q)
   ·refine ⟨M,M0,fun v e hv he=>?_⟩
    by_cases z:v=m
    ·subst z
     rw [hd] at he
     cases he
     exact qle_trans d0 (r0.mul (G.ppos v)) (M0.mul (G.ppos v)) self (qle_mul (G.ppos v) q)
    ·exact hM v e (by omega) he
def npot (D:Nat->Option Q2) (M:Q2) (pi:Nat->Q2) (v:Nat):Q2:=match D v with | some d=>d | none=>qmul M (pi v)
theorem npot_some {M:Q2} {v:Nat} {d:Q2} (h:D v=some d):npot D M pi v=d:=by unfold npot; rw [h]
theorem npot_none {M:Q2} {v:Nat} (h:D v=none):npot D M pi v=qmul M (pi v):=by unfold npot; rw [h]
theorem npot_ok (G:Gr n E pi) (L:Lab n E pi st D ah (fun _=>False)):∃M,(∀v,qpos (npot D M pi v))/\∀u v w,E u v=some w->qle (npot D M pi v) (qmul (npot D M pi u) w):=by
 obtain ⟨M,M0,hM⟩:=exM G (fun v d h=>(L.dom v d h).2) n
 have p0:∀v,qpos (npot D M pi v):=fun v=>by
  cases h:D v with
  | some d=>rw [npot_some h]; exact (L.dom v d h).2
  | none=>rw [npot_none h]; exact M0.mul (G.ppos v)
 refine ⟨M,p0,fun u v w hw=>?_⟩
 have pw:=(G.pos u v w hw).1
 cases hu:D u with
 | some du=>
  obtain ⟨dv,h1,h2⟩:=L.opt u du v w hu (fun z=>z) hw
  rw [npot_some hu,npot_some h1]
  exact h2
 | none=>
  have base:qle (qmul M (pi v)) (qmul (qmul M (pi u)) w):=by
   have:=qle_mul M0 (G.pot u v w hw)
   unfold qle qmul at *
   dsimp only at *
   grind
  rw [npot_none hu]
  cases hv:D v with
  | none=>rw [npot_none hv]; exact base
  | some dv=>
   rw [npot_some hv]
   exact qle_trans (L.dom v dv hv).2 (M0.mul (G.ppos v)) ((M0.mul (G.ppos u)).mul pw) (hM v dv (L.dom v dv hv).1 hv) base
end
def CellOk (a b v s:Int) (p q:Q2):Prop:=q.1*p.2*(b*v)<=p.1*q.2*(a+s*b)/\(0<s->p.1*q.2*(a+(s - 1)*b)<=q.1*p.2*(b*v))
theorem edge_up {A B x y k d:Int} (y0:0<y) (k0:0<k) (e:x*k=y*d):B*y<=A*x↔B*k<=A*d:=by
 constructor
 ·intro h
  have:=Int.mul_le_mul_of_nonneg_right h (Int.le_of_lt k0)
  refine cancel_le y0 ?_
  have e1:A*x*k=A*(x*k):=by grind
  rw [e1,e] at this
  grind
 ·intro h
  have:=Int.mul_le_mul_of_nonneg_right h (Int.le_of_lt y0)
  refine cancel_le k0 ?_
  have e1:A*d*y=A*(x*k):=by rw [e]; grind
  rw [e1] at this
  grind
theorem edge_dn {A B x y k d:Int} (y0:0<y) (k0:0<k) (e:x*k=y*d):A*x<=B*y↔A*d<=B*k:=by
 constructor
 ·intro h
  have:=Int.mul_le_mul_of_nonneg_right h (Int.le_of_lt k0)
  refine cancel_le y0 ?_
  have e1:A*x*k=A*(x*k):=by grind
  rw [e1,e] at this
  grind
 ·intro h
  have:=Int.mul_le_mul_of_nonneg_right h (Int.le_of_lt y0)
  refine cancel_le k0 ?_
  have e1:A*d*y=A*(x*k):=by rw [e]; grind
  rw [e1] at this
  grind
section
variable {a b v s x y:Int} {p q:Q2}
theorem way_up (b0:0<b) (v0:0<v) (h:Pr a b v (s+1) x y):qle q (qmul p (x,y))↔q.1*p.2*(b*v)<=p.1*q.2*(a+s*b):=by
 have e:=h.eq
 rw [show s+1 - 1=s by omega] at e
 rw [<-edge_up (A:=p.1*q.2) (B:=q.1*p.2) h.y0 (Int.mul_pos b0 v0) e]
 unfold qle qmul
 show q.1*(p.2*y)<=p.1*x*q.2↔_
 have e1:q.1*(p.2*y)=q.1*p.2*y:=by grind
 have e2:p.1*x*q.2=p.1*q.2*x:=by grind
 rw [e1,e2]
theorem way_dn (b0:0<b) (v0:0<v) (h:Pr a b v s x y):qle p (qmul q (y,x))↔p.1*q.2*(a+(s - 1)*b)<=q.1*p.2*(b*v):=by
 rw [<-edge_dn (A:=p.1*q.2) (B:=q.1*p.2) h.y0 (Int.mul_pos b0 v0) h.eq]
 unfold qle qmul
 show p.1*(q.2*x)<=q.1*y*p.2↔_
 have e1:p.1*(q.2*x)=p.1*q.2*x:=by grind
 have e2:q.1*y*p.2=q.1*p.2*y:=by grind
 rw [e1,e2]
theorem way_upT (b0:0<b) (v0:0<v) (h:Pr a b v (s+1) x y):qle (qmul p (x,y)) q↔p.1*q.2*(a+s*b)<=q.1*p.2*(b*v):=by
 have e:=h.eq
 rw [show s+1 - 1=s by omega] at e
 rw [<-edge_dn (A:=p.1*q.2) (B:=q.1*p.2) h.y0 (Int.mul_pos b0 v0) e]
 unfold qle qmul
 show p.1*x*q.2<=q.1*(p.2*y)↔_
 have e1:q.1*(p.2*y)=q.1*p.2*y:=by grind
 have e2:p.1*x*q.2=p.1*q.2*x:=by grind
 rw [e1,e2]
theorem way_dnT (b0:0<b) (v0:0<v) (h:Pr a b v s x y):qle (qmul q (y,x)) p↔q.1*p.2*(b*v)<=p.1*q.2*(a+(s - 1)*b):=by
 rw [<-edge_up (A:=p.1*q.2) (B:=q.1*p.2) h.y0 (Int.mul_pos b0 v0) h.eq]
 unfold qle qmul
 show q.1*y*p.2<=p.1*(q.2*x)↔_
 have e1:p.1*(q.2*x)=p.1*q.2*x:=by grind
 have e2:q.1*y*p.2=q.1*p.2*y:=by grind
 rw [e1,e2]
end
end SW
namespace SW
structure NetE (a b:Int) (V S:Nat->Nat->Int) (r c:Nat) (E:Nat->Nat->Option Q2):Prop where
 up:∀i j,i<r->j<c->0<V i j->∃x y,E i (r+j)=some (x,y)/\Pr a b (V i j) (S i j+1) x y
 dn:∀i j,i<r->j<c->0<S i j->∃x y,E (r+j) i=some (y,x)/\Pr a b (V i j) (S i j) x y
 out:∀u v w,E u v=some w->(∃i j,i<r/\j<c/\u=i/\v=r+j/\0<V i j)\/(∃i j,i<r/\j<c/\u=r+j/\v=i/\0<S i j)
structure TabOk (a b:Int) (V S:Nat->Nat->Int) (r c:Nat):Prop where
 a0:0<a
 ab:a<=b
 b1:b<=1000
 v0:∀i j,i<r->j<c->0<=V i j/\V i j<=10 ^ 15
 s0:∀i j,i<r->j<c->0<=S i j/\S i j<=800
 z:∀i j,i<r->j<c->0<S i j->0<V i j
def Cells (a b:Int) (V S:Nat->Nat->Int) (r c:Nat) (pi:Nat->Q2):Prop:=∀i j,i<r->j<c->0<V i j->CellOk a b (V i j) (S i j) (pi i) (pi (r+j))
theorem pr_bd {a b v n x y:Int} (a0:0<a) (ab:a<=b) (b1:b<=1000) (v0:0<v) (v1:v<=10 ^ 15) (n0:0<n) (n1:n<=900) (h:Pr a b v n x y):x<2 ^ 80/\y<2 ^ 80/\qpos (x,y):=by
 have h1:(n - 1)*b<=900*1000:=Int.le_trans (Int.mul_le_mul_of_nonneg_right (by omega:n - 1<=900) (by omega)) (Int.mul_le_mul_of_nonneg_left b1 (by omega))
 have h2:b*v<=1000*10 ^ 15:=Int.le_trans (Int.mul_le_mul_of_nonneg_right b1 (by omega)) (Int.mul_le_mul_of_nonneg_left v1 (by omega))
 have h3:=h.xl
 have h4:=h.yl
 exact ⟨by omega,by omega,h.x0,h.y0⟩
section
variable {a b:Int} {V S:Nat->Nat->Int} {r c:Nat} {E:Nat->Nat->Option Q2} {pi:Nat->Q2} {st:Nat->Prop} {D:Nat->Option Q2} {ah:Nat->Option Nat}
theorem NetE.gr (N:NetE a b V S r c E) (T:TabOk a b V S r c) (pp:∀v,qpos (pi v)) (cs:Cells a b V S r c pi):Gr (r+c) E pi:=by
 have b0:0<b:=by have:=T.a0; have:=T.ab; omega
 refine ⟨fun u v w h=>?_,fun u v w h=>?_,pp,fun u v w h=>?_⟩
 ·rcases N.out u v w h with ⟨i,j,hi,hj,rfl,rfl,_⟩ | ⟨i,j,hi,hj,rfl,rfl,_⟩ <;> omega
 ·rcases N.out u v w h with ⟨i,j,hi,hj,rfl,rfl,hv⟩ | ⟨i,j,hi,hj,rfl,rfl,hs⟩
  ·obtain ⟨x,y,e,pr⟩:=N.up u j hi hj hv
   rw [e] at h
   cases h
   have s:=T.s0 u j hi hj
   obtain ⟨h1,h2,h3⟩:=pr_bd T.a0 T.ab T.b1 hv (T.v0 u j hi hj).2 (by omega) (by omega) pr
   exact ⟨h3,h1,h2⟩
  ·obtain ⟨x,y,e,pr⟩:=N.dn v j hi hj hs
   rw [e] at h
   cases h
   have s:=T.s0 v j hi hj
   obtain ⟨h1,h2,h3⟩:=pr_bd T.a0 T.ab T.b1 (T.z v j hi hj hs) (T.v0 v j hi hj).2 (by omega) (by omega) pr
   exact ⟨⟨h3.2,h3.1⟩,h2,h1⟩
 ·rcases N.out u v w h with ⟨i,j,hi,hj,rfl,rfl,hv⟩ | ⟨i,j,hi,hj,rfl,rfl,hs⟩
  ·obtain ⟨x,y,e,pr⟩:=N.up u j hi hj hv
   rw [e] at h
   cases h
   exact (way_up b0 hv pr).mpr (cs u j hi hj hv).1
  ·obtain ⟨x,y,e,pr⟩:=N.dn v j hi hj hs
   rw [e] at h
   cases h
   have hv:=T.z v j hi hj hs
   exact (way_dn b0 hv pr).mpr ((cs v j hi hj hv).2 hs)
theorem NetE.cells (N:NetE a b V S r c E) (T:TabOk a b V S r c) (pot:∀u v w,E u v=some w->qle (pi v) (qmul (pi u) w)):Cells a b V S r c pi:=fun i j hi hj hv=>by
 have b0:0<b:=by have:=T.a0; have:=T.ab; omega
 refine ⟨?_,fun hs=>?_⟩
 ·obtain ⟨x,y,e,pr⟩:=N.up i j hi hj hv
  exact (way_up b0 hv pr).mp (pot _ _ _ e)
 ·obtain ⟨x,y,e,pr⟩:=N.dn i j hi hj hs
  exact (way_dn b0 hv pr).mp (pot _ _ _ e)
theorem cells0 (a0:0<a) (ab:a<=b) (hv:∀i j,i<r->j<c->V i j<=10 ^ 15) (hs:∀i j,i<r->j<c->S i j=0):∃pi:Nat->Q2,(∀v,qpos (pi v))/\Cells a b V S r c pi:=by
 refine ⟨fun v=>if v<r then (1,1) else (a,b*10 ^ 15),fun v=>?_,fun i j hi hj h0=>?_⟩
 ·dsimp only
  split
  ·exact ⟨by decide,by decide⟩
  ·exact ⟨a0,Int.mul_pos (by omega) (by decide)⟩
 ·dsimp only
  rw [if_pos hi,if_neg (by omega),hs i j hi hj]
  refine ⟨?_,fun z=>absurd z (by omega)⟩
  show a*1*(b*V i j)<=1*(b*10 ^ 15)*(a+0*b)
  have h1:=Int.mul_le_mul_of_nonneg_left (hv i j hi hj) (Int.le_of_lt (Int.mul_pos a0 (show 0<b by omega)))
  have e1:a*1*(b*V i j)=a*b*V i j:=by grind
  have e2:1*(b*10 ^ 15)*(a+0*b)=a*b*10 ^ 15:=by grind
  rw [e1,e2]
  exact h1
structure Way (r c:Nat) (E:Nat->Nat->Option Q2) (D:Nat->Option Q2) (p:Nat->Nat) (k:Nat):Prop where
 opp:∀j,j<k->opp r c (p j) (p (j+1))
 tight:∀j,j<k->∃du dv w,D (p j)=some du/\D (p (j+1))=some dv/\E (p j) (p (j+1))=some w/\qle (qmul du w) dv/\qle dv (qmul du w)
 apart:∀i j,i<j->j<=k->p i≠p j
theorem Lab.way (N:NetE a b V S r c E) (L:Lab (r+c) E pi st D ah (fun _=>False)) {t k:Nat} (h:Up ah t k) {d:Q2} (hd:D t=some d) :
  ∃p,p k=t/\ah (p 0)=none/\st (p 0)/\(∀j,j<k->ah (p (j+1))=some (p j))/\Way r c E D p k:=by
 obtain ⟨p,h1,h2,h3,h4⟩:=h.way
 have lab:∀j,j<=k->∃d,D (p j)=some d:=fun j hj=>by
  by_cases e:j=k
  ·rw [e,h1]; exact ⟨d,hd⟩
  ·obtain ⟨du,dv,w,e1,_⟩:=L.par (p (j+1)) (p j) (h3 j (by omega))
   exact ⟨du,e1⟩
 refine ⟨p,h1,h2,?_,h3,fun j hj=>?_,fun j hj=>?_,fun i j hij hj e=>?_⟩
 ·obtain ⟨d0,e0⟩:=lab 0 (Nat.zero_le _)
  exact (L.root _ _ e0 h2).1
 ·obtain ⟨du,dv,w,e1,e2,e3,e4⟩:=L.par _ _ (h3 j hj)
  rcases N.out _ _ _ e3 with ⟨i,j',hi,hj',q1,q2,_⟩ | ⟨i,j',hi,hj',q1,q2,_⟩
  ·rw [q1,q2]; exact .inl ⟨hi,by omega,by omega⟩
  ·rw [q1,q2]; exact .inr ⟨by omega,by omega,hi⟩
 ·obtain ⟨du,dv,w,e1,e2,e3,e4⟩:=L.par _ _ (h3 j hj)
  obtain ⟨dv',e5,e6⟩:=L.opt _ _ _ _ e1 (fun z=>z) e3
  rw [e2] at e5
  cases e5
  exact ⟨du,dv,w,e1,e2,e3,e4,e6⟩
 ·have u1:=h4 i (by omega)
  have u2:=h4 j hj
  rw [e] at u1
  have:=u1.det u2
  omega
theorem Way.alt {p:Nat->Nat} {k:Nat} (W:Way r c E D p k) (h0:p 0<r):∀j,j<=k->(p j<r↔j % 2=0):=by
 intro j
 induction j with
 | zero=>intro _; omega
 | succ j ih=>
  intro hj
  have i1:=ih (by omega)
  have:p j<r↔¬p (j+1)<r:=by
   rcases W.opp j (by omega) with ⟨x,y,z⟩ | ⟨x,y,z⟩ <;> omega
  omega
theorem Way.cells {p:Nat->Nat} {k:Nat} (W:Way r c E D p k) {i j:Nat} (hij:i<j) (hj:j<k):¬(rr r p i=rr r p j/\rc r p i=rc r p j):=by
 rintro ⟨e1,e2⟩
 obtain ⟨_,_,x⟩:=opp_cell (W.opp i (by omega))
 obtain ⟨_,_,y⟩:=opp_cell (W.opp j hj)
 unfold rr at e1
 unfold rc at e2
 rw [e1,e2] at x
 have n1:p i≠p j:=W.apart i j hij (by omega)
 have n2:p i≠p (j+1):=W.apart i (j+1) (by omega) (by omega)
 rcases x with ⟨x1,x2⟩ | ⟨x1,x2⟩ <;> rcases y with ⟨y1,y2⟩ | ⟨y1,y2⟩ <;> omega
theorem Way.at_ {p:Nat->Nat} {k:Nat} (W:Way r c E D p k) {s m:Nat} (hs:s<m) (hm:m<=k):moved r p 1 S m (rr r p s) (rc r p s)=S (rr r p s) (rc r p s)+dlt 1 s:=by
 induction m with
 | zero=>omega
 | succ m ih=>
  show upd2 _ _ _ _ _ _=_
  by_cases e:s=m
  ·subst e; rw [upd2_same]
  ·rw [upd2_ne (W.cells (by omega) (by omega)),ih (by omega) (by omega)]
theorem Way.next {p:Nat->Nat} {k:Nat} (W:Way r c E D p k) {m:Nat} (hm:m<k):moved r p 1 S m (rr r p m) (rc r p m)=S (rr r p m) (rc r p m):=
 moved_out fun i hi e=>W.cells hi hm ⟨e.1.symm,e.2.symm⟩
theorem Way.ls {p:Nat->Nat} {k:Nat} (W:Way r c E D p k) {x:Nat} (hx:x<r+c):∀m,m<=k->ls r c (moved r p 1 S m) x=ls r c S x+dlt 1 0*(if p 0=x then 1 else 0) - dlt 1 m*(if p m=x then 1 else 0):=by
 intro m
 induction m with
 | zero=>intro _; show SW.ls r c S x=_; omega
 | succ m ih=>
  intro hm
  obtain ⟨c1,c2,c3⟩:=opp_cell (W.opp m (by omega))
  show SW.ls r c (upd2 (moved r p 1 S m) (rr r p m) (rc r p m) (S (rr r p m) (rc r p m)+dlt 1 m)) x=_
  rw [ls_upd (i:=rr r p m) (j:=rc r p m) c1 c2 hx,W.next (by omega),ih (by omega)]
  have e1:S (rr r p m) (rc r p m)+dlt 1 m - S (rr r p m) (rc r p m)=dlt 1 m:=by omega
  rw [e1]
  have e2:dlt 1 (m+1) = - dlt 1 m:=by
   unfold dlt
   by_cases q:m % 2=0
   ·rw [if_pos q,if_neg (by omega)]
   ·rw [if_neg q,if_pos (by omega)]; omega
  rw [e2]
  have e3:((if rr r p m=x then (1:Int) else 0)+(if r+rc r p m=x then 1 else 0))=(if p m=x then 1 else 0)+(if p (m+1)=x then 1 else 0):=by
   unfold rr rc
   rcases c3 with ⟨a,b⟩ | ⟨a,b⟩
   ·rw [<-a,<-b]
   ·rw [<-a,<-b]; omega
  rw [e3,Int.mul_add,Int.neg_mul]
  omega
theorem Way.sums {p:Nat->Nat} {k:Nat} (W:Way r c E D p k) (h0:p 0<r) (hk:r<=p k) {x:Nat} (hx:x<r+c):SW.ls r c (moved r p 1 S k) x=SW.ls r c S x+(if p 0=x then 1 else 0)+(if p k=x then 1 else 0):=by
 have odd:k % 2=1:=by have:=W.alt h0 k (Nat.le_refl _); omega
 rw [W.ls hx k (Nat.le_refl _)]
 have e0:dlt 1 0=1:=rfl
 have e1:dlt 1 k = -1:=by unfold dlt; rw [if_neg (by omega)]
 rw [e0,e1]
 omega
theorem Way.grow (N:NetE a b V S r c E) (T:TabOk a b V S r c) {M:Q2} (pp:∀v,qpos (npot D M pi v)) (pot:∀u v w,E u v=some w->qle (npot D M pi v) (qmul (npot D M pi u) w)) {p:Nat->Nat} {k:Nat} (W:Way r c E D p k) (h0:p 0<r) :
  Cells a b V (moved r p 1 S k) r c (npot D M pi)/\∀i j,i<r->j<c->0<=moved r p 1 S k i j/\moved r p 1 S k i j<=S i j+1/\(0<moved r p 1 S k i j->0<V i j):=by
 have a0:=T.a0
 have b0:0<b:=by have:=T.ab; omega
 have cs:=N.cells T pot
 have on:∀s,s<k->∃i j,i<r/\j<c/\rr r p s=i/\rc r p s=j/\0<V i j/\moved r p 1 S k i j=S i j+dlt 1 s/\(0<=S i j+dlt 1 s)/\CellOk a b (V i j) (S i j+dlt 1 s) (npot D M pi i) (npot D M pi (r+j)):=fun s hs=>by
  obtain ⟨du,dv,w,e1,e2,e3,e4,e5⟩:=W.tight s hs
  have al:=W.alt h0 s (by omega)
  have mv:=W.at_ (S:=S) hs (Nat.le_refl _)
  obtain ⟨c1,c2,c3⟩:=opp_cell (W.opp s hs)
  rcases N.out _ _ _ e3 with ⟨i,j,hi,hj,q1,q2,hv⟩ | ⟨i,j,hi,hj,q1,q2,hS⟩
  ·have r1:rr r p s=i:=by unfold rr cr; rw [if_pos (by omega)]; exact q1
   have r2:rc r p s=j:=by unfold rc cc; rw [if_pos (by omega),q2]; omega
   have ev:s % 2=0:=al.mp (by omega)
   have dl:dlt 1 s=1:=by unfold dlt; rw [if_pos ev]
   rw [q1] at e1 e3
   rw [q2] at e2 e3
   obtain ⟨x,y,g1,g2⟩:=N.up i j hi hj hv
   rw [e3] at g1
   cases g1
   rw [r1,r2] at mv
   have h1:=(way_up b0 hv g2).mp e5
   have h2:=(way_upT b0 hv g2).mp e4
   have s0:=(T.s0 i j hi hj).1
   have pu:=(pp i)
   have pv:=(pp (r+j))
   rw [npot_some e1] at pu
   rw [npot_some e2] at pv
   refine ⟨i,j,hi,hj,r1,r2,hv,mv,by omega,?_⟩
   rw [npot_some e1,npot_some e2,dl]
   refine ⟨?_,fun _=>?_⟩
   ·refine Int.le_trans h1 (Int.mul_le_mul_of_nonneg_left ?_ (Int.le_of_lt (Int.mul_pos pu.1 pv.2)))
    rw [Int.add_mul]
    omega
   ·rw [show S i j+1 - 1=S i j by omega]
    exact h2
  ·have r1:rr r p s=i:=by unfold rr cr; rw [if_neg (by omega)]; exact q2
   have r2:rc r p s=j:=by unfold rc cc; rw [if_neg (by omega),q1]; omega
   have od:¬s % 2=0:=fun z=>by have:=al.mpr z; omega
   have dl:dlt 1 s = -1:=by unfold dlt; rw [if_neg od]
   have hv:=T.z i j hi hj hS
   rw [q1] at e1 e3
   rw [q2] at e2 e3
   obtain ⟨x,y,g1,g2⟩:=N.dn i j hi hj hS
   rw [e3] at g1
   cases g1
   rw [r1,r2] at mv
   have h1:=(way_dn b0 hv g2).mp e5
   have h2:=(way_dnT b0 hv g2).mp e4
   have pu:=(pp (r+j))
   have pv:=(pp i)
   rw [npot_some e1] at pu
   rw [npot_some e2] at pv
   refine ⟨i,j,hi,hj,r1,r2,hv,mv,by omega,?_⟩
   rw [npot_some e1,npot_some e2,dl]
   refine ⟨?_,fun _=>?_⟩
   ·rw [show S i j + -1=S i j - 1 by omega]
    exact h2
   ·refine Int.le_trans (Int.mul_le_mul_of_nonneg_left ?_ (Int.le_of_lt (Int.mul_pos pv.1 pu.2))) h1
    have:(S i j + -1 - 1)*b<=(S i j - 1)*b:=Int.mul_le_mul_of_nonneg_right (by omega) (by omega)
    omega
 refine ⟨fun i j hi hj hv=>?_,fun i j hi hj=>?_⟩
 ·by_cases q:∃s,s<k/\i=rr r p s/\j=rc r p s
  ·obtain ⟨s,hs,rfl,rfl⟩:=q
   obtain ⟨i,j,_,_,e1,e2,_,e3,_,e4⟩:=on s hs
   rw [e1,e2,e3]
   exact e4
  ·rw [moved_out fun s hs z=>q ⟨s,hs,z.1,z.2⟩]
   exact cs i j hi hj hv
 ·by_cases q:∃s,s<k/\i=rr r p s/\j=rc r p s
  ·obtain ⟨s,hs,rfl,rfl⟩:=q
   obtain ⟨i,j,_,_,e1,e2,hv,e3,e5,e4⟩:=on s hs
   rw [e1,e2,e3]
   refine ⟨e5,?_,fun _=>hv⟩
   unfold dlt
   split <;> omega
  ·rw [moved_out fun s hs z=>q ⟨s,hs,z.1,z.2⟩]
   have:=T.s0 i j hi hj
   exact ⟨this.1,by omega,T.z i j hi hj⟩
theorem barred (N:NetE a b V S r c E) (T:TabOk a b V S r c) (L:Lab (r+c) E pi st D ah (fun _=>False)) {due left:Nat->Int} (hs:∀i,i<r->0<left i->st i) (l0:∀x,x<r+c->0<=left x) (sums:∀x,x<r+c->SW.ls r c S x+left x=due x)
  (no:∀j,j<c->0<left (r+j)->D (r+j)=none) {j0:Nat} (hj0:j0<c) (some0:0<left (r+j0)) :
  (∀i j,i<r->j<c->D i≠none->D (r+j)=none->¬0<V i j)/\sumZ r (fun i=>if D i=none then due i else 0)<sumZ c (fun j=>if D (r+j)=none then due (r+j) else 0):=by
 have v1:∀i j,i<r->j<c->D i≠none->D (r+j)=none->¬0<V i j:=fun i j hi hj h1 h2 hv=>by
  obtain ⟨x,y,e,_⟩:=N.up i j hi hj hv
  cases h:D i with
  | none=>exact h1 h
  | some d=>
   obtain ⟨dv,e2,_⟩:=L.opt _ _ _ _ h (fun z=>z) e
   rw [h2] at e2
   cases e2
 have s1:∀i j,i<r->j<c->D i=none->D (r+j)≠none->S i j=0:=fun i j hi hj h1 h2=>by
  have s0:=(T.s0 i j hi hj).1
  rcases Int.lt_or_le 0 (S i j) with hs | hs
  ·obtain ⟨x,y,e,_⟩:=N.dn i j hi hj hs
   cases h:D (r+j) with
   | none=>exact absurd h h2
   | some d=>
    obtain ⟨dv,e2,_⟩:=L.opt _ _ _ _ h (fun z=>z) e
    rw [h1] at e2
    cases e2
  ·omega
 refine ⟨v1,?_⟩
 have rowE:∀i,i<r->SW.ls r c S i=sumZ c (S i):=fun i hi=>by unfold SW.ls; rw [if_pos hi]
 have colE:∀j,SW.ls r c S (r+j)=sumZ r (fun i=>S i j):=fun j=>by unfold SW.ls; rw [if_neg (by omega),show r+j - r=j by omega]
 have h1:sumZ r (fun i=>if D i=none then due i else 0)<=sumZ r (fun i=>sumZ c fun j=>if D (r+j)=none then S i j else 0):=sumZ_le fun i hi=>by
  split
  ·rename_i hD
   have l1:=l0 i (by omega)
   have:left i=0:=by
    rcases Int.lt_or_le 0 (left i) with q | q
    ·obtain ⟨d,e⟩:=L.sta i (hs i hi q)
     rw [hD] at e
     cases e
    ·omega
   have s:=sums i (by omega)
   rw [rowE i hi] at s
   have:sumZ c (S i)=sumZ c fun j=>if D (r+j)=none then S i j else 0:=sumZ_congr fun j hj=>by
    split
    ·rfl
    ·rename_i q
     exact s1 i j hi hj hD q
   omega
  ·have:=sumZ_le (n:=c) (f:=fun _=>0) (g:=fun j=>if D (r+j)=none then S i j else 0) fun j hj=>by
    split
    ·exact (T.s0 i j hi hj).1
    ·exact Int.le_refl _
   rw [sumZ_zero] at this
   exact this
 have h2:sumZ r (fun i=>sumZ c fun j=>if D (r+j)=none then S i j else 0)=sumZ c (fun j=>if D (r+j)=none then due (r+j) - left (r+j) else 0):=by
  rw [sumZ_swap]
  refine sumZ_congr fun j hj=>?_
  by_cases q:D (r+j)=none
  ·rw [if_pos q]
   have s:=sums (r+j) (by omega)
   rw [colE j] at s
   rw [show sumZ r (fun i=>if D (r+j)=none then S i j else 0)=sumZ r (fun i=>S i j) from sumZ_congr fun i _=>if_pos q]
   omega
  ·rw [if_neg q,show sumZ r (fun i=>if D (r+j)=none then S i j else 0)=sumZ r (fun _=>0) from sumZ_congr fun i _=>if_neg q,sumZ_zero]
 rw [h2] at h1
 refine Int.lt_of_le_of_lt h1 (sumZ_lt (k:=j0) (fun j hj=>?_) hj0 ?_)
 ·split
  ·have:=l0 (r+j) (by omega); omega
  ·exact Int.le_refl _
 ·rw [if_pos (no j0 hj0 some0),if_pos (no j0 hj0 some0)]
  omega
end
theorem deal_fits {a b v s R1 R2 C1 C2:Int} {p q:Q2} (a0:0<a) (b0:0<b) (hp:qpos p) (hq:qpos q) (R:Low p.2 p.1 R1 R2) (C:Low q.1 q.2 C1 C2) (v0:0<=v) (s0:0<=s) (sv:0<s->0<v) (h:0<v->CellOk a b v s p q):fitsB (v*R1*C1) (R2*C2) a b s=true:=by
 have r2:=R.y0
 have c2:=C.y0
 have e1:=R.eq
 have e2:=C.eq
 have RC:=Int.mul_pos r2 c2
 have PQ:=Int.mul_pos hp.1 hq.2
 have key:∀z,v*R1*C1*b*(p.1*q.2)=R2*C2*(q.1*p.2*(b*v))/\R2*C2*z*(p.1*q.2)=R2*C2*(p.1*q.2*z):=fun z=>by
  refine ⟨?_,by grind⟩
  have:v*R1*C1*b*(p.1*q.2)=v*b*(R1*p.1)*(C1*q.2):=by grind
  rw [this,e1,e2]
  grind
 unfold fitsB
 by_cases hz:v=0
 ·subst hz
  have:s=0:=by
   rcases Int.lt_or_le 0 s with q | q
   ·have:=sv q; omega
   ·omega
  subst this
  have h1:(0:Int)*R1*C1*b<=R2*C2*(a+0*b):=by
   rw [Int.zero_mul,Int.zero_mul,Int.zero_mul,Int.add_zero]
   exact Int.le_of_lt (Int.mul_pos RC a0)
  rw [decide_eq_true h1]
  simp
 ·have v1:0<v:=by omega
  obtain ⟨g1,g2⟩:=h v1
  have h1:v*R1*C1*b<=R2*C2*(a+s*b):=by
   refine cancel_le PQ ?_
   rw [Int.mul_comm (p.1*q.2),Int.mul_comm (p.1*q.2),(key (a+s*b)).1,(key (a+s*b)).2]
   exact Int.mul_le_mul_of_nonneg_left g1 (Int.le_of_lt RC)
  rw [decide_eq_true h1,Bool.and_true]
  by_cases s1:0<s
  ·have h2:R2*C2*(a+(s - 1)*b)<=v*R1*C1*b:=by
    refine cancel_le PQ ?_
    rw [Int.mul_comm (p.1*q.2),Int.mul_comm (p.1*q.2),(key (a+(s - 1)*b)).1,(key (a+(s - 1)*b)).2]
    exact Int.mul_le_mul_of_nonneg_left (g2 s1) (Int.le_of_lt RC)
   rw [decide_eq_false (by omega:¬v*R1*C1*b<R2*C2*(a+(s - 1)*b))]
   simp
  ·rw [decide_eq_false s1]; simp
end SW
namespace L2
open PySem SW
def row (c:Nat) (f:Nat->Int):List Int:=(List.range c).map f
def mkT (T:Nat->Nat->Int) (r c:Nat):List (List Int):=(List.range r).map fun i=>row c (T i)
theorem ZJ (c:Nat) (f:Nat->Int):(row c f).length=c:=by unfold row; simp
theorem row_get {c j:Nat} {f:Nat->Int} (h:j<c):(row c f)[j]?=some (f j):=by unfold row; rw [List.getElem?_map,List.getElem?_range h]; rfl
theorem row_sum (f:Nat->Int):∀c,(row c f).sum=sumZ c f
 | 0=>rfl
 | c+1=>by
  have:row (c+1) f=row c f++[f c]:=by unfold row; rw [List.range_succ,List.map_append]; rfl
  rw [this,List.sum_append,row_sum f c]
  show _=sumZ c f+f c
  simp
theorem row_succ (c:Nat) (f:Nat->Int):row (c+1) f=row c f++[f c]:=by unfold row; rw [List.range_succ,List.map_append]; rfl
theorem row_congr {c:Nat} {f g:Nat->Int} (h:∀j,j<c->f j=g j):row c f=row c g:=by
 unfold row
 exact List.map_congr_left fun j hj=>h j (List.mem_range.mp hj)
theorem row_set {c j:Nat} {f:Nat->Int} {v:Int} (h:j<c):(row c f).set j v=row c (fun b=>if b=j then v else f b):=by
 apply List.ext_getElem?
 intro i
 by_cases e:j=i
 ·subst e
  rw [List.getElem?_set_self (by rw [ZJ]; exact h),row_get h,if_pos rfl]
 ·rw [List.getElem?_set_ne e]
  by_cases hi:i<c
  ·rw [row_get hi,row_get hi,if_neg (fun z=>e z.symm)]
  ·rw [List.getElem?_eq_none (by rw [ZJ]; omega),List.getElem?_eq_none (by rw [ZJ]; omega)]
theorem mk_len (T:Nat->Nat->Int) (r c:Nat):(mkT T r c).length=r:=by unfold mkT; simp
theorem mk_get {T:Nat->Nat->Int} {r c i:Nat} (h:i<r):(mkT T r c)[i]?=some (row c (T i)):=by unfold mkT; rw [List.getElem?_map,List.getElem?_range h]; rfl
theorem mk_set {T:Nat->Nat->Int} {r c i j:Nat} {v:Int} (hi:i<r) (hj:j<c):(mkT T r c).set i ((row c (T i)).set j v)=mkT (upd2 T i j v) r c:=by
 apply List.ext_getElem?
 intro a
 by_cases e:i=a
 ·subst e
  rw [List.getElem?_set_self (by rw [mk_len]; exact hi),mk_get hi,row_set hj]
  congr 1
  exact row_congr fun b _=>by
   unfold upd2
   by_cases q:b=j
   ·rw [if_pos q,if_pos ⟨rfl,q⟩]
   ·rw [if_neg q,if_neg fun z=>q z.2]
 ·rw [List.getElem?_set_ne e]
  by_cases ha:a<r
  ·rw [mk_get ha,mk_get ha]
   congr 1
   exact row_congr fun b _=>by unfold upd2; rw [if_neg fun z=>e z.1.symm]
  ·rw [List.getElem?_eq_none (by rw [mk_len]; omega),List.getElem?_eq_none (by rw [mk_len]; omega)]
section
variable {K:W.Frag} {H H':Hp} {p:Addr} {as:List Addr} {rs:List (List Int)}
theorem at_ref {as:List Addr} {k:Nat} {a:Addr} (e:as[k]?=some a):atI (as.map V.ref) (k:Int)=some (.ref a):=atI_of (by omega) (by rw [List.getElem?_map,Int.toNat_natCast,e]; rfl)
theorem at_row {c j:Nat} {f:Nat->Int} (h:j<c):atI ((row c f).map V.int) (j:Int)=some (.int (f j)):=atI_of (by omega) (by rw [List.getElem?_map,Int.toNat_natCast,row_get h]; rfl)
structure MatM (H:Hp) (p:Addr) (as:List Addr) (rs:List (List Int)):Prop where
 top:H p=some (.lst (as.map V.ref))
 nd:as.Nodup
 len:as.length=rs.length
 rows:∀(i:Nat) (a:Addr) (r:List Int),as[i]?=some a->rs[i]?=some r->H a=some (.lst (r.map V.int))
theorem MatM.mat (m:MatM H p as rs):Mat K H p rs:=⟨as,SqL.of m.top,m.len,fun i a r e1 e2=>SqL.of (m.rows i a r e1 e2)⟩
theorem MatM.same (m:MatM H p as rs) (S:Same H H'):MatM H' p as rs:=⟨S _ _ m.top,m.nd,m.len,fun i a r e1 e2=>S _ _ (m.rows i a r e1 e2)⟩
theorem mat_row {T:Nat->Nat->Int} {r c i:Nat} (h2:as.length=(mkT T r c).length) (hi:i<r):∃a,as[i]?=some a/\atI (as.map V.ref) (i:Int)=some (.ref a):=by
 rw [mk_len] at h2
 exact ⟨as[i]'(by omega),by simp,at_ref (by simp)⟩
theorem Mat.get {T:Nat->Nat->Int} {r c i:Nat} (m:Mat K H p (mkT T r c)) (hi:i<r):∃(as:List Addr) (a:Addr),Sq K H p (as.map V.ref)/\atI (as.map V.ref) (i:Int)=some (.ref a)/\Sq K H a ((row c (T i)).map V.int)/\SqL K H a ((row c (T i)).map V.int):=by
 obtain ⟨as,h1,h2,h3⟩:=m
 obtain ⟨a,e1,e2⟩:=mat_row h2 hi
 exact ⟨as,a,.inl h1,e2,.inl (h3 i a _ e1 (mk_get hi)),h3 i a _ e1 (mk_get hi)⟩
theorem Mat.top {T:Nat->Nat->Int} {r c:Nat} (m:Mat K H p (mkT T r c)):∃as:List Addr,SqL K H p (as.map V.ref)/\(as.map V.ref).length=r:=by
 obtain ⟨as,h1,h2,h3⟩:=m
 exact ⟨as,h1,by rw [List.length_map,h2,mk_len]⟩
theorem MatM.set {T:Nat->Nat->Int} {r c i j:Nat} {a:Addr} {v:Int} (m:MatM H p as (mkT T r c)) (ha:as[i]?=some a) (hi:i<r) (hj:j<c) (pa:p≠a) :
  MatM (upd H a (.lst (((row c (T i)).map V.int).set j (.int v)))) p as (mkT (upd2 T i j v) r c):=by
 refine ⟨by rw [upd_ne pa]; exact m.top,m.nd,by rw [m.len,mk_len,mk_len],fun k b x e1 e2=>?_⟩
 rw [<-mk_set hi hj] at e2
 by_cases e:b=a
 ·subst e
  have:k=i:=by
   have h1:=(List.getElem?_eq_some_iff.mp e1)
   have h2:=(List.getElem?_eq_some_iff.mp ha)
   obtain ⟨l1,q1⟩:=h1
   obtain ⟨l2,q2⟩:=h2
   exact (List.getElem_inj m.nd).mp (q1.trans q2.symm)
  subst this
  rw [List.getElem?_set_self (by rw [mk_len]; exact hi)] at e2
  cases e2
  rw [upd_same,List.map_set]
 ·rw [upd_ne e]
  have:i≠k:=fun z=>by subst z; rw [ha] at e1; cases e1; exact e rfl
  rw [List.getElem?_set_ne this] at e2
  exact m.rows k b x e1 e2
end
end L2
namespace L2
open PySem SW
theorem rowAt {K:W.Frag} {H:Hp} {ts:List Addr} {f:Nat->Nat->Int} {r c:Nat} (lt:ts.length=r) (hrows:∀(i:Nat) (a:Addr) (x:List Int),ts[i]?=some a->(mkT f r c)[i]?=some x->SqL K H a (x.map V.int)) {i:Nat} {x:V} (hx:(ts.map V.ref)[i]?=some x) :
  ∃b,x = .ref b/\ts[i]?=some b/\i<r/\SqL K H b ((row c (f i)).map V.int):=by
 rw [List.getElem?_map] at hx
 cases ea:ts[i]? with
 | none=>rw [ea] at hx; cases hx
 | some b=>
  rw [ea] at hx
  have hi:i<r:=by have:=(List.getElem?_eq_some_iff.mp ea).1; omega
  exact ⟨b,(Option.some.inj hx).symm,rfl,hi,hrows i b _ ea (mk_get hi)⟩
theorem comp_rows {K:W.Frag} {te:TE} {σ:St} {j:Nat} {R:List V->Hp->Prop} {H1:Hp} {a:Addr} {ts:List Addr} {f:Nat->Nat->Int} {r c:Nat} (ht:SqL K H1 a (ts.map V.ref)) (lt:ts.length=r) (hz:r<=sizeLine)
  (hrows:∀(i:Nat) (a:Addr) (x:List Int),ts[i]?=some a->(mkT f r c)[i]?=some x->SqL K H1 a (x.map V.int)) (g:Nat->Int)
  (hs:∀(i:Nat) (b:Addr) (Q:VK),i<r->SqL K H1 b ((row c (f i)).map V.int)->Q (.int (g i)) H1->te (σ.set j (some (.ref b))) H1 Q) (hd:R ((row r g).map V.int) H1) :
  CompW (Itl K a) (gName j) tYes te (wipe [j] σ) R H1:=by
 refine comp_list (xs:=ts.map V.ref) (fun i ys H'=>H'=H1/\ys=(row i g).map V.int) (by rw [List.length_map,lt]; exact hz) ⟨rfl,rfl⟩ (fun i ys H' _ h=>by rw [h.1]; exact ht) ?_ ?_
 ·rintro i x ys H' hx ⟨rfl,rfl⟩
  obtain ⟨b,rfl,ea,hi,hb⟩:=rowAt lt hrows hx
  refine yes (hs i b _ hi hb ⟨rfl,?_⟩)
  rw [row_succ,List.map_append]; rfl
 ·rintro ys H' ⟨rfl,rfl⟩
  rw [List.length_map,lt]
  exact hd
theorem MatM.keep {H:Hp} {p b:Addr} {as:List Addr} {rs:List (List Int)} {o:HO} (m:MatM H p as rs) (pb:p≠b) (ba:b∉as):MatM (upd H b o) p as rs:=
 ⟨by rw [upd_ne pb]; exact m.top,m.nd,m.len,fun i a r e1 e2=>by
  have ab:a≠b:=fun z=>by subst z; exact ba (List.mem_of_getElem? e1)
  rw [upd_ne ab]; exact m.rows i a r e1 e2⟩
end L2
namespace SW
open PySem L2
def spBelowF:Sp:=fun vs H Q _=>∃(p q:Addr) (a b c d:Int),vs=[.ref p,.ref q]/\H p=some (.tup [.int a,.int b])/\H q=some (.tup [.int c,.int d])/\CMulF a d/\CMulF c b/\Q (.bl (decide (a*d<c*b))) H
def spLFitsF:Sp:=fun vs H Q _=>∃(t:Addr) (u v p q n:Int),vs=[.int u,.int v,.ref t,.int n]/\H t=some (.tup [.int p,.int q])/\0<p/\p<=q/\q<=1000/\0<=n/\n<=1000/\Q (.bl (fitsB u v p q n)) H
theorem ZG {i:Int} {k:Nat} (h0:0<=i) (h:i<2 ^ k) (hk:k<=8192):Fits i:=by
 unfold Fits
 have h1:(i.natAbs:Int)<((2 ^ k:Nat):Int):=by
  rw [Int.natAbs_of_nonneg h0]
  exact_mod_cast h
 exact Nat.lt_of_lt_of_le (by exact_mod_cast h1) (Nat.pow_le_pow_right (by decide) hk)
structure WaysH (H:Hp) (wl:Addr) (ds:List Addr) (kv:Nat->List (Key×V)) (n:Nat) (E:Nat->Nat->Option Q2):Prop where
 top:H wl=some (.lst (ds.map V.ref))
 len:ds.length=n
 dnd:ds.Nodup
 dict:∀(u:Nat) (d:Addr),ds[u]?=some d->H d=some (.dK (kv u))
 val:∀(u v:Nat) (w:Q2),u<n->E u v=some w->∃t,valV (kv u) (.inl (v:Int))=some (.ref t)/\H t=some (.tup [.int w.1,.int w.2])
 key:∀(u:Nat) (kx:Key×V),u<n->kx∈kv u->∃(v:Nat) (w:Q2),kx.1 = .inl (v:Int)/\v<n/\E u v=some w
 nd:∀u,u<n->((kv u).map (·.1)).Nodup
theorem WaysH.same {H H':Hp} {wl:Addr} {ds:List Addr} {kv:Nat->List (Key×V)} {n:Nat} {E:Nat->Nat->Option Q2} (W:WaysH H wl ds kv n E) (S:Same H H'):WaysH H' wl ds kv n E:=
 ⟨S _ _ W.top,W.len,W.dnd,fun u d e=>S _ _ (W.dict u d e),fun u v w hu e=>by
  obtain ⟨t,h1,h2⟩:=W.val u v w hu e
  exact ⟨t,h1,S _ _ h2⟩,W.key,W.nd⟩
def CostAt (H:Hp) (x:V):Option Q2->Prop
 | none=>x = .non
 | some d=>∃t,x = .ref t/\H t=some (.tup [.int d.1,.int d.2])
def vAh:Option Nat->V
 | none => .non
 | some u => .int (u:Int)
def rchF (cl al:Addr):List (Str×V):=[("costs",.ref cl),("ahead",.ref al)]
structure RchH (cR:Addr) (H:Hp) (p dx cl al:Addr) (n:Nat) (D:Nat->Option Q2) (ah:Nat->Option Nat):Prop where
 ob:H p=some (.ins cR dx (rchF cl al))
 co:∃xs,H cl=some (.lst xs)/\xs.length=n/\∀(v:Nat) (x:V),xs[v]?=some x->CostAt H x (D v)
 ah:H al=some (.lst ((List.range n).map fun v=>vAh (ah v)))
 ne:cl≠al
def netF (vt rl:Addr) (h:Int) (sl wl:Addr):List (Str×V):=[("votes",.ref vt),("rule",.ref rl),("height",.int h),("seats",.ref sl),("ways",.ref wl)]
end SW
namespace SW
open PySem PySem.Spec PyProof.Rows L2
def tMeth2 (C1 C2:Addr) (m:Str) (sp:Bool->Sp) (ta:TE) (t:TA):TE:=fun σ H Q=>ta σ H fun x H1=>∃(a:Addr) (b:Bool) (dx:Addr) (fs:List (Str×V)),x = .ref a/\H1 a=some (.ins (cond b C1 C2) dx fs)/\fs.lookup m=none /\
 t σ H1 fun vs H2=>sp b (.ref a :: vs) H2 Q E0
section
variable {X:Cx} {o e:Expr} {es:List Expr} {ta:TE} {t:TA} {apos pos:Pos} {fd1 fd2:FuncData} {k1 k2:Nat} {ps1 ps2:List Str} {sp:Bool->Sp} {C1 C2 f1 f2:Addr} {m:Str}
end
def d3 (rs:List (List Int)) (ns ms:List Int):PyData:=.list [dM rs,dI ns,dI ms]
def Trip (K:W.Frag) (H:Hp) (p:Addr) (rs:List (List Int)) (ns ms:List Int):Prop:=∃a b c,SqL K H p [.ref a,.ref b,.ref c]/\Mat K H a rs/\SqL K H b (ns.map V.int)/\SqL K H c (ms.map V.int)
def rSame3 (K:W.Frag) (neg:Bool):R2:=fun x y H Q=>∃(p q:Addr) (rs:List (List Int)) (ns ms:List Int),x = .ref p/\y = .ref q/\Trip K H p rs ns ms/\Trip K H q rs ns ms/\Q (.bl (!neg)) H
section
variable {X:Cx} (K:W.Frag)
end
end SW
namespace SW
structure Wk (r c:Nat) (st:Int) (p:Nat->Nat) (k:Nat):Prop where
 opp:∀j,j<k->opp r c (p j) (p (j+1))
 cells:∀i j,i<j->j<k->¬(rr r p i=rr r p j/\rc r p i=rc r p j)
 sg:∀t,t<k->dlt st t=if p t<r then 1 else -1
section
variable {r c:Nat} {st:Int} {p:Nat->Nat} {k:Nat} {S:Nat->Nat->Int}
theorem Wk.next (W:Wk r c st p k) {m:Nat} (hm:m<k):moved r p st S m (rr r p m) (rc r p m)=S (rr r p m) (rc r p m):=
 moved_out fun i hi e=>W.cells i m hi hm ⟨e.1.symm,e.2.symm⟩
theorem Wk.at_ (W:Wk r c st p k) {s m:Nat} (hs:s<m) (hm:m<=k):moved r p st S m (rr r p s) (rc r p s)=S (rr r p s) (rc r p s)+dlt st s:=by
 induction m with
 | zero=>omega
 | succ m ih=>
  show upd2 _ _ _ _ _ _=_
  by_cases e:s=m
  ·subst e; rw [upd2_same]
  ·rw [upd2_ne (W.cells s m (by omega) (by omega)),ih (by omega) (by omega)]
theorem Wk.ls (W:Wk r c st p k) {x:Nat} (hx:x<r+c):∀m,m<=k->ls r c (moved r p st S m) x=ls r c S x+dlt st 0*(if p 0=x then 1 else 0) - dlt st m*(if p m=x then 1 else 0):=by
 intro m
 induction m with
 | zero=>intro _; show SW.ls r c S x=_; omega
 | succ m ih=>
  intro hm
  obtain ⟨c1,c2,c3⟩:=opp_cell (W.opp m (by omega))
  show SW.ls r c (upd2 (moved r p st S m) (rr r p m) (rc r p m) (S (rr r p m) (rc r p m)+dlt st m)) x=_
  rw [ls_upd (i:=rr r p m) (j:=rc r p m) c1 c2 hx,W.next (by omega),ih (by omega)]
  have e1:S (rr r p m) (rc r p m)+dlt st m - S (rr r p m) (rc r p m)=dlt st m:=by omega
  rw [e1]
  have e2:dlt st (m+1) = - dlt st m:=by
   unfold dlt
   by_cases q:m % 2=0
   ·rw [if_pos q,if_neg (by omega)]
   ·rw [if_neg q,if_pos (by omega)]; omega
  rw [e2]
  have e3:((if rr r p m=x then (1:Int) else 0)+(if r+rc r p m=x then 1 else 0))=(if p m=x then 1 else 0)+(if p (m+1)=x then 1 else 0):=by
   unfold rr rc
   rcases c3 with ⟨a,b⟩ | ⟨a,b⟩
   ·rw [<-a,<-b]
   ·rw [<-a,<-b]; omega
  rw [e3,Int.mul_add,Int.neg_mul]
  omega
end
theorem Way.wk {r c:Nat} {E:Nat->Nat->Option Q2} {D:Nat->Option Q2} {p:Nat->Nat} {k:Nat} (W:Way r c E D p k) (h0:p 0<r):Wk r c 1 p k:=
 ⟨W.opp,fun i j hij hj=>W.cells hij hj,fun t ht=>by
  have:=W.alt h0 t (by omega)
  unfold dlt
  by_cases q:p t<r
  ·rw [if_pos q,if_pos (this.mp q)]
  ·rw [if_neg q,if_neg (fun z=>q (this.mpr z))]⟩
def La (W:Nat->List Nat):Nat->Nat->Bool
 | 0,_=>true
 | t+1,v=>(W v).any fun o=>La W t o
theorem La_anti (W:Nat->List Nat):∀(t v:Nat),La W (t+1) v=true->La W t v=true
 | 0,_,_=>rfl
 | t+1,v,h=>by
  have h:((W v).any fun o=>La W (t+1) o)=true:=h
  show ((W v).any fun o=>La W t o)=true
  rw [List.any_eq_true] at h ⊢
  obtain ⟨o,ho,h⟩:=h
  exact ⟨o,ho,La_anti W t o h⟩
def cntL (W:Nat->List Nat) (n t:Nat):Int:=sumZ n fun v=>if La W t v=true then 1 else 0
theorem La_stable (W:Nat->List Nat) (n:Nat) (hW:∀u v,u<n->v∈W u->v<n):∀v,v<n->La W n v=true->La W (n+1) v=true:=by
 have same:∀t,(∀v,v<n->La W t v=true->La W (t+1) v=true)->∀v,v<n->La W (t+1) v=true->La W (t+2) v=true:=fun t h v hv h1=>by
  have h1:((W v).any fun o=>La W t o)=true:=h1
  show ((W v).any fun o=>La W (t+1) o)=true
  rw [List.any_eq_true] at h1 ⊢
  obtain ⟨o,ho,h2⟩:=h1
  exact ⟨o,ho,h o (hW v o hv ho) h2⟩
 have key:∀t,(∀v,v<n->La W t v=true->La W (t+1) v=true)\/cntL W n t<=n - t:=by
  intro t
  induction t with
  | zero=>
   right
   have:=sumZ_le (n:=n) (f:=fun v=>if La W 0 v=true then 1 else 0) (g:=fun _=>1) fun v _=>by split <;> omega
   have e:∀m:Nat,sumZ m (fun _=>1)=(m:Int):=fun m=>by
    induction m with
    | zero=>rfl
    | succ m ih=>show sumZ m (fun _=>1)+1=_; rw [ih]; omega
   rw [e] at this
   unfold cntL
   omega
  | succ t ih=>
   rcases ih with h | h
   ·exact .inl (same t h)
   ·by_cases q:∀v,v<n->La W t v=true->La W (t+1) v=true
    ·exact .inl (same t q)
    ·right
     obtain ⟨v,hv⟩:=Classical.not_forall.mp q
     obtain ⟨hvn,hv⟩:=Classical.not_imp.mp hv
     obtain ⟨h1,h2⟩:=Classical.not_imp.mp hv
     have:=sumZ_lt (n:=n) (f:=fun v=>if La W (t+1) v=true then 1 else 0) (g:=fun v=>if La W t v=true then 1 else 0) (k:=v) (fun u _=>by
      by_cases z:La W (t+1) u=true
      ·rw [if_pos z,if_pos (La_anti W t u z)]; exact Int.le_refl _
      ·rw [if_neg z]; split <;> omega) hvn (by rw [if_neg h2,if_pos h1]; decide)
     unfold cntL at h ⊢
     omega
 intro v hv h
 rcases key n with q | q
 ·exact q v hv h
 ·exfalso
  have:=sumZ_lt (n:=n) (f:=fun _=>0) (g:=fun v=>if La W n v=true then 1 else 0) (k:=v) (fun u _=>by show (0:Int)<=if La W n u=true then 1 else 0; split <;> omega) hv (by rw [if_pos h]; decide)
  rw [sumZ_zero] at this
  unfold cntL at q
  omega
theorem La_next {W:Nat->List Nat} {n:Nat} (hW:∀u v,u<n->v∈W u->v<n) {v:Nat} (hv:v<n) (h:La W n v=true):∃o,o∈W v/\La W n o=true:=by
 have h1:((W v).any fun o=>La W n o)=true:=La_stable W n hW v hv h
 rw [List.any_eq_true] at h1
 exact h1
structure Cyc (W:Nat->List Nat) (n:Nat) (p:Nat->Nat) (k:Nat):Prop where
 pos:0<k
 back:p k=p 0
 lt:∀t,t<=k->p t<n
 nx:∀t,t<k->p (t+1)∈W (p t)
 apart:∀i j,i<j->j<k->p i≠p j
end SW
namespace SW
def lam (r c:Nat) (R C:Nat->Q2) (v:Nat):Q2:=if v<r then ((R v).2,(R v).1) else if v<r+c then C (v - r) else (1,1)
theorem lam_row {r c i:Nat} {R C:Nat->Q2} (h:i<r):lam r c R C i=((R i).2,(R i).1):=if_pos h
theorem lam_col {r c j:Nat} {R C:Nat->Q2} (h:j<c):lam r c R C (r+j)=C j:=by unfold lam; rw [if_neg (by omega),if_pos (by omega),show r+j - r=j by omega]
theorem lam_pos {r c:Nat} {R C:Nat->Q2} (hr:∀i,i<r->qpos (R i)) (hc:∀j,j<c->qpos (C j)) (v:Nat):qpos (lam r c R C v):=by
 unfold lam
 split
 ·exact ⟨(hr v ‹_›).2,(hr v ‹_›).1⟩
 ·split
  ·exact hc (v - r) (by omega)
  ·exact ⟨by decide,by decide⟩
theorem lam_all {r c:Nat} {R C:Nat->Q2} {Pp:Q2->Prop} (hr:∀i,i<r->Pp ((R i).2,(R i).1)) (hc:∀j,j<c->Pp (C j)) {v:Nat} (hv:v<r+c):Pp (lam r c R C v):=by
 by_cases h:v<r
 ·rw [lam_row h]; exact hr v h
 ·have:lam r c R C v=C (v - r):=by unfold lam; rw [if_neg h,if_pos hv]
  rw [this]
  exact hc _ (by omega)
def just (p w q:Q2):Prop:=p.1*w.1*q.2=q.1*p.2*w.2
theorem just_iff {p w q:Q2}:just p w q↔qle (qmul p w) q/\qle q (qmul p w):=by
 unfold just qle qmul
 show _↔(p.1*w.1*q.2<=q.1*(p.2*w.2)/\q.1*(p.2*w.2)<=p.1*w.1*q.2)
 rw [Int.mul_assoc q.1 p.2 w.2]
 omega
def UpT (a b v s:Int) (p q:Q2):Prop:=0<v/\q.1*p.2*(b*v)=p.1*q.2*(a+s*b)
def DnT (a b v s:Int) (p q:Q2):Prop:=0<s/\p.1*q.2*(a+(s - 1)*b)=q.1*p.2*(b*v)
def FreeE (a b:Int) (V S:Nat->Nat->Int) (r c:Nat) (pi:Nat->Q2) (u v:Nat):Prop:=
 (∃i j,i<r/\j<c/\u=i/\v=r+j/\UpT a b (V i j) (S i j) (pi i) (pi (r+j)))\/(∃i j,i<r/\j<c/\u=r+j/\v=i/\DnT a b (V i j) (S i j) (pi i) (pi (r+j)))
section
variable {a b:Int} {V S:Nat->Nat->Int} {r c:Nat} {E:Nat->Nat->Option Q2} {pi:Nat->Q2}
theorem NetE.free (N:NetE a b V S r c E) (T:TabOk a b V S r c) {u v:Nat}:(∃w,E u v=some w/\just (pi u) w (pi v))↔FreeE a b V S r c pi u v:=by
 have b0:0<b:=by have:=T.a0; have:=T.ab; omega
 constructor
 ·rintro ⟨w,h,j0⟩
  rw [just_iff] at j0
  rcases N.out u v w h with ⟨i,j,hi,hj,rfl,rfl,hv⟩ | ⟨i,j,hi,hj,rfl,rfl,hs⟩
  ·obtain ⟨x,y,e,pr⟩:=N.up u j hi hj hv
   rw [e] at h
   cases h
   have h1:=(way_up b0 hv pr).mp j0.2
   have h2:=(way_upT b0 hv pr).mp j0.1
   exact .inl ⟨u,j,hi,hj,rfl,rfl,hv,Int.le_antisymm h1 h2⟩
  ·obtain ⟨x,y,e,pr⟩:=N.dn v j hi hj hs
   rw [e] at h
   cases h
   have hv:=T.z v j hi hj hs
   have h1:=(way_dn b0 hv pr).mp j0.2
   have h2:=(way_dnT b0 hv pr).mp j0.1
   exact .inr ⟨v,j,hi,hj,rfl,rfl,hs,Int.le_antisymm h1 h2⟩
 ·rintro (⟨i,j,hi,hj,rfl,rfl,hv,h⟩ | ⟨i,j,hi,hj,rfl,rfl,hs,h⟩)
  ·obtain ⟨x,y,e,pr⟩:=N.up u j hi hj hv
   exact ⟨_,e,just_iff.mpr ⟨(way_upT b0 hv pr).mpr (by omega),(way_up b0 hv pr).mpr (by omega)⟩⟩
  ·obtain ⟨x,y,e,pr⟩:=N.dn v j hi hj hs
   have hv:=T.z v j hi hj hs
   exact ⟨_,e,just_iff.mpr ⟨(way_dnT b0 hv pr).mpr (by omega),(way_dn b0 hv pr).mpr (by omega)⟩⟩
theorem FreeE.opp {u v:Nat} (h:FreeE a b V S r c pi u v):opp r c u v:=by
 rcases h with ⟨i,j,hi,hj,rfl,rfl,_⟩ | ⟨i,j,hi,hj,rfl,rfl,_⟩
 ·exact .inl ⟨hi,by omega,by omega⟩
 ·exact .inr ⟨by omega,by omega,hi⟩
theorem FreeE.up {i j:Nat} (hi:i<r) (h:FreeE a b V S r c pi i (r+j)):UpT a b (V i j) (S i j) (pi i) (pi (r+j)):=by
 rcases h with ⟨i',j',hi',hj',e1,e2,h⟩ | ⟨i',j',hi',hj',e1,e2,h⟩
 ·have:j'=j:=by omega
  subst e1 this
  exact h
 ·omega
theorem FreeE.dn {i j:Nat} (hi:i<r) (h:FreeE a b V S r c pi (r+j) i):DnT a b (V i j) (S i j) (pi i) (pi (r+j)):=by
 rcases h with ⟨i',j',hi',hj',e1,e2,h⟩ | ⟨i',j',hi',hj',e1,e2,h⟩
 ·omega
 ·have:j'=j:=by omega
  subst e2 this
  exact h
theorem no_both {v s:Int} {p q:Q2} (b0:0<b) (hp:qpos p) (hq:qpos q) (h1:UpT a b v s p q) (h2:DnT a b v s p q):False:=by
 have e:p.1*q.2*(a+s*b)=p.1*q.2*(a+(s - 1)*b):=h1.2.symm.trans h2.2.symm
 have k:0<p.1*q.2:=Int.mul_pos hp.1 hq.2
 have e2:a+s*b=a+(s - 1)*b:=Int.eq_of_mul_eq_mul_left (by omega) e
 have e3:(s - 1)*b=s*b - b:=by rw [Int.sub_mul,Int.one_mul]
 omega
structure Tw (a b:Int) (V S S':Nat->Nat->Int) (r c:Nat) (pi:Nat->Q2):Prop where
 rows:∀i,i<r->sumZ c (S' i)=sumZ c (S i)
 cols:∀j,j<c->sumZ r (fun i=>S' i j)=sumZ r (fun i=>S i j)
 s0:∀i j,i<r->j<c->0<=S' i j/\S' i j<=S i j+1/\(0<S' i j->0<V i j)
 cells:Cells a b V S' r c pi
 ne:∃i j,i<r/\j<c/\S' i j≠S i j
structure FRing (a b:Int) (V S:Nat->Nat->Int) (r c:Nat) (pi:Nat->Q2) (p:Nat->Nat) (k:Nat):Prop where
 pos:0<k
 back:p k=p 0
 fr:∀t,t<k->FreeE a b V S r c pi (p t) (p (t+1))
 apart:∀i j,i<j->j<k->p i≠p j
theorem FRing.ring (F:FRing a b V S r c pi p k) (b0:0<b) (pp:∀v,qpos (pi v)):Ring r c 2 (fun _ _=>1) p k:=by
 have hopp:=fun t (ht:t<k)=>(F.fr t ht).opp
 have k0:=F.pos
 have bk:=F.back
 have big:3<=k:=by
  have n1:k≠1:=fun z=>by
   subst z
   rcases hopp 0 (by omega) with ⟨x,y,_⟩ | ⟨x,y,_⟩ <;> rw [bk] at * <;> omega
  have n2:k≠2:=fun z=>by
   subst z
   have f0:=F.fr 0 (by omega)
   have f1:=F.fr 1 (by omega)
   rw [bk] at f1
   have f1':FreeE a b V S r c pi (p 1) (p 0):=f1
   have f0':FreeE a b V S r c pi (p 0) (p 1):=f0
   rcases f0' with ⟨i,j,hi,hj,e1,e2,h⟩ | ⟨i,j,hi,hj,e1,e2,h⟩
   ·rw [e1,e2] at f1'
    exact no_both b0 (pp i) (pp _) h (f1'.dn hi)
   ·rw [e1,e2] at f1'
    exact no_both b0 (pp i) (pp _) (f1'.up hi) h
  omega
 exact ⟨big,bk,hopp,fun t _=>⟨(by show (0:Int)<1; decide),(by show (1:Int)<2; decide)⟩,F.apart⟩
def stOf (r:Nat) (p:Nat->Nat):Int:=if p 0<r then 1 else -1
theorem FRing.wk (F:FRing a b V S r c pi p k) (b0:0<b) (pp:∀v,qpos (pi v)):Wk r c (stOf r p) p k:=by
 have R:=F.ring b0 pp
 refine ⟨R.way,fun i j hij hj=>R.cells hij hj,fun t ht=>?_⟩
 have:=R.alt t (by omega)
 unfold dlt stOf
 by_cases h0:p 0<r
 ·rw [if_pos h0]
  by_cases q:t % 2=0
  ·rw [if_pos q,if_pos (by omega)]
  ·rw [if_neg q,if_neg (by omega)]
 ·rw [if_neg h0]
  by_cases q:t % 2=0
  ·rw [if_pos q,if_neg (by omega)]
  ·rw [if_neg q,if_pos (by omega)]; rfl
theorem FRing.cell (F:FRing a b V S r c pi p k) {t:Nat} (ht:t<k):rr r p t<r/\rc r p t<c/\((p t<r/\UpT a b (V (rr r p t) (rc r p t)) (S (rr r p t) (rc r p t)) (pi (rr r p t)) (pi (r+rc r p t))/\p t=rr r p t/\p (t+1)=r+rc r p t)\/(¬p t<r/\DnT a b (V (rr r p t) (rc r p t)) (S (rr r p t) (rc r p t)) (pi (rr r p t)) (pi (r+rc r p t))/\p t=r+rc r p t/\p (t+1)=rr r p t)):=by
 obtain ⟨c1,c2,c3⟩:=opp_cell (F.fr t ht).opp
 refine ⟨c1,c2,?_⟩
 have f:=F.fr t ht
 rcases c3 with ⟨e1,e2⟩ | ⟨e1,e2⟩
 ·left
  have e1':p t=rr r p t:=e1
  have e2':p (t+1)=r+rc r p t:=e2
  have hi:rr r p t<r:=c1
  rw [e1',e2'] at f
  exact ⟨by omega,f.up hi,e1',e2'⟩
 ·right
  have e1':p (t+1)=rr r p t:=e1
  have e2':p t=r+rc r p t:=e2
  have hi:rr r p t<r:=c1
  rw [e1',e2'] at f
  exact ⟨by omega,f.dn hi,e2',e1'⟩
theorem FRing.tw (F:FRing a b V S r c pi p k) (T:TabOk a b V S r c) (pp:∀v,qpos (pi v)) (cs:Cells a b V S r c pi):Tw a b V S (moved r p (stOf r p) S k) r c pi:=by
 have b0:0<b:=by have:=T.a0; have:=T.ab; omega
 have R:=F.ring b0 pp
 have W:=F.wk b0 pp
 have sums:∀x,x<r+c->SW.ls r c (moved r p (stOf r p) S k) x=SW.ls r c S x:=fun x hx=>by
  rw [W.ls hx k (Nat.le_refl _),F.back]
  have:dlt (stOf r p) k=dlt (stOf r p) 0:=by unfold dlt; rw [if_pos R.even,if_pos rfl]
  rw [this]
  omega
 have cell:∀t,t<k->0<V (rr r p t) (rc r p t)/\0<=S (rr r p t) (rc r p t)+dlt (stOf r p) t/\dlt (stOf r p) t<=1/\dlt (stOf r p) t≠0/\CellOk a b (V (rr r p t) (rc r p t)) (S (rr r p t) (rc r p t)+dlt (stOf r p) t) (pi (rr r p t)) (pi (r+rc r p t)):=fun t ht=>by
  obtain ⟨c1,c2,h⟩:=F.cell ht
  have s0:=T.s0 _ _ c1 c2
  have k0:0<(pi (rr r p t)).1*(pi (r+rc r p t)).2:=Int.mul_pos (pp _).1 (pp _).2
  have kb:0<=(pi (rr r p t)).1*(pi (r+rc r p t)).2*b:=Int.mul_nonneg (Int.le_of_lt k0) (Int.le_of_lt b0)
  rw [W.sg t ht]
  rcases h with ⟨hp,⟨hv,e⟩,_⟩ | ⟨hp,⟨hs,e⟩,_⟩
  ·rw [if_pos hp]
   refine ⟨hv,by omega,by omega,by decide,?_,fun _=>?_⟩
   ·rw [e,Int.add_mul,Int.one_mul,<-Int.add_assoc,Int.mul_add _ (a+S (rr r p t) (rc r p t)*b) b]
    omega
   ·rw [show S (rr r p t) (rc r p t)+1 - 1=S (rr r p t) (rc r p t) by omega]
    omega
  ·rw [if_neg hp]
   have e1:S (rr r p t) (rc r p t) + -1=S (rr r p t) (rc r p t) - 1:=by omega
   rw [e1]
   refine ⟨T.z _ _ c1 c2 hs,by omega,by decide,by decide,by omega,fun _=>?_⟩
   rw [<-e,Int.sub_mul (S (rr r p t) (rc r p t) - 1) 1 b,Int.one_mul,<-Int.add_sub_assoc,Int.mul_sub]
   omega
 have out:∀i j,(∃t,t<k/\i=rr r p t/\j=rc r p t)\/moved r p (stOf r p) S k i j=S i j:=fun i j=>by
  by_cases q:∃t,t<k/\i=rr r p t/\j=rc r p t
  ·exact .inl q
  ·exact .inr (moved_out fun t ht e=>q ⟨t,ht,e.1,e.2⟩)
 refine ⟨fun i hi=>?_,fun j hj=>?_,fun i j hi hj=>?_,fun i j hi hj hv=>?_,?_⟩
 ·have:=sums i (by omega)
  unfold SW.ls at this
  rw [if_pos hi,if_pos hi] at this
  exact this
 ·have:=sums (r+j) (by omega)
  unfold SW.ls at this
  rw [if_neg (by omega),if_neg (by omega),show r+j - r=j by omega] at this
  exact this
 ·rcases out i j with ⟨t,ht,rfl,rfl⟩ | e
  ·obtain ⟨h1,h2,h3,h4,h5⟩:=cell t ht
   rw [W.at_ ht (Nat.le_refl _)]
   exact ⟨h2,by omega,fun _=>h1⟩
  ·rw [e]
   have:=T.s0 i j hi hj
   exact ⟨this.1,by omega,T.z i j hi hj⟩
 ·rcases out i j with ⟨t,ht,rfl,rfl⟩ | e
  ·rw [W.at_ ht (Nat.le_refl _)]
   exact (cell t ht).2.2.2.2
  ·rw [e]
   exact cs i j hi hj hv
 ·obtain ⟨c1,c2,_⟩:=F.cell F.pos
  refine ⟨_,_,c1,c2,?_⟩
  rw [W.at_ F.pos (Nat.le_refl _)]
  have:=(cell 0 F.pos).2.2.2.1
  omega
theorem FRing.rev (F:FRing a b V S r c pi p k) (T:TabOk a b V S r c) (pp:∀v,qpos (pi v)) {t:Nat} (ht:t<k):FreeE a b V (moved r p (stOf r p) S k) r c pi (p (t+1)) (p t):=by
 have b0:0<b:=by have:=T.a0; have:=T.ab; omega
 have W:=F.wk b0 pp
 obtain ⟨c1,c2,h⟩:=F.cell ht
 have e:=W.at_ (S:=S) ht (Nat.le_refl k)
 rw [W.sg t ht] at e
 have s0:=T.s0 _ _ c1 c2
 rcases h with ⟨hp,⟨hv,e1⟩,e2,e3⟩ | ⟨hp,⟨hs,e1⟩,e2,e3⟩
 ·rw [if_pos hp] at e
  rw [e2,e3]
  refine .inr ⟨_,_,c1,c2,rfl,rfl,?_⟩
  rw [e]
  refine ⟨by omega,?_⟩
  rw [show S (rr r p t) (rc r p t)+1 - 1=S (rr r p t) (rc r p t) by omega]
  exact e1.symm
 ·rw [if_neg hp] at e
  rw [e2,e3]
  refine .inl ⟨_,_,c1,c2,rfl,rfl,?_⟩
  rw [e]
  refine ⟨T.z _ _ c1 c2 hs,?_⟩
  rw [show S (rr r p t) (rc r p t) + -1=S (rr r p t) (rc r p t) - 1 by omega]
  exact e1.symm
end
def Go (a b:Int) (V S:Nat->Nat->Int) (r c:Nat) (pi:Nat->Q2):Nat->Nat->Prop
 | 0,_=>True
 | t+1,v=>∃o,FreeE a b V S r c pi v o/\Go a b V S r c pi t o
theorem Go_closed {a b:Int} {V S:Nat->Nat->Int} {r c:Nat} {pi:Nat->Q2} {X:Nat->Prop} (h:∀v,X v->∃o,FreeE a b V S r c pi v o/\X o):∀(t v:Nat),X v->Go a b V S r c pi t v
 | 0,_,_=>trivial
 | t+1,v,hv=>by
  obtain ⟨o,h1,h2⟩:=h v hv
  exact ⟨o,h1,Go_closed h t o h2⟩
theorem La_go {a b:Int} {V S:Nat->Nat->Int} {r c n:Nat} {pi:Nat->Q2} {W:Nat->List Nat} (hW:∀u v,u<n->(v∈W u↔FreeE a b V S r c pi u v)) (lt:∀u v,u<n->v∈W u->v<n):∀(t v:Nat),v<n->(La W t v=true↔Go a b V S r c pi t v)
 | 0,_,_=>⟨fun _=>trivial,fun _=>rfl⟩
 | t+1,v,hv=>by
  show ((W v).any fun o=>La W t o)=true↔_
  rw [List.any_eq_true]
  constructor
  ·rintro ⟨o,h1,h2⟩
   exact ⟨o,(hW v o hv).mp h1,(La_go hW lt t o (lt v o hv h1)).mp h2⟩
  ·rintro ⟨o,h1,h2⟩
   have hm:=(hW v o hv).mpr h1
   exact ⟨o,hm,(La_go hW lt t o (lt v o hv hm)).mpr h2⟩
theorem Cyc.fring {a b:Int} {V S:Nat->Nat->Int} {r c n:Nat} {pi:Nat->Q2} {W:Nat->List Nat} {p:Nat->Nat} {k:Nat} (hW:∀u v,u<n->(v∈W u↔FreeE a b V S r c pi u v)) (x:Cyc W n p k):FRing a b V S r c pi p k:=
 ⟨x.pos,x.back,fun t ht=>(hW _ _ (x.lt t (by omega))).mp (x.nx t ht),x.apart⟩
theorem FRing.go {a b:Int} {V S:Nat->Nat->Int} {r c k:Nat} {pi:Nat->Q2} {p:Nat->Nat} (F:FRing a b V S r c pi p k) (T:TabOk a b V S r c) (pp:∀v,qpos (pi v)) (m:Nat):Go a b V (moved r p (stOf r p) S k) r c pi m (p 0):=by
 refine Go_closed (X:=fun v=>∃t,t<k/\p t=v) (fun v hv=>?_) m (p 0) ⟨0,F.pos,rfl⟩
 obtain ⟨t,ht,rfl⟩:=hv
 by_cases z:t=0
 ·subst z
  refine ⟨p (k - 1),?_,k - 1,by have:=F.pos; omega,rfl⟩
  have:=F.rev T pp (t:=k - 1) (by have:=F.pos; omega)
  rw [show k - 1+1=k by have:=F.pos; omega,F.back] at this
  exact this
 ·refine ⟨p (t - 1),?_,t - 1,by omega,rfl⟩
  have:=F.rev T pp (t:=t - 1) (by omega)
  rw [show t - 1+1=t by omega] at this
  exact this
theorem cell_of_fits {a b v s:Int} {R C:Q2} (h:fitsB (v*R.1*C.1) (R.2*C.2) a b s=true):CellOk a b v s (R.2,R.1) C:=by
 unfold fitsB at h
 rw [Bool.and_eq_true] at h
 obtain ⟨h1,h2⟩:=h
 have h2:=of_decide_eq_true h2
 have e1:v*R.1*C.1*b=C.1*R.1*(b*v):=by grind
 rw [e1] at h2
 refine ⟨h2,fun hs=>?_⟩
 rw [decide_eq_true hs,e1] at h1
 rcases Int.lt_or_le (C.1*R.1*(b*v)) (R.2*C.2*(a+(s - 1)*b)) with z | z
 ·rw [decide_eq_true z] at h1
  cases h1
 ·exact z
theorem fits_of_cell {a b v s:Int} {R C:Q2} (h:CellOk a b v s (R.2,R.1) C):fitsB (v*R.1*C.1) (R.2*C.2) a b s=true:=by
 unfold fitsB
 have e1:v*R.1*C.1*b=C.1*R.1*(b*v):=by grind
 rw [e1,Bool.and_eq_true]
 obtain ⟨h1,h2⟩:=h
 refine ⟨?_,decide_eq_true h1⟩
 by_cases hs:0<s
 ·have:=h2 hs
  have h3:¬C.1*R.1*(b*v)<R.2*C.2*(a+(s - 1)*b):=by
   show ¬C.1*R.1*(b*v)<R.2*C.2*(a+(s - 1)*b)
   have h4:R.2*C.2*(a+(s - 1)*b)<=C.1*R.1*(b*v):=this
   omega
  rw [decide_eq_false h3]
  simp
 ·rw [decide_eq_false hs]
  rfl
end SW
namespace SW
section
variable {a b:Int} {V S:Nat->Nat->Int} {r c:Nat} {pi pi':Nat->Q2}
theorem Go_drop:∀(t v:Nat),Go a b V S r c pi (t+1) v->Go a b V S r c pi t v
 | 0,_,_=>trivial
 | t+1,v,h=>by
  obtain ⟨o,h1,h2⟩:=h
  exact ⟨o,h1,Go_drop t o h2⟩
theorem Go_le {t v:Nat}:∀d:Nat,Go a b V S r c pi (t+d) v->Go a b V S r c pi t v
 | 0,h=>h
 | d+1,h=>Go_le d (Go_drop (t+d) v h)
def Beh (a b:Int) (V S:Nat->Nat->Int) (r c:Nat) (pi:Nat->Q2) (k i:Nat):Prop:=∃j,j<c/\UpT a b (V k j) (S k j) (pi k) (pi (r+j))/\DnT a b (V i j) (S i j) (pi i) (pi (r+j))
theorem beh_go {L:List Nat} (hL:∀i,i∈L->i<r) (h:∀i,i∈L->∃k,k∈L/\Beh a b V S r c pi k i):∀(m i:Nat),i∈L->∃v,v∈L/\∀t,Go a b V S r c pi t i->Go a b V S r c pi (2*m+t) v
 | 0,i,hi=>⟨i,hi,fun t g=>by rw [Nat.mul_zero,Nat.zero_add]; exact g⟩
 | m+1,i,hi=>by
  obtain ⟨v,hv,g⟩:=beh_go hL h m i hi
  obtain ⟨k,hk,j,hj,up,dn⟩:=h v hv
  refine ⟨k,hk,fun t gt=>?_⟩
  rw [show 2*(m+1)+t=(2*m+t)+1+1 by omega]
  exact ⟨r+j,.inl ⟨k,j,hL k hk,hj,rfl,rfl,up⟩,v,.inr ⟨v,j,hL v hv,hj,rfl,rfl,dn⟩,g t gt⟩
theorem ring_go {L:List Nat} (hL:∀i,i∈L->i<r) (h:∀i,i∈L->∃k,k∈L/\Beh a b V S r c pi k i) {i:Nat} (hi:i∈L):∃v,v<r+c/\Go a b V S r c pi (r+c) v:=by
 obtain ⟨v,hv,g⟩:=beh_go hL h (r+c) i hi
 have:=g 0 trivial
 rw [show 2*(r+c)+0=(r+c)+(r+c) by omega] at this
 exact ⟨v,by have:=hL v hv; omega,Go_le (r+c) this⟩
def SameL (r c:Nat) (pi pi':Nat->Q2):Prop:=∀i j,i<r->j<c->(pi' (r+j)).1*(pi' i).2*((pi i).1*(pi (r+j)).2)=(pi (r+j)).1*(pi i).2*((pi' i).1*(pi' (r+j)).2)
theorem cross_le {N D N' D' x y:Int} (D0:0<D) (D0':0<D') (e:N'*D=N*D'):N*x<=D*y->N'*x<=D'*y:=fun h=>by
 have h1:=Int.mul_le_mul_of_nonneg_left h (Int.le_of_lt D0')
 have e1:D'*(N*x)=D*(N'*x):=by rw [<-Int.mul_assoc,Int.mul_comm D' N,<-e,<-Int.mul_assoc,Int.mul_comm D N']
 have e2:D'*(D*y)=D*(D'*y):=by rw [<-Int.mul_assoc,Int.mul_comm D' D,Int.mul_assoc]
 rw [e1,e2] at h1
 exact Int.le_of_mul_le_mul_left h1 D0
theorem cross_ge {N D N' D' x y:Int} (D0:0<D) (D0':0<D') (e:N'*D=N*D'):D*y<=N*x->D'*y<=N'*x:=fun h=>by
 have h1:=Int.mul_le_mul_of_nonneg_left h (Int.le_of_lt D0')
 have e1:D'*(N*x)=D*(N'*x):=by rw [<-Int.mul_assoc,Int.mul_comm D' N,<-e,<-Int.mul_assoc,Int.mul_comm D N']
 have e2:D'*(D*y)=D*(D'*y):=by rw [<-Int.mul_assoc,Int.mul_comm D' D,Int.mul_assoc]
 rw [e1,e2] at h1
 exact Int.le_of_mul_le_mul_left h1 D0
theorem SameL.cells (h:SameL r c pi pi') (pp:∀v,qpos (pi v)) (pp':∀v,qpos (pi' v)) (cs:Cells a b V S r c pi):Cells a b V S r c pi':=fun i j hi hj hv=>by
 obtain ⟨h1,h2⟩:=cs i j hi hj hv
 have D0:=Int.mul_pos (pp i).1 (pp (r+j)).2
 have D1:=Int.mul_pos (pp' i).1 (pp' (r+j)).2
 exact ⟨cross_le D0 D1 (h i j hi hj) h1,fun hs=>cross_ge D0 D1 (h i j hi hj) (h2 hs)⟩
theorem SameL.free (h:SameL r c pi pi') (pp:∀v,qpos (pi v)) (pp':∀v,qpos (pi' v)) {u v:Nat}:FreeE a b V S r c pi u v->FreeE a b V S r c pi' u v:=by
 rintro (⟨i,j,hi,hj,rfl,rfl,hv,e⟩ | ⟨i,j,hi,hj,rfl,rfl,hs,e⟩)
 ·have D0:=Int.mul_pos (pp u).1 (pp (r+j)).2
  have D1:=Int.mul_pos (pp' u).1 (pp' (r+j)).2
  exact .inl ⟨u,j,hi,hj,rfl,rfl,hv,Int.le_antisymm (cross_le D0 D1 (h u j hi hj) (Int.le_of_eq e)) (cross_ge D0 D1 (h u j hi hj) (Int.le_of_eq e.symm))⟩
 ·have D0:=Int.mul_pos (pp v).1 (pp (r+j)).2
  have D1:=Int.mul_pos (pp' v).1 (pp' (r+j)).2
  exact .inr ⟨v,j,hi,hj,rfl,rfl,hs,Int.le_antisymm (cross_ge D0 D1 (h v j hi hj) (Int.le_of_eq e)) (cross_le D0 D1 (h v j hi hj) (Int.le_of_eq e.symm))⟩
theorem SameL.go (h:SameL r c pi pi') (pp:∀v,qpos (pi v)) (pp':∀v,qpos (pi' v)):∀(t v:Nat),Go a b V S r c pi t v->Go a b V S r c pi' t v
 | 0,_,_=>trivial
 | t+1,v,g=>by
  obtain ⟨o,h1,h2⟩:=g
  exact ⟨o,h.free pp pp' h1,SameL.go h pp pp' t o h2⟩
end
theorem scaled {R R' C C':Q2} (h1:R'.1*R.2=R'.2*(2*R.1)) (h2:C'.1*(2*C.2)=C'.2*C.1):C'.1*R'.1*(R.2*C.2)=C.1*R.1*(R'.2*C'.2):=by
 have e:2*(C'.1*R'.1*(R.2*C.2))=2*(C.1*R.1*(R'.2*C'.2)):=by
  have e1:2*(C'.1*R'.1*(R.2*C.2))=(R'.1*R.2)*(C'.1*(2*C.2)):=by grind
  rw [e1,h1,h2]
  grind
 omega
end SW
namespace L2
open PySem PySem.Spec PyProof.Rows
theorem vals_of:∀{ns:List Int} {us:List Value},IntsAre us ns->Vals (ns.map V.int) us
 | _,_,.nil => .nil
 | _,_,.cons n t h => .cons ⟨t,rfl⟩ (vals_of h)
def rSorted (K:W.Frag):List V->Hp->VK->Prop:=fun xs H Q=>∃(p:Addr) (ns:List Int),xs=[.ref p]/\SqL K H p (ns.map V.int)/\ns.length<64/\∀(l:Addr) (H':Hp) (ns':List Int),New H H' l (.lst (ns'.map V.int))->ns'.Perm ns->ns'.Pairwise (·<=·)->Q (.ref l) H'
section
variable {X:Cx}
end
section
variable {X:Cx} (K:W.Frag)
end
end L2
namespace SW
open PySem PySem.Spec PyProof.Rows L2
def dTu (ns:List Int):PyData:=.tuple (ns.map .int)
def dTs (rs:List (List Int)):PyData:=.list (rs.map dTu)
section
variable {K:W.Frag} {H:Hp}
def Tups (K:W.Frag) (H:Hp) (p:Addr) (rs:List (List Int)):Prop:=∃ts:List Addr,SqL K H p (ts.map V.ref)/\ts.length=rs.length/\∀(i:Nat) (t:Addr) (ns:List Int),ts[i]?=some t->rs[i]?=some ns->H t=some (.tup (ns.map V.int))
end
def rEqT (K:W.Frag) (neg:Bool):R2:=fun x y H Q=>∃(p q:Addr) (ns ms:List (List Int)),x = .ref p/\y = .ref q/\Tups K H p ns/\Tups K H q ms/\Q (.bl (if neg then !decide (ns=ms) else decide (ns=ms))) H
section
variable {X:Cx} (K:W.Frag)
end
end SW
namespace L2
open PySem PySem.Spec PyProof.Rows
def tPar3 (i j k:Nat) (ta:TA):TS:=fun D σ H=>ta σ H fun vs H1=>∃v w z,vs=[v,w,z]/\D.nx (((σ.set i (some v)).set j (some w)).set k (some z)) H1
section
variable {X:Cx} {pos:Pos}
end
end L2
namespace L2
open PySem PySem.Spec PyProof.Rows
def tThawE (H0:Hp) (t:TE):TE:=fun σ H Q=>t σ H fun x H'=>∃a o kvs,H' a=some (.frz o (.dK kvs))/\(∀o u,H0 a≠some (.frz o u))/\Q x (upd H' a (.dK kvs))
theorem pe_thaw {X:Cx} {e:Expr} {t:TE} (H0:Hp) (h:PE X e t) (e0:X.H₀=H0:=by rfl):PE X e (tThawE H0 t):=by
 intro pins s σ H Q I hw
 subst e0
 refine thn (h pins s σ H _ I hw) fun v s1 ⟨x,H',I',r,a,o,kvs,q1,q2,q3⟩=>?_
 exact ⟨x,_,I'.thaw q1 q2,r,q3⟩
section
variable {tt:TT} {te:TE} {σ:St} {j:Nat} {R:List V->Hp->Prop} {H1:Hp}
theorem comp_dict {a:Addr} {o:Obj} {kvs:List (Key×V)} (Pv:Nat->List V->Hp->Prop) (hz:kvs.length<=sizeLine) (h0:Pv 0 [] H1) (hl:∀i ys H,i<=kvs.length->Pv i ys H->H a=some (.frz o (.dK kvs)))
  (hs:∀i kv ys H,kvs[i]?=some kv->Pv i ys H->tt (σ.set j (some (kV kv.1))) H fun b H3=>if b=true then te (σ.set j (some (kV kv.1))) H3 fun y H4=>Pv (i+1) (ys++[y]) H4 else Pv (i+1) ys H3) (hd:∀ys H,Pv kvs.length ys H->R ys H) :
  CompW (Itd a o kvs) (gName j) tt te (wipe [j] σ) R H1:=by
 refine ⟨fun i m ys H=>m=kvs.length - i/\i<=kvs.length/\Pv i ys H,⟨kvs.length,by simp,Nat.zero_le _,h0⟩,?_⟩
 rintro i m ys H ⟨rfl,hi,p⟩
 have q:=hl i ys H hi p
 by_cases hlt:i<kvs.length
 ·have hk:kvs[i]?=some kvs[i]:=by simp [hlt]
  refine .inr ⟨⟨q,_,hk⟩,by omega,Pv (i+1),fun ys' H' q'=>⟨kvs.length - (i+1),by omega,rfl,hlt,q'⟩,fun x H' y=>?_⟩
  obtain ⟨e,y⟩:=y
  subst e
  show Back _ _/\_
  refine ⟨back_set wipe_one,?_⟩
  rw [wipe_set,y _ hk]
  exact hs i _ ys _ hk p
 ·have e:i=kvs.length:=by omega
  subst e
  exact .inl ⟨⟨q,Nat.le_refl _⟩,hd ys H p⟩
end
end L2
namespace SW
open PySem PySem.Spec PyProof.Rows
def layK (t:SetTable) (os:List Int) (k:Int):List Int×SetTable×Bool:=
 match t.freeSlot (hashInt k) with
 | some (slot,wasDummy)=>(os.take (t.put slot).2++k :: os.drop (t.put slot).2,(t.put slot).1.orStandIn (os.length+1),wasDummy)
 | none=>(os++[k],t.standIn (os.length+1),false)
def relK (t:SetTable) (os:List Int) (wanted:Nat):List Int×SetTable:=
 match t.relaid (os.map hashInt).toArray wanted with
 | some (t',order)=>if (coversAll order os.length&&t'.fits (order.toList.filterMap (os[·]?)).length)=true then (order.toList.filterMap (os[·]?),t') else (os,t.standIn os.length)
 | none=>(os,t.standIn os.length)
def addK (st:List Int×SetTable) (k:Int):List Int×SetTable:=
 if (!(layK st.2 st.1 k).2.2&&(layK st.2 st.1 k).2.1.tooFull)=true then relK (layK st.2 st.1 k).2.1 (layK st.2 st.1 k).1 (SetTable.grown (layK st.2 st.1 k).1.length)
 else ((layK st.2 st.1 k).1,(layK st.2 st.1 k).2.1)
def slotK (t:SetTable) (i:Nat):Nat:=if i=0 then 0 else t.place.getD (i - 1) 0+1
def walkK (t:SetTable) (n:Nat):Bool:=t.plain&&t.fits n&&(List.range (n+1)).all fun i=>SetTable.below t.place (slotK t i) == i
def okK (ks:List Int) (st:List Int×SetTable):Bool:=walkK st.2 st.1.length&&st.1.isPerm ks
def allK:Nat->List Int->Nat->List Int×SetTable->Bool
 | 0,ks,_,st=>okK ks st
 | fuel+1,ks,k,st=>okK ks st&&(List.range (12 - k)).all fun d=>allK fuel (ks++[((k+d:Nat):Int)]) (k+d+1) (addK st ((k+d:Nat):Int))
def entK (tok:Int->Tok) (k:Int):Int×Value:=(hashInt k,.int k (tok k))
def esK (tok:Int->Tok) (os:List Int):Array (Int×Value):=(os.map (entK tok)).toArray
theorem esK_size (tok:Int->Tok) (os:List Int):(esK tok os).size=os.length:=by unfold esK; simp
def addE (es:Array (Int×Value)) (t:SetTable) (h:Int) (x:Value):Array (Int×Value)×SetTable:=
 if (!(layNew t es h x).2.2.1&&(layNew t es h x).2.1.tooFull)=true then ((relayAll (layNew t es h x).2.1 (layNew t es h x).1 (SetTable.grown (layNew t es h x).1.size)).1,(relayAll (layNew t es h x).2.1 (layNew t es h x).1 (SetTable.grown (layNew t es h x).1.size)).2.1)
 else ((layNew t es h x).1,(layNew t es h x).2.1)
def tokSet (tok:Int->Tok) (k:Int) (t:Tok):Int->Tok:=fun z=>if z=k then t else tok z
theorem tokSet_out {tok:Int->Tok} {k:Int} {t:Tok} {os:List Int} (h:k∉os):os.map (entK (tokSet tok k t))=os.map (entK tok):=by
 apply List.map_congr_left
 intro z hz
 unfold entK tokSet
 rw [if_neg fun e=>h (by rw [<-e]; exact hz)]
theorem tokSet_at {tok:Int->Tok} {k:Int} {t:Tok}:entK (tokSet tok k t) k=(hashInt k,.int k t):=by unfold entK tokSet; rw [if_pos rfl]
theorem insertAt_list {α:Type} (xs:List α) (p:Nat) (x:α):SetTable.insertAt xs.toArray p x=(xs.take p++x :: xs.drop p).toArray:=by
 unfold SetTable.insertAt
 apply Array.ext'
 simp [List.take_of_length_le]
theorem layE {t:SetTable} {os:List Int} {k:Int} {tok:Int->Tok} {tk:Tok} (h:k∉os) :
  (layNew t (esK tok os) (hashInt k) (.int k tk)).1=esK (tokSet tok k tk) (layK t os k).1/\(layNew t (esK tok os) (hashInt k) (.int k tk)).2.1=(layK t os k).2.1/\(layNew t (esK tok os) (hashInt k) (.int k tk)).2.2.1=(layK t os k).2.2:=by
 unfold layNew layK
 cases hf:t.freeSlot (hashInt k) with
 | none=>
  dsimp only
  refine ⟨?_,by rw [esK_size],rfl⟩
  unfold esK
  rw [List.map_append,tokSet_out h,List.map_cons,tokSet_at]
  simp
 | some q=>
  obtain ⟨slot,wd⟩:=q
  dsimp only
  have e:SetTable.insertAt (esK tok os) (t.put slot).2 (hashInt k,Value.int k tk)=esK (tokSet tok k tk) (os.take (t.put slot).2++k :: os.drop (t.put slot).2):=by
   unfold esK
   rw [insertAt_list,List.map_append,List.map_cons,tokSet_at]
   rw [tokSet_out (fun z=>h (List.mem_of_mem_take z)),tokSet_out (fun z=>h (List.mem_of_mem_drop z)),List.map_take,List.map_drop]
  refine ⟨e,?_,rfl⟩
  rw [e,esK_size]
  congr 1
  rw [List.length_append,List.length_cons,List.length_take,List.length_drop]
  omega
theorem relE {t:SetTable} {os:List Int} {tok:Int->Tok} {m:Nat}:(relayAll t (esK tok os) m).1=esK tok (relK t os m).1/\(relayAll t (esK tok os) m).2.1=(relK t os m).2:=by
 unfold relayAll relK
 have e1:(esK tok os).map (·.1)=(os.map hashInt).toArray:=by
  unfold esK
  rw [List.map_toArray,List.map_map]
  rfl
 rw [e1]
 cases hr:t.relaid (os.map hashInt).toArray m with
 | none=>
  dsimp only
  exact ⟨rfl,by rw [esK_size]⟩
 | some q=>
  obtain ⟨t',order⟩:=q
  dsimp only
  have e2:order.filterMap (fun i=>(esK tok os)[i]?)=esK tok (order.toList.filterMap (os[·]?)):=by
   unfold esK
   apply Array.ext'
   rw [Array.toList_filterMap]
   show List.filterMap (fun i=>(os.map (entK tok)).toArray[i]?) order.toList=(order.toList.filterMap (os[·]?)).map (entK tok)
   rw [List.map_filterMap]
   congr 1
   funext i
   rw [List.getElem?_toArray,List.getElem?_map]
  rw [e2,esK_size,esK_size]
  split
  ·exact ⟨rfl,rfl⟩
  ·exact ⟨rfl,rfl⟩
theorem addE_eq {t:SetTable} {os:List Int} {k:Int} {tok:Int->Tok} {tk:Tok} (h:k∉os):addE (esK tok os) t (hashInt k) (.int k tk)=(esK (tokSet tok k tk) (addK (os,t) k).1,(addK (os,t) k).2):=by
 obtain ⟨h1,h2,h3⟩:=layE (t:=t) (tok:=tok) (tk:=tk) h
 unfold addE addK
 dsimp only
 rw [h1,h2,h3,esK_size]
 obtain ⟨r1,r2⟩:=relE (t:=(layK t os k).2.1) (os:=(layK t os k).1) (tok:=tokSet tok k tk) (m:=SetTable.grown (layK t os k).1.length)
 rw [r1,r2]
 split <;> rfl
def simK (led:Bool) (ks:List Int):List Int×SetTable:=ks.foldl addK ([],SetTable.fresh 0 0 led)
end SW
namespace SW
open PySem PySem.Spec PyProof.Rows
section
variable {prog:Program} {w:World} {A:Around} {E:Value->Shared->Prop} {s:Shared}
theorem elems_esK (tok:Int->Tok) (os:List Int):ElemsOf (intKind prog w) (esK tok os).toList:=by
 intro e he
 unfold esK at he
 obtain ⟨k,_,rfl⟩:=List.mem_map.mp (by simpa using he)
 exact ⟨⟨k,intKind_is _ _ _ _,rfl⟩,rfl⟩
theorem absent_esK {tok:Int->Tok} {os:List Int} {k:Int} (h:k∉os):(esK tok os).toList.findIdx? (fun e=>(intKind prog w).is k e.2)=none:=by
 rw [List.findIdx?_eq_none_iff]
 intro e he
 unfold esK at he
 obtain ⟨z,hz,rfl⟩:=List.mem_map.mp (by simpa using he)
 show Value.isInt k (.int z (tok z))=false
 cases q:Value.isInt k (.int z (tok z)) with
 | false=>rfl
 | true=>
  obtain ⟨t,e⟩:=Value.isInt_shape q
  cases e
  exact absurd hz h
theorem add_exact {a:Addr} {o:Obj} {es:Array (Int×Value)} {ep:Nat} {t:SetTable} {k:Int} {tk:Tok} {Q:Bool->Shared->Prop} (ho:s.heap.get? a=some o) (hd:o.data = .set es ep t) (hf:t.fits es.size=true) (hel:ElemsOf (intKind prog w) es.toList) (hb:es.size+1<scanBound)
  (abs:es.toList.findIdx? (fun e=>(intKind prog w).is k e.2)=none)
  (h:∀h' ep',Heap.SameBut a s.heap h'->h'.get? a=some { o with data:=.set (addE es t (hashInt k) (.int k tk)).1 ep' (addE es t (hashInt k) (.int k tk)).2 }->Q true { s with heap:=h' }) :
  wpAny (model prog w) A (setAddHashed a (.int k tk) (hashInt k)) Q E s:=by
 have hperm:=layNew_perm t es (hashInt k) (Value.int k tk)
 have hz1:(layNew t es (hashInt k) (Value.int k tk)).1.size=es.size+1:=by
  rw [<-Array.length_toList,hperm.length_eq,Array.length_toList,Array.size_push]
 have hp2:=relayAll_perm (layNew t es (hashInt k) (Value.int k tk)).2.1 (layNew t es (hashInt k) (Value.int k tk)).1 (SetTable.grown (layNew t es (hashInt k) (Value.int k tk)).1.size)
 have hz2:(relayAll (layNew t es (hashInt k) (Value.int k tk)).2.1 (layNew t es (hashInt k) (Value.int k tk)).1 (SetTable.grown (layNew t es (hashInt k) (Value.int k tk)).1.size)).1.size=es.size+1:=by
  rw [<-Array.length_toList,hp2.length_eq,Array.length_toList,hz1]
 have fit:∀n,n<scanBound->n<=sizeLine:=fun n hn=>fits_of_scanBound hn
 unfold setAddHashed setAddHashedIn
 refine wpAny_holding (wpAny_bind (wpAny_setState_of ho hd hf ?_))
 dsimp only
 rw [byScan_of (knd:=intKind prog w) rfl (by omega) hel]
 simp only [↓reduceIte]
 unfold setAddByScan
 refine wpAny_bind (wpAny_bind (wpAny_rule (wpAny_bind (wpAny_setScan_of (knd:=intKind prog w) (k:=k) (intKind_is _ _ _ _) ho hd hf hel ?_))))
 rw [abs]
 dsimp only
 unfold addE at h
 revert h hz1 hz2
 generalize layNew t es (hashInt k) (Value.int k tk)=L
 obtain ⟨es1,t1,wd,gave⟩:=L
 dsimp only
 intro h hz1 hz2
 have hgw:∀(b:Bool) {s₁:Shared} {Q':Unit->Shared->Prop},Q' () s₁->wpAny (model prog w) A (match b with | true=>rule "set.scan.the-table-gave-way" | false=>pure ()) Q' E s₁:=fun b s₁ Q' q=>by
  cases b
  ·exact wpAny_pure q
  ·exact wpAny_rule q
 refine wpAny_bind (hgw gave ?_)
 have ho1:∀{hp:Heap} {o:Obj} {es0 es':Array (Int×Value)} {ep:Nat} {t0 t':SetTable},hp.get? a=some o->o.data = .set es0 ep t0->(hp.update a (Obj.putSet es' t')).get? a=some { o with data:=.set es' (ep+1) t' }:=fun {hp o es0 es' ep t0 t'} ho hd=>by
  have:=Heap.get?_update_self (Obj.putSet es' t') ho (by rw [putSet_of es' t' hd]; rfl)
  rw [putSet_of es' t' hd] at this
  exact this
 have sb:∀(hp:Heap) (f:Obj->Obj),Heap.SameBut a hp (hp.update a f):=fun hp f=>Heap.SameBut.update hp a f
 have tail:wpAny (model prog w) A (do
    storeSet a es1 t1
    if (!wd&&t1.tooFull)=true then do
      (match (relayAll t1 es1 (SetTable.grown es1.size)).2.2 with | true=>rule "set.scan.the-table-gave-way" | false=>pure ())
      storeSet a (relayAll t1 es1 (SetTable.grown es1.size)).1 (relayAll t1 es1 (SetTable.grown es1.size)).2.1
      pure (some true)
     else pure (some true)) (fun r s'=>r=some true/\Q true s') E s:=by
  refine wpAny_bind (wpAny_storeSet_of ho hd ?_ (fit _ (by omega)))
  have g1:=ho1 (es':=es1) (t':=t1) ho hd
  split
  ·rename_i c
   rw [if_pos c] at h
   refine wpAny_bind (hgw _ ?_)
   refine wpAny_bind (wpAny_storeSet_of g1 rfl ?_ (fit _ (by omega)))
   exact wpAny_pure ⟨rfl,h _ _ ((sb _ _).trans (sb _ _)) (ho1 (o:={ o with data:=.set es1 (ep+1) t1 }) g1 rfl)⟩
  ·rename_i c
   rw [if_neg c] at h
   exact wpAny_pure ⟨rfl,h _ _ (sb _ _) g1⟩
 split
 ·refine wpAny_bind ?_
  rw [hashByValue_scannable 8 rfl]
  refine wpAny_pure ?_
  refine wpAny_mono tail ?_ fun _ _ z=>z
  rintro r s' ⟨rfl,q⟩
  exact wpAny_pure q
 ·refine wpAny_bind (wpAny_pure ?_)
  simp only [↓reduceIte]
  refine wpAny_mono tail ?_ fun _ _ z=>z
  rintro r s' ⟨rfl,q⟩
  exact wpAny_pure q
end
end SW
namespace SW
open PySem PySem.Spec PyProof.Rows
def setObjK (tok:Int->Tok) (st:List Int×SetTable) (ep:Nat):Obj:={ cls:=.type "set",dict:=none,data:=.set (esK tok st.1) ep st.2 }
theorem simK_take {led:Bool} {ns:List Int} {i:Nat} (h:i<ns.length):simK led (ns.take (i+1))=addK (simK led (ns.take i)) ns[i]:=by
 unfold simK
 rw [List.take_succ_eq_append_getElem h,List.foldl_append]
 rfl
section
variable {prog:Program} {w:World} {A:Around} {E:Value->Shared->Prop} {R:Result->Shared->Prop}
theorem set_loop {l I S:Addr} {vs:List Value} {ns:List Int} {led:Bool} (hh:A.in1.handled=none) (hv:IntsAre vs ns) (hSI:S≠I) (hSl:S≠l) (hlI:l≠I) (pw:ns.Pairwise (· < ·)) (hn:ns.length<=100) (hok:∀i,i<=ns.length->okK (ns.take i) (simK led (ns.take i))=true) :
  ∀(k i:Nat) (s:Shared) (tok:Int->Tok) (ep:Nat),ns.length - i=k->i<=ns.length->s.heap.IsListIter I l i->s.heap.IsList l vs.toArray->s.heap.get? S=some (setObjK tok (simK led (ns.take i)) ep) ->
   (∀(h':Heap) (tk:Nat) (tok':Int->Tok) (ep':Nat),(∀b o,b≠S->b≠I->s.heap.get? b=some o->h'.get? b=some o)->h'.get? S=some (setObjK tok' (simK led ns) ep')->R (.ok (.ret .none)) { s with heap:=h',toks:=tk }) ->
   codeAny (model prog w) A (.builtin "set.update.loop" ⟨[.ref S,.ref I],[]⟩) R s:=by
 have lv:vs.length=ns.length:=hv.length
 intro k
 induction k with
 | zero=>
  intro i s tok ep hk hi hit hl hS hR
  have ei:i=ns.length:=by omega
  subst ei
  refine codeAny_builtin F.entry_set_update_loop ?_
  rw [Around.under_plainId F.plain_set_update_loop _]
  show wpAny _ A.in1 (pyNext (.ref I) >>= _) _ _ s
  refine wpAny_bind (wpAny_pyNext_list_end hh hit hl (by simp [lv]) fun h' hx=>?_)
  show wpAny _ A.in1 (ret Value.none) _ _ _
  rw [List.take_length] at hS
  exact wpAny_pure (hR h' s.toks tok ep (fun b o _ hb e=>hx b o hb e) (hx S _ hSI hS))
 | succ k ih=>
  intro i s tok ep hk hi hit hl hS hR
  have hlt:i<ns.length:=by omega
  obtain ⟨v,ev⟩:∃v,vs[i]?=some v:=⟨vs[i]'(by omega),by simp⟩
  obtain ⟨tk,rfl⟩:∃t,v = .int (ns[i]) t:=by
   obtain ⟨t,e⟩:=hv.int_at i v ev
   refine ⟨t,?_⟩
   rw [e,List.getD_eq_getElem?_getD,List.getElem?_eq_getElem hlt]
   rfl
  refine codeAny_builtin F.entry_set_update_loop ?_
  rw [Around.under_plainId F.plain_set_update_loop _]
  show wpAny _ A.in1 (pyNext (.ref I) >>= _) _ _ s
  refine wpAny_bind (wpAny_pyNext_list_item hit hl (x:=.int ns[i] tk) (by simpa using ev) fun h1 hit1 hs1=>?_)
  have hx1:=hs1.extBut
  have hS1:=hx1 S _ hSI hS
  have hl1:h1.IsList l vs.toArray:=hl.extBut hx1 hlI
  show wpAny _ A.in1 (holding [Value.int ns[i] tk] (setAdd S (.int ns[i] tk)) >>= _) _ _ _
  refine wpAny_bind (wpAny_holding ?_)
  unfold setAdd
  refine wpAny_holding (wpAny_bind ((intKind prog w).pyHash (k:=ns[i]) (intKind_is _ _ _ _) ?_))
  have ok:=hok i hi
  unfold okK walkK at ok
  rw [Bool.and_eq_true,Bool.and_eq_true,Bool.and_eq_true] at ok
  obtain ⟨⟨⟨_,hf⟩,_⟩,hp⟩:=ok
  have hp:=List.isPerm_iff.mp hp
  have lo:(simK led (ns.take i)).1.length=i:=by rw [hp.length_eq,List.length_take]; omega
  have nin:ns[i]∉(simK led (ns.take i)).1:=fun z=>by
   have z:=hp.mem_iff.mp z
   obtain ⟨j,hj,ej⟩:=List.getElem_of_mem z
   rw [List.length_take] at hj
   have:=List.pairwise_iff_getElem.mp pw j i (by omega) hlt (by omega)
   rw [List.getElem_take] at ej
   omega
  refine add_exact (o:=setObjK tok (simK led (ns.take i)) ep) (es:=esK tok (simK led (ns.take i)).1) (t:=(simK led (ns.take i)).2) (s:={ s with heap:=h1,toks:=s.toks+1 }) hS1 rfl (by rw [esK_size]; exact hf) (elems_esK _ _) (by rw [esK_size,lo]; unfold scanBound; omega) (absent_esK nin) fun h2 ep2 sb hg=>?_
  rw [addE_eq nin] at hg
  have hg':h2.get? S=some (setObjK (tokSet tok ns[i] tk) (simK led (ns.take (i+1))) ep2):=by
   rw [simK_take hlt]
   exact hg
  have keep:∀b o,b≠S->h1.get? b=some o->h2.get? b=some o:=fun b o hb e=>by rw [sb.2 b hb]; exact e
  refine wpAny_pure ⟨plainId_quiet F.plain_set_update_loop _,ih (i+1) _ (tokSet tok ns[i] tk) ep2 (by omega) hlt (hit1.at fun o e=>keep I o hSI.symm e) (hl1.at fun o e=>keep l o hSl.symm e) hg' fun h3 tk3 tok3 ep3 fr hg3=>?_⟩
  exact hR h3 tk3 tok3 ep3 (fun b o h1' h2' e=>fr b o h1' h2' (keep b o h1' (hx1 b o h2' e))) hg3
end
end SW
namespace SW
open PySem PySem.Spec PyProof.Rows
def byT (w:World):Bool:=w.params.followText "set-order"
section
variable {prog:Program} {w:World} {A:Around} {E:Value->Shared->Prop} {s:Shared}
theorem set_new_exact (x:Value) {Q:Value->Shared->Prop}
  (h:Q (.ref s.heap.objs.size) { s with heap:=s.heap.push (setObjK (fun _=>0) ([],SetTable.fresh 0 0 (!byT w)) 0) }) :
  codeAny (model prog w) A (.call (.builtin "set.__new__") ⟨[.type "set",x],[]⟩) (wants Q E) s:=by
 refine codeAny_of_tree ?_
 show wpAny _ A.in1 (checkBuiltinCall "set.__new__" ⟨[.type "set",x],[]⟩ >>= fun _=>again (.builtin "set.__new__" ⟨[.type "set",x],[]⟩)) _ _ s
 refine wpAny_bind (wpAny_of_eq (F.newCall_set_1 x) (wpAny_pure ⟨plainId_quiet F.plain_set_new _,codeAny_builtin F.entry_set_new ?_⟩))
 rw [Around.under_plainId F.plain_set_new _]
 unfold Builtin.«set.__new__» Builtin.Frozenset.newClass
 have sub:=sub_set_self
 obtain ⟨hp,g,d,tk,os⟩:=s
 dsimp only
 wp_walk
 refine wpAny_askSetting (wpAny_pure ?_)
 dsimp only
 simp only [newObj]
 refine wpAny_bind (wpAny_alloc (wpAny_pure ?_))
 exact wpAny_pure h
set_option maxRecDepth 100000 in
set_option maxHeartbeats 3200000 in
theorem call_set_exact {l:Addr} {vs:List Value} {ns:List Int} {Q:Value->Shared->Prop} (hh:A.handled=none) (hl:s.heap.IsList l vs.toArray) (hv:IntsAre vs ns) (pw:ns.Pairwise (· < ·)) (hn:ns.length<=100) (hok:∀i,i<=ns.length->okK (ns.take i) (simK (!byT w) (ns.take i))=true)
  (h:∀(h':Heap) (tk:Nat) (tok:Int->Tok) (ep:Nat),(∀b o,b<s.heap.objs.size->s.heap.get? b=some o->h'.get? b=some o)->h'.get? s.heap.objs.size=some (setObjK tok (simK (!byT w) ns) ep)->Q (.ref s.heap.objs.size) { s with heap:=h',toks:=tk }) :
  wpAny (model prog w) A (call (.type "set") [.ref l]) Q E s:=by
 obtain ⟨c,tl,hmro⟩:=F.called_set.mro
 have made:=F.called_set.made
 have sub:=F.called_set.sub
 refine wpAny_call (codeAny_of_tree ?_)
 show wpAny _ _ (callAny (.type "set") _) _ _ _
 refine wpAny_pure ⟨Code.quiet_builtin _ (by decide +kernel),codeAny_builtin F.entry_type_call ?_⟩
 rw [Around.under_plain (weight_type_call_type "set" [.ref l] []) rfl]
 have t1:=F.called_set.notType
 have t2:=F.called_set.canCreate
 have t3:=F.typeCall_set_1 (.ref l)
 repeat (any_goals (first | assumption | wp_step))
 refine codeAny_mono (set_new_exact (.ref l) (E:=E) (Q:=fun obj s1=>obj = .ref s.heap.objs.size/\s1={ s with heap:=s.heap.push (setObjK (fun _=>0) ([],SetTable.fresh 0 0 (!byT w)) 0) }) ⟨rfl,rfl⟩) fun r s1 hr=>?_
 cases r with
 | error e=>exact hr
 | ok fl=>
  cases fl with
  | ret obj=>
   obtain ⟨rfl,rfl⟩:=hr
   generalize hob:setObjK (fun _=>0) ([],SetTable.fresh 0 0 (!byT w)) 0=ob
   have obc:ob.cls = .type "set" := by rw [<-hob]; rfl
   have gS:(s.heap.push ob).get? s.heap.objs.size=some ob:=Heap.get?_push_size _ (by rw [<-hob]; rfl)
   have tS:Shared.TypeIs { s with heap:=s.heap.push ob } (.ref s.heap.objs.size) "set" := ⟨_,gS,obc⟩
   have li:=F.called_set.init.lookup
   have bi:=F.called_set.init.bind (.ref s.heap.objs.size)
   repeat (any_goals (first | assumption | wp_step))
   refine codeAny_mono (codeAny_call_builtin (R:=wants (fun r s2=>r = .none/\∃(h':Heap) (tk:Nat) (tok:Int->Tok) (ep:Nat),s2={ s with heap:=h',toks:=tk }/\(∀b o,b<s.heap.objs.size->s.heap.get? b=some o->h'.get? b=some o)/\h'.get? s.heap.objs.size=some (setObjK tok (simK (!byT w) ns) ep)) E) F.called_set.init.plain F.entry_set_init (check_set_init_1 tS ?_)) fun r2 s2 hr2=>?_
   ·obtain ⟨ol,gl,cl,nl,dl⟩:=id hl
    obtain ⟨c1,c2,c3,c4⟩:=ol
    simp only at cl dl
    subst cl dl
    have gl':(s.heap.push ob).get? l=some { cls:=.type "list",dict:=c2,data:=.seq vs.toArray nl,slots:=c4 }:=Heap.get?_push_of_some _ gl
    have gS':(s.heap.push ob).get? s.heap.objs.size=some { cls:=.type "set",dict:=none,data:=.set #[] 0 (SetTable.fresh 0 0 (!byT w)) }:=by rw [gS,<-hob]; rfl
    have ls:=F.sub_list_set
    have lf:=F.sub_list_frozenset
    have nd:(Value.type "list" == Value.type "dict")=false:=by decide
    have hl1:(s.heap.push ob).IsList l vs.toArray:=⟨_,gl',rfl,nl,rfl⟩
    have lS:l<s.heap.objs.size:=Heap.lt_size gl
    unfold Builtin.«set.__init__» noKeywords Builtin.Frozenset.updateFrom
    generalize hPI:pyIter=PI
    wp_walk
    subst hPI
    refine wpAny_pyIter_list hl1 ?_
    refine wpAny_bind (wpAny_runValue ?_)
    have zS:(s.heap.push ob).objs.size=s.heap.objs.size+1:=Heap.size_push ..
    have e0:s.heap.objs.size≠(s.heap.push ob).objs.size:=by rw [zS]; exact Nat.ne_of_lt (Nat.lt_succ_self _)
    have e1:s.heap.objs.size≠l:=Nat.ne_of_gt lS
    have e2:l≠(s.heap.push ob).objs.size:=by rw [zS]; exact Nat.ne_of_lt (Nat.lt_succ_of_lt lS)
    refine set_loop (led:=!byT w) (ns:=ns) (vs:=vs) (by simp [hh]) hv e0 e1 e2 pw hn hok ns.length 0 _ (fun _=>0) 0 (by omega) (Nat.zero_le _) ⟨_,Heap.get?_push_size _ rfl,rfl,rfl⟩ (hl1.push _) (Heap.get?_push_of_some _ gS') ?_
    intro h' tk tok ep fr hg
    refine wpAny_pure ?_
    show wpAny _ _ (ret Value.none) _ _ _
    refine wpAny_pure ⟨rfl,h',tk,tok,ep,rfl,fun b o hb e=>?_,hg⟩
    exact fr b o (Nat.ne_of_lt hb) (by rw [zS]; exact Nat.ne_of_lt (Nat.lt_succ_of_lt hb)) (Heap.get?_push_of_some _ (Heap.get?_push_of_some _ e))
   ·cases r2 with
    | error e=>exact hr2
    | ok fl2=>
     cases fl2 with
     | ret r=>
      obtain ⟨rfl,h',tk,tok,ep,rfl,fr,hg⟩:=hr2
      repeat (any_goals (first | assumption | wp_step))
      exact h h' tk tok ep fr hg
     | _=>exact hr2.elim
  | _=>exact hr.elim
end
end SW
namespace SW
open PySem PySem.Spec PyProof.Rows
def frN {β:Type} (n:Nat) (f:Nat->β):β:=Nat.rec (motive:=fun _=>β) (f 0) (fun m _=>f (m+1)) n
def frI {β:Type}:Int->(Int->β)->β
 | .ofNat n,f=>frN n fun n=>f (.ofNat n)
 | .negSucc n,f=>frN n fun n=>f (.negSucc n)
def frB {β:Type}:Bool->(Bool->β)->β
 | true,f=>f true
 | false,f=>f false
def frLN {β:Type}:List Nat->(List Nat->β)->β
 | [],f=>f []
 | x :: xs,f=>frN x fun x=>frLN xs fun xs=>f (x :: xs)
def frLI {β:Type}:List Int->(List Int->β)->β
 | [],f=>f []
 | x :: xs,f=>frI x fun x=>frLI xs fun xs=>f (x :: xs)
def frA {β:Type}:Array Nat->(Array Nat->β)->β
 | ⟨l⟩,f=>frLN l fun l=>f ⟨l⟩
def frT {β:Type}:SetTable->(SetTable->β)->β
 | ⟨a,b,c,d,e,g,h⟩,f=>frN a fun a=>frA b fun b=>frA c fun c=>frN d fun d=>frB e fun e=>frN g fun g=>frB h fun h=>f ⟨a,b,c,d,e,g,h⟩
def frS {β:Type}:List Int×SetTable->(List Int×SetTable->β)->β
 | (l,t),f=>frLI l fun l=>frT t fun t=>f (l,t)
theorem frN_eq {β:Type} (n:Nat) (f:Nat->β):frN n f=f n:=by cases n <;> rfl
theorem frI_eq {β:Type} (n:Int) (f:Int->β):frI n f=f n:=by
 cases n with
 | ofNat n=>exact frN_eq n fun n=>f (.ofNat n)
 | negSucc n=>exact frN_eq n fun n=>f (.negSucc n)
theorem frB_eq {β:Type} (n:Bool) (f:Bool->β):frB n f=f n:=by cases n <;> rfl
theorem frLN_eq {β:Type}:∀(l:List Nat) (f:List Nat->β),frLN l f=f l
 | [],_=>rfl
 | x :: xs,f=>by unfold frLN; rw [frN_eq,frLN_eq xs]
theorem frLI_eq {β:Type}:∀(l:List Int) (f:List Int->β),frLI l f=f l
 | [],_=>rfl
 | x :: xs,f=>by unfold frLI; rw [frI_eq,frLI_eq xs]
theorem frA_eq {β:Type} (a:Array Nat) (f:Array Nat->β):frA a f=f a:=by
 obtain ⟨l⟩:=a
 exact frLN_eq l fun l=>f ⟨l⟩
theorem frT_eq {β:Type} (t:SetTable) (f:SetTable->β):frT t f=f t:=by
 cases t
 unfold frT
 simp only [frN_eq,frA_eq,frB_eq]
theorem frS_eq {β:Type} (t:List Int×SetTable) (f:List Int×SetTable->β):frS t f=f t:=by
 cases t
 unfold frS
 simp only [frLI_eq,frT_eq]
def frO {β:Type}:List (Option Nat)->(List (Option Nat)->β)->β
 | [],f=>f []
 | none :: xs,f=>frO xs fun xs=>f (none :: xs)
 | some x :: xs,f=>frN x fun x=>frO xs fun xs=>f (some x :: xs)
theorem frO_eq {β:Type}:∀(l:List (Option Nat)) (f:List (Option Nat)->β),frO l f=f l
 | [],_=>rfl
 | none :: xs,f=>by unfold frO; rw [frO_eq xs]
 | some x :: xs,f=>by unfold frO; rw [frN_eq,frO_eq xs]
def layF (mask:Nat):List Int->List (Option Nat)->Nat->Option (List (Option Nat))
 | [],o,_=>some o
 | h :: hs,o,k=>match SetTable.layClean.free mask o.toArray (SetTable.turns mask) (SetTable.bits h % (mask+1)) (SetTable.bits h) with
  | none=>none
  | some j=>frO (o.toArray.setIfInBounds j (some k)).toList fun o=>frN (k+1) fun k=>layF mask hs o k
def stepF (mask:Nat) (acc:Option (Array (Option Nat)×Nat)) (h:Int):Option (Array (Option Nat)×Nat):=do
 let (owner,k) <-acc
 let j <-SetTable.layClean.free mask owner (SetTable.turns mask) (SetTable.bits h % (mask+1)) (SetTable.bits h)
 pure (owner.setIfInBounds j (some k),k+1)
theorem foldF_none (mask:Nat):∀hs:List Int,hs.foldl (stepF mask) none=none
 | []=>rfl
 | _ :: hs=>foldF_none mask hs
theorem foldF (mask:Nat):∀(hs:List Int) (o:List (Option Nat)) (k:Nat),(hs.foldl (stepF mask) (some (o.toArray,k))).map (·.1)=(layF mask hs o k).map List.toArray
 | [],_,_=>rfl
 | h :: hs,o,k=>by
  rw [List.foldl_cons]
  unfold layF
  have e:stepF mask (some (o.toArray,k)) h=(SetTable.layClean.free mask o.toArray (SetTable.turns mask) (SetTable.bits h % (mask+1)) (SetTable.bits h)).bind fun j=>some (o.toArray.setIfInBounds j (some k),k+1):=rfl
  rw [e]
  cases SetTable.layClean.free mask o.toArray (SetTable.turns mask) (SetTable.bits h % (mask+1)) (SetTable.bits h) with
  | none=>rw [Option.bind_none,foldF_none]; rfl
  | some j=>
   dsimp only [Option.bind_some]
   rw [frO_eq,frN_eq,<-foldF mask hs,Array.toArray_toList]
theorem layClean_eq (mask:Nat) (hs:List Int):SetTable.layClean mask hs.toArray=(layF mask hs (List.replicate (mask+1) none) 0).map List.toArray:=by
 rw [<-foldF]
 unfold SetTable.layClean
 rw [List.foldl_toArray',<-List.toArray_replicate]
 ·rfl
 ·simp
theorem filterMap_congr' {α β:Type} {f g:α->Option β}:∀{l:List α},(∀x,x∈l->f x=g x)->l.filterMap f=l.filterMap g
 | [],_=>rfl
 | x :: l,h=>by rw [List.filterMap_cons,List.filterMap_cons,h x (List.mem_cons_self ..),filterMap_congr' fun y hy=>h y (List.mem_cons_of_mem _ hy)]
def liveL:List (Option Nat)->Nat->List (Nat×Nat)
 | [],_=>[]
 | none :: xs,j=>liveL xs (j+1)
 | some k :: xs,j=>(j,k) :: liveL xs (j+1)
theorem liveL_eq:∀(ow:List (Option Nat)) (s:Nat),(List.range' s ow.length).filterMap (fun j=>(ow.getD (j - s) none).map (j,·))=liveL ow s
 | [],_=>rfl
 | o :: xs,s=>by
  rw [List.length_cons,List.range'_succ,List.filterMap_cons]
  have ih:=liveL_eq xs (s+1)
  have e:(List.range' (s+1) xs.length).filterMap (fun j=>((o :: xs).getD (j - s) none).map (j,·))=liveL xs (s+1):=by
   rw [<-ih]
   refine filterMap_congr' fun j hj=>?_
   have:=(List.mem_range'_1.mp hj).1
   rw [show j - s=(j - (s+1))+1 by omega]
   rfl
  rw [e,Nat.sub_self]
  cases o <;> rfl
def liveF (mask:Nat) (ow:List (Option Nat)):List (Nat×Nat):=if ow.length=mask+1 then liveL ow 0 else (List.range (mask+1)).filterMap fun j=>(ow.toArray.getD j none).map (j,·)
theorem liveF_eq (mask:Nat) (ow:List (Option Nat)):liveF mask ow=(List.range (mask+1)).filterMap fun j=>(ow.toArray.getD j none).map (j,·):=by
 unfold liveF
 split
 ·rename_i h
  rw [<-liveL_eq,h,List.range_eq_range']
  refine filterMap_congr' fun j _=>?_
  rw [Nat.sub_zero,Array.getD_eq_getD_getElem?,List.getElem?_toArray,List.getD_eq_getElem?_getD]
 ·rfl
def relF (t:SetTable) (os:List Int) (wanted:Nat):List Int×SetTable:=
 frN (SetTable.sizeAbove wanted - 1) fun mask=>
 match layF mask (os.map hashInt) (List.replicate (mask+1) none) 0 with
 | none=>(os,t.standIn os.length)
 | some ow=>frLN ((liveF mask ow).map (·.1)) fun pl=>frLN ((liveF mask ow).map (·.2)) fun od=>
  if (coversAll od.toArray os.length&&SetTable.fits { mask,place:=pl.toArray,dummies:=#[],finger:=t.finger,led:=t.led,moves:=t.movedTo mask,plain:=t.plain } (od.filterMap (os[·]?)).length)=true then (od.filterMap (os[·]?),{ mask,place:=pl.toArray,dummies:=#[],finger:=t.finger,led:=t.led,moves:=t.movedTo mask,plain:=t.plain }) else (os,t.standIn os.length)
theorem relF_eq (t:SetTable) (os:List Int) (wanted:Nat):relF t os wanted=relK t os wanted:=by
 unfold relF relK SetTable.relaid SetTable.laid
 rw [frN_eq,layClean_eq]
 cases layF (SetTable.sizeAbove wanted - 1) (os.map hashInt) (List.replicate (SetTable.sizeAbove wanted - 1+1) none) 0 with
 | none=>rfl
 | some ow=>
  dsimp only [Option.map_some]
  rw [frLN_eq,frLN_eq,liveF_eq]
  rfl
def addF (st:List Int×SetTable) (k:Int):List Int×SetTable:=
 if (!(layK st.2 st.1 k).2.2&&(layK st.2 st.1 k).2.1.tooFull)=true then frS ((layK st.2 st.1 k).1,(layK st.2 st.1 k).2.1) fun q=>relF q.2 q.1 (SetTable.grown q.1.length)
 else ((layK st.2 st.1 k).1,(layK st.2 st.1 k).2.1)
theorem addF_eq (st:List Int×SetTable) (k:Int):addF st k=addK st k:=by
 unfold addF addK
 rw [frS_eq,relF_eq]
def canK (os:List Int):List Int×SetTable:=(os,{ mask:=31,place:=(os.map Int.toNat).toArray,dummies:=#[],finger:=0,led:=true,moves:=1,plain:=true })
def allG:Nat->List Int->Nat->List Int×SetTable->Bool
 | 0,ks,_,st=>decide (st=canK ks)
 | fuel+1,ks,k,st=>okK ks st&&(List.range (12 - k)).all fun d=>frN (k+d) fun kd=>frS (addF st ((kd:Nat):Int)) fun st'=>frLI (ks++[((kd:Nat):Int)]) fun ks'=>frN (kd+1) fun k'=>allG fuel ks' k' st'
theorem below_go {xs:Array Nat} {j i:Nat} (h1:∀m,m<i->m<xs.size->xs.getD m j<j) (h2:∀m,i<=m->m<xs.size->¬xs.getD m j<j):∀(f lo hi:Nat),lo<=i->i<=hi->hi<=xs.size->hi - lo<=f->SetTable.below.go xs j f lo hi=i
 | 0,lo,hi,a,b,c,d=>by
  unfold SetTable.below.go
  omega
 | f+1,lo,hi,a,b,c,d=>by
  unfold SetTable.below.go
  by_cases hlt:lo<hi
  ·rw [if_pos hlt]
   dsimp only
   by_cases hm:(lo+hi) / 2<i
   ·rw [if_pos (h1 _ hm (by omega))]
    exact below_go h1 h2 f _ _ (by omega) b c (by omega)
   ·rw [if_neg (h2 _ (by omega) (by omega))]
    exact below_go h1 h2 f _ _ a (by omega) (by omega) (by omega)
  ·rw [if_neg hlt]
   omega
theorem below_is {xs:Array Nat} {j i:Nat} (hi:i<=xs.size) (h1:∀m,m<i->m<xs.size->xs.getD m j<j) (h2:∀m,i<=m->m<xs.size->¬xs.getD m j<j):SetTable.below xs j=i:=
 below_go h1 h2 _ 0 _ (Nat.zero_le _) hi (Nat.le_refl _) (by omega)
def Sml (os:List Int):Prop:=os.Pairwise (· < ·)/\∀x,x∈os->0<=x/\x<12
theorem place_at (os:List Int) (m d:Nat) (h:m<os.length):(os.map Int.toNat).toArray.getD m d=os[m].toNat:=by
 rw [Array.getD_eq_getD_getElem?]
 simp [h]
theorem Sml.lt {os:List Int} (s:Sml os) {a b:Nat} (h:a<b) (hb:b<os.length):os[a].toNat<os[b].toNat:=by
 have:=List.pairwise_iff_getElem.mp s.1 a b (by omega) hb h
 have:=s.2 os[a] (List.getElem_mem (by omega))
 omega
theorem hash_sml:∀n:Fin 12,SetTable.bits (hashInt ((n.val:Nat):Int)) % 32=n.val:=by decide +kernel
theorem below_top {os:List Int} {k:Nat} (h:∀x,x∈os->x.toNat<k):SetTable.below (os.map Int.toNat).toArray k=os.length:=by
 have e:(os.map Int.toNat).toArray.size=os.length:=by simp
 refine below_is (by omega) (fun m hm _=>?_) (fun m hm hs=>by omega)
 rw [place_at os m k hm]
 exact h _ (List.getElem_mem _)
theorem len_sml {os:List Int} (s:Sml os):os.length<=12:=by
 have h:∀i (hi:i<os.length),(i:Int)<=os[i]:=by
  intro i
  induction i with
  | zero=>intro hi; exact (s.2 _ (List.getElem_mem hi)).1
  | succ i ih=>intro hi; have:=ih (by omega); have:=List.pairwise_iff_getElem.mp s.1 i (i+1) (by omega) hi (by omega); omega
 by_cases z:os.length<=12
 ·exact z
 ·have h1:=h 12 (by omega)
  have h2:=(s.2 _ (List.getElem_mem (show 12<os.length by omega))).2
  omega
theorem free_can {os:List Int} {k:Int} (s:Sml (os++[k])):(canK os).2.freeSlot (hashInt k)=some (k.toNat,false):=by
 have kb:=s.2 k (by simp)
 have top:∀x,x∈os->x.toNat<k.toNat:=fun x hx=>by
  have:=(List.pairwise_append.mp s.1).2.2 x hx k (by simp)
  have:=s.2 x (by simp [hx])
  omega
 have hk:SetTable.bits (hashInt k) % 32=k.toNat:=by
  have:=hash_sml ⟨k.toNat,by omega⟩
  rwa [show (((⟨k.toNat,by omega⟩:Fin 12).val:Nat):Int)=k by show ((k.toNat:Nat):Int)=k; omega] at this
 have sl:(canK os).2.slot k.toNat = .empty:=by
  unfold SetTable.slot
  show (let i:=SetTable.below (os.map Int.toNat).toArray k.toNat; if ((os.map Int.toNat).toArray[i]? == some k.toNat)=true then SetTable.Slot.live i else if SetTable.has #[] k.toNat=true then SetTable.Slot.dummy else SetTable.Slot.empty)=_
  rw [below_top top]
  dsimp only
  rw [Array.getElem?_eq_none (by simp)]
  rfl
 unfold SetTable.freeSlot SetTable.probe
 rw [show 10*SetTable.turns (canK os).2.mask=459+1 from rfl]
 unfold SetTable.probe.go
 rw [show ((canK os).2.probeStart (hashInt k)).j=k.toNat from hk,sl]
 rfl
theorem add_can {os:List Int} {k:Int} (s:Sml (os++[k])):addK (canK os) k=canK (os++[k]):=by
 have kb:=s.2 k (by simp)
 have top:∀x,x∈os->x.toNat<k.toNat:=fun x hx=>by
  have:=(List.pairwise_append.mp s.1).2.2 x hx k (by simp)
  have:=s.2 x (by simp [hx])
  omega
 have ln:=len_sml s
 rw [List.length_append,List.length_singleton] at ln
 have pt:(canK os).2.put k.toNat=((canK (os++[k])).2,os.length):=by
  unfold SetTable.put
  have e1:SetTable.below (canK os).2.place k.toNat=os.length:=below_top top
  rw [e1]
  have e2:SetTable.insertAt (canK os).2.place os.length k.toNat=(canK (os++[k])).2.place:=by
   show SetTable.insertAt (os.map Int.toNat).toArray os.length k.toNat=((os++[k]).map Int.toNat).toArray
   rw [insertAt_list,List.take_of_length_le (by simp),List.drop_of_length_le (by simp),List.map_append]
   rfl
  show (({ mask:=31,place:=SetTable.insertAt (canK os).2.place os.length k.toNat,dummies:=#[],finger:=0,led:=true,moves:=1,plain:=true }:SetTable),os.length)=_
  rw [e2]
  rfl
 have lay:layK (canK os).2 (canK os).1 k=(os++[k],(canK (os++[k])).2,false):=by
  unfold layK
  rw [free_can s]
  dsimp only
  rw [pt]
  dsimp only
  have e0:(canK os).1=os:=rfl
  rw [e0,List.take_of_length_le (Nat.le_refl _),List.drop_of_length_le (Nat.le_refl _)]
  have:(canK (os++[k])).2.orStandIn (os.length+1)=(canK (os++[k])).2:=by
   unfold SetTable.orStandIn
   rw [if_pos]
   unfold SetTable.fits SetTable.fill
   show ((((os++[k]).map Int.toNat).toArray.size == os.length+1)&&decide (((os++[k]).map Int.toNat).toArray.size+(#[]:Array Nat).size<=31))=true
   simp
   omega
  rw [this]
 unfold addK
 rw [lay]
 dsimp only
 rw [if_neg]
 ·rfl
 ·unfold SetTable.tooFull SetTable.fill
  show ¬((!false&&decide ((((os++[k]).map Int.toNat).toArray.size+(#[]:Array Nat).size)*5≥31*3))=true)
  simp
  omega
theorem fold_can:∀{ks os:List Int},Sml (os++ks)->ks.foldl addK (canK os)=canK (os++ks)
 | [],os,_=>by rw [List.append_nil]; rfl
 | k :: ks,os,s=>by
  have e:os++k :: ks=(os++[k])++ks:=by simp
  rw [e] at s ⊢
  rw [List.foldl_cons,add_can ⟨(List.pairwise_append.mp s.1).1,fun x hx=>s.2 x (List.mem_append_left _ hx)⟩]
  exact fold_can s
theorem ok_can {os:List Int} (s:Sml os):okK os (canK os)=true:=by
 have ln:=len_sml s
 have e:(os.map Int.toNat).toArray.size=os.length:=by simp
 unfold okK walkK
 rw [Bool.and_eq_true,Bool.and_eq_true,Bool.and_eq_true,List.all_eq_true]
 refine ⟨⟨⟨rfl,?_⟩,fun i hi=>?_⟩,List.isPerm_iff.mpr (List.Perm.refl _)⟩
 ·unfold SetTable.fits SetTable.fill
  show (((os.map Int.toNat).toArray.size == os.length)&&decide ((os.map Int.toNat).toArray.size+(#[]:Array Nat).size<=31))=true
  simp
  omega
 ·have hi:i<=os.length:=Nat.le_of_lt_succ (List.mem_range.mp hi)
  rw [beq_iff_eq]
  show SetTable.below (os.map Int.toNat).toArray (slotK (canK os).2 i)=i
  unfold slotK
  by_cases z:i=0
  ·rw [if_pos z]
   refine below_is (by omega) (fun m hm=>by omega) (fun m _ hs=>Nat.not_lt_zero _)
  ·rw [if_neg z]
   have ep:(canK os).2.place.getD (i - 1) 0=os[i - 1].toNat:=place_at os (i - 1) 0 (by omega)
   rw [ep]
   refine below_is (by omega) (fun m hm _=>?_) (fun m hm hs=>?_)
   ·rw [place_at os m _ (by omega)]
    rcases Nat.lt_or_ge m (i - 1) with h | h
    ·have:=s.lt h (by omega); omega
    ·have:m=i - 1:=by omega
     subst this
     omega
   ·rw [place_at os m _ (by omega)]
    have:=s.lt (show i - 1<m by omega) (by omega)
    omega
theorem allG_ok:∀(fuel:Nat) (pre:List Int) (k:Nat) (st:List Int×SetTable),allG fuel pre k st=true->∀ks:List Int,Sml (pre++ks)->(∀x,x∈ks->(k:Int)<=x)->okK (pre++ks) (ks.foldl addK st)=true
 | 0,pre,k,st,h,ks,s,_=>by
  have h:st=canK pre:=of_decide_eq_true h
  rw [h,fold_can s]
  exact ok_can s
 | fuel+1,pre,k,st,h,ks,s,hb=>by
  have h:(okK pre st&&(List.range (12 - k)).all fun d=>frN (k+d) fun kd=>frS (addF st ((kd:Nat):Int)) fun st'=>frLI (pre++[((kd:Nat):Int)]) fun ks'=>frN (kd+1) fun k'=>allG fuel ks' k' st')=true:=h
  simp only [frN_eq,frS_eq,frLI_eq,addF_eq] at h
  rw [Bool.and_eq_true,List.all_eq_true] at h
  cases ks with
  | nil=>rw [List.append_nil]; exact h.1
  | cons x ks=>
   have x0:=hb x (List.mem_cons_self ..)
   have x1:=(s.2 x (by simp)).2
   have:=h.2 (x.toNat - k) (List.mem_range.mpr (by omega))
   rw [show k+(x.toNat - k)=x.toNat by omega,show ((x.toNat:Nat):Int)=x by omega] at this
   have e:pre++x :: ks=(pre++[x])++ks:=by simp
   rw [e] at s ⊢
   refine allG_ok fuel (pre++[x]) (x.toNat+1) (addK st x) this ks s fun y hy=>?_
   have:=(List.pairwise_append.mp s.1).2.2 x (by simp) y hy
   omega
def gK (d:Nat):Bool:=frS (addF ([],SetTable.fresh 0 0 true) ((d:Nat):Int)) fun st=>allG 4 [((d:Nat):Int)] (d+1) st
set_option maxRecDepth 1000000
theorem gK0:gK 0=true:=by decide +kernel
theorem gK1:gK 1=true:=by decide +kernel
theorem gK2:gK 2=true:=by decide +kernel
theorem gK3:gK 3=true:=by decide +kernel
theorem gK4:gK 4=true:=by decide +kernel
theorem gK5:gK 5=true:=by decide +kernel
theorem gK6:gK 6=true:=by decide +kernel
theorem gK7:gK 7=true:=by decide +kernel
theorem gK8:gK 8=true:=by decide +kernel
theorem gK9:gK 9=true:=by decide +kernel
theorem gK10:gK 10=true:=by decide +kernel
theorem gK11:gK 11=true:=by decide +kernel
theorem gK_all:∀d,d<12->gK d=true
 | 0,_=>gK0
 | 1,_=>gK1
 | 2,_=>gK2
 | 3,_=>gK3
 | 4,_=>gK4
 | 5,_=>gK5
 | 6,_=>gK6
 | 7,_=>gK7
 | 8,_=>gK8
 | 9,_=>gK9
 | 10,_=>gK10
 | 11,_=>gK11
 | _+12,h=>by omega
theorem sim_true {ns:List Int} (pw:ns.Pairwise (· < ·)) (hb:∀x,x∈ns->0<=x/\x<12):okK ns (simK true ns)=true:=by
 cases ns with
 | nil=>decide +kernel
 | cons x ks=>
  have x0:=hb x (List.mem_cons_self ..)
  have g:=gK_all x.toNat (by omega)
  unfold gK at g
  rw [frS_eq,addF_eq,show ((x.toNat:Nat):Int)=x by omega] at g
  exact allG_ok 4 [x] (x.toNat+1) _ g ks ⟨pw,hb⟩ fun y hy=>by
   have:=(List.pairwise_cons.mp pw).1 y hy
   omega
end SW
namespace PySem.F
set_option maxRecDepth 100000
theorem owner_set_iterator:Manifest.owners.lookup (String.ofList ['r','o','t','a','r','e','t','i','_','t','e','s'].reverse)=some Manifest.sig_set_iterator:=by kernel_rfl
theorem slot_set_iterator_next:Slot "set_iterator" "__next__" "set_iterator.__next__" :=
 .of (owner := "set_iterator") (n := "__next__") (by rw [typeLookup_type,builtinLookup_eq_fast]; kernel_rfl) (by decide +kernel) (by decide +kernel) (by decide +kernel)
  (by first | exact .inl (by decide +kernel) | exact .inr (by decide +kernel)) (by rw [isSubtype_type]; kernel_rfl)
theorem args_set_iterator_next (a:Value):argsOk "set_iterator.__next__" ⟨[a],[]⟩:=by
 unfold argsOk; rw [signature?_of (id := "set_iterator.__next__") (n:=['_','_','t','x','e','n','_','_']) (o:=['r','o','t','a','r','e','t','i','_','t','e','s']) (by kernel_rfl) owner_set_iterator]; kernel_rfl
theorem entry_set_iterator_next:entryFor table "set_iterator.__next__" = some Builtin.«set_iterator.__next__»:=entryFor_of_tree (by kernel_rfl)
theorem entry_set_iter:entryFor table "set.__iter__" = some Builtin.«frozenset.__iter__»:=
 entryFor_alias (id' := "frozenset.__iter__") (by kernel_rfl) (by first | rfl | decide +kernel | (unfold String.splitOn; simp +decide [String.splitOnAux])) (by decide +kernel) (by kernel_rfl)
end PySem.F
namespace SW
open PySem PySem.Spec PyProof.Rows
def ledB (b:Bool) (t:SetTable):SetTable:={ t with led:=b }
theorem go_ledB (b:Bool) (t:SetTable) (f:Nat->Int) (h:Int):∀(n:Nat) (p:SetTable.Probe),SetTable.probe.go (ledB b t) f h n p=SetTable.probe.go t f h n p
 | 0,_=>rfl
 | n+1,p=>by
  unfold SetTable.probe.go
  rw [show (ledB b t).slot p.j=t.slot p.j from rfl]
  cases t.slot p.j with
  | empty=>rfl
  | dummy=>exact go_ledB b t f h n _
  | live i=>
   dsimp only
   split
   ·rfl
   ·exact go_ledB b t f h n _
theorem free_ledB (b:Bool) (t:SetTable) (h:Int):(ledB b t).freeSlot h=t.freeSlot h:=by
 unfold SetTable.freeSlot
 rw [show (ledB b t).probe (fun _=>h+1) h ((ledB b t).probeStart h)=t.probe (fun _=>h+1) h (t.probeStart h) from go_ledB b t _ h _ _]
theorem or_ledB (b:Bool) (t:SetTable) (n:Nat):(ledB b t).orStandIn n=ledB b (t.orStandIn n):=by
 unfold SetTable.orStandIn
 rw [show (ledB b t).fits n=t.fits n from rfl]
 split <;> rfl
theorem lay_ledB (b:Bool) (t:SetTable) (os:List Int) (k:Int):layK (ledB b t) os k=((layK t os k).1,ledB b (layK t os k).2.1,(layK t os k).2.2):=by
 unfold layK
 rw [free_ledB]
 cases t.freeSlot (hashInt k) with
 | none=>rfl
 | some q=>
  dsimp only
  rw [show (ledB b t).put q.1=(ledB b (t.put q.1).1,(t.put q.1).2) from rfl]
  dsimp only
  rw [or_ledB]
theorem ite_ledB (c:Bool) (a a':List Int) (x y:SetTable) (b:Bool) (x' y':SetTable) (hx:x'=ledB b x) (hy:y'=ledB b y):(if c=true then (a,x') else (a',y'))=((if c=true then (a,x) else (a',y)).1,ledB b (if c=true then (a,x) else (a',y)).2):=by
 subst hx hy
 cases c <;> rfl
theorem rel_ledB (b:Bool) (t:SetTable) (os:List Int) (m:Nat):relK (ledB b t) os m=((relK t os m).1,ledB b (relK t os m).2):=by
 unfold relK SetTable.relaid SetTable.laid
 rw [show (ledB b t).finger=t.finger from rfl,show (ledB b t).movedTo=t.movedTo from rfl]
 cases SetTable.layClean (SetTable.sizeAbove m - 1) (os.map hashInt).toArray with
 | none=>rfl
 | some ow=>
  exact ite_ledB _ _ _ _ _ b _ _ rfl rfl
theorem add_ledB (b:Bool) (os:List Int) (t:SetTable) (k:Int):addK (os,ledB b t) k=((addK (os,t) k).1,ledB b (addK (os,t) k).2):=by
 unfold addK
 dsimp only
 rw [lay_ledB]
 dsimp only
 rw [rel_ledB]
 rw [show (ledB b (layK t os k).2.1).tooFull=(layK t os k).2.1.tooFull from rfl]
 split <;> rfl
theorem fold_ledB (b:Bool):∀(ks:List Int) (st:List Int×SetTable),ks.foldl addK (st.1,ledB b st.2)=((ks.foldl addK st).1,ledB b (ks.foldl addK st).2)
 | [],_=>rfl
 | k :: ks,st=>by
  rw [List.foldl_cons,List.foldl_cons,add_ledB]
  exact fold_ledB b ks (addK st k)
theorem sim_ledB (b:Bool) (ks:List Int):simK b ks=((simK true ks).1,ledB b (simK true ks).2):=fold_ledB b ks ([],SetTable.fresh 0 0 true)
theorem sim_led (b:Bool) (ks:List Int):(simK b ks).2.led=b:=by rw [sim_ledB]; rfl
theorem sim_ok (b:Bool) {ns:List Int} (pw:ns.Pairwise (· < ·)) (hb:∀x,x∈ns->0<=x/\x<12):okK ns (simK b ns)=true:=by
 have h:=sim_true pw hb
 rw [sim_ledB]
 exact h
theorem erase_perm {α:Type} (l:List α) (i:Nat) (h:i<l.length):(l[i] :: l.eraseIdx i).Perm l:=by
 rw [List.eraseIdx_eq_take_drop_succ]
 refine List.perm_middle.symm.trans ?_
 rw [List.getElem_cons_drop,List.take_append_drop]
theorem pick_perm {α:Type} (next:Nat->Nat):∀(n k:Nat) (left:List α) (out:Array α),n=left.length->(pickOrder.go next n k left out).toList.Perm (out.toList++left)
 | 0,k,left,out,h=>by
  have:left=[]:=List.length_eq_zero_iff.mp h.symm
  subst this
  rw [List.append_nil]
  exact List.Perm.refl _
 | n+1,k,left,out,h=>by
  have hlt:next k % left.length<left.length:=Nat.mod_lt _ (by omega)
  unfold pickOrder.go
  rw [List.getElem?_eq_getElem hlt]
  dsimp only
  refine (pick_perm next n (k+1) _ _ (by rw [List.length_eraseIdx_of_lt hlt]; omega)).trans ?_
  rw [Array.toList_push,List.append_assoc]
  exact List.Perm.append_left _ (erase_perm left _ hlt)
def walkV (w:World) (S:Addr) (ep:Nat) (es:Array (Int×Value)):Array (Int×Value):=if byT w=true then pickOrder (w.params.setOrder S ep) es else es
def slotW (w:World) (t:SetTable) (i:Nat):Nat:=if byT w=true then 0 else slotK t i
theorem walkV_perm (w:World) (S:Addr) (ep:Nat) (es:Array (Int×Value)):(walkV w S ep es).toList.Perm es.toList:=by
 unfold walkV
 split
 ·exact pick_perm _ _ _ _ _ (by simp)
 ·exact List.Perm.refl _
theorem walkV_size (w:World) (S:Addr) (ep:Nat) (es:Array (Int×Value)):(walkV w S ep es).size=es.size:=by
 have:=(walkV_perm w S ep es).length_eq
 simpa using this
section
variable {prog:Program} {w:World} {A:Around} {E:Value->Shared->Prop} {s:Shared}
theorem byText_at {Q:Bool->Shared->Prop} (h:Q (byT w) s):wpAny (model prog w) A setsByText Q E s:=by
 unfold setsByText
 exact wpAny_bind (wpAny_askSetting (wpAny_pure h))
theorem setNext_at {S:Addr} {o:Obj} {es:Array (Int×Value)} {ep i:Nat} {t:SetTable} {Q:Option (Value×Nat)->Shared->Prop} (ho:s.heap.get? S=some o) (hd:o.data = .set es ep t) (hw:walkK t es.size=true) (hl:t.led = !byT w) (hi:i<=es.size)
  (h:Q (((walkV w S ep es)[i]?).map fun e=>(e.2,slotW w t (i+1))) s):wpAny (model prog w) A (setNext S (slotW w t i) i ep) Q E s:=by
 unfold walkK at hw
 rw [Bool.and_eq_true,Bool.and_eq_true,List.all_eq_true] at hw
 obtain ⟨⟨hp,hf⟩,ha⟩:=hw
 unfold setNext
 refine wpAny_bind (wpAny_setState_of ho hd hf ?_)
 dsimp only
 refine wpAny_bind (byText_at ?_)
 unfold walkV slotW at h
 unfold slotW
 cases hb:byT w with
 | true=>
  rw [hb] at h hl
  simp only [↓reduceIte] at h ⊢
  rw [if_neg (by simp)]
  refine wpAny_bind ?_
  unfold setWalk
  refine wpAny_bind (wpAny_setState_of ho hd hf ?_)
  dsimp only
  refine wpAny_bind (byText_at ?_)
  rw [hb]
  simp only [↓reduceIte]
  exact wpAny_bind (wpAny_askSetting (wpAny_pure (wpAny_pure h)))
 | false=>
  rw [hb] at h hl
  simp only [Bool.false_eq_true,↓reduceIte] at h ⊢
  have hl:t.led=true:=hl
  have hb:=ha i (List.mem_range.mpr (by omega))
  have hb:SetTable.below t.place (slotK t i)=i:=by simpa using hb
  rw [if_neg]
  rotate_left
  ·show ¬((!t.plain&&decide (es.size > 1))=true)
   rw [hp]
   simp
  refine wpAny_bind (wpAny_of_eq (a:=()) (show (if (!t.led && !es.isEmpty)=true then _ else _)=_ by rw [hl]; rfl) ?_)
  rw [hb]
  refine wpAny_pure ?_
  have hz:t.place.size=es.size:=by
   simp only [SetTable.fits,Bool.and_eq_true,beq_iff_eq,decide_eq_true_eq] at hf
   exact hf.1
  rcases Nat.lt_or_ge i es.size with hlt | hge
  ·have e2:t.place[i]?=some t.place[i]:=Array.getElem?_eq_getElem (by omega)
   have e1:es[i]?=some es[i]:=Array.getElem?_eq_getElem hlt
   rw [e1,e2]
   rw [e1] at h
   have:slotK t (i+1)=t.place[i]+1:=by
    unfold slotK
    rw [if_neg (by omega),Nat.add_sub_cancel,Array.getD_eq_getD_getElem?,e2]
    rfl
   rw [this] at h
   exact h
  ·have e1:es[i]?=none:=Array.getElem?_eq_none hge
   rw [e1] at h ⊢
   exact h
end
end SW
namespace SW
open PySem PySem.Spec PyProof.Rows
def IsSetIter (h:Heap) (I S:Addr) (slot i n ep:Nat):Prop:=
 ∃o,h.get? I=some o/\o.cls = .type "set_iterator" /\ o.data = .fields #[.int slot 0,.int i 0,.ref S,.int n 0,.int ep 0]
theorem IsSetIter.typeIs {s:Shared} {I S:Addr} {slot i n ep:Nat} (x:IsSetIter s.heap I S slot i n ep):s.TypeIs (.ref I) "set_iterator" := let ⟨o,ho,hc,_⟩:=x; ⟨o,ho,hc⟩
theorem IsSetIter.keep {h h':Heap} {I S:Addr} {slot i n ep:Nat} (x:IsSetIter h I S slot i n ep) (k:∀o,h.get? I=some o->h'.get? I=some o):IsSetIter h' I S slot i n ep:=let ⟨o,ho,r⟩:=x; ⟨o,k o ho,r⟩
structure SetAt (w:World) (h:Heap) (S:Addr) (es:Array (Int×Value)) (ep:Nat) (t:SetTable):Prop where
 at':h.get? S=some { cls:=.type "set",dict:=none,data:=.set es ep t }
 walk:walkK t es.size=true
 led:t.led = !byT w
theorem SetAt.fits {w:World} {h:Heap} {S:Addr} {es:Array (Int×Value)} {ep:Nat} {t:SetTable} (x:SetAt w h S es ep t):t.fits es.size=true:=by
 have hw:=x.walk
 unfold walkK at hw
 rw [Bool.and_eq_true,Bool.and_eq_true] at hw
 exact hw.1.2
theorem SetAt.plain {w:World} {h:Heap} {S:Addr} {es:Array (Int×Value)} {ep:Nat} {t:SetTable} (x:SetAt w h S es ep t):t.plain=true:=by
 have hw:=x.walk
 unfold walkK at hw
 rw [Bool.and_eq_true,Bool.and_eq_true] at hw
 exact hw.1.1
theorem SetAt.keep {w:World} {h h':Heap} {S:Addr} {es:Array (Int×Value)} {ep:Nat} {t:SetTable} (x:SetAt w h S es ep t) (k:∀o,h.get? S=some o->h'.get? S=some o):SetAt w h' S es ep t:=⟨k _ x.at',x.walk,x.led⟩
section
variable {prog:Program} {w:World} {A:Around} {E:Value->Shared->Prop} {s:Shared}
theorem slotW_zero (t:SetTable):slotW w t 0=0:=by
 unfold slotW slotK
 split <;> rfl
theorem iter_set {S:Addr} {es:Array (Int×Value)} {ep:Nat} {t:SetTable} {Q:Value->Shared->Prop} (x:SetAt w s.heap S es ep t)
  (hQ:Q (.ref s.heap.objs.size) { s with heap:=s.heap.push { cls:=.type "set_iterator",data:=.fields #[.int 0 0,.int 0 0,.ref S,.int es.size 0,.int ep 0] } }) :
  wpAny (model prog w) A (pyIter (.ref S)) Q E s:=by
 have hT:s.TypeIs (.ref S) "set" := ⟨_,x.at',rfl⟩
 refine wpAny_pyIter_slot hT F.slot_set_iter (wpAny_call_entry F.slot_set_iter hT F.entry_set_iter ?_ (F.args_set_iter_1 _))
 unfold Builtin.«frozenset.__iter__»
 show wpAny _ _ (Builtin.Frozenset.sizeOf S >>= _) _ _ s
 unfold Builtin.Frozenset.sizeOf setEntries
 refine wpAny_bind (wpAny_bind (wpAny_bind (wpAny_setState_of x.at' rfl x.fits (wpAny_pure (wpAny_pure ?_)))))
 dsimp only
 refine wpAny_bind ?_
 unfold setDrawn
 refine wpAny_bind (wpAny_setState_of x.at' rfl x.fits ?_)
 dsimp only
 refine wpAny_bind (byText_at (wpAny_pure ?_))
 rw [if_neg]
 rotate_left
 ·show ¬((!byT w&&(!t.plain&&decide (es.size > 1)))=true)
  rw [x.plain]
  simp
 refine wpAny_bind (wpAny_pure ?_)
 refine wpAny_bind ?_
 unfold setEpoch
 refine wpAny_bind (wpAny_setState_of x.at' rfl x.fits (wpAny_pure ?_))
 refine wpAny_bind (wpAny_newObj_type (wpAny_pure ⟨_,rfl,"set_iterator",_,⟨_,Heap.get?_push_size _ rfl,rfl⟩,F.slot_set_iterator_next.lookup,?_⟩))
 simpa [rawInt] using hQ
theorem next_item {I S:Addr} {es:Array (Int×Value)} {ep i:Nat} {t:SetTable} {e:Int×Value} {Q:Option Value->Shared->Prop} (x:SetAt w s.heap S es ep t) (hit:IsSetIter s.heap I S (slotW w t i) i es.size ep) (he:(walkV w S ep es)[i]?=some e)
  (hQ:∀h',IsSetIter h' I S (slotW w t (i+1)) (i+1) es.size ep->Heap.SameBut I s.heap h'->Q (some e.2) { s with heap:=h' }) :
  wpAny (model prog w) A (pyNext (.ref I)) Q E s:=by
 obtain ⟨o,ho,hc,hd⟩:=id hit
 have hlt:i<es.size:=by
  rw [<-walkV_size w S ep es]
  rcases Nat.lt_or_ge i (walkV w S ep es).size with h | h
  ·exact h
  ·rw [Array.getElem?_eq_none h] at he; cases he
 unfold pyNext
 refine wpAny_bind (wpAny_attempt (wpAny_callSpecial?_slot (name:=Str.ofString "__next__") hit.typeIs F.slot_set_iterator_next
  (wpAny_call_entry F.slot_set_iterator_next hit.typeIs F.entry_set_iterator_next ?_ (F.args_set_iterator_next _))))
 unfold Builtin.«set_iterator.__next__»
 refine wpAny_bind (wpAny_pure ?_)
 refine wpAny_bind (wpAny_fieldsOf ho hd ?_)
 dsimp only
 unfold setEntries
 refine wpAny_bind (wpAny_bind (wpAny_setState_of x.at' rfl x.fits (wpAny_pure ?_)))
 dsimp only
 rw [if_neg (by simp)]
 refine wpAny_bind ?_
 simp only [Int.toNat_natCast]
 refine setNext_at x.at' rfl x.walk x.led (Nat.le_of_lt hlt) ?_
 rw [he]
 dsimp only [Option.map_some]
 refine wpAny_bind (wpAny_setField ho hd (by simp) ?_)
 have ho1:=Heap.get?_update_self (Obj.mapFields (·.setIfInBounds 0 (rawInt ((slotW w t (i+1):Nat):Int)))) ho (Obj.isFreed_of_fields (Obj.data_mapFields hd _))
 refine wpAny_bind (wpAny_setField (s:={ s with heap:=_ }) ho1 (Obj.data_mapFields hd _) (by simp) (wpAny_pure ⟨_,rfl,wpAny_pure (hQ _ ?_ ?_)⟩))
 ·refine ⟨_,Heap.get?_update_self _ ho1 (Obj.isFreed_of_fields (Obj.data_mapFields (Obj.data_mapFields hd _) _)),?_,?_⟩
  ·rw [Obj.cls_mapFields,Obj.cls_mapFields,hc]
  ·rw [Obj.data_mapFields (Obj.data_mapFields hd _)]; simp [rawInt]
 ·exact (Heap.SameBut.update ..).trans (Heap.SameBut.update ..)
theorem next_end {I S:Addr} {es:Array (Int×Value)} {ep:Nat} {t:SetTable} {Q:Option Value->Shared->Prop} (hh:A.handled=none) (x:SetAt w s.heap S es ep t) (hit:IsSetIter s.heap I S (slotW w t es.size) es.size es.size ep)
  (hQ:∀h',Heap.ExtBut I s.heap h'->Q none { s with heap:=h' }) :
  wpAny (model prog w) A (pyNext (.ref I)) Q E s:=by
 obtain ⟨o,ho,hc,hd⟩:=id hit
 unfold pyNext
 refine wpAny_bind (wpAny_attempt (wpAny_callSpecial?_slot (name:=Str.ofString "__next__") hit.typeIs F.slot_set_iterator_next
  (wpAny_call_entry F.slot_set_iterator_next hit.typeIs F.entry_set_iterator_next ?_ (F.args_set_iterator_next _))))
 unfold Builtin.«set_iterator.__next__»
 refine wpAny_bind (wpAny_pure ?_)
 refine wpAny_bind (wpAny_fieldsOf ho hd ?_)
 dsimp only
 unfold setEntries
 refine wpAny_bind (wpAny_bind (wpAny_setState_of x.at' rfl x.fits (wpAny_pure ?_)))
 dsimp only
 rw [if_neg (by simp)]
 refine wpAny_bind ?_
 simp only [Int.toNat_natCast]
 refine setNext_at x.at' rfl x.walk x.led (Nat.le_refl _) ?_
 rw [Array.getElem?_eq_none (by rw [walkV_size]; exact Nat.le_refl _)]
 dsimp only [Option.map_none]
 refine wpAny_bind (wpAny_setField ho hd (by simp) ?_)
 refine wpAny_bind ?_
 simp only [newExc,newTuple]
 refine wpAny_bind (wpAny_newObj_type ?_ (by size_fits))
 refine wpAny_bind (m:=firstArgMember _ _) (wpAny_of_eq (a:=Value.none) (by first | rfl | (simp only [firstArgMember]; rfl)) ?_)
 refine wpAny_newObj_type ?_ (by size_fits)
 simp only [raiseNew]
 refine wpAny_bind (wpAny_handled ?_)
 rw [show A.in1.handled=none from hh]
 refine wpAny_bind (wpAny_pure (wpAny_throw ?_))
 refine wpAny_bind (wpAny_isInstance (T := "StopIteration") (b:=true) ⟨_,Heap.get?_push_size _ rfl,rfl⟩ isSubtype_stop ?_)
 exact wpAny_pure (hQ _ (((Heap.SameBut.update ..).extBut.push _).push _))
end
end SW
namespace SW
open PySem PySem.Spec PyProof.Rows
section
variable {prog:Program} {w:World} {A:Around} {E:Value->Shared->Prop}
theorem ext_loop {R:Result->Shared->Prop} {L I S:Addr} {es:Array (Int×Value)} {ep:Nat} {t:SetTable} (res:Value) (hh:A.in1.handled=none) (hLI:L≠I) (hSI:S≠I) (hLS:L≠S) (hz:es.size<=100) :
  ∀(k i:Nat) (s:Shared) (c:Nat),es.size - i=k->i<=es.size->SetAt w s.heap S es ep t->IsSetIter s.heap I S (slotW w t i) i es.size ep->s.heap.get? L=some { cls:=.type "list",dict:=none,data:=.seq ((((walkV w S ep es).toList.map (·.2)).take i).toArray) c,slots:=#[] } ->
   (∀(h':Heap) (c':Nat),(∀b o,b≠L->b≠I->s.heap.get? b=some o->h'.get? b=some o)->h'.get? L=some { cls:=.type "list",dict:=none,data:=.seq ((walkV w S ep es).toList.map (·.2)).toArray c',slots:=#[] }->R (.ok (.ret res)) { s with heap:=h' }) ->
   codeAny (model prog w) A (.builtin "list.extend.loop" ⟨[.ref L,.ref I,res],[]⟩) R s:=by
 have hvz:(walkV w S ep es).size=es.size:=walkV_size w S ep es
 have hlz:((walkV w S ep es).toList.map (·.2)).length=es.size:=by rw [List.length_map,Array.length_toList,hvz]
 intro k
 induction k with
 | zero=>
  intro i s c hk hi x hit hL hR
  have ei:i=es.size:=by omega
  subst ei
  refine codeAny_builtin F.entry_extend_loop ?_
  rw [Around.under_plainId F.plain_extend_loop _]
  show wpAny _ A.in1 (pyNext (.ref I) >>= _) _ _ s
  refine wpAny_bind (next_end hh x hit fun h' hx=>?_)
  rw [List.take_of_length_le (by omega)] at hL
  exact wpAny_pure (hR h' c (fun b o _ hb e=>hx b o hb e) (hx L _ hLI hL))
 | succ k ih=>
  intro i s c hk hi x hit hL hR
  have hlt:i<es.size:=by omega
  have he:(walkV w S ep es)[i]?=some (walkV w S ep es)[i]:=Array.getElem?_eq_getElem (by omega)
  refine codeAny_builtin F.entry_extend_loop ?_
  rw [Around.under_plainId F.plain_extend_loop _]
  show wpAny _ A.in1 (pyNext (.ref I) >>= _) _ _ s
  refine wpAny_bind (next_item x hit he fun h1 hit1 sb=>?_)
  have hx1:=sb.extBut
  have hL1:=hx1 L _ hLI hL
  generalize hv:(walkV w S ep es)[i].2=v
  show wpAny _ A.in1 (updateSeq L (·.push v) >>= _) _ _ _
  refine wpAny_bind ?_
  have hln:(((walkV w S ep es).toList.map (·.2)).take i).toArray.size=i:=by rw [List.size_toArray,List.length_take]; omega
  have ep1:(((walkV w S ep es).toList.map (·.2)).take i).toArray.push v=(((walkV w S ep es).toList.map (·.2)).take (i+1)).toArray:=by
   rw [List.take_succ_eq_append_getElem (by omega),List.getElem_map,Array.getElem_toList,hv]
   simp
  refine wpAny_updateSeq hL1 rfl (wpAny_pure ⟨plainId_quiet F.plain_extend_loop _,?_⟩) (by rw [hln]; exact Nat.le_trans (Nat.le_of_lt hlt) (Nat.le_trans hz (by rw [sizeLine_eq]; decide))) (by show Array.size (Array.push _ v)<=sizeLine+1; rw [Array.size_push,hln,sizeLine_eq]; omega)
  have hg:=Heap.get?_update_self (Obj.mapSeq (·.push v)) hL1 rfl
  have keep:∀b o,b≠L->h1.get? b=some o->(h1.update L (Obj.mapSeq (·.push v))).get? b=some o:=fun b o hb e=>(Heap.get?_update_other _ _ (Ne.symm hb)).trans e
  refine ih (i+1) _ _ (by omega) hlt ((x.keep fun o e=>hx1 S _ hSI e).keep fun o e=>keep S o (Ne.symm hLS) e) (hit1.keep fun o e=>keep I o (Ne.symm hLI) e) (hg.trans (by unfold Obj.mapSeq; dsimp only; rw [ep1])) fun h' c' fr hl=>?_
  exact hR h' c' (fun b o h1' h2' e=>fr b o h1' h2' (keep b o h1' (hx1 b o h2' e))) hl
variable {s:Shared}
theorem collect_set {S:Addr} {es:Array (Int×Value)} {ep:Nat} {t:SetTable} {Q:List Value->Shared->Prop} (hh:A.handled=none) (x:SetAt w s.heap S es ep t) (hz:es.size<=100)
  (hQ:∀h':Heap,s.heap.objs.size<h'.objs.size->(∀b o,b<s.heap.objs.size->s.heap.get? b=some o->h'.get? b=some o)->Q ((walkV w S ep es).toList.map (·.2)) { s with heap:=h' }) :
  wpAny (model prog w) A (collect (.ref S)) Q E s:=by
 have hS:S<s.heap.objs.size:=Heap.lt_size x.at'
 have hLS:s.heap.objs.size≠S:=Nat.ne_of_gt hS
 unfold collect
 refine wpAny_bind (wpAny_runValue (codeAny_builtin F.entry_proto_collect ?_))
 rw [Around.under_plainId F.plain_proto_collect _]
 show wpAny _ A.in1 (newList [] >>= fun l=>again (.builtin "list.__iadd__" ⟨[l,.ref S],[]⟩)) _ _ s
 refine wpAny_bind (wpAny_newObj_type ?_)
 refine wpAny_pure ⟨plainId_quiet F.plain_list_iadd _,codeAny_builtin F.entry_list_iadd ?_⟩
 rw [Around.under_plainId F.plain_list_iadd _]
 show wpAny _ A.in1 (Builtin.List.listExtendWith (.ref s.heap.objs.size) (.ref S) (.ref s.heap.objs.size)) _ _ _
 unfold Builtin.List.listExtendWith
 have x1:SetAt w (s.heap.push { cls:=.type "list",data:=.seq ([]:List Value).toArray }) S es ep t:=x.keep fun o e=>Heap.get?_push_of_some _ e
 have t1:Shared.TypeIs { s with heap:=s.heap.push { cls:=.type "list",data:=.seq ([]:List Value).toArray } } (.ref S) "set" := ⟨_,x1.at',rfl⟩
 refine wpAny_bind (wpAny_typeOf t1 ?_)
 have h1:Builtin.List.listSameRef (.ref s.heap.objs.size) (.ref S)=false:=by simp [Builtin.List.listSameRef,hLS]
 have h2:(Value.type "set" == Value.type "list")=false:=by decide
 have h3:(Value.type "set" == Value.type "tuple")=false:=by decide
 simp only [h1,h2,h3,Bool.or_false,Bool.false_eq_true,if_false]
 refine wpAny_bind (iter_set x1 ?_)
 have z1:(s.heap.push { cls:=.type "list",data:=.seq ([]:List Value).toArray }).objs.size=s.heap.objs.size+1:=Heap.size_push ..
 rw [z1]
 generalize hob:({ cls:=.type "set_iterator",data:=.fields #[.int 0 0,.int 0 0,.ref S,.int es.size 0,.int ep 0] }:Obj)=ob
 have x2:SetAt w ((s.heap.push { cls:=.type "list",data:=.seq ([]:List Value).toArray }).push ob) S es ep t:=x1.keep fun o e=>Heap.get?_push_of_some _ e
 have t2:Shared.TypeIs { s with heap:=(s.heap.push { cls:=.type "list",data:=.seq ([]:List Value).toArray }).push ob } (.ref S) "set" := ⟨_,x2.at',rfl⟩
 refine wpAny_bind (wpAny_holding ?_)
 unfold Builtin.List.listLengthHint
 refine wpAny_bind (wpAny_specialOf t2 F.slot_set_len.lookup ?_)
 have sp:splitId "set.__len__" = some ("set","__len__"):=by decide +kernel
 dsimp only
 rw [sp]
 dsimp only
 refine wpAny_bind (wpAny_isInstance (T := "set") (b:=true) t2 sub_set_self ?_)
 simp only [Bool.not_true,Bool.false_eq_true,if_false]
 rw [if_pos]
 rotate_left
 ·decide +kernel
 refine wpAny_bind (wpAny_typeOf t2 (wpAny_pure ?_))
 rw [if_pos]
 rotate_left
 ·decide +kernel
 refine wpAny_bind (wpAny_rule ?_)
 generalize hp0:s.heap.push { cls:=.type "list",data:=.seq ([]:List Value).toArray }=p0 at x1 t1 z1 x2 t2 ⊢
 have g0:p0.get? s.heap.objs.size=some { cls:=.type "list",data:=.seq ([]:List Value).toArray }:=by rw [<-hp0]; exact Heap.get?_push_size _ rfl
 have zI:(p0.push ob).get? (s.heap.objs.size+1)=some ob:=by rw [<-z1]; exact Heap.get?_push_size _ (by rw [<-hob]; rfl)
 have g1:(p0.push ob).get? s.heap.objs.size=some { cls:=.type "list",data:=.seq ([]:List Value).toArray }:=Heap.get?_push_of_some _ g0
 refine wpAny_bind ?_
 show wpAny _ A.in1 (updateSeq s.heap.objs.size (·.push .none) >>= fun _=>updateSeq s.heap.objs.size (·.pop)) _ _ _
 refine wpAny_bind (wpAny_updateSeq g1 rfl ?_)
 have g2:=Heap.get?_update_self (Obj.mapSeq (·.push Value.none)) g1 rfl
 refine wpAny_updateSeq g2 rfl ?_
 have g3:=Heap.get?_update_self (Obj.mapSeq (·.pop)) g2 rfl
 have oth:∀b o,b≠s.heap.objs.size->(p0.push ob).get? b=some o->(((p0.push ob).update s.heap.objs.size (Obj.mapSeq (·.push Value.none))).update s.heap.objs.size (Obj.mapSeq (·.pop))).get? b=some o:=
  fun b o hb e=>(Heap.get?_update_other _ _ (Ne.symm hb)).trans ((Heap.get?_update_other _ _ (Ne.symm hb)).trans e)
 refine wpAny_pure ⟨plainId_quiet F.plain_extend_loop _,ext_loop (t:=t) (es:=es) (ep:=ep) (S:=S) _ hh (Nat.ne_of_lt (Nat.lt_succ_self _)) (Nat.ne_of_lt (Nat.lt_succ_of_lt hS)) hLS hz es.size 0 _ _ rfl (Nat.zero_le _) (x2.keep fun o e=>oth S o (Ne.symm hLS) e) ⟨ob,oth _ _ (Nat.ne_of_gt (Nat.lt_succ_self _)) zI,by rw [<-hob],by rw [<-hob,slotW_zero]; rfl⟩ g3 fun h' c' fr hl=>?_⟩
 show wpAny _ A (load s.heap.objs.size >>= _) _ _ _
 refine wpAny_bind (wpAny_load hl ?_)
 refine wpAny_pure (hQ h' (Heap.lt_size hl) fun b o hb e=>?_)
 refine fr b o (Nat.ne_of_lt hb) (Nat.ne_of_lt (Nat.lt_succ_of_lt hb)) (oth b o (Nat.ne_of_lt hb) (Heap.get?_push_of_some _ ?_))
 rw [<-hp0]
 exact Heap.get?_push_of_some _ e
end
end SW
namespace SW
open PySem PySem.Spec PyProof.Rows
section
variable {prog:Program} {w:World} {A:Around} {E:Value->Shared->Prop} {s:Shared}
theorem sorted_set {S:Addr} {os:List Int} {tok:Int->Tok} {ep:Nat} {t:SetTable} {Q:Value->Shared->Prop} (hh:A.handled=none) (x:SetAt w s.heap S (esK tok os) ep t) (hz:os.length<64)
  (h:∀(h':Heap) (a:Addr) (out:Array Value) (e:Nat) (ns':List Int),(∀b o,b<s.heap.objs.size->s.heap.get? b=some o->h'.get? b=some o)->s.heap.objs.size<=a->h'.get? a=some (seqObj "list" out e)->IntsAre out.toList ns'->ns'.Perm os->ns'.Pairwise (·<=·)->Q (.ref a) { s with heap:=h' }) :
  wpAny (model prog w) A (call (.builtin "sorted") [.ref S]) Q E s:=by
 refine Calls.call_function_entry kind_sorted plain_sorted entry_sorted (args_sorted1 _) ?_
 unfold Builtin.«sorted»
 refine wpAny_bind (m:=checkCount "sorted" 1 1 _) (wpAny_pure ?_)
 refine wpAny_bind (collect_set (by exact hh) x (by rw [esK_size]; omega) fun h1 lt k1=>?_)
 refine wpAny_bind (wpAny_newList ?_ (by rw [List.length_map,Array.length_toList,walkV_size,esK_size,sizeLine_eq]; omega))
 obtain ⟨ks,pk,ek⟩:∃ks:List Int,ks.Perm os/\(walkV w S ep (esK tok os)).toList.map (·.2)=ks.map fun k=>Value.int k (tok k):=by
  have pm:=walkV_perm w S ep (esK tok os)
  have e0:(esK tok os).toList=os.map (entK tok):=by unfold esK; simp
  rw [e0] at pm
  refine ⟨(walkV w S ep (esK tok os)).toList.map fun e=>match e.2 with | .int k _=>k | _=>0,?_,?_⟩
  ·refine (pm.map _).trans (List.Perm.of_eq ?_)
   rw [List.map_map]
   exact (List.map_congr_left fun k _=>rfl).trans (List.map_id _)
  ·rw [List.map_map]
   refine List.map_congr_left fun e he=>?_
   obtain ⟨k,_,rfl⟩:=List.mem_map.mp (pm.mem_iff.mp he)
   rfl
 rw [ek]
 have hI:IntsAre (ks.map fun k=>Value.int k (tok k)) ks:=by
  clear ek pk
  induction ks with
  | nil=>exact .nil
  | cons k ks ih=>exact .cons _ _ ih
 generalize hvs:(ks.map fun k=>Value.int k (tok k))=vs at hI
 have hoL:(h1.push (seqObj "list" vs.toArray 0)).get? h1.objs.size=some (seqObj "list" vs.toArray 0):=Heap.get?_push_size _ rfl
 refine wpAny_bind (wpAny_holding (wpAny_call_entry slot_list_sort (s:={ s with heap:=h1.push (seqObj "list" vs.toArray 0) }) ⟨_,hoL,rfl⟩ entry_list_sort (list_sort_tree hoL hI (by rw [hI.length,pk.length_eq]; exact hz) fun out ns' a1 a2 a3=>⟨_,rfl,?_⟩) (args_list_sort _)))
 obtain ⟨e,ge⟩:∃e,(sortedHeap (h1.push (seqObj "list" vs.toArray 0)) h1.objs.size vs out).get? h1.objs.size=some (seqObj "list" out e):=by
  obtain ⟨e1,g1⟩:∃e1,((h1.push (seqObj "list" vs.toArray 0)).update h1.objs.size (Obj.mapSeq fun _=>#[])).get? h1.objs.size=some (seqObj "list" #[] e1):=⟨_,get?_update_seq hoL (fun _=>#[])⟩
  unfold sortedHeap
  exact ⟨_,get?_update_seq (Heap.get?_push_of_some _ (Heap.get?_push_of_some _ g1)) (fun _=>out)⟩
 refine wpAny_pure ⟨_,rfl,h _ _ out e ns' (fun b o hb e=>?_) (Nat.le_of_lt lt) ge a1 (a2.trans pk) a3⟩
 have hbn:h1.objs.size≠b:=Nat.ne_of_gt (Nat.lt_trans hb lt)
 unfold sortedHeap
 refine (Heap.get?_update_other _ _ hbn).trans (Heap.get?_push_of_some _ (Heap.get?_push_of_some _ ((Heap.get?_update_other _ _ hbn).trans (Heap.get?_push_of_some _ (k1 b o hb e)))))
end
theorem eq_of_sorted:∀{l₁ l₂:List Int},l₁.Perm l₂->l₁.Pairwise (·<=·)->l₂.Pairwise (· < ·)->l₁=l₂
 | [],l₂,p,_,_=>(List.nil_perm.mp p).symm
 | x :: l₁,[],p,_,_=>absurd p.length_eq (by simp)
 | x :: l₁,y :: l₂,p,s1,s2=>by
  have s1':=List.pairwise_cons.mp s1
  have s2':=List.pairwise_cons.mp s2
  have e:x=y:=by
   rcases List.mem_cons.mp (p.mem_iff.mp (List.mem_cons_self ..)) with e | m
   ·exact e
   ·rcases List.mem_cons.mp (p.mem_iff.mpr (List.mem_cons_self ..)) with e | m'
    ·exact e.symm
    ·have:=s2'.1 x m
     have:=s1'.1 y m'
     omega
  subst e
  rw [eq_of_sorted (List.Perm.cons_inv p) s1'.2 s2'.2]
end SW
namespace L2
open PySem PySem.Spec PyProof.Rows SW
def SetK (w:World) (a:Addr) (ns:List Int):HO:=.ext fun h=>∃(os:List Int) (tok:Int->Tok) (ep:Nat) (t:SetTable),SetAt w h a (esK tok os) ep t/\os.Perm ns
def rSet (K:W.Frag) (w:World):List V->Hp->VK->Prop:=fun xs H Q=>∃(p:Addr) (ns:List Int),xs=[.ref p]/\SqL K H p (ns.map V.int)/\ns.Pairwise (· < ·)/\(∀x,x∈ns->0<=x/\x<12)/\∀(l:Addr) (H':Hp),New H H' l (SetK w l ns)->Q (.ref l) H'
def rSortedS (w:World):List V->Hp->VK->Prop:=fun xs H Q=>∃(p:Addr) (ns:List Int),xs=[.ref p]/\H p=some (SetK w p ns)/\ns.Pairwise (· < ·)/\ns.length<64/\∀(l:Addr) (H':Hp),New H H' l (.lst (ns.map V.int))->Q (.ref l) H'
section
variable {X:Cx}
theorem call_setK (hc:X.calm=true):CallR X (.type "set") (rSet X.K X.w):=by
 intro pins s σ H xs us Q I r h
 obtain ⟨p,ns,rfl,hq,pw,hb,q⟩:=h
 cases r with
 | cons h1 h2=>
  cases h2
  cases h1
  obtain ⟨its,hv,pl,_⟩:=I.list hq
  have hok:∀i,i<=ns.length->okK (ns.take i) (simK (!byT X.w) (ns.take i))=true:=fun i _=>sim_ok _ (pw.sublist (List.take_sublist _ _)) fun x hx=>hb x (List.mem_of_mem_take hx)
  have ok:okK ns (simK (!byT X.w) ns)=true:=sim_ok _ pw hb
  have hn:ns.length<=100:=by
   by_cases z:ns.length<=100
   ·exact z
   ·have h12:=List.pairwise_iff_getElem.mp pw
    have:∀i (hi:i<ns.length),(i:Int)<=ns[i]:=by
     intro i
     induction i with
     | zero=>intro hi; exact (hb _ (List.getElem_mem hi)).1
     | succ i ih=>intro hi; have:=ih (by omega); have:=h12 i (i+1) (by omega) hi (by omega); omega
    have h1:=this 50 (by omega)
    have h2:=(hb _ (List.getElem_mem (show 50<ns.length by omega))).2
    omega
  refine call_set_exact (I.ok.hd hc) pl.isList (intsAre_of hv) pw hn hok fun h' tk tok ep k g=>?_
  unfold okK at ok
  rw [Bool.and_eq_true] at ok
  have hx:SetAt X.w h' s.heap.objs.size (esK tok (simK (!byT X.w) ns).1) ep (simK (!byT X.w) ns).2:=⟨g,by rw [esK_size]; exact ok.1,sim_led _ _⟩
  refine ⟨.ref _,_,I.laid (t':=tk) (o:=SetK X.w s.heap.objs.size ns) (fun b u e=>k b u (Heap.lt_size e) e) (Nat.le_refl _) ⟨⟨_,tok,ep,_,hx,List.isPerm_iff.mp ok.2⟩,⟨_,g⟩,?_⟩,rfl,q _ _ (.of (I.hok.fresh (Nat.le_refl _)))⟩
  intro h1 h2 ⟨os,tok,ep,t,x,p⟩ k
  exact ⟨os,tok,ep,t,x.keep k,p⟩
theorem call_sortedS (hc:X.calm=true):CallR X (.builtin "sorted") (rSortedS X.w):=by
 intro pins s σ H xs us Q I r h
 obtain ⟨p,ns,rfl,hq,pw,hl,q⟩:=h
 cases r with
 | cons h1 h2=>
  cases h2
  cases h1
  obtain ⟨⟨os,tok,ep,t,x,pm⟩,_⟩:=I.hok _ _ hq
  refine sorted_set (I.ok.hd hc) x (by rw [pm.length_eq]; exact hl) fun h' a out e ns' k le g ho pm' pw'=>?_
  have en:ns'=ns:=eq_of_sorted (pm'.trans pm) pw' pw
  subst en
  refine ⟨.ref _,_,I.laid (t':=s.toks) (o:=.lst (ns'.map V.int)) (fun b u e=>k b u (Heap.lt_size e) e) le ⟨?_,out.toList,e,vals_of ho,by rw [Array.toArray_toList]; exact g⟩,rfl,q _ _ (.of (I.hok.fresh le))⟩
  rw [List.length_map]
  exact Nat.le_trans (Nat.le_of_lt hl) (by decide)
end
section
variable {X:Cx} (K:W.Frag) (w:World)
theorem set_Q (hc:X.calm=true) (h:X.K=K:=by rfl) (hw:X.w=w:=by rfl):CallR X (.type "set") (rSet K w):=by subst h hw; exact call_setK hc
theorem sortedS_Q (hc:X.calm=true) (hw:X.w=w:=by rfl):CallR X (.builtin "sorted") (rSortedS w):=by subst hw; exact call_sortedS hc
end
end L2
namespace SW
open PySem PySem.Spec PyProof.Rows L2
def dPs (ps:List (Int×Int)):PyData:=.list (ps.map fun p=>dP p.1 p.2)
theorem lay_prs:∀ps:List (Int×Int),PyData.canLayAll0 (ps.map fun p=>dP p.1 p.2)=true
 | []=>by simp [PyData.canLayAll0]
 | r :: rs=>by rw [List.map_cons,PyData.canLayAll0,lay_dP,lay_prs rs]; rfl
theorem lay_dPs (ps:List (Int×Int)):(dPs ps).canLay0=true:=by unfold dPs; rw [PyData.canLay0]; exact lay_prs ps
theorem dep_prs:∀ps:List (Int×Int),PyData.depthAll (ps.map fun p=>dP p.1 p.2)<=1
 | []=>by simp [PyData.depthAll]
 | r :: rs=>by
  rw [List.map_cons,PyData.depthAll]
  have h1:=dep_prs rs
  have h2:(dP r.1 r.2).depth=1:=by simp [dP,PyData.depth,PyData.depthAll]
  omega
theorem dep_dPs (ps:List (Int×Int)):(dPs ps).depth<=2:=by unfold dPs; rw [PyData.depth]; have:=dep_prs ps; omega
theorem eqv_prs:∀ps:List (Int×Int),PyData.eqvAll (ps.map fun p=>dP p.1 p.2) (ps.map fun p=>dP p.1 p.2)=true
 | []=>by simp [PyData.eqvAll]
 | r :: rs=>by rw [List.map_cons,PyData.eqvAll,eqv_dP,eqv_prs rs]; simp
theorem eqv_dPs (ps:List (Int×Int)):PyData.eqv (dPs ps) (dPs ps)=true:=by unfold dPs; rw [PyData.eqv]; exact eqv_prs ps
def PrsL (K:W.Frag) (H:Hp) (p:Addr) (ps:List (Int×Int)):Prop:=∃as:List Addr,SqL K H p (as.map V.ref)/\as.length=ps.length/\∀(i:Nat) (a:Addr) (q:Int×Int),as[i]?=some a->ps[i]?=some q->H a=some (.tup [.int q.1,.int q.2])
section
variable {K:W.Frag} {H H':Hp}
theorem PrsL.same {p:Addr} {ps:List (Int×Int)} (m:PrsL K H p ps) (S:Same H H'):PrsL K H' p ps:=by
 obtain ⟨as,h1,h2,h3⟩:=m
 exact ⟨as,S.seq h1,h2,fun i a r e1 e2=>S _ _ (h3 i a r e1 e2)⟩
theorem rep_prs:∀(as:List Addr) (ps:List (Int×Int)),as.length=ps.length->(∀(i:Nat) (a:Addr) (q:Int×Int),as[i]?=some a->ps[i]?=some q->H a=some (.tup [.int q.1,.int q.2]))->RepAll K H (ps.map fun p=>dP p.1 p.2) (as.map V.ref)
 | [],[],_,_=>by simp only [List.map_nil,RepAll]
 | [],_ :: _,h,_=>by simp at h
 | _ :: _,[],h,_=>by simp at h
 | a :: as,r :: rs,h,hr=>by
  rw [List.map_cons,List.map_cons,RepAll]
  exact ⟨_,_,rfl,rep_dP (hr 0 a r rfl rfl),rep_prs as rs (by simpa using h) fun i a' r' e1 e2=>hr (i+1) a' r' (by simpa using e1) (by simpa using e2)⟩
theorem rep_dPs {p:Addr} {ps:List (Int×Int)} (m:PrsL K H p ps):Rep K H (dPs ps) (.ref p):=by
 obtain ⟨as,h1,h2,h3⟩:=m
 unfold dPs
 rw [Rep]
 exact ⟨p,_,rfl,h1,rep_prs as ps h2 h3⟩
end
def d4 (rs:List (List Int)) (ps qs:List (Int×Int)):PyData:=.list [dM rs,dPs ps,dPs qs]
theorem lay_d4 (rs:List (List Int)) (ps qs:List (Int×Int)):(d4 rs ps qs).canLay0=true:=by unfold d4; simp [PyData.canLay0,PyData.canLayAll0,lay_dM,lay_dPs]
theorem dep_d4 (rs:List (List Int)) (ps qs:List (Int×Int)):(d4 rs ps qs).depth<=64:=by
 unfold d4
 have h1:(dM rs).depth<=2:=by unfold dM; rw [PyData.depth]; have:=dep_rows rs; omega
 have h2:=dep_dPs ps
 have h3:=dep_dPs qs
 rw [PyData.depth,PyData.depthAll,PyData.depthAll,PyData.depthAll,PyData.depthAll]
 omega
theorem eqv_d4 (rs:List (List Int)) (ps qs:List (Int×Int)):PyData.eqv (d4 rs ps qs) (d4 rs ps qs)=true:=by
 unfold d4
 rw [PyData.eqv,PyData.eqvAll,PyData.eqvAll,PyData.eqvAll,PyData.eqvAll,eqv_dM,eqv_dPs,eqv_dPs]
 simp
def Trip4 (K:W.Frag) (H:Hp) (p:Addr) (rs:List (List Int)) (ps qs:List (Int×Int)):Prop:=∃a b c,SqL K H p [.ref a,.ref b,.ref c]/\Mat K H a rs/\PrsL K H b ps/\PrsL K H c qs
theorem rep_d4 {K:W.Frag} {H:Hp} {p:Addr} {rs:List (List Int)} {ps qs:List (Int×Int)} (t:Trip4 K H p rs ps qs):Rep K H (d4 rs ps qs) (.ref p):=by
 obtain ⟨a,b,c,h,h1,h2,h3⟩:=t
 unfold d4
 rw [Rep]
 refine ⟨p,_,rfl,h,?_⟩
 rw [RepAll]
 refine ⟨_,_,rfl,rep_dM h1,?_⟩
 rw [RepAll]
 refine ⟨_,_,rfl,rep_dPs h2,?_⟩
 rw [RepAll]
 refine ⟨_,_,rfl,rep_dPs h3,?_⟩
 simp only [RepAll]
def rSame4 (K:W.Frag) (neg:Bool):R2:=fun x y H Q=>∃(p q:Addr) (rs:List (List Int)) (ps qs:List (Int×Int)),x = .ref p/\y = .ref q/\Trip4 K H p rs ps qs/\Trip4 K H q rs ps qs/\Q (.bl (!neg)) H
def rSameP (K:W.Frag) (neg:Bool):R2:=fun x y H Q=>∃(p q:Addr) (ps:List (Int×Int)),x = .ref p/\y = .ref q/\PrsL K H p ps/\PrsL K H q ps/\Q (.bl (!neg)) H
section
variable {X:Cx} (K:W.Frag)
theorem ne4_Q (hu:X.A.units+64<cLine) (h:X.K=K:=by rfl):OpR X (compareOp .NotEq) (rSame4 K true):=by
 subst h
 intro pins s σ H x y v u Q I rx ry ⟨p,q,rs,ns,ms,e1,e2,h1,h2,k⟩
 subst e1 e2
 exact op_neD hu pins s σ H _ _ v u Q I rx ry ⟨_,_,rep_d4 h1,rep_d4 h2,lay_d4 _ _ _,lay_d4 _ _ _,dep_d4 _ _ _,by rw [eqv_d4]; exact k⟩
theorem nePs_Q (hu:X.A.units+64<cLine) (h:X.K=K:=by rfl):OpR X (compareOp .NotEq) (rSameP K true):=by
 subst h
 intro pins s σ H x y v u Q I rx ry ⟨p,q,ps,e1,e2,h1,h2,k⟩
 subst e1 e2
 exact op_neD hu pins s σ H _ _ v u Q I rx ry ⟨_,_,rep_dPs h1,rep_dPs h2,lay_dPs _,lay_dPs _,Nat.le_trans (dep_dPs _) (by decide),by rw [eqv_dPs]; exact k⟩
end
end SW
namespace K7
open PySem L2 SW
def top (i:Nat):Stmt:=PySem.Challenge.pw_seatweave_k07_whole_only_one.main.body.getD i (.Pass ⟨0,0,0,0⟩)
abbrev s_Qa:Stmt:=top 2
abbrev s_ratio:Stmt:=top 3
abbrev s_over:Stmt:=top 4
abbrev s_below:Stmt:=top 5
abbrev s_price:Stmt:=top 10
abbrev s_Qb:Stmt:=top 12
abbrev s_Qn:Stmt:=top 19
abbrev s_Qo:Stmt:=top 20
abbrev s_Qc:Stmt:=top 21
abbrev s_woven:Stmt:=top 22
abbrev s_Qk:Stmt:=top 23
abbrev s_Ql:Stmt:=top 24
abbrev s_Qm:Stmt:=top 25
abbrev s_ring:Stmt:=top 26
abbrev s_twin:Stmt:=top 27
abbrev s_Qd:Stmt:=top 30
abbrev s_Qy:Stmt:=top 36
abbrev s_QN:Stmt:=top 37
abbrev s_QB:Stmt:=top 38
abbrev s_QK:Stmt:=top 39
abbrev s_QL:Stmt:=top 40
abbrev s_QM:Stmt:=top 41
abbrev s_Qz:Stmt:=top 42
abbrev s_QG:Stmt:=top 43
abbrev s_QH:Stmt:=top 44
abbrev s_QI:Stmt:=top 45
abbrev s_QA:Stmt:=top 46
abbrev s_QJ:Stmt:=top 47
abbrev s_Qe:Stmt:=top 48
abbrev s_Qp:Stmt:=top 49
abbrev s_law:Stmt:=top 50
abbrev s_Qq:Stmt:=inClass (top 13) 0
abbrev s_Qr:Stmt:=inClass (top 13) 1
abbrev s_Qs:Stmt:=inClass (top 13) 2
abbrev s_Qh:Stmt:=inClass (top 14) 0
abbrev s_Qg:Stmt:=inClass (top 14) 1
abbrev s_Qf:Stmt:=inClass (top 14) 2
abbrev s_Qi:Stmt:=inClass (top 17) 0
abbrev s_Qt:Stmt:=inClass (top 18) 0
abbrev s_Qu:Stmt:=inClass (top 31) 0
abbrev s_Qv:Stmt:=inClass (top 31) 1
abbrev s_Qw:Stmt:=inClass (top 32) 0
abbrev s_Qx:Stmt:=inClass (top 33) 0
abbrev s_Qj:Stmt:=inClass (top 34) 0
theorem sc_Qa:FnScope ["a","b","rest"] ["a","b"] (defScope s_Qa):=⟨rfl,rfl,rfl,by decide +kernel,rfl,by decide +kernel,by decide +kernel⟩
theorem sc_ratio:FnScope ["a","b","divisor"] ["a","b"] (defScope s_ratio):=⟨rfl,rfl,rfl,by decide +kernel,rfl,by decide +kernel,by decide +kernel⟩
theorem sc_over:FnScope ["one","other"] ["one","other"] (defScope s_over):=⟨rfl,rfl,rfl,by decide +kernel,rfl,by decide +kernel,by decide +kernel⟩
theorem sc_below:FnScope ["one","other"] ["one","other"] (defScope s_below):=⟨rfl,rfl,rfl,by decide +kernel,rfl,by decide +kernel,by decide +kernel⟩
theorem sc_price:FnScope ["number","n","rule"] ["number","n","rule"] (defScope s_price):=⟨rfl,rfl,rfl,by decide +kernel,rfl,by decide +kernel,by decide +kernel⟩
theorem sc_Qb:FnScope ["one","other","height"] ["one","other","height"] (defScope s_Qb):=⟨rfl,rfl,rfl,by decide +kernel,rfl,by decide +kernel,by decide +kernel⟩
theorem sc_Qn:FnScope ["reach","left","height","node"] ["reach","left","height"] (defScope s_Qn):=⟨rfl,rfl,rfl,by decide +kernel,rfl,by decide +kernel,by decide +kernel⟩
theorem sc_Qo:FnScope ["reach","height","missed","node"] ["reach","height"] (defScope s_Qo):=⟨rfl,rfl,rfl,by decide +kernel,rfl,by decide +kernel,by decide +kernel⟩
theorem sc_Qc:FnScope ["net","costs","rows","columns","cost"] ["net"] (defScope s_Qc):=⟨rfl,rfl,rfl,by decide +kernel,rfl,by decide +kernel,by decide +kernel⟩
theorem sc_woven:FnScope ["votes","places","parties","rule","height","net","left","reach","ends","path","row","due","i"] ["votes","places","parties","rule"] (defScope s_woven):=⟨rfl,rfl,rfl,by decide +kernel,rfl,by decide +kernel,by decide +kernel⟩
theorem sc_Qk:FnScope ["net","dealing","levels","node","pair"] ["net","dealing"] (defScope s_Qk):=⟨rfl,rfl,rfl,by decide +kernel,rfl,by decide +kernel,by decide +kernel⟩
theorem sc_Ql:FnScope ["node","ways","levels","other"] ["node","ways","levels"] (defScope s_Ql):=⟨rfl,rfl,rfl,by decide +kernel,rfl,by decide +kernel,by decide +kernel⟩
theorem sc_Qm:FnScope ["cost","start","end"] ["cost","start","end"] (defScope s_Qm):=⟨rfl,rfl,rfl,by decide +kernel,rfl,by decide +kernel,by decide +kernel⟩
theorem sc_ring:FnScope ["ways","lasting","step","path","node","others","other"] ["ways"] (defScope s_ring):=⟨rfl,rfl,rfl,by decide +kernel,rfl,by decide +kernel,by decide +kernel⟩
theorem sc_twin:FnScope ["votes","dealing","rule","net","path"] ["votes","dealing","rule"] (defScope s_twin):=⟨rfl,rfl,rfl,by decide +kernel,rfl,by decide +kernel,by decide +kernel⟩
theorem sc_Qd:FnScope ["value"] ["value"] (defScope s_Qd):=⟨rfl,rfl,rfl,by decide +kernel,rfl,by decide +kernel,by decide +kernel⟩
theorem sc_Qy:FnScope ["_law_script","_law_k"] ["_law_script","_law_k"] (defScope s_Qy):=⟨rfl,rfl,rfl,by decide +kernel,rfl,by decide +kernel,by decide +kernel⟩
theorem sc_QN:FnScope ["_law_cell","_law_k","_law_many","_law_primes"] ["_law_cell","_law_k","_law_many"] (defScope s_QN):=⟨rfl,rfl,rfl,by decide +kernel,rfl,by decide +kernel,by decide +kernel⟩
theorem sc_QB:FnScope ["_law_cell","_law_k","_law_most"] ["_law_cell","_law_k","_law_most"] (defScope s_QB):=⟨rfl,rfl,rfl,by decide +kernel,rfl,by decide +kernel,by decide +kernel⟩
theorem sc_QK:FnScope ["_law_cell","_law_kind","_law_q","_law_p"] ["_law_cell"] (defScope s_QK):=⟨rfl,rfl,rfl,by decide +kernel,rfl,by decide +kernel,by decide +kernel⟩
theorem sc_QL:FnScope ["_law_cell","_law_kind"] ["_law_cell"] (defScope s_QL):=⟨rfl,rfl,rfl,by decide +kernel,rfl,by decide +kernel,by decide +kernel⟩
theorem sc_QM:FnScope ["_law_cell","_law_k"] ["_law_cell","_law_k"] (defScope s_QM):=⟨rfl,rfl,rfl,by decide +kernel,rfl,by decide +kernel,by decide +kernel⟩
theorem sc_Qz:FnScope ["_law_script","_law_cell","_law_rows","_law_columns","_law_votes","_law_i","_law_row","_law_j","_law_at","_law_many","_law_places","_law_parties","_law_skew","_law_k","_law_seat","_law_vote_here"] ["_law_script"] (defScope s_Qz):=⟨rfl,rfl,rfl,by decide +kernel,rfl,by decide +kernel,by decide +kernel⟩
theorem sc_QG:FnScope ["_law_top","_law_low","_law_part","_law_n"] ["_law_top","_law_low","_law_part","_law_n"] (defScope s_QG):=⟨rfl,rfl,rfl,by decide +kernel,rfl,by decide +kernel,by decide +kernel⟩
theorem sc_QH:FnScope ["_law_votes","_law_seats","_law_told","_law_part","_law_i","_law_by","_law_found","_law_j","_law_n","_law_top","_law_low"] ["_law_votes","_law_seats","_law_told","_law_part","_law_i","_law_by"] (defScope s_QH):=⟨rfl,rfl,rfl,by decide +kernel,rfl,by decide +kernel,by decide +kernel⟩
theorem sc_QI:FnScope ["_law_votes","_law_told","_law_part","_law_gives","_law_takes","_law_left","_law_turn","_law_kept","_law_i","_law_k","_law_j"] ["_law_votes","_law_told","_law_part"] (defScope s_QI):=⟨rfl,rfl,rfl,by decide +kernel,rfl,by decide +kernel,by decide +kernel⟩
theorem sc_QA:FnScope ["_law_one","_law_other","_law_big","_law_low"] ["_law_one","_law_other"] (defScope s_QA):=⟨rfl,rfl,rfl,by decide +kernel,rfl,by decide +kernel,by decide +kernel⟩
theorem sc_QJ:FnScope ["_law_votes","_law_one","_law_two","_law_part","_law_j","_law_i","_law_top","_law_low","_law_seat","_law_row"] ["_law_votes","_law_one","_law_two","_law_part"] (defScope s_QJ):=⟨rfl,rfl,rfl,by decide +kernel,rfl,by decide +kernel,by decide +kernel⟩
theorem sc_Qe:FnScope ["_law_votes","_law_kept","_law_rule_here","_law_part","_law_rows","_law_columns","_law_made","_law_one","_law_other","_law_row"] ["_law_votes","_law_kept","_law_rule_here","_law_part"] (defScope s_Qe):=⟨rfl,rfl,rfl,by decide +kernel,rfl,by decide +kernel,by decide +kernel⟩
theorem sc_Qp:FnScope ["_law_votes","_law_places","_law_parties","_law_rows","_law_columns","_law_some","_law_many","_law_i","_law_j","_law_one"] ["_law_votes","_law_places","_law_parties","_law_rows","_law_columns"] (defScope s_Qp):=⟨rfl,rfl,rfl,by decide +kernel,rfl,by decide +kernel,by decide +kernel⟩
theorem sc_law:FnScope ["_law_script","_law_votes","_law_places","_law_parties","_law_rule_here","_law_part","_law_told","_law_kept","_law_handed","_law_made","_law_other","_law_again","_law_row","_law_vote_here"] ["_law_script"] (defScope s_law):=⟨rfl,rfl,rfl,by decide +kernel,rfl,by decide +kernel,by decide +kernel⟩
theorem sc_Qq:FnScope ["self","votes","seats","width","rule","i","j","row","node"] ["self","votes","seats","width","rule"] (defScope s_Qq):=⟨rfl,rfl,rfl,by decide +kernel,rfl,by decide +kernel,by decide +kernel⟩
theorem sc_Qr:FnScope ["self","i","j","number","seats","party"] ["self","i","j"] (defScope s_Qr):=⟨rfl,rfl,rfl,by decide +kernel,rfl,by decide +kernel,by decide +kernel⟩
theorem sc_Qs:FnScope ["self","path","k","cell"] ["self","path"] (defScope s_Qs):=⟨rfl,rfl,rfl,by decide +kernel,rfl,by decide +kernel,by decide +kernel⟩
theorem sc_Qh:FnScope ["self","starts","ways","node","waiting","fallen","other"] ["self","starts","ways"] (defScope s_Qh):=⟨rfl,rfl,rfl,by decide +kernel,rfl,by decide +kernel,by decide +kernel⟩
theorem sc_Qg:FnScope ["self","node","ways","so_far","fallen","other","cost"] ["self","node","ways"] (defScope s_Qg):=⟨rfl,rfl,rfl,by decide +kernel,rfl,by decide +kernel,by decide +kernel⟩
theorem sc_Qf:FnScope ["self","node","path"] ["self","node"] (defScope s_Qf):=⟨rfl,rfl,rfl,by decide +kernel,rfl,by decide +kernel,by decide +kernel⟩
theorem sc_Qi:FnScope ["self","seats","rows","columns","row"] ["self","seats","rows","columns"] (defScope s_Qi):=⟨rfl,rfl,rfl,by decide +kernel,rfl,by decide +kernel,by decide +kernel⟩
theorem sc_Qt:FnScope ["self","rows","columns"] ["self","rows","columns"] (defScope s_Qt):=⟨rfl,rfl,rfl,by decide +kernel,rfl,by decide +kernel,by decide +kernel⟩
theorem sc_Qu:FnScope ["self","whole"] ["self","whole"] (defScope s_Qu):=⟨rfl,rfl,rfl,by decide +kernel,rfl,by decide +kernel,by decide +kernel⟩
theorem sc_Qv:FnScope ["self","n"] ["self","n"] (defScope s_Qv):=⟨rfl,rfl,rfl,by decide +kernel,rfl,by decide +kernel,by decide +kernel⟩
theorem sc_Qw:FnScope ["self"] ["self"] (defScope s_Qw):=⟨rfl,rfl,rfl,by decide +kernel,rfl,by decide +kernel,by decide +kernel⟩
theorem sc_Qx:FnScope ["self"] ["self"] (defScope s_Qx):=⟨rfl,rfl,rfl,by decide +kernel,rfl,by decide +kernel,by decide +kernel⟩
theorem sc_Qj:FnScope ["self","p","q"] ["self","p","q"] (defScope s_Qj):=⟨rfl,rfl,rfl,by decide +kernel,rfl,by decide +kernel,by decide +kernel⟩
set_option genInjectivity false in
structure Txt (K:W.Frag) (mg:Str->Option Value) where
 a_Qa:Addr
 fd_Qa:FuncData
 F_Qa:Fun K "common_divisor" "common_divisor" s_Qa a_Qa fd_Qa
 b_Qa:Binds K fd_Qa ["a","b"] []
 m_Qa:mg "common_divisor" = some (.ref a_Qa)
 a_ratio:Addr
 fd_ratio:FuncData
 F_ratio:Fun K "ratio" "ratio" s_ratio a_ratio fd_ratio
 b_ratio:Binds K fd_ratio ["a","b"] []
 m_ratio:mg "ratio" = some (.ref a_ratio)
 a_over:Addr
 fd_over:FuncData
 F_over:Fun K "over" "over" s_over a_over fd_over
 b_over:Binds K fd_over ["one","other"] []
 m_over:mg "over" = some (.ref a_over)
 a_below:Addr
 fd_below:FuncData
 F_below:Fun K "below" "below" s_below a_below fd_below
 b_below:Binds K fd_below ["one","other"] []
 m_below:mg "below" = some (.ref a_below)
 a_price:Addr
 fd_price:FuncData
 F_price:Fun K "price" "price" s_price a_price fd_price
 b_price:Binds K fd_price ["number","n","rule"] []
 m_price:mg "price" = some (.ref a_price)
 a_Qb:Addr
 fd_Qb:FuncData
 F_Qb:Fun K "cell_between" "cell_between" s_Qb a_Qb fd_Qb
 b_Qb:Binds K fd_Qb ["one","other","height"] []
 m_Qb:mg "cell_between" = some (.ref a_Qb)
 a_Qn:Addr
 fd_Qn:FuncData
 F_Qn:Fun K "ends_of" "ends_of" s_Qn a_Qn fd_Qn
 b_Qn:Binds K fd_Qn ["reach","left","height"] []
 m_Qn:mg "ends_of" = some (.ref a_Qn)
 a_Qo:Addr
 fd_Qo:FuncData
 F_Qo:Fun K "bar_of" "bar_of" s_Qo a_Qo fd_Qo
 b_Qo:Binds K fd_Qo ["reach","height"] []
 m_Qo:mg "bar_of" = some (.ref a_Qo)
 a_Qc:Addr
 fd_Qc:FuncData
 F_Qc:Fun K "dealing_of" "dealing_of" s_Qc a_Qc fd_Qc
 b_Qc:Binds K fd_Qc ["net"] []
 m_Qc:mg "dealing_of" = some (.ref a_Qc)
 a_woven:Addr
 fd_woven:FuncData
 F_woven:Fun K "woven" "woven" s_woven a_woven fd_woven
 b_woven:Binds K fd_woven ["votes","places","parties","rule"] []
 m_woven:mg "woven" = some (.ref a_woven)
 a_Qk:Addr
 fd_Qk:FuncData
 F_Qk:Fun K "free_ways" "free_ways" s_Qk a_Qk fd_Qk
 b_Qk:Binds K fd_Qk ["net","dealing"] []
 m_Qk:mg "free_ways" = some (.ref a_Qk)
 a_Ql:Addr
 fd_Ql:FuncData
 F_Ql:Fun K "free_from" "free_from" s_Ql a_Ql fd_Ql
 b_Ql:Binds K fd_Ql ["node","ways","levels"] []
 m_Ql:mg "free_from" = some (.ref a_Ql)
 a_Qm:Addr
 fd_Qm:FuncData
 F_Qm:Fun K "costs_just" "costs_just" s_Qm a_Qm fd_Qm
 b_Qm:Binds K fd_Qm ["cost","start","end"] []
 m_Qm:mg "costs_just" = some (.ref a_Qm)
 a_ring:Addr
 fd_ring:FuncData
 F_ring:Fun K "ring" "ring" s_ring a_ring fd_ring
 b_ring:Binds K fd_ring ["ways"] []
 m_ring:mg "ring" = some (.ref a_ring)
 a_twin:Addr
 fd_twin:FuncData
 F_twin:Fun K "twin" "twin" s_twin a_twin fd_twin
 b_twin:Binds K fd_twin ["votes","dealing","rule"] []
 m_twin:mg "twin" = some (.ref a_twin)
 a_Qd:Addr
 fd_Qd:FuncData
 F_Qd:Fun K "is_whole_number" "is_whole_number" s_Qd a_Qd fd_Qd
 b_Qd:Binds K fd_Qd ["value"] []
 m_Qd:mg "is_whole_number" = some (.ref a_Qd)
 a_Qy:Addr
 fd_Qy:FuncData
 F_Qy:Fun K "_law_cell_at" "_law_cell_at" s_Qy a_Qy fd_Qy
 b_Qy:Binds K fd_Qy ["_law_script","_law_k"] []
 m_Qy:mg "_law_cell_at" = some (.ref a_Qy)
 a_QN:Addr
 fd_QN:FuncData
 F_QN:Fun K "_law_draw" "_law_draw" s_QN a_QN fd_QN
 b_QN:Binds K fd_QN ["_law_cell","_law_k","_law_many"] []
 m_QN:mg "_law_draw" = some (.ref a_QN)
 a_QB:Addr
 fd_QB:FuncData
 F_QB:Fun K "_law_great" "_law_great" s_QB a_QB fd_QB
 b_QB:Binds K fd_QB ["_law_cell","_law_k","_law_most"] []
 m_QB:mg "_law_great" = some (.ref a_QB)
 a_QK:Addr
 fd_QK:FuncData
 F_QK:Fun K "_law_rule" "_law_rule" s_QK a_QK fd_QK
 b_QK:Binds K fd_QK ["_law_cell"] []
 m_QK:mg "_law_rule" = some (.ref a_QK)
 a_QL:Addr
 fd_QL:FuncData
 F_QL:Fun K "_law_vote" "_law_vote" s_QL a_QL fd_QL
 b_QL:Binds K fd_QL ["_law_cell"] []
 m_QL:mg "_law_vote" = some (.ref a_QL)
 a_QM:Addr
 fd_QM:FuncData
 F_QM:Fun K "_law_size" "_law_size" s_QM a_QM fd_QM
 b_QM:Binds K fd_QM ["_law_cell","_law_k"] []
 m_QM:mg "_law_size" = some (.ref a_QM)
 a_Qz:Addr
 fd_Qz:FuncData
 F_Qz:Fun K "_law_table" "_law_table" s_Qz a_Qz fd_Qz
 b_Qz:Binds K fd_Qz ["_law_script"] []
 m_Qz:mg "_law_table" = some (.ref a_Qz)
 a_QG:Addr
 fd_QG:FuncData
 F_QG:Fun K "_law_fits" "_law_fits" s_QG a_QG fd_QG
 b_QG:Binds K fd_QG ["_law_top","_law_low","_law_part","_law_n"] []
 m_QG:mg "_law_fits" = some (.ref a_QG)
 a_QH:Addr
 fd_QH:FuncData
 F_QH:Fun K "_law_ways" "_law_ways" s_QH a_QH fd_QH
 b_QH:Binds K fd_QH ["_law_votes","_law_seats","_law_told","_law_part","_law_i","_law_by"] []
 m_QH:mg "_law_ways" = some (.ref a_QH)
 a_QI:Addr
 fd_QI:FuncData
 F_QI:Fun K "_law_ring" "_law_ring" s_QI a_QI fd_QI
 b_QI:Binds K fd_QI ["_law_votes","_law_told","_law_part"] []
 m_QI:mg "_law_ring" = some (.ref a_QI)
 a_QA:Addr
 fd_QA:FuncData
 F_QA:Fun K "_law_least" "_law_least" s_QA a_QA fd_QA
 b_QA:Binds K fd_QA ["_law_one","_law_other"] []
 m_QA:mg "_law_least" = some (.ref a_QA)
 a_QJ:Addr
 fd_QJ:FuncData
 F_QJ:Fun K "_law_same" "_law_same" s_QJ a_QJ fd_QJ
 b_QJ:Binds K fd_QJ ["_law_votes","_law_one","_law_two","_law_part"] []
 m_QJ:mg "_law_same" = some (.ref a_QJ)
 a_Qe:Addr
 fd_Qe:FuncData
 F_Qe:Fun K "_law_scaled_right" "_law_scaled_right" s_Qe a_Qe fd_Qe
 b_Qe:Binds K fd_Qe ["_law_votes","_law_kept","_law_rule_here","_law_part"] []
 m_Qe:mg "_law_scaled_right" = some (.ref a_Qe)
 a_Qp:Addr
 fd_Qp:FuncData
 F_Qp:Fun K "_law_barred" "_law_barred" s_Qp a_Qp fd_Qp
 b_Qp:Binds K fd_Qp ["_law_votes","_law_places","_law_parties","_law_rows","_law_columns"] []
 m_Qp:mg "_law_barred" = some (.ref a_Qp)
 a_law:Addr
 fd_law:FuncData
 F_law:Fun K "law" "law" s_law a_law fd_law
 a_Qq:Addr
 fd_Qq:FuncData
 F_Qq:Fun K "__init__" "Net.__init__" s_Qq a_Qq fd_Qq
 b_Qq:Binds K fd_Qq ["self","votes","seats","width","rule"] []
 a_Qr:Addr
 fd_Qr:FuncData
 F_Qr:Fun K "lay" "Net.lay" s_Qr a_Qr fd_Qr
 b_Qr:Binds K fd_Qr ["self","i","j"] []
 a_Qs:Addr
 fd_Qs:FuncData
 F_Qs:Fun K "move" "Net.move" s_Qs a_Qs fd_Qs
 b_Qs:Binds K fd_Qs ["self","path"] []
 a_Qh:Addr
 fd_Qh:FuncData
 F_Qh:Fun K "__init__" "Reach.__init__" s_Qh a_Qh fd_Qh
 b_Qh:Binds K fd_Qh ["self","starts","ways"] []
 a_Qg:Addr
 fd_Qg:FuncData
 F_Qg:Fun K "go_on" "Reach.go_on" s_Qg a_Qg fd_Qg
 b_Qg:Binds K fd_Qg ["self","node","ways"] []
 a_Qf:Addr
 fd_Qf:FuncData
 F_Qf:Fun K "path_to" "Reach.path_to" s_Qf a_Qf fd_Qf
 b_Qf:Binds K fd_Qf ["self","node"] []
 a_Qi:Addr
 fd_Qi:FuncData
 F_Qi:Fun K "__init__" "Dealing.__init__" s_Qi a_Qi fd_Qi
 b_Qi:Binds K fd_Qi ["self","seats","rows","columns"] []
 a_Qt:Addr
 fd_Qt:FuncData
 F_Qt:Fun K "__init__" "Bar.__init__" s_Qt a_Qt fd_Qt
 b_Qt:Binds K fd_Qt ["self","rows","columns"] []
 a_Qu:Addr
 fd_Qu:FuncData
 F_Qu:Fun K "__init__" "Rule.__init__" s_Qu a_Qu fd_Qu
 b_Qu:Binds K fd_Qu ["self","whole"] []
 a_Qv:Addr
 fd_Qv:FuncData
 F_Qv:Fun K "mark" "Rule.mark" s_Qv a_Qv fd_Qv
 b_Qv:Binds K fd_Qv ["self","n"] []
 a_Qw:Addr
 fd_Qw:FuncData
 F_Qw:Fun K "__init__" "Down.__init__" s_Qw a_Qw fd_Qw
 b_Qw:Binds K fd_Qw ["self"] []
 a_Qx:Addr
 fd_Qx:FuncData
 F_Qx:Fun K "__init__" "Half.__init__" s_Qx a_Qx fd_Qx
 b_Qx:Binds K fd_Qx ["self"] []
 a_Qj:Addr
 fd_Qj:FuncData
 F_Qj:Fun K "__init__" "Between.__init__" s_Qj a_Qj fd_Qj
 b_Qj:Binds K fd_Qj ["self","p","q"] []
 c_Net:Addr
 m_Net:mg "Net" = some (.ref c_Net)
 c_Reach:Addr
 m_Reach:mg "Reach" = some (.ref c_Reach)
 c_Answer:Addr
 m_Answer:mg "Answer" = some (.ref c_Answer)
 c_QC:Addr
 m_QC:mg "Dealing" = some (.ref c_QC)
 c_Bar:Addr
 m_Bar:mg "Bar" = some (.ref c_Bar)
 c_Rule:Addr
 m_Rule:mg "Rule" = some (.ref c_Rule)
 c_Down:Addr
 m_Down:mg "Down" = some (.ref c_Down)
 c_Half:Addr
 m_Half:mg "Half" = some (.ref c_Half)
 c_QD:Addr
 m_QD:mg "Between" = some (.ref c_QD)
 c_QF:Addr
 m_QF:mg "DealError" = some (.ref c_QF)
 c_QE:Addr
 m_QE:mg "BadRule" = some (.ref c_QE)
 tk_GREATEST_Q:Tok
 m_GREATEST_Q:mg "GREATEST_Q" = some (.int 1000 tk_GREATEST_Q)
 cf_Qu:ClsFn K c_Rule "__init__" a_Qu
 cl_Down:Cls K c_Down
 M_Down:Mk K c_Down a_Qw
 ty_Down:ClsTy K c_Down
 na_Down_whole:NoAttr K c_Down "whole"
 mt_Down_mark:Meth K c_Down "mark" a_Qv
 cl_Half:Cls K c_Half
 M_Half:Mk K c_Half a_Qx
 ty_Half:ClsTy K c_Half
 na_Half_whole:NoAttr K c_Half "whole"
 mt_Half_mark:Meth K c_Half "mark" a_Qv
 cl_QD:Cls K c_QD
 M_QD:Mk K c_QD a_Qj
 ty_QD:ClsTy K c_QD
 na_QD_whole:NoAttr K c_QD "whole"
 mt_QD_mark:Meth K c_QD "mark" a_Qv
 x_QE:W.excIn K c_QE bmV "ValueError.__new__" = true
 cl_Net:Cls K c_Net
 M_Net:Mk K c_Net a_Qq
 na_Net_votes:NoAttr K c_Net "votes"
 na_Net_rule:NoAttr K c_Net "rule"
 na_Net_height:NoAttr K c_Net "height"
 na_Net_seats:NoAttr K c_Net "seats"
 na_Net_ways:NoAttr K c_Net "ways"
 mt_Qr:Meth K c_Net "lay" a_Qr
 mt_Qs:Meth K c_Net "move" a_Qs
 cl_Reach:Cls K c_Reach
 M_Reach:Mk K c_Reach a_Qh
 na_Reach_costs:NoAttr K c_Reach "costs"
 na_Reach_ahead:NoAttr K c_Reach "ahead"
 mt_Qg:Meth K c_Reach "go_on" a_Qg
 mt_Qf:Meth K c_Reach "path_to" a_Qf
 cl_QC:Cls K c_QC
 M_QC:Mk K c_QC a_Qi
 na_QC_seats:NoAttr K c_QC "seats"
 na_QC_rows:NoAttr K c_QC "rows"
 na_QC_columns:NoAttr K c_QC "columns"
 ty_QC:ClsTy K c_QC
 cl_Bar:Cls K c_Bar
 M_Bar:Mk K c_Bar a_Qt
 na_Bar_rows:NoAttr K c_Bar "rows"
 na_Bar_columns:NoAttr K c_Bar "columns"
 ty_Bar:ClsTy K c_Bar
 k_QC_QC:W.kitOne K (.ref c_QC) (.ref c_QC)=some true
 k_Bar_QC:W.kitOne K (.ref c_Bar) (.ref c_QC)=some false
 k_Bar_Bar:W.kitOne K (.ref c_Bar) (.ref c_Bar)=some true
 n_isinstance:mg "isinstance" = none
 n_int:mg "int" = none
 n_bool:mg "bool" = none
 n_list:mg "list" = none
 n_len:mg "len" = none
 n_min:mg "min" = none
 n_range:mg "range" = none
 n_sum:mg "sum" = none
 n_any:mg "any" = none
 n_sorted:mg "sorted" = none
 n_set:mg "set" = none
end K7
namespace K7
open PySem L2 SW
section
variable {P:Program} {w:World} {K:W.Frag} {mg:Str->Option Value} {base:Heap}
theorem ok_Qa (T:Txt K mg):FnOk P w K mg base CX0 1 T.a_Qa T.fd_Qa ["a","b"] spGcd:=by
 refine T.F_Qa.ok sc_Qa (fun vs H Q E h=>?_) (fun cdv A outer s H vs Q E hr h=>?_)
 ·obtain ⟨a,b,rfl,_⟩:=h
  rfl
 obtain ⟨a,b,rfl,ha,hb,q⟩:=h
 refine ⟨_,(pss_cons (ps_while PassesOwn.never (pt_cmpR op_gt (pv 1) pe_int (nomark _))
   (pss_cons (ps_set (i:=2) sc_Qa.nd rfl (Or.inl rfl) (pe_op op_mod (pv 0) (pv 1)))
   (pss_cons (ps_set (i:=0) sc_Qa.nd rfl (Or.inl rfl) (pv 1))
   (pss_one (ps_set (i:=1) sc_Qa.nd rfl (Or.inl rfl) (pv 2))))))
   (pss_one (ps_ret (pv 0)))),?_⟩
 refine ⟨fun m σ H'=>H'=H/\∃(x y:Int) (r:Option V),σ=[some (.int x),some (.int y),r]/\0<=x/\0<=y/\gcdI x y=gcdI a b/\m=y.toNat,⟨_,rfl,a,b,none,rfl,ha,hb,rfl,rfl⟩,?_⟩
 rintro m σ H' ⟨rfl,x,y,r,rfl,hx,hy,hg,rfl⟩
 refine ⟨_,rfl,_,_,rfl,rfl,_,rfl,?_⟩
 refine ite2 (fun c=>?_) (fun c=>?_)
 ·have c':0<y:=of_decide_eq_true c
  refine ⟨_,fun _ _ h=>h,?_⟩
  refine ⟨_,rfl,_,rfl,_,_,rfl,rfl,c',?_⟩
  refine ⟨_,rfl,_,rfl,?_⟩
  have h1:=Int.emod_nonneg x (by omega:y≠0)
  have h2:=Int.emod_lt_of_pos x c'
  exact ⟨_,by omega,rfl,y,x % y,_,rfl,hy,h1,by rw [gcdI_step]; exact hg,rfl⟩
 ·have c':¬0<y:=of_decide_eq_false (Bool.eq_false_iff.mpr c)
  have y0:y=0:=by omega
  subst y0
  rw [gcdI_zero hx] at hg
  refine ⟨_,rfl,?_⟩
  rw [hg]
  exact q
theorem ok_ratio (T:Txt K mg):FnOk P w K mg base CX0 2 T.a_ratio T.fd_ratio ["a","b"] spRatio:=by
 refine T.F_ratio.ok sc_ratio (fun vs H Q E h=>?_) (fun cdv A outer s H vs Q E hr h=>?_)
 ·obtain ⟨a,b,rfl,_⟩:=h
  rfl
 obtain ⟨a,b,rfl,ha,hb,fb,q⟩:=h
 refine ⟨_,(pss_cons (ps_set (i:=2) sc_ratio.nd rfl (Or.inl rfl) (pe_call (ok_Qa T) (hr.mono (by decide)) rfl T.m_Qa T.F_Qa.kp T.b_Qa .nil pass0 (pa_cons (pv 0) (pa_cons (pv 1) pa_nil))))
   (pss_one (ps_ret (ZE (pa_cons (pe_op op_fdivF (pv 0) (pv 2)) (pa_cons (pe_op op_fdivF (pv 1) (pv 2)) pa_nil)))))),?_⟩
 have hg:=gcdI_pos (a:=a) hb
 have fg:Fits (gcdI a b):=Fits.le (by omega) (gcdI_le hb) fb
 refine ⟨_,rfl,_,rfl,?_⟩
 refine ⟨a,b,rfl,ha,by omega,?_⟩
 refine ⟨_,rfl,_,rfl,_,_,rfl,rfl,⟨hg,fg⟩,_,rfl,_,rfl,_,_,rfl,rfl,⟨hg,fg⟩,?_⟩
 exact ⟨(by show 2<=sizeLine; decide),fun p H' N=>q p _ _ _ (low_ok ha hb) N⟩
theorem ok_below (T:Txt K mg):FnOk P w K mg base CX0 1 T.a_below T.fd_below ["one","other"] spBelowF:=by
 refine T.F_below.ok sc_below (fun vs H Q E h=>?_) (fun cdv A outer s H vs Q E hr h=>?_)
 ·obtain ⟨p,q,a,b,c,d,rfl,_⟩:=h
  rfl
 obtain ⟨p,q,a,b,c,d,rfl,h1,h2,m1,m2,k⟩:=h
 refine ⟨_,(pss_one (ps_ret (pe_cmpR op_lt (pe_op ZC (pe_ix ix_any (pv 0) pe_int (fun _ _=>rfl)) (pe_ix ix_any (pv 1) pe_int (fun _ _=>rfl))) (pe_op ZC (pe_ix ix_any (pv 1) pe_int (fun _ _=>rfl)) (pe_ix ix_any (pv 0) pe_int (fun _ _=>rfl))) (nomark _)))),?_⟩
 refine ⟨_,rfl,p,_,_,_,rfl,rfl,.inr (SqT.of h1),rfl,_,rfl,q,_,_,_,rfl,rfl,.inr (SqT.of h2),rfl,_,_,rfl,rfl,m1,?_⟩
 refine ⟨_,rfl,q,_,_,_,rfl,rfl,.inr (SqT.of h2),rfl,_,rfl,p,_,_,_,rfl,rfl,.inr (SqT.of h1),rfl,_,_,rfl,rfl,m2,?_⟩
 exact ⟨_,_,rfl,rfl,k⟩
end
end K7
namespace K7
open PySem L2 SW
section
variable {K:W.Frag} {mg:Str->Option Value}
def Txt.ff (_:Txt K mg):Option Addr:=none
theorem Txt.rc_Down (T:Txt K mg):RuleC K T.c_Down T.a_Qv T.ff:=⟨T.cl_Down,T.na_Down_whole,T.mt_Down_mark,fun _ z=>(nomatch z),T.ty_Down⟩
theorem Txt.rc_Half (T:Txt K mg):RuleC K T.c_Half T.a_Qv T.ff:=⟨T.cl_Half,T.na_Half_whole,T.mt_Half_mark,fun _ z=>(nomatch z),T.ty_Half⟩
theorem Txt.rc_QD (T:Txt K mg):RuleC K T.c_QD T.a_Qv T.ff:=⟨T.cl_QD,T.na_QD_whole,T.mt_QD_mark,fun _ z=>(nomatch z),T.ty_QD⟩
end
end K7
namespace K7
open PySem L2 SW
section
variable {P:Program} {w:World} {K:W.Frag} {mg:Str->Option Value} {base:Heap}
theorem ok_QN (T:Txt K mg):FnOk P w K mg base CX0 1 T.a_QN T.fd_QN ["_law_cell","_law_k","_law_many"] spDraw:=by
 refine T.F_QN.ok sc_QN (fun vs H Q E h=>?_) (fun cdv A outer s H vs Q E hr h=>?_)
 ·obtain ⟨c,k,m,rfl,_⟩:=h
  rfl
 obtain ⟨c,k,m,rfl,k0,k1,m0,q⟩:=h
 refine ⟨_,(@pss_cons _ _ _ _ _ (@ps_setInts _ 3 _ _ _ _ _ _ _ sc_QN.nd rfl (Or.inl rfl) (.cons (.cons (.cons (.cons (.cons (.cons (.cons (.cons (.cons (.cons (.cons (.cons (.cons (.cons (.cons (.cons (.nil))))))))))))))))) (.inl rfl))
   (pss_one (ps_ret (pe_op op_mod (pe_op op_mod (pe_op op_add (pe_op ZC (pv 0) pe_int) (pe_op ZC (pv 1) pe_int)) (pe_ix ix_any (pv 3) (pe_op op_mod (pv 1) pe_int) (fun _ _=>rfl))) (pv 2))))),?_⟩
 refine ⟨(by show 16<=sizeLine; decide),fun p hp=>?_⟩
 obtain ⟨n,n0,en⟩:=prime_at (k % 16) (Int.emod_nonneg _ (by decide)) (Int.emod_lt_of_pos _ (by decide))
 refine ⟨_,rfl,_,_,rfl,rfl,.inl (.inr ⟨by decide,by decide⟩),_,rfl,_,_,rfl,rfl,.inl (.inr ⟨by decide,by decide⟩),_,_,rfl,rfl,?_⟩
 refine ⟨_,rfl,_,rfl,_,_,rfl,rfl,(by show (0:Int)<16; decide),p,primes,_,_,rfl,rfl,.inr (SqT.of upd_same),en,?_⟩
 refine ⟨_,_,rfl,rfl,n0,_,rfl,_,_,rfl,rfl,m0,?_⟩
 exact q _ _ (Int.emod_nonneg _ (by omega)) (Int.emod_lt_of_pos _ m0) (same_new hp _)
theorem ok_QB (T:Txt K mg):FnOk P w K mg base CX0 2 T.a_QB T.fd_QB ["_law_cell","_law_k","_law_most"] spGreat:=by
 refine T.F_QB.ok sc_QB (fun vs H Q E h=>?_) (fun cdv A outer s H vs Q E hr h=>?_)
 ·obtain ⟨c,k,m,rfl,_⟩:=h
  rfl
 obtain ⟨c,k,m,rfl,k0,k1,m0,q⟩:=h
 refine ⟨_,(pss_one (ps_ret (pe_op op_mod (pe_op op_add (pe_op ZC (pe_call (ok_QN T) (hr.mono (by decide)) rfl T.m_QN T.F_QN.kp T.b_QN .nil pass0 (pa_cons (pv 0) (pa_cons (pv 1) (pa_cons pe_int pa_nil)))) pe_int) (pe_call (ok_QN T) (hr.mono (by decide)) rfl T.m_QN T.F_QN.kp T.b_QN .nil pass0 (pa_cons (pv 0) (pa_cons (pe_op op_add (pv 1) pe_int) (pa_cons pe_int pa_nil))))) (pv 2)))),?_⟩
 refine ⟨_,rfl,_,rfl,?_⟩
 refine ⟨_,_,_,rfl,k0,by omega,by decide,fun d1 H1 a0 a1 s1=>?_⟩
 refine ⟨_,_,rfl,rfl,.inl (.inr ⟨by decide,by decide⟩),?_⟩
 refine ⟨_,rfl,_,rfl,_,_,rfl,rfl,?_⟩
 refine ⟨_,_,_,rfl,by omega,by omega,by decide,fun d2 H2 b0 b1 s2=>?_⟩
 refine ⟨_,_,rfl,rfl,_,rfl,?_⟩
 refine ⟨_,_,rfl,rfl,m0,?_⟩
 exact q _ _ (Int.emod_nonneg _ (by omega)) (Int.emod_lt_of_pos _ m0) (s1.trans s2)
theorem ok_Qy (T:Txt K mg):FnOk P w K mg base CX0 1 T.a_Qy T.fd_Qy ["_law_script","_law_k"] (spCellAt K):=by
 refine T.F_Qy.ok sc_Qy (fun vs H Q E h=>?_) (fun cdv A outer s H vs Q E hr h=>?_)
 ·obtain ⟨a,ns,k,rfl,_⟩:=h
  rfl
 obtain ⟨a,ns,k,rfl,hS,k0,q⟩:=h
 refine ⟨_,(pss_cons (ps_if (pt_cmpR op_lt (pv 1) (pe_callB call_lenQ (by rfl) T.n_len PySem.boot_len (pa_cons (pv 0) pa_nil)) (nomark _))
   (pss_one (ps_ret (pe_ix ix_any (pv 0) (pv 1) (fun _ _=>rfl))))
   pss_nil)
   (pss_one (ps_ret pe_int))),?_⟩
 refine ⟨_,rfl,_,rfl,?_⟩
 refine ⟨a,_,rfl,.inl hS,?_⟩
 refine ⟨_,_,rfl,rfl,_,rfl,?_⟩
 refine ite2 (fun c=>?_) (fun c=>?_)
 ·have c':k<((ns.map V.int).length:Int):=of_decide_eq_true c
  rw [List.length_map] at c'
  have hk:k.toNat<ns.length:=by omega
  refine ⟨_,rfl,_,rfl,?_⟩
  exact ⟨a,_,_,_,rfl,rfl,.inl hS,atI_of k0 (by rw [List.getElem?_map,List.getElem?_eq_getElem hk]; rfl),q _⟩
 ·skip
  exact q 0
end
end K7
namespace K7
open PySem L2 SW
section
variable {P:Program} {w:World} {K:W.Frag} {mg:Str->Option Value} {base:Heap}
abbrev Txt.rl (T:Txt K mg) (H:Hp) (p:Addr) (a b:Int):Prop:=RuleAt K T.a_Qv T.ff H p a b
theorem ok_over (T:Txt K mg):FnOk P w K mg base CX0 3 T.a_over T.fd_over ["one","other"] spOver:=by
 refine T.F_over.ok sc_over (fun vs H Q E h=>?_) (fun cdv A outer s H vs Q E hr h=>?_)
 ·obtain ⟨p,q,a,b,c,d,rfl,_⟩:=h
  rfl
 obtain ⟨p,q,a,b,c,d,rfl,R1,R2,c1,k⟩:=h
 refine ⟨_,(pss_one (ps_ret (pe_call (ok_ratio T) (hr.mono (by decide)) rfl T.m_ratio T.F_ratio.kp T.b_ratio .nil pass0 (pa_cons (pe_op ZC (pe_ix ix_any (pv 0) pe_int (fun _ _=>rfl)) (pe_ix ix_any (pv 1) pe_int (fun _ _=>rfl))) (pa_cons (pe_op ZC (pe_ix ix_any (pv 0) pe_int (fun _ _=>rfl)) (pe_ix ix_any (pv 1) pe_int (fun _ _=>rfl))) pa_nil))))),?_⟩
 obtain ⟨h1,a0,b0,al,bl⟩:=R1
 obtain ⟨h2,c0,d0,cl,dl⟩:=R2
 refine ⟨_,rfl,p,_,_,_,rfl,rfl,.inr (SqT.of h1),rfl,_,rfl,q,_,_,_,rfl,rfl,.inr (SqT.of h2),rfl,_,_,rfl,rfl,.inr ⟨fits_of (by omega) (by omega),fits_of (by omega) (by omega)⟩,?_⟩
 refine ⟨_,rfl,p,_,_,_,rfl,rfl,.inr (SqT.of h1),rfl,_,rfl,q,_,_,_,rfl,rfl,.inr (SqT.of h2),rfl,_,_,rfl,rfl,.inr ⟨fits_of (by omega) (by omega),fits_of (by omega) (by omega)⟩,?_⟩
 have m1:=mul_bd (Int.le_of_lt b0) (Int.le_of_lt bl) c0 (Int.le_of_lt cl)
 exact ⟨_,_,rfl,Int.mul_nonneg a0 (Int.le_of_lt d0),Int.mul_pos b0 c1,fits_of (by omega) (by omega),k⟩
theorem ok_Qd (T:Txt K mg):FnOk P w K mg base CX0 1 T.a_Qd T.fd_Qd ["value"] spWhole:=by
 refine T.F_Qd.ok sc_Qd (fun vs H Q E h=>?_) (fun cdv A outer s H vs Q E hr h=>?_)
 ·obtain ⟨v,rfl,_⟩:=h
  rfl
 obtain ⟨v,rfl,hp,q⟩:=h
 refine ⟨_,(pss_one (ps_ret (pe_and (pe_isinstT rfl T.n_isinstance rfl T.n_int PyProof.Rows.boot_int (pv 0)) (pe_one (pe_not (pe_isinstT rfl T.n_isinstance rfl T.n_bool PyProof.Rows.boot_bool (pv 0))))))),?_⟩
 cases v with
 | non=>exact ⟨_,rfl,_,_,_,rfl,.non,kit_none_int _,_,rfl,iteF q⟩
 | bl b=>exact ⟨_,rfl,_,_,_,rfl,.bl _,kit_bool_int _,_,rfl,iteT ⟨_,rfl,_,_,_,rfl,.bl _,kit_bool_bool _,_,rfl,q⟩⟩
 | int i=>exact ⟨_,rfl,_,_,_,rfl,.int _,kit_int_int _,_,rfl,iteT ⟨_,rfl,_,_,_,rfl,.int _,kit_int_bool _,_,rfl,q⟩⟩
 | str y=>exact ⟨_,rfl,_,_,_,rfl,.str _,kit_str_int _,_,rfl,iteF q⟩
 | _=>exact absurd (show false=true from hp) Bool.false_ne_true
theorem ok_Qu (T:Txt K mg):FnOk P w K mg base CX0 1 T.a_Qu T.fd_Qu ["self","whole"] (spRuleInit K):=by
 refine T.F_Qu.ok sc_Qu (fun vs H Q E h=>?_) (fun cdv A outer s H vs Q E hr h=>?_)
 ·obtain ⟨p,C,dx,t,rfl,_⟩:=h
  rfl
 obtain ⟨p,C,dx,t,rfl,hp,cl,na,q⟩:=h
 refine ⟨_,(pss_one (ps_fld (pv 0) (pv 1) rfl)),?_⟩
 exact ⟨_,rfl,_,rfl,p,C,dx,[],rfl,hp,cl,na,(by show 0<1000; decide),q⟩
theorem ok_Qw (T:Txt K mg):FnOk P w K mg base CX0 2 T.a_Qw T.fd_Qw ["self"] (spInit1 T.c_Down 1 1):=by
 refine T.F_Qw.ok sc_Qw (fun vs H Q E h=>?_) (fun cdv A outer s H vs Q E hr h=>?_)
 ·obtain ⟨p,dx,rfl,_⟩:=h
  rfl
 obtain ⟨p,dx,rfl,hp,q⟩:=h
 refine ⟨_,(pss_one (ps_expr (pe_cls (ok_Qu T) (hr.mono (by decide)) rfl T.m_Rule T.cf_Qu T.b_Qu .nil pass0 (pa_cons (pv 0) (pa_cons (ZE (pa_cons pe_int (pa_cons pe_int pa_nil))) pa_nil))))),?_⟩
 refine ⟨_,rfl,(by show 2<=sizeLine; decide),fun t H' N=>?_⟩
 exact ⟨p,T.c_Down,dx,t,rfl,N.same _ _ hp,T.cl_Down,T.na_Down_whole,q _ (made_of2 N hp)⟩
theorem ok_Qx (T:Txt K mg):FnOk P w K mg base CX0 2 T.a_Qx T.fd_Qx ["self"] (spInit1 T.c_Half 1 2):=by
 refine T.F_Qx.ok sc_Qx (fun vs H Q E h=>?_) (fun cdv A outer s H vs Q E hr h=>?_)
 ·obtain ⟨p,dx,rfl,_⟩:=h
  rfl
 obtain ⟨p,dx,rfl,hp,q⟩:=h
 refine ⟨_,(pss_one (ps_expr (pe_cls (ok_Qu T) (hr.mono (by decide)) rfl T.m_Rule T.cf_Qu T.b_Qu .nil pass0 (pa_cons (pv 0) (pa_cons (ZE (pa_cons pe_int (pa_cons pe_int pa_nil))) pa_nil))))),?_⟩
 refine ⟨_,rfl,(by show 2<=sizeLine; decide),fun t H' N=>?_⟩
 exact ⟨p,T.c_Half,dx,t,rfl,N.same _ _ hp,T.cl_Half,T.na_Half_whole,q _ (made_of2 N hp)⟩
theorem ok_Qj (T:Txt K mg):FnOk P w K mg base (CX1 P w) 3 T.a_Qj T.fd_Qj ["self","p","q"] (spBetween T.c_QD T.c_QE):=by
 refine T.F_Qj.okX sc_Qj (fun vs H Q E h=>?_) (fun cdv A outer s H vs Q E hr h=>?_)
 ·obtain ⟨p,dx,u,v,rfl,_⟩:=h
  rfl
 obtain ⟨p,dx,u,v,rfl,hp,pu,pv',good,bad⟩:=h
 refine ⟨_,(pss_cons (ps_if (PW.pt (pw_or (pt_not (pt_val (pe_call (ok_Qd T) (hr.mono (by decide)) rfl T.m_Qd T.F_Qd.kp T.b_Qd .nil pass0 (pa_cons (pv 1) pa_nil)))) (pw_or1 (pt_not (pt_val (pe_call (ok_Qd T) (hr.mono (by decide)) rfl T.m_Qd T.F_Qd.kp T.b_Qd .nil pass0 (pa_cons (pv 2) pa_nil)))))))
   (pss_one (ps_raise (E:=E) PySem.F.excBase_ValueError ⟨rfl,rfl,rfl,rfl⟩ rfl rfl T.m_QE T.x_QE (pa_cons pe_str pa_nil)))
   pss_nil)
   (pss_cons (ps_if (pt_not (pt_chain3 op_lt op_le op_le pe_int (pv 1) (pv 2) (pe_glob (v:=.int 1000) rfl T.m_GREATEST_Q ⟨T.tk_GREATEST_Q,rfl⟩)))
   (pss_one (ps_raise (E:=E) PySem.F.excBase_ValueError ⟨rfl,rfl,rfl,rfl⟩ rfl rfl T.m_QE T.x_QE (pa_cons (pe_join2 pe_str (pe_fmt (pe_glob (v:=.int 1000) rfl T.m_GREATEST_Q ⟨T.tk_GREATEST_Q,rfl⟩))) pa_nil)))
   pss_nil)
   (pss_one (ps_expr (pe_cls (ok_Qu T) (hr.mono (by decide)) rfl T.m_Rule T.cf_Qu T.b_Qu .nil pass0 (pa_cons (pv 0) (pa_cons (pe_call (ok_ratio T) (hr.mono (by decide)) rfl T.m_ratio T.F_ratio.kp T.b_ratio .nil pass0 (pa_cons (pv 1) (pa_cons (pv 2) pa_nil))) pa_nil))))))),?_⟩
 refine ⟨_,rfl,u,rfl,pu,_,rfl,?_⟩
 cases wu:wholeV u with
 | false=>
  refine iteT (iteT ?_)
  exact ⟨(by show 1<=1000; decide),bad (not_good fun z=>by rw [wu] at z; cases z.1) H (Same.refl H)⟩
 | true=>
  refine iteF ⟨_,rfl,v,rfl,pv',_,rfl,?_⟩
  cases wv:wholeV v with
  | false=>
   refine iteT ?_
   exact ⟨(by show 1<=1000; decide),bad (not_good fun z=>by rw [wv] at z; cases z.2) H (Same.refl H)⟩
  | true=>
   refine iteF ?_
   obtain ⟨m,rfl⟩:∃m,u = .int m:=by cases u <;> first | exact ⟨_,rfl⟩ | cases wu
   obtain ⟨n,rfl⟩:∃n,v = .int n:=by cases v <;> first | exact ⟨_,rfl⟩ | cases wv
   refine ⟨_,rfl,_,_,rfl,rfl,_,rfl,ite2 (fun c1=>?_) (fun c1=>?_)⟩
   ·have c1':0<m:=of_decide_eq_true c1
    refine ⟨_,rfl,_,_,rfl,rfl,_,rfl,ite2 (fun c2=>?_) (fun c2=>?_)⟩
    ·have c2':m<=n:=of_decide_eq_true c2
     refine ⟨_,_,rfl,rfl,_,rfl,?_⟩
     by_cases c3:n<=1000
     ·rw [decide_eq_true c3]
      refine iteF ?_
      refine ⟨_,rfl,_,rfl,_,rfl,m,n,rfl,by omega,by omega,fits_of (by omega) (by omega),fun t H' x y L N=>?_⟩
      exact ⟨p,T.c_QD,dx,t,rfl,N.same p _ hp,T.cl_QD,T.na_QD_whole,good m n _ x y rfl rfl c1' c2' c3 L (made_of2 N hp)⟩
     ·rw [decide_eq_false c3]
      refine iteT ?_
      exact ⟨_,rfl,by decide +kernel,_,rfl,log_1000,_,rfl,by decide +kernel,fun r=>⟨(by show 1<=1000; decide),bad (fun ⟨a,b,e1,e2,g1,g2,g3⟩=>by cases e1; cases e2; omega) H (Same.refl H)⟩⟩
    ·have c2':¬m<=n:=of_decide_eq_false (Bool.eq_false_iff.mpr c2)
     refine ⟨_,rfl,iteT ?_⟩
     exact ⟨_,rfl,by decide +kernel,_,rfl,log_1000,_,rfl,by decide +kernel,fun r=>⟨(by show 1<=1000; decide),bad (fun ⟨a,b,e1,e2,g1,g2,g3⟩=>by cases e1; cases e2; omega) H (Same.refl H)⟩⟩
   ·have c1':¬0<m:=of_decide_eq_false (Bool.eq_false_iff.mpr c1)
    refine ⟨_,rfl,iteT ?_⟩
    exact ⟨_,rfl,by decide +kernel,_,rfl,log_1000,_,rfl,by decide +kernel,fun r=>⟨(by show 1<=1000; decide),bad (fun ⟨a,b,e1,e2,g1,g2,g3⟩=>by cases e1; cases e2; omega) H (Same.refl H)⟩⟩
theorem ok_mark (T:Txt K mg):FnOk P w K mg base CX0 3 T.a_Qv T.fd_Qv ["self","n"] (spMark K T.a_Qv T.ff):=by
 refine T.F_Qv.ok sc_Qv (fun vs H Q E h=>?_) (fun cdv A outer s H vs Q E hr h=>?_)
 ·obtain ⟨p,n,a,b,rfl,_⟩:=h
  rfl
 obtain ⟨p,n,a,b,rfl,R,n0,n1,q⟩:=h
 refine ⟨_,(pss_one (ps_ret (pe_call (ok_ratio T) (hr.mono (by decide)) rfl T.m_ratio T.F_ratio.kp T.b_ratio .nil pass0 (pa_cons (pe_op op_add (pe_ix ix_any (pe_fld (pv 0) rfl) pe_int (fun _ _=>rfl)) (pe_op ZC (pe_op op_sub (pv 1) pe_int) (pe_ix ix_any (pe_fld (pv 0) rfl) pe_int (fun _ _=>rfl)))) (pa_cons (pe_ix ix_any (pe_fld (pv 0) rfl) pe_int (fun _ _=>rfl)) pa_nil))))),?_⟩
 obtain ⟨C,dx,t,RC,h1,h2⟩:=R.ob
 have a0:=R.a0
 have ab:=R.ab
 have b1:=R.b1
 have mb:=mul_bd (by omega:0<=n - 1) (by omega:n - 1<=1000) (by omega:0<=b) b1
 refine ⟨_,rfl,p,C,dx,_,_,rfl,h1,RC.cl,RC.nw,whole_look t,t,_,_,_,rfl,rfl,.inr (SqT.of h2),rfl,?_⟩
 refine ⟨_,rfl,_,_,rfl,rfl,_,rfl,p,C,dx,_,_,rfl,h1,RC.cl,RC.nw,whole_look t,t,_,_,_,rfl,rfl,.inr (SqT.of h2),rfl,_,_,rfl,rfl,.inr ⟨fits_of (by omega) (by omega),fits_of (by omega) (by omega)⟩,_,_,rfl,rfl,?_⟩
 refine ⟨_,rfl,p,C,dx,_,_,rfl,h1,RC.cl,RC.nw,whole_look t,t,_,_,_,rfl,rfl,.inr (SqT.of h2),rfl,?_⟩
 exact ⟨_,_,rfl,by omega,by omega,fits_of (by omega) (by omega),fun r H' x y L N=>q r H' x y L N⟩
theorem ok_QK (T:Txt K mg):FnOk P w K mg base CX0 5 T.a_QK T.fd_QK ["_law_cell"] (spRule K T.a_Qv T.ff):=by
 refine T.F_QK.ok sc_QK (fun vs H Q E h=>?_) (fun cdv A outer s H vs Q E hr h=>?_)
 ·obtain ⟨c,rfl,_⟩:=h
  rfl
 obtain ⟨c,rfl,q⟩:=h
 refine ⟨_,(pss_cons (ps_set (i:=1) sc_QK.nd rfl (Or.inl rfl) (pe_call (ok_QN T) (hr.mono (by decide)) rfl T.m_QN T.F_QN.kp T.b_QN .nil pass0 (pa_cons (pv 0) (pa_cons pe_int (pa_cons pe_int pa_nil)))))
   (pss_cons (ps_if (pt_cmpR op_eq (pv 1) pe_int (nomark _))
   (pss_one (ps_ret (ZE (pa_cons (pe_make0 T.M_Down (ok_Qw T) (hr.mono (by decide)) rfl T.m_Down T.b_Qw .nil pass0) (pa_cons (ZE (pa_cons pe_int (pa_cons pe_int pa_nil))) pa_nil)))))
   pss_nil)
   (pss_cons (ps_if (pt_cmpR op_eq (pv 1) pe_int (nomark _))
   (pss_one (ps_ret (ZE (pa_cons (pe_make0 T.M_Half (ok_Qx T) (hr.mono (by decide)) rfl T.m_Half T.b_Qx .nil pass0) (pa_cons (ZE (pa_cons pe_int (pa_cons pe_int pa_nil))) pa_nil)))))
   pss_nil)
   (pss_cons (ps_set (i:=2) sc_QK.nd rfl (Or.inl rfl) (pe_op op_add pe_int (pe_op op_fdivF (pe_call (ok_QN T) (hr.mono (by decide)) rfl T.m_QN T.F_QN.kp T.b_QN .nil pass0 (pa_cons (pv 0) (pa_cons pe_int (pa_cons pe_int pa_nil)))) (pe_op op_add pe_int (pe_op ZC pe_int (pe_call (ok_QN T) (hr.mono (by decide)) rfl T.m_QN T.F_QN.kp T.b_QN .nil pass0 (pa_cons (pv 0) (pa_cons pe_int (pa_cons pe_int pa_nil)))))))))
   (pss_cons (ps_set (i:=3) sc_QK.nd rfl (Or.inl rfl) (pe_op op_add pe_int (pe_call (ok_QN T) (hr.mono (by decide)) rfl T.m_QN T.F_QN.kp T.b_QN .nil pass0 (pa_cons (pv 0) (pa_cons pe_int (pa_cons (pv 2) pa_nil))))))
   (pss_one (ps_ret (ZE (pa_cons (pe_make T.M_QD (ok_Qj T) (hr.mono (by decide)) rfl T.m_QD T.b_Qj .nil pass1F (pa_cons (pv 3) (pa_cons (pv 2) pa_nil))) (pa_cons (ZE (pa_cons (pv 3) (pa_cons (pv 2) pa_nil))) pa_nil)))))))))),?_⟩
 refine ⟨_,rfl,?_⟩
 refine ⟨_,_,_,rfl,by decide,by decide,by decide,fun kd H1 k0 k1 s1=>?_⟩
 refine ⟨_,rfl,rfl,_,rfl,?_⟩
 refine ite2 (fun _=>?_) (fun _=>?_)
 ·intro x dx nx ndx ne
  refine ⟨x,dx,rfl,upd_same,fun H2 M=>⟨rfl,?_⟩⟩
  have S2:=s1.trans (same_made nx ndx M)
  refine ⟨(by show 2<=sizeLine; decide),fun t H3 N3=>⟨(by show 2<=sizeLine; decide),fun r H4 N4=>?_⟩⟩
  exact q r x t _ 1 1 1 1 N4.at_ ((rule_made T.rc_Down M (by decide) (by decide) (by decide)).same (N3.same.trans N4.same)) (N4.same _ _ N3.at_) (by decide) (by decide) (by decide) (by decide) (S2.trans (N3.same.trans N4.same))
 refine ⟨_,rfl,rfl,_,rfl,?_⟩
 refine ite2 (fun _=>?_) (fun _=>?_)
 ·intro x dx nx ndx ne
  refine ⟨x,dx,rfl,upd_same,fun H2 M=>⟨rfl,?_⟩⟩
  have S2:=s1.trans (same_made nx ndx M)
  refine ⟨(by show 2<=sizeLine; decide),fun t H3 N3=>⟨(by show 2<=sizeLine; decide),fun r H4 N4=>?_⟩⟩
  exact q r x t _ 1 2 1 2 N4.at_ ((rule_made T.rc_Half M (by decide) (by decide) (by decide)).same (N3.same.trans N4.same)) (N4.same _ _ N3.at_) (by decide) (by decide) (by decide) (by decide) (S2.trans (N3.same.trans N4.same))
 refine ⟨_,rfl,?_⟩
 refine ⟨_,_,_,rfl,by decide,by decide,by decide,fun d1 H2 a0 a1 s2=>?_⟩
 refine ⟨_,rfl,?_⟩
 refine ⟨_,_,_,rfl,by decide,by decide,by decide,fun d2 H3 b0 b1 s3=>?_⟩
 refine ⟨_,_,rfl,rfl,.inl (.inl ⟨by decide,by decide⟩),_,_,rfl,rfl,_,_,rfl,rfl,⟨by omega,fits_of (by omega) (by omega)⟩,_,_,rfl,rfl,?_⟩
 have q0:0<=d1 / (1+99*d2):=Int.ediv_nonneg a0 (by omega)
 have q1:d1 / (1+99*d2)<=d1:=Int.ediv_le_self _ a0
 refine ⟨_,rfl,_,rfl,_,_,_,rfl,by decide,by decide,by omega,fun d3 H4 c0 c1 s4=>⟨_,_,rfl,rfl,?_⟩⟩
 refine ⟨_,rfl,_,rfl,?_⟩
 intro x dx nx ndx ne
 refine ⟨x,dx,_,_,rfl,upd_same,rfl,rfl,fun m n H5 lx ly e1 e2 m0 mn n1 L M=>⟨rfl,?_⟩,fun ng=>absurd ⟨_,_,rfl,rfl,by omega,by omega,by omega⟩ ng⟩
 cases e1
 cases e2
 have S5:=same_made nx ndx M
 refine ⟨_,rfl,_,rfl,(by show 2<=sizeLine; decide),fun t H6 N6=>⟨(by show 2<=sizeLine; decide),fun r H7 N7=>?_⟩⟩
 have hx:0<lx:=by
  rcases Int.lt_or_le 0 lx with z | z
  ·exact z
  ·have e:=L.eq
   have:lx=0:=by have:=L.x0; omega
   rw [this,Int.zero_mul] at e
   have:=Int.mul_pos L.y0 m0
   omega
 have hxy:lx<=ly:=by
  have e:=L.eq
  rcases Int.lt_or_le ly lx with z | z
  ·have h1:ly*(1+d3)<lx*(1+d3):=Int.mul_lt_mul_of_pos_right z m0
   have h2:lx*(1+d3)<=lx*(1+d1 / (1+99*d2)):=Int.mul_le_mul_of_nonneg_left mn (by omega)
   omega
  ·exact z
 exact q r x t _ lx ly _ _ N7.at_ ((rule_made T.rc_QD M hx hxy (by have:=L.ley; omega)).same (N6.same.trans N7.same)) (N7.same _ _ N6.at_) m0 mn n1 L.eq (s1.trans (s2.trans (s3.trans (s4.trans (S5.trans (N6.same.trans N7.same))))))
end
end K7
namespace K7
open PySem L2 SW
section
variable {P:Program} {w:World} {K:W.Frag} {mg:Str->Option Value} {base:Heap}
theorem ok_QG (T:Txt K mg):FnOk P w K mg base CX0 1 T.a_QG T.fd_QG ["_law_top","_law_low","_law_part","_law_n"] spLFitsF:=by
 refine T.F_QG.ok sc_QG (fun vs H Q E h=>?_) (fun cdv A outer s H vs Q E hr h=>?_)
 ·obtain ⟨t,u,v,p,q,n,rfl,_⟩:=h
  rfl
 obtain ⟨t,u,v,p,q,n,rfl,ht,p0,pq,q1,n0,n1,k⟩:=h
 refine ⟨_,(pss_cons (ps_if (PW.pt (pw_and (pt_cmpR op_gt (pv 3) pe_int (nomark _)) (pw_and1 (pt_cmpR op_lt (pe_op ZC (pv 0) (pe_ix ix_any (pv 2) pe_int (fun _ _=>rfl))) (pe_op ZC (pv 1) (pe_op op_add (pe_ix ix_any (pv 2) pe_int (fun _ _=>rfl)) (pe_op ZC (pe_op op_sub (pv 3) pe_int) (pe_ix ix_any (pv 2) pe_int (fun _ _=>rfl))))) (nomark _)))))
   (pss_one (ps_ret pe_bl))
   pss_nil)
   (pss_one (ps_ret (pe_cmpR op_le (pe_op ZC (pv 0) (pe_ix ix_any (pv 2) pe_int (fun _ _=>rfl))) (pe_op ZC (pv 1) (pe_op op_add (pe_ix ix_any (pv 2) pe_int (fun _ _=>rfl)) (pe_op ZC (pv 3) (pe_ix ix_any (pv 2) pe_int (fun _ _=>rfl))))) (nomark _))))),?_⟩
 have sq:Sq K H t [.int p,.int q]:=.inr (SqT.of ht)
 unfold fitsB at k
 have mb:=mul_bd n0 n1 (by omega:0<=q) q1
 refine ⟨_,rfl,_,_,rfl,rfl,_,rfl,ite2 (fun c=>?_) (fun c=>iteF ?_)⟩
 ·have c':0<n:=of_decide_eq_true c
  have mb':=mul_bd (by omega:0<=n - 1) (by omega:n - 1<=1000) (by omega:0<=q) q1
  refine ⟨_,rfl,_,rfl,t,_,_,_,rfl,rfl,sq,rfl,_,_,rfl,rfl,.inl (.inr ⟨by omega,by omega⟩),?_⟩
  refine ⟨_,rfl,_,rfl,t,_,_,_,rfl,rfl,sq,rfl,_,rfl,_,_,rfl,rfl,_,rfl,t,_,_,_,rfl,rfl,sq,rfl,_,_,rfl,rfl,.inl (.inr ⟨by omega,by omega⟩),_,_,rfl,rfl,_,_,rfl,rfl,.inl (.inr ⟨by omega,by omega⟩),_,_,rfl,rfl,_,rfl,?_⟩
  rw [decide_eq_true c'] at k
  by_cases d:u*q<v*(p+(n - 1)*q)
  ·rw [decide_eq_true d]
   rw [decide_eq_true d] at k
   exact iteT k
  ·rw [decide_eq_false d]
   rw [decide_eq_false d] at k
   refine iteF ?_
   refine ⟨_,rfl,_,rfl,t,_,_,_,rfl,rfl,sq,rfl,_,_,rfl,rfl,.inl (.inr ⟨by omega,by omega⟩),?_⟩
   exact ⟨_,rfl,_,rfl,t,_,_,_,rfl,rfl,sq,rfl,_,rfl,_,rfl,t,_,_,_,rfl,rfl,sq,rfl,_,_,rfl,rfl,.inl (.inr ⟨by omega,by omega⟩),_,_,rfl,rfl,_,_,rfl,rfl,.inl (.inr ⟨by omega,by omega⟩),_,_,rfl,rfl,k⟩
 ·have c':¬0<n:=of_decide_eq_false (Bool.eq_false_iff.mpr c)
  rw [decide_eq_false c'] at k
  refine ⟨_,rfl,_,rfl,t,_,_,_,rfl,rfl,sq,rfl,_,_,rfl,rfl,.inl (.inr ⟨by omega,by omega⟩),?_⟩
  exact ⟨_,rfl,_,rfl,t,_,_,_,rfl,rfl,sq,rfl,_,rfl,_,rfl,t,_,_,_,rfl,rfl,sq,rfl,_,_,rfl,rfl,.inl (.inr ⟨by omega,by omega⟩),_,_,rfl,rfl,_,_,rfl,rfl,.inl (.inr ⟨by omega,by omega⟩),_,_,rfl,rfl,k⟩
end
end K7
namespace K7
open PySem L2 SW
section
variable {P:Program} {w:World} {K:W.Frag} {mg:Str->Option Value} {base:Heap}
theorem ok_QL (T:Txt K mg):FnOk P w K mg base CX0 3 T.a_QL T.fd_QL ["_law_cell"] spVote:=by
 refine T.F_QL.ok sc_QL (fun vs H Q E h=>?_) (fun cdv A outer s H vs Q E hr h=>?_)
 ·obtain ⟨c,rfl,_⟩:=h
  rfl
 obtain ⟨c,rfl,q⟩:=h
 refine ⟨_,(pss_cons (ps_set (i:=1) sc_QL.nd rfl (Or.inl rfl) (pe_call (ok_QN T) (hr.mono (by decide)) rfl T.m_QN T.F_QN.kp T.b_QN .nil pass0 (pa_cons (pv 0) (pa_cons pe_int (pa_cons pe_int pa_nil)))))
   (pss_cons (ps_if (pt_cmpR op_lt (pv 1) pe_int (nomark _))
   (pss_one (ps_ret pe_int))
   pss_nil)
   (pss_cons (ps_if (pt_cmpR op_eq (pv 1) pe_int (nomark _))
   (pss_one (ps_ret pe_int))
   pss_nil)
   (pss_cons (ps_if (pt_cmpR op_lt (pv 1) pe_int (nomark _))
   (pss_one (ps_ret (pe_op op_add pe_int (pe_call (ok_QN T) (hr.mono (by decide)) rfl T.m_QN T.F_QN.kp T.b_QN .nil pass0 (pa_cons (pv 0) (pa_cons pe_int (pa_cons pe_int pa_nil)))))))
   pss_nil)
   (pss_one (ps_ret (pe_call (ok_QB T) (hr.mono (by decide)) rfl T.m_QB T.F_QB.kp T.b_QB .nil pass0 (pa_cons (pv 0) (pa_cons pe_int (pa_cons pe_int pa_nil)))))))))),?_⟩
 refine ⟨_,rfl,?_⟩
 refine ⟨_,_,_,rfl,by decide,by decide,by decide,fun kd H1 _ _ s1=>?_⟩
 refine ⟨_,rfl,_,_,rfl,rfl,_,rfl,?_⟩
 refine ite2 (fun _=>q 0 H1 (by decide) (by decide) s1) (fun _=>?_)
 refine ⟨_,rfl,rfl,_,rfl,?_⟩
 refine ite2 (fun _=>q 6 H1 (by decide) (by decide) s1) (fun _=>?_)
 refine ⟨_,rfl,_,_,rfl,rfl,_,rfl,?_⟩
 refine ite2 (fun _=>?_) (fun _=>?_)
 ·refine ⟨_,rfl,?_⟩
  refine ⟨_,_,_,rfl,by decide,by decide,by decide,fun d H2 d0 d1 s2=>?_⟩
  refine ⟨_,_,rfl,rfl,?_⟩
  exact q _ H2 (by omega) (by omega) (s1.trans s2)
 ·refine ⟨_,rfl,?_⟩
  exact ⟨_,_,_,rfl,by decide,by decide,by decide,fun d H2 d0 d1 s2=>q _ H2 d0 (by omega) (s1.trans s2)⟩
end
end K7
namespace K7
open PySem L2 SW
section
variable {P:Program} {w:World} {K:W.Frag} {mg:Str->Option Value} {base:Heap}
def spPrice (T:Txt K mg):Sp:=fun vs H Q _=>∃(v n:Int) (p:Addr) (a b:Int),vs=[.int v,.int n,.ref p]/\T.rl H p a b/\1<=n/\n<=900/\0<v/\v<=10 ^ 15 /\
 ∀(r:Addr) (H':Hp) (x y:Int),Pr a b v n x y->Same H H'->H r=none->H' r=some (.tup [.int x,.int y])->Q (.ref r) H'
theorem ok_price (T:Txt K mg):FnOk P w K mg base CX0 4 T.a_price T.fd_price ["number","n","rule"] (spPrice T):=by
 refine T.F_price.ok sc_price (fun vs H Q E h=>?_) (fun cdv A outer s H vs Q E hr h=>?_)
 ·obtain ⟨v,n,p,a,b,rfl,_⟩:=h
  rfl
 obtain ⟨v,n,p,a,b,rfl,R,n0,n1,v0,v1,q⟩:=h
 refine ⟨_,(pss_one (ps_ret (pe_call (ok_over T) (hr.mono (by decide)) rfl T.m_over T.F_over.kp T.b_over .nil pass0 (pa_cons (pe_mark (ff:=T.ff) (ok_mark T) T.b_Qv (hr.mono (by decide)) (pv 2) (pa_cons (pv 1) pa_nil)) (pa_cons (ZE (pa_cons (pv 0) (pa_cons pe_int pa_nil))) pa_nil))))),?_⟩
 obtain ⟨C,dx,t,RC,h1,h2⟩:=R.ob
 have a0:=R.a0
 have ab:=R.ab
 have b1:=R.b1
 have mb:=mul_bd (by omega:0<=n - 1) (by omega:n - 1<=1000) (by omega:0<=b) b1
 refine ⟨_,rfl,p,C,dx,t,rfl,RC,h1,_,rfl,p,n,a,b,rfl,R,n0,by omega,fun m H1 mx my L1 N1=>?_⟩
 have lx:=L1.lex
 have ly:=L1.ley
 refine ⟨_,rfl,(by show 2<=sizeLine; decide),fun u H2 N2=>?_⟩
 refine ⟨m,u,mx,my,v,1,rfl,⟨N2.same _ _ N1.at_,L1.x0,L1.y0,by omega,by omega⟩,⟨N2.at_,by omega,by omega,by omega,by omega⟩,v0,fun r H3 x y L2 N3=>?_⟩
 have S:=N1.same.trans N2.same
 exact q r H3 x y (pr_of (by omega) v0 (by omega) L1 L2) (S.trans N3.same) (S.free N3.gone) N3.at_
end
end K7
namespace SW
open PySem L2
theorem ixN_nat {n v:Nat} (h:v<n):ixN n (v:Int)=some v:=by
 unfold ixN
 rw [if_pos (by omega),if_pos (by omega),Int.toNat_natCast]
theorem atI_nat' {α:Type} {xs:List α} {v:Nat} {x:α} (h:xs[v]?=some x):atI xs (v:Int)=some x:=atI_of (by omega) (by rw [Int.toNat_natCast]; exact h)
def nV (z:Nat):V:=.int (z:Int)
theorem ah_set {n v:Nat} {ah:Nat->Option Nat} {u:Nat} (h:v<n):((List.range n).map fun z=>vAh (ah z)).set v (.int (u:Int))=(List.range n).map fun z=>vAh (fset ah v (some u) z):=by
 apply List.ext_getElem?
 intro i
 by_cases e:v=i
 ·subst e
  rw [List.getElem?_set_self (by simpa using h),List.getElem?_map,List.getElem?_range h]
  show some (V.int (u:Int))=some (vAh (fset ah v (some u) v))
  rw [ZH]; rfl
 ·rw [List.getElem?_set_ne e]
  by_cases hi:i<n
  ·rw [List.getElem?_map,List.getElem?_map,List.getElem?_range hi]
   show some (vAh (ah i))=some (vAh (fset ah v (some u) i))
   rw [ZI (fun z=>e z.symm)]
  ·rw [List.getElem?_eq_none (by simp; omega),List.getElem?_eq_none (by simp; omega)]
section
variable {cR:Addr} {H H':Hp} {p dx cl al:Addr} {n:Nat} {D:Nat->Option Q2} {ah:Nat->Option Nat}
theorem CostAt.keep {x:V} {o:Option Q2} (h:CostAt H x o) (S:∀t xs,H t=some (.tup xs)->H' t=some (.tup xs)):CostAt H' x o:=by
 cases o with
 | none=>exact h
 | some d=>
  obtain ⟨t,h1,h2⟩:=h
  exact ⟨t,h1,S _ _ h2⟩
theorem RchH.same (R:RchH cR H p dx cl al n D ah) (S:Same H H'):RchH cR H' p dx cl al n D ah:=by
 obtain ⟨xs,h1,h2,h3⟩:=R.co
 exact ⟨S _ _ R.ob,⟨xs,S _ _ h1,h2,fun v x e=>(h3 v x e).keep fun t xs e=>S _ _ e⟩,S _ _ R.ah,R.ne⟩
theorem RchH.put (R:RchH cR H p dx cl al n D ah) {xs:List V} (hc:H cl=some (.lst xs)) (hl:xs.length=n) (hx:∀(v:Nat) (x:V),xs[v]?=some x->CostAt H x (D v)) {u v tc:Nat} {d:Q2} (hv:v<n) (ht:H tc=some (.tup [.int d.1,.int d.2])) :
  RchH cR (upd (upd H cl (.lst (xs.set v (.ref tc)))) al (.lst (((List.range n).map fun z=>vAh (ah z)).set v (.int (u:Int))))) p dx cl al n (fset D v (some d)) (fset ah v (some u)):=by
 have pc:p≠cl:=ne_of R.ob hc (by intro z; cases z)
 have pa:p≠al:=ne_of R.ob R.ah (by intro z; cases z)
 have tup:∀t ys,H t=some (.tup ys)->(upd (upd H cl (.lst (xs.set v (.ref tc)))) al (.lst (((List.range n).map fun z=>vAh (ah z)).set v (.int (u:Int))))) t=some (.tup ys):=fun t ys e=>by
  rw [upd_ne (ne_of e R.ah (by intro z; cases z)),upd_ne (ne_of e hc (by intro z; cases z))]
  exact e
 refine ⟨by rw [upd_ne pa,upd_ne pc]; exact R.ob,⟨xs.set v (.ref tc),by rw [upd_ne R.ne,upd_same],by rw [List.length_set]; exact hl,fun z x e=>?_⟩,by rw [upd_same,ah_set hv],R.ne⟩
 by_cases q:v=z
 ·subst q
  rw [List.getElem?_set_self (by omega)] at e
  cases e
  rw [ZH]
  exact ⟨tc,rfl,tup _ _ ht⟩
 ·rw [List.getElem?_set_ne q] at e
  rw [ZI (fun w=>q w.symm)]
  exact (hx z x e).keep tup
theorem RchH.off (R:RchH cR H p dx cl al n D ah) {b:Addr} {o:HO} (bp:b≠p) (bc:b≠cl) (ba:b≠al) (nt:∀xs,H b≠some (.tup xs)):RchH cR (upd H b o) p dx cl al n D ah:=by
 obtain ⟨xs,h1,h2,h3⟩:=R.co
 refine ⟨by rw [upd_ne bp.symm]; exact R.ob,⟨xs,by rw [upd_ne bc.symm]; exact h1,h2,fun v x e=>(h3 v x e).keep fun t ys e=>?_⟩,by rw [upd_ne ba.symm]; exact R.ah,R.ne⟩
 rw [upd_ne (fun z=>nt ys (by rw [<-z]; exact e))]
 exact e
end
end SW
namespace K7
open PySem L2 SW
section
variable {P:Program} {w:World} {K:W.Frag} {mg:Str->Option Value} {base:Heap}
def spGoOn (cR:Addr):Sp:=fun vs H Q _=>∃(p dx cl al d:Addr) (u n:Nat) (kvs:List (Key×V)) (E:Nat->Nat->Option Q2) (pi:Nat->Q2) (st wt:Nat->Prop) (D:Nat->Option Q2) (ah:Nat->Option Nat) (du:Q2),vs=[.ref p,.int (u:Int),.ref d]/\RchH cR H p dx cl al n D ah/\n<=40 /\
 H d=some (.dK kvs)/\(∀v w,E u v=some w->∃t,valV kvs (.inl (v:Int))=some (.ref t)/\H t=some (.tup [.int w.1,.int w.2]))/\(∀kx,kx∈kvs->∃(v:Nat) (w:Q2),kx.1 = .inl (v:Int)/\v<n/\E u v=some w)/\(kvs.map (·.1)).Nodup /\
 Gr n E pi/\Lab n E pi st D ah wt/\D u=some du /\
 ∀(H':Hp) (D':Nat->Option Q2) (ah':Nat->Option Nat) (l:Addr) (fs:List Nat),(∀b o,H b=some o->b≠cl->b≠al->H' b=some o)->RchH cR H' p dx cl al n D' ah'->H l=none->H' l=some (.lst (fs.map nV))->fs.Nodup->(∀z,z∈fs->z<n) ->
  Lab n E pi st D' ah' (fun z=>(wt z/\z≠u)\/z∈fs)->mus n D'+fs.length<=mus n D->(∀z,(∃d,D z=some d)\/z∈fs->∃d,D' z=some d)->Q (.ref l) H'
theorem valV_key {kvs:List (Key×V)} {k:Key} {v:V} (h:valV kvs k=some v):∃(i:Nat) (kx:Key×V),kvs[i]?=some kx/\kx.1=k:=by
 unfold valV at h
 obtain ⟨kx,h1,h2⟩:=Option.map_eq_some_iff.mp h
 obtain ⟨i,hi,e⟩:=List.getElem_of_mem (List.mem_of_find?_eq_some h1)
 refine ⟨i,kx,by rw [List.getElem?_eq_getElem hi,e],?_⟩
 have:=List.find?_some h1
 simpa using this
theorem ok_Qg (T:Txt K mg):FnOk P w K mg base CX0 2 T.a_Qg T.fd_Qg ["self","node","ways"] (spGoOn T.c_Reach):=by
 refine T.F_Qg.ok sc_Qg (fun vs H Q E h=>?_) (fun cdv A outer s H vs Q E hr h=>?_)
 ·obtain ⟨p,dx,cl,al,d,u,n,kvs,E,pi,st,wt,D,ah,du,rfl,_⟩:=h
  rfl
 obtain ⟨p,dx,cl,al,d,u,n,kvs,G,pi,st,wt,D,ah,du,rfl,R,n1,hd,hval,hkey,hnd,gr,L,hu,q⟩:=h
 refine ⟨_,(pss_cons (ps_set (i:=3) sc_Qg.nd rfl (Or.inl rfl) (pe_ix (ix_Q K) (ZA K (pv 0) rfl) (pv 1) (fun _ _=>rfl)))
   (pss_cons (ps_set (i:=4) sc_Qg.nd rfl (Or.inl rfl) (ZF pa_nil))
   (pss_cons (ps_thaw H (ps_for PassesOwn.never rfl (pi_dict (pv 2)) (pg_name (i:=5) sc_Qg.nd rfl (Or.inl rfl))
   (pss_cons (ps_set (i:=6) sc_Qg.nd rfl (Or.inl rfl) (ZE (pa_cons (pe_op ZC (pe_ix (ix_Q K) (pv 3) pe_int (fun _ _=>rfl)) (pe_ix (ix_Q K) (pe_dgetR hr.u1 (pv 2) (pv 5) (fun _ _=>rfl)) pe_int (fun _ _=>rfl))) (pa_cons (pe_op ZC (pe_ix (ix_Q K) (pv 3) pe_int (fun _ _=>rfl)) (pe_ix (ix_Q K) (pe_dgetR hr.u1 (pv 2) (pv 5) (fun _ _=>rfl)) pe_int (fun _ _=>rfl))) pa_nil))))
   (pss_one (ps_if (PW.pt (pw_or (pt_cmpR op_isNR (pe_ix (ix_Q K) (ZA K (pv 0) rfl) (pv 5) (fun _ _=>rfl)) pe_non (nomark _)) (pw_or1 (pt_val (pe_call (ok_below T) (hr.mono (by decide)) rfl T.m_below T.F_below.kp T.b_below .nil pass0 (pa_cons (pv 6) (pa_cons (pe_ix (ix_Q K) (ZA K (pv 0) rfl) (pv 5) (fun _ _=>rfl)) pa_nil)))))))
   (pss_cons (ps_asg (pv 6) (pg_sub (ZA K (pv 0) rfl) (pv 5) set_list))
   (pss_cons (ps_asg (pv 1) (pg_sub (ZA K (pv 0) rfl) (pv 5) set_list))
   (pss_one (ps_expr (pe_bm PySem.F.plainAttrs_list PySem.F.slot_list_append PySem.F.type_list_append mt_append (pv 4) (pa_cons (pv 5) pa_nil))))))
   pss_nil)))))
   (pss_one (ps_ret (pv 4)))))),?_⟩
 have ob:=R.ob
 obtain ⟨xs,hcl,hxl,hxs⟩:=R.co
 have un:=(L.dom u du hu).1
 obtain ⟨tu,exu,htu⟩:∃tu,xs[u]?=some (.ref tu)/\H tu=some (.tup [.int du.1,.int du.2]):=by
  have e:xs[u]?=some xs[u]:=by simp
  have:=hxs u _ e
  rw [hu] at this
  obtain ⟨t,h1,h2⟩:=this
  exact ⟨t,by rw [e,h1],h2⟩
 have atu:atI xs (u:Int)=some (.ref tu):=atI_nat' exu
 refine ⟨_,rfl,_,_,_,_,_,rfl,by assumption,T.cl_Reach,T.na_Reach_costs,by rfl,_,rfl,_,_,_,_,rfl,rfl,Or.inl (SqL.of ‹_›),by assumption,?_⟩
 refine ⟨Nat.zero_le _,fun lf H1 N1=>?_⟩
 have nlf:=N1.gone
 have hd1:=N1.same _ _ hd
 have dcl:d≠cl:=ne_of hd hcl (by intro z; cases z)
 have dal:d≠al:=ne_of hd R.ah (by intro z; cases z)
 have pd:p≠d:=ne_of ob hd (by intro z; cases z)
 have lcl:lf≠cl:=fun z=>by rw [z,hcl] at nlf; cases nlf
 have lal:lf≠al:=fun z=>by rw [z,R.ah] at nlf; cases nlf
 have ld:lf≠d:=fun z=>by rw [z,hd] at nlf; cases nlf
 have lp:lf≠p:=fun z=>by rw [z,ob] at nlf; cases nlf
 refine ⟨_,rfl,?_⟩
 refine ⟨d,kvs,rfl,hd1,fun o=>?_⟩
 refine for_dict (fun i σ H2=>∃(D':Nat->Option Q2) (ah':Nat->Option Nat) (fs:List Nat) (v5 v6:Option V),σ=[some (.ref p),some (.int (u:Int)),some (.ref d),some (.ref tu),some (.ref lf),v5,v6]/\H2 d=some (.frz o (.dK kvs)) /\
  (∀b ob,H b=some ob->b≠cl->b≠al->b≠d->H2 b=some ob)/\RchH T.c_Reach H2 p dx cl al n D' ah'/\H2 lf=some (.lst (fs.map nV))/\fs.Nodup/\(∀z,z∈fs->z<n/\∃i',i'<i/\∃kx,kvs[i']?=some kx/\kx.1 = .inl (z:Int)) /\
  Lab n G pi st D' ah' (fun z=>wt z\/z∈fs\/z=u)/\D' u=some du/\(∀i',i'<i->∀(kx:Key×V) (v:Nat) (w:Q2),kvs[i']?=some kx->kx.1 = .inl (v:Int)->G u v=some w->∃dv,D' v=some dv/\qle dv (qmul du w))/\mus n D'+fs.length<=mus n D/\∀z,(∃d,D z=some d)\/z∈fs->∃d,D' z=some d) ?_ ?_ ?_ ?_
 ·refine ⟨D,ah,[],_,_,rfl,upd_same,fun b o' e _ _ hb=>by rw [upd_ne hb]; exact N1.same _ _ e,?_,by rw [upd_ne ld]; exact N1.at_,List.nodup_nil,fun z h=>(by cases h),L.mono fun z h => .inl h,hu,fun i' h=>absurd h (Nat.not_lt_zero _),by simp,fun z h=>h.elim id (fun h=>by cases h)⟩
  refine ⟨by rw [upd_ne pd]; exact N1.same _ _ ob,⟨xs,by rw [upd_ne dcl.symm]; exact N1.same _ _ hcl,hxl,fun v x e=>(hxs v x e).keep fun t ys e=>?_⟩,by rw [upd_ne dal.symm]; exact N1.same _ _ R.ah,R.ne⟩
  rw [upd_ne (ne_of e hd (by intro z; cases z))]
  exact N1.same _ _ e
 ·rintro i σ H2 _ ⟨D',ah',fs,v5,v6,rfl,h1,_⟩
  exact h1
 ·rintro i kx σ H2 hkx ⟨D',ah',fs,v5,v6,rfl,hz,fr2,R2,hlf,fnd,fin,L2',hu2,done,ms,kp⟩
  obtain ⟨v,w,ek,vn,ew⟩:=hkey kx (List.mem_of_getElem? hkx)
  obtain ⟨te,hve,hte⟩:=hval v w ew
  obtain ⟨pw,w1,w2⟩:=gr.pos u v w ew
  have uv:=(gr.lt u v w ew).2.2
  rw [ek]
  have hte2:=fr2 _ _ hte (ne_of hte hcl (by intro z; cases z)) (ne_of hte R.ah (by intro z; cases z)) (ne_of hte hd (by intro z; cases z))
  have htu2:=fr2 _ _ htu (ne_of htu hcl (by intro z; cases z)) (ne_of htu R.ah (by intro z; cases z)) (ne_of htu hd (by intro z; cases z))
  have dg:DGet H2 d (.int (v:Int)) (some (.ref te)):=.inl ⟨kvs,.inl (v:Int),.inr ⟨o,hz⟩,rfl,hve.symm⟩
  have pdu:=(L2'.dom u du hu2).2
  obtain ⟨bu1,bu2⟩:=L2'.size hu2
  have hb:80*n+1<=8192:=by omega
  have fu1:Fits du.1:=ZG (Int.le_of_lt pdu.1) bu1 hb
  have fu2:Fits du.2:=ZG (Int.le_of_lt pdu.2) bu2 hb
  have m1:CMulF du.1 w.1:=.inr ⟨fu1,ZG (Int.le_of_lt pw.1) w1 (by decide)⟩
  have m2:CMulF du.2 w.2:=.inr ⟨fu2,ZG (Int.le_of_lt pw.2) w2 (by decide)⟩
  have dg0:DGet H2 d (kV (Sum.inl (v:Int))) (some (.ref te)):=dg
  refine ⟨_,rfl,_,_,_,_,rfl,rfl,Or.inr (SqT.of ‹_›),rfl,_,rfl,_,rfl,_,_,rfl,by assumption,_,_,_,_,rfl,rfl,Or.inr (SqT.of ‹_›),rfl,_,_,rfl,rfl,by omega,_,rfl,_,_,_,_,rfl,rfl,Or.inr (SqT.of ‹_›),rfl,_,rfl,_,rfl,_,_,rfl,by assumption,_,_,_,_,rfl,rfl,Or.inr (SqT.of ‹_›),rfl,_,_,rfl,rfl,by omega,?_⟩
  refine ⟨(by show 2<=sizeLine; decide),fun tc H3 N3=>?_⟩
  have R3:=R2.same N3.same
  have ob3:=R3.ob
  obtain ⟨ys,hc3,hl3,hx3⟩:=R3.co
  obtain ⟨x,ex,hcx⟩:∃x,ys[v]?=some x/\CostAt H3 x (D' v):=⟨ys[v],by simp,hx3 v _ (by simp)⟩
  have atv:atI ys (v:Int)=some x:=atI_nat' ex
  have hlf3:=N3.same _ _ hlf
  have htc:=N3.at_
  have pnew:=pdu.mul pw
  have vnf:v∉fs:=fun z=>by
   obtain ⟨_,i',hi',kx',e1,e2⟩:=fin v z
   have hi:=(List.getElem?_eq_some_iff.mp hkx).1
   have a1:(kvs.map (·.1))[i']?=some (Sum.inl (v:Int)):=by rw [List.getElem?_map,e1]; exact congrArg some e2
   have a2:(kvs.map (·.1))[i]?=some (Sum.inl (v:Int)):=by rw [List.getElem?_map,hkx]; exact congrArg some ek
   obtain ⟨l1,q1⟩:=List.getElem?_eq_some_iff.mp a1
   obtain ⟨l2,q2⟩:=List.getElem?_eq_some_iff.mp a2
   have:=(List.getElem_inj hnd).mp (q1.trans q2.symm)
   omega
  have below:∀dv tv,D' v=some dv->H3 tv=some (.tup [.int dv.1,.int dv.2])->CMulF (qmul du w).1 dv.2/\CMulF dv.1 (qmul du w).2:=fun dv tv e1 e2=>by
   have pdv:=(L2'.dom v dv e1).2
   obtain ⟨c1,c2⟩:=L2'.size e1
   have f1:Fits dv.1:=ZG (Int.le_of_lt pdv.1) c1 hb
   have f2:Fits dv.2:=ZG (Int.le_of_lt pdv.2) c2 hb
   have big:∀x y:Int,0<x->0<y->x<2 ^ (80*n+1)->y<2 ^ 80->Fits (x*y):=fun x y x0 y0 x1 y1=>by
    refine ZG (k:=80*n+1+80) (Int.le_of_lt (Int.mul_pos x0 y0)) ?_ (by omega)
    rw [Int.pow_add]
    exact Int.lt_of_lt_of_le (Int.mul_lt_mul_of_pos_right x1 y0) (Int.mul_le_mul_of_nonneg_left (Int.le_of_lt y1) (Int.le_of_lt (Int.pow_pos (by decide))))
   exact ⟨.inr ⟨big _ _ pdu.1 pw.1 bu1 w1,f2⟩,.inr ⟨f1,big _ _ pdu.2 pw.2 bu2 w2⟩⟩
  by_cases hq:∀dv,D' v=some dv->qlt (qmul du w) dv
  ·have hx:(x = .non)\/∃dv tv,D' v=some dv/\x = .ref tv/\H3 tv=some (.tup [.int dv.1,.int dv.2]):=by
    cases hD:D' v with
    | none=>rw [hD] at hcx; exact .inl hcx
    | some dv=>
     rw [hD] at hcx
     obtain ⟨tv,h1,h2⟩:=hcx
     exact .inr ⟨dv,tv,rfl,h1,h2⟩
   have pcl:p≠cl:=ne_of ob3 hc3 (by intro z; cases z)
   have oba:(upd H3 cl (.lst (ys.set v (.ref tc)))) p=some (.ins T.c_Reach dx (rchF cl al)):=by rw [upd_ne pcl]; exact ob3
   have aha:(upd H3 cl (.lst (ys.set v (.ref tc)))) al=some (.lst ((List.range n).map fun z=>vAh (ah' z))):=by rw [upd_ne R3.ne.symm]; exact R3.ah
   have R4:=R3.put (u:=u) (tc:=tc) (d:=qmul du w) hc3 hl3 hx3 vn htc
   have lfa:(upd (upd H3 cl (.lst (ys.set v (.ref tc)))) al (.lst (((List.range n).map fun z=>vAh (ah' z)).set v (.int (u:Int))))) lf=some (.lst (fs.map nV)):=by rw [upd_ne lal,upd_ne lcl]; exact hlf3
   rcases hx with rfl | ⟨dv,tv,hD,rfl,htv⟩
   case' inl=>
    refine ⟨_,rfl,_,_,_,_,_,rfl,by assumption,T.cl_Reach,T.na_Reach_costs,by rfl,_,rfl,_,_,_,_,rfl,rfl,Or.inl (SqL.of ‹_›),by assumption,rfl,_,rfl,?_⟩
    refine iteDT rfl (iteT ?_)
   case' inr=>
    refine ⟨_,rfl,_,_,_,_,_,rfl,by assumption,T.cl_Reach,T.na_Reach_costs,by rfl,_,rfl,_,_,_,_,rfl,rfl,Or.inl (SqL.of ‹_›),by assumption,rfl,_,rfl,?_⟩
    refine iteDF (by intro z; cases z) ?_
    refine ⟨_,rfl,_,rfl,_,_,_,_,_,rfl,by assumption,T.cl_Reach,T.na_Reach_costs,by rfl,_,rfl,_,_,_,_,rfl,rfl,Or.inl (SqL.of ‹_›),by assumption,?_⟩
    refine ⟨tc,tv,_,_,dv.1,dv.2,rfl,htc,htv,(below dv tv hD htv).1,(below dv tv hD htv).2,?_⟩
    refine ⟨_,rfl,?_⟩
    refine iteDT (hq dv hD) ?_
   all_goals
    refine ⟨_,rfl,_,rfl,_,_,_,_,_,rfl,by assumption,T.cl_Reach,T.na_Reach_costs,by rfl,_,rfl,?_⟩
    refine ⟨cl,ys,(v:Int),v,rfl,rfl,hc3,ixN_nat (by omega),?_⟩
    refine ⟨_,rfl,_,rfl,_,_,_,_,_,rfl,by assumption,T.cl_Reach,T.na_Reach_ahead,by rfl,_,rfl,?_⟩
    refine ⟨al,_,(v:Int),v,rfl,rfl,aha,ixN_nat (by simpa using vn),?_⟩
    refine ⟨_,rfl,?_⟩
    refine ⟨.inl ⟨rfl,_,SqL.of lfa⟩,?_⟩
    refine ⟨_,rfl,?_⟩
    refine ⟨lf,_,_,rfl,rfl,lfa,?_,?_⟩
    ·rw [List.length_map]
     have:=nodup_bound n fs fnd fun z hz=>(fin z hz).1
     exact Nat.lt_of_le_of_lt (show fs.length<=40 by omega) (by decide)
    refine ⟨fset D' v (some (qmul du w)),fset ah' v (some u),fs++[v],_,_,rfl,?_,fun b o' e b1 b2 b3=>?_,R4.off lp lcl lal (fun zs z=>by rw [lfa] at z; cases z),by rw [upd_same,List.map_append]; rfl,?_,fun z hz=>?_,(L2'.relax gr hu2 ew hq).mono fun z hz=>?_,by rw [ZI uv]; exact hu2,fun i' hi' kx' v' w' e1 e2 e3=>?_,?_,fun z hz=>?_⟩
    ·rw [upd_ne ld.symm,upd_ne dal,upd_ne dcl]
     exact N3.same _ _ hz
    ·have bl:b≠lf:=fun z=>by rw [z,nlf] at e; cases e
     rw [upd_ne bl,upd_ne b2,upd_ne b1]
     exact N3.same _ _ (fr2 b o' e b1 b2 b3)
    ·exact List.nodup_append.mpr ⟨fnd,by simp,fun a ha b hb=>by
      have:b=v:=by simpa using hb
      subst this
      rintro rfl
      exact vnf ha⟩
    ·rcases List.mem_append.mp hz with h | h
     ·obtain ⟨h1,i',h2,h3⟩:=fin z h
      exact ⟨h1,i',by omega,h3⟩
     ·have:z=v:=by simpa using h
      subst this
      exact ⟨vn,i,by omega,kx,hkx,ek⟩
    ·rcases hz with (h | h | h) | h
     ·exact .inl h
     ·exact .inr (.inl (List.mem_append.mpr (.inl h)))
     ·exact .inr (.inr h)
     ·exact .inr (.inl (List.mem_append.mpr (.inr (by simp [h]))))
    ·by_cases hv:v'=v
     ·subst hv
      rw [ew] at e3
      cases e3
      exact ⟨_,ZH _ _ _,qle_refl _⟩
     ·have hi2:i'≠i:=fun z=>by
       subst z
       rw [hkx] at e1
       cases e1
       rw [ek] at e2
       have:=Sum.inl.inj e2
       omega
      obtain ⟨dv',g1,g2⟩:=done i' (by omega) kx' v' w' e1 e2 e3
      exact ⟨dv',by rw [ZI hv]; exact g1,g2⟩
    ·have:=mus_relax gr L2' hu2 ew hq
     rw [List.length_append,List.length_singleton]
     omega
    ·by_cases zv:z=v
     ·rw [zv]; exact ⟨_,ZH _ _ _⟩
     ·rw [ZI zv]
      refine kp z (hz.imp id fun h=>?_)
      rcases List.mem_append.mp h with h | h
      ·exact h
      ·exact absurd (by simpa using h) zv
  ·have hx:∃dv tv,D' v=some dv/\¬qlt (qmul du w) dv/\x = .ref tv/\H3 tv=some (.tup [.int dv.1,.int dv.2]):=by
    cases hD:D' v with
    | none=>exact absurd (fun dv e=>by rw [hD] at e; cases e) hq
    | some dv=>
     rw [hD] at hcx
     obtain ⟨tv,h1,h2⟩:=hcx
     exact ⟨dv,tv,rfl,fun z=>hq fun dv' e=>by rw [hD] at e; cases e; exact z,h1,h2⟩
   obtain ⟨dv,tv,hD,nq,rfl,htv⟩:=hx
   refine ⟨_,rfl,_,_,_,_,_,rfl,by assumption,T.cl_Reach,T.na_Reach_costs,by rfl,_,rfl,_,_,_,_,rfl,rfl,Or.inl (SqL.of ‹_›),by assumption,rfl,_,rfl,?_⟩
   refine iteDF (by intro z; cases z) ?_
   refine ⟨_,rfl,_,rfl,_,_,_,_,_,rfl,by assumption,T.cl_Reach,T.na_Reach_costs,by rfl,_,rfl,_,_,_,_,rfl,rfl,Or.inl (SqL.of ‹_›),by assumption,?_⟩
   refine ⟨tc,tv,_,_,dv.1,dv.2,rfl,htc,htv,(below dv tv hD htv).1,(below dv tv hD htv).2,?_⟩
   refine ⟨_,rfl,?_⟩
   refine iteDF nq ?_
   refine ⟨D',ah',fs,_,_,rfl,N3.same _ _ hz,fun b o' e b1 b2 b3=>N3.same _ _ (fr2 b o' e b1 b2 b3),R3,hlf3,fnd,fun z hz=>?_,L2',hu2,fun i' hi' kx' v' w' e1 e2 e3=>?_,ms,kp⟩
   ·obtain ⟨h1,i',h2,h3⟩:=fin z hz
    exact ⟨h1,i',by omega,h3⟩
   ·by_cases hi2:i'=i
    ·subst hi2
     rw [hkx] at e1
     cases e1
     rw [ek] at e2
     have:v'=v:=by have:=Sum.inl.inj e2; omega
     subst this
     rw [ew] at e3
     cases e3
     refine ⟨dv,hD,?_⟩
     have:=mt qlt_not.mpr nq
     exact Classical.not_not.mp this
    ·exact done i' (by omega) kx' v' w' e1 e2 e3
 ·rintro σ H2 ⟨D',ah',fs,v5,v6,rfl,hz,fr2,R2,hlf,fnd,fin,L2',hu2,done,ms,kp⟩
  refine ⟨d,o,kvs,hz,(fun o' u' z=>by rw [hd] at z; cases z),?_⟩
  refine ⟨_,rfl,?_⟩
  refine q _ D' ah' lf fs (fun b o' e b1 b2=>?_) (R2.off pd.symm dcl dal fun zs z=>by rw [hz] at z; cases z) nlf (by rw [upd_ne ld]; exact hlf) fnd (fun z hz=>(fin z hz).1) ⟨L2'.dom,L2'.sta,L2'.root,L2'.par,L2'.up,L2'.sz,fun z dz v w e1 e2 e3=>?_⟩ ms kp
  ·by_cases bd:b=d
   ·subst bd
    rw [upd_same,<-hd,e]
   ·rw [upd_ne bd]
    exact fr2 b o' e b1 b2 bd
  ·by_cases zu:z=u
   ·subst zu
    rw [hu2] at e1
    cases e1
    obtain ⟨t,h1,_⟩:=hval v w e3
    obtain ⟨i,kx,g1,g2⟩:=valV_key h1
    exact done i (List.getElem?_eq_some_iff.mp g1).1 kx v w g1 g2 e3
   ·exact L2'.opt z dz v w e1 (fun h=>by
     rcases h with h | h | h
     ·exact e2 (.inl ⟨h,zu⟩)
     ·exact e2 (.inr h)
     ·exact zu h) e3
end
end K7
namespace SW
open PySem L2
theorem nV_flat (q:List Nat):(q.map nV).all flatV=true:=by
 rw [List.all_eq_true]
 intro x hx
 obtain ⟨k,_,rfl⟩:=List.mem_map.mp hx
 rfl
theorem nV_in {q:List Nat} {v:Nat}:inV (nV v) (q.map nV)=decide (v∈q):=by
 rw [Bool.eq_iff_iff,decide_eq_true_iff]
 unfold inV
 rw [List.any_eq_true]
 constructor
 ·rintro ⟨x,hx,e⟩
  obtain ⟨k,hk,rfl⟩:=List.mem_map.mp hx
  have e':((k:Int) == (v:Int))=true:=e
  have:k=v:=by have:=eq_of_beq e'; omega
  rw [<-this]; exact hk
 ·intro h
  refine ⟨_,List.mem_map.mpr ⟨v,h,rfl⟩,?_⟩
  show ((v:Int) == (v:Int))=true
  simp
section
variable {cR:Addr} {H H':Hp} {p dx cl al:Addr} {n:Nat} {D:Nat->Option Q2} {ah:Nat->Option Nat}
theorem RchH.putC (R:RchH cR H p dx cl al n D ah) {xs:List V} (hc:H cl=some (.lst xs)) (hl:xs.length=n) (hx:∀(v:Nat) (x:V),xs[v]?=some x->CostAt H x (D v)) {v tc:Nat} {d:Q2} (hv:v<n) (ht:H tc=some (.tup [.int d.1,.int d.2])) :
  RchH cR (upd H cl (.lst (xs.set v (.ref tc)))) p dx cl al n (fset D v (some d)) ah:=by
 have pc:p≠cl:=ne_of R.ob hc (by intro z; cases z)
 have tup:∀t ys,H t=some (.tup ys)->(upd H cl (.lst (xs.set v (.ref tc)))) t=some (.tup ys):=fun t ys e=>by
  rw [upd_ne (ne_of e hc (by intro z; cases z))]
  exact e
 refine ⟨by rw [upd_ne pc]; exact R.ob,⟨xs.set v (.ref tc),upd_same,by rw [List.length_set]; exact hl,fun z x e=>?_⟩,by rw [upd_ne R.ne.symm]; exact R.ah,R.ne⟩
 by_cases q:v=z
 ·subst q
  rw [List.getElem?_set_self (by omega)] at e
  cases e
  rw [ZH]
  exact ⟨tc,rfl,tup _ _ ht⟩
 ·rw [List.getElem?_set_ne q] at e
  rw [ZI (fun w=>q w.symm)]
  exact (hx z x e).keep tup
end
def D0 (ss:List Nat) (z:Nat):Option Q2:=if z∈ss then some (1,1) else none
theorem D0_lab {n:Nat} {E:Nat->Nat->Option Q2} {pi:Nat->Q2} {ss:List Nat} (hs:∀z,z∈ss->z<n):Lab n E pi (fun z=>z∈ss) (D0 ss) (fun _=>none) (fun z=>z∈ss):=by
 have key:∀v d,D0 ss v=some d->v∈ss/\d=(1,1):=fun v d h=>by
  unfold D0 at h
  split at h
  ·rename_i hv
   exact ⟨hv,(Option.some.inj h).symm⟩
  ·cases h
 refine ⟨fun v d h=>?_,fun v h=>⟨(1,1),by unfold D0; rw [if_pos h]⟩,fun v d h _=>key v d h,fun v u h=>(by cases h),fun v d _=>⟨0,.root rfl⟩,fun v d h=>?_,fun u d v w h1 h2 _=>absurd (key u d h1).1 h2⟩
 ·obtain ⟨h1,rfl⟩:=key v d h
  exact ⟨hs v h1,by decide,by decide⟩
 ·obtain ⟨h1,rfl⟩:=key v d h
  refine ⟨[v],by simp,fun z hz=>?_,?_,?_⟩
  ·have:z=v:=by simpa using hz
   subst this
   exact ⟨(1,1),h,qle_refl _⟩
  ·show (1:Int)<2 ^ (80*1+1); decide
  ·show (1:Int)<2 ^ (80*1+1); decide
theorem D0_step {ss:List Nat} {i z:Nat} (h:ss[i]?=some z):D0 (ss.take (i+1))=fset (D0 (ss.take i)) z (some (1,1)):=by
 funext x
 unfold D0 fset
 rw [List.take_add_one,h]
 by_cases e:x=z
 ·subst e; simp
 ·rw [if_neg e]
  have:x∈List.take i ss++(some z).toList↔x∈List.take i ss:=by simp [e]
  dsimp only
  by_cases q:x∈List.take i ss
  ·rw [if_pos (this.mpr q),if_pos q]
  ·rw [if_neg (fun z=>q (this.mp z)),if_neg q]
end SW
namespace K7
open PySem L2 SW
section
variable {P:Program} {w:World} {K:W.Frag} {mg:Str->Option Value} {base:Heap}
def spReach (cR:Addr):Sp:=fun vs H Q _=>∃(p dx sl wl:Addr) (ss:List Nat) (ds:List Addr) (kv:Nat->List (Key×V)) (n:Nat) (E:Nat->Nat->Option Q2) (pi:Nat->Q2),vs=[.ref p,.ref sl,.ref wl]/\H p=some (.ins cR dx [])/\H sl=some (.lst (ss.map nV))/\ss.Nodup/\(∀z,z∈ss->z<n)/\WaysH H wl ds kv n E/\n<=40/\Gr n E pi /\
 ∀(H':Hp) (cl al:Addr) (D:Nat->Option Q2) (ah:Nat->Option Nat),(∀b o,H b=some o->b≠p->H' b=some o)->RchH cR H' p dx cl al n D ah->H cl=none->H al=none->Lab n E pi (fun z=>z∈ss) D ah (fun _=>False)->Q .non H'
theorem ok_Qh (T:Txt K mg):FnOk P w K mg base CX0 3 T.a_Qh T.fd_Qh ["self","starts","ways"] (spReach T.c_Reach):=by
 refine T.F_Qh.ok sc_Qh (fun vs H Q E h=>?_) (fun cdv A outer s H vs Q E hr h=>?_)
 ·obtain ⟨p,dx,sl,wl,ss,ds,kv,n,E,pi,rfl,_⟩:=h
  rfl
 obtain ⟨p,dx,sl,wl,ss,ds,kv,n,G,pi,rfl,hp,hsl,snd,sn,W,n1,gr,q⟩:=h
 refine ⟨_,(pss_cons (ps_fld (pv 0) (ZD [3] rfl (ZK rfl) (ZB K (pv 2)) (fun _=>(pg_name (i:=3) sc_Qh.nd rfl (Or.inl rfl))) (fun _=>ZL) (fun _=>pe_non)) rfl)
   (pss_cons (ps_fld (pv 0) (ZD [3] rfl (ZK rfl) (ZB K (pv 2)) (fun _=>(pg_name (i:=3) sc_Qh.nd rfl (Or.inl rfl))) (fun _=>ZL) (fun _=>pe_non)) rfl)
   (pss_cons (ps_for PassesOwn.never rfl (ZB K (pv 1)) (pg_name (i:=3) sc_Qh.nd rfl (Or.inl rfl))
   (pss_one (ps_asg (ZE (pa_cons pe_int (pa_cons pe_int pa_nil))) (pg_sub (ZA K (pv 0) rfl) (pv 3) set_list))))
   (pss_cons (ps_set (i:=4) sc_Qh.nd rfl (Or.inr rfl) (pe_callTy (list_Q K) (by rfl) T.n_list PyProof.Rows.boot_list (pa_cons (pv 1) pa_nil)))
   (pss_one (ps_while PassesOwn.never (pt_cmpR op_gt (pe_callB (len_Q K) (by rfl) T.n_len PySem.boot_len (pa_cons (pv 4) pa_nil)) pe_int (nomark _))
   (pss_cons (ps_set (i:=3) sc_Qh.nd rfl (Or.inl rfl) (pe_bm PySem.F.plainAttrs_list PySem.F.slot_list_pop PySem.F.type_list_pop mt_popAt (pv 4) (pa_cons pe_int pa_nil)))
   (pss_cons (ps_set (i:=5) sc_Qh.nd rfl (Or.inl rfl) (pe_meth (pv 0) T.cl_Reach T.mt_Qg (ok_Qg T) (hr.mono (by decide)) T.b_Qg .nil pass0 (pa_cons (pv 3) (pa_cons (pe_ix (ix_Q K) (pv 2) (pv 3) (fun _ _=>rfl)) pa_nil))))
   (pss_one (ps_expr (pe_bm PySem.F.plainAttrs_list PySem.F.slot_list_extend PySem.F.type_list_extend mt_extend (pv 4) (pa_cons (ZD [6] rfl (ZK rfl) (ZB K (pv 5)) (fun _=>(pg_name (i:=6) sc_Qh.nd rfl (Or.inl rfl))) (fun _=>pts_one (pt_cmpR (notIn_Q K) (pv 6) (pv 4) (by with_unfolding_all rfl))) (fun _=>(pv 6))) pa_nil)))))))))))),?_⟩
 have hz:(ds.map V.ref).length<=sizeLine:=by rw [List.length_map,W.len]; exact Nat.le_trans n1 (by decide)
 have pwl:p≠wl:=ne_of hp W.top (by intro z; cases z)
 have psl:p≠sl:=ne_of hp hsl (by intro z; cases z)
 have nons:((ds.map V.ref).map fun _=>V.non)=(List.range n).map fun _=>V.non:=by
  apply List.ext_getElem
  ·simp [W.len]
  ·intro i h1 h2; simp
 refine ⟨_,rfl,?_⟩
 refine ⟨wl,rfl,⟨_,SqL.of W.top⟩,comp_mapL (fun _ => .non) (SqL.of W.top) hz (fun i x Q _ h=>h) fun cl H1 N1=>?_⟩
 refine ⟨_,rfl,?_⟩
 refine ⟨p,T.c_Reach,dx,[],rfl,N1.same _ _ hp,T.cl_Reach,T.na_Reach_costs,(by decide),?_⟩
 have pcl:cl≠p:=fun z=>by have:=N1.gone; rw [z,hp] at this; cases this
 have fr2:∀b o,H b=some o->b≠p->upd H1 p (.ins T.c_Reach dx (putF "costs" (.ref cl) [])) b=some o:=fun b o e hb=>by rw [upd_ne hb]; exact N1.same _ _ e
 have wl2:=fr2 _ _ W.top pwl.symm
 have cl2:upd H1 p (.ins T.c_Reach dx (putF "costs" (.ref cl) [])) cl=some (.lst ((List.range n).map fun _=>V.non)):=by rw [upd_ne pcl,N1.at_,nons]
 have p2:upd H1 p (.ins T.c_Reach dx (putF "costs" (.ref cl) [])) p=some (.ins T.c_Reach dx (putF "costs" (.ref cl) [])):=upd_same
 generalize upd H1 p (.ins T.c_Reach dx (putF "costs" (.ref cl) []))=H2 at *
 refine ⟨_,rfl,?_⟩
 refine ⟨wl,rfl,⟨_,SqL.of wl2⟩,comp_mapL (fun _ => .non) (SqL.of wl2) hz (fun i x Q _ h=>h) fun al H3 N3=>?_⟩
 refine ⟨_,rfl,?_⟩
 refine ⟨p,T.c_Reach,dx,_,rfl,N3.same _ _ p2,T.cl_Reach,T.na_Reach_ahead,(by show 1<1000; decide),?_⟩
 have pal:al≠p:=fun z=>by have:=N3.gone; rw [z,p2] at this; cases this
 have acl:cl≠al:=fun z=>by have:=N3.gone; rw [<-z,cl2] at this; cases this
 have nal:H al=none:=by
  cases e:H al with
  | none=>rfl
  | some o=>have:=fr2 _ _ e pal; rw [N3.gone] at this; cases this
 have fr4:∀b o,H b=some o->b≠p->upd H3 p (.ins T.c_Reach dx (putF "ahead" (.ref al) (putF "costs" (.ref cl) []))) b=some o:=fun b o e hb=>by rw [upd_ne hb]; exact N3.same _ _ (fr2 b o e hb)
 have R4:RchH T.c_Reach (upd H3 p (.ins T.c_Reach dx (putF "ahead" (.ref al) (putF "costs" (.ref cl) [])))) p dx cl al n (D0 (ss.take 0)) (fun _=>none):=by
  refine ⟨upd_same,⟨_,by rw [upd_ne pcl]; exact N3.same _ _ cl2,by simp,fun v x e=>?_⟩,by rw [upd_ne pal,N3.at_,nons]; rfl,acl⟩
  rw [List.getElem?_map] at e
  cases h:(List.range n)[v]? with
  | none=>rw [h] at e; cases e
  | some z=>rw [h] at e; cases e; rfl
 generalize upd H3 p (.ins T.c_Reach dx (putF "ahead" (.ref al) (putF "costs" (.ref cl) [])))=H4 at *
 refine ⟨_,rfl,?_⟩
 refine ⟨sl,rfl,⟨_,SqL.of (fr4 _ _ hsl psl.symm)⟩,?_⟩
 refine for_list (xs:=ss.map nV) (fun i σ H'=>∃v3,σ=[some (.ref p),some (.ref sl),some (.ref wl),v3,none,none,none]/\(∀b o,H b=some o->b≠p->H' b=some o)/\RchH T.c_Reach H' p dx cl al n (D0 (ss.take i)) (fun _=>none)) ⟨_,rfl,fr4,R4⟩ ?_ ?_ ?_
 ·rintro i σ H' _ ⟨v3,rfl,fr,_⟩
  exact SqL.of (fr _ _ hsl psl.symm)
 ·rintro i x σ H' hx ⟨v3,rfl,fr,R⟩
  rw [List.getElem?_map] at hx
  cases ez:ss[i]? with
  | none=>rw [ez] at hx; cases hx
  | some z=>
   rw [ez] at hx
   have hx':x = .int (z:Int):=(Option.some.inj hx).symm
   subst hx'
   have zn:=sn z (List.mem_of_getElem? ez)
   refine ⟨(by show 2<=sizeLine; decide),fun t H5 N5=>?_⟩
   have R5:=R.same N5.same
   have ob5:=R5.ob
   obtain ⟨xs,hc,hl,hxs⟩:=R5.co
   have ccl:H cl=none:=N1.gone
   refine ⟨_,rfl,_,_,_,_,_,rfl,by assumption,T.cl_Reach,T.na_Reach_costs,by rfl,_,rfl,?_⟩
   refine ⟨cl,xs,(z:Int),z,rfl,rfl,hc,ixN_nat (by omega),?_⟩
   refine ⟨_,rfl,fun b o e hb=>?_,?_⟩
   ·rw [upd_ne (ne_of_none e ccl)]
    exact N5.same _ _ (fr b o e hb)
   ·rw [D0_step ez]
    exact R5.putC (d:=(1,1)) hc hl hxs zn N5.at_
 rintro σ H5 ⟨v3,rfl,fr5,R5⟩
 rw [List.length_map,List.take_length] at R5
 have sl5:=fr5 _ _ hsl psl.symm
 refine ⟨_,rfl,?_⟩
 refine ⟨sl,_,rfl,.inl (SqL.of sl5),fun lw H6 N6=>?_⟩
 have nlw:H lw=none:=by
  cases e:H lw with
  | none=>rfl
  | some o=>
   by_cases hb:lw=p
   ·have:=R5.ob; rw [<-hb,N6.gone] at this; cases this
   ·have:=fr5 _ _ e hb; rw [N6.gone] at this; cases this
 have lwp:lw≠p:=fun z=>by have:=R5.ob; rw [<-z,N6.gone] at this; cases this
 have lwc:lw≠cl:=fun z=>by obtain ⟨xs,hc,_⟩:=R5.co; rw [<-z,N6.gone] at hc; cases hc
 have lwa:lw≠al:=fun z=>by have:=R5.ah; rw [<-z,N6.gone] at this; cases this
 refine ⟨fun m σ H'=>∃(D:Nat->Option Q2) (ah:Nat->Option Nat) (qu:List Nat) (v3 v5:Option V),σ=[some (.ref p),some (.ref sl),some (.ref wl),v3,some (.ref lw),v5,none]/\(∀b o,H b=some o->b≠p->H' b=some o)/\RchH T.c_Reach H' p dx cl al n D ah/\H' lw=some (.lst (qu.map nV))/\qu.Nodup/\(∀z,z∈qu->∃d,D z=some d)/\Lab n G pi (fun z=>z∈ss) D ah (fun z=>z∈qu)/\m=(2*mus n D+qu.length).toNat,?_,?_⟩
 ·exact ⟨_,D0 ss,_,ss,_,_,rfl,fun b o e hb=>N6.same _ _ (fr5 b o e hb),R5.same N6.same,N6.at_,snd,fun z hz=>⟨(1,1),by unfold D0; rw [if_pos hz]⟩,D0_lab sn,rfl⟩
 rintro m σ H7 ⟨D,ah,qu,v3,v5,rfl,fr7,R7,hlw,qnd,qlab,L,rfl⟩
 have W7:WaysH H7 wl ds kv n G:=by
  refine ⟨fr7 _ _ W.top pwl.symm,W.len,W.dnd,fun u d e=>fr7 _ _ (W.dict u d e) (fun z=>?_),fun u v w hu e=>?_,W.key,W.nd⟩
  ·have:=W.dict u d e; rw [z,hp] at this; cases this
  ·obtain ⟨t,h1,h2⟩:=W.val u v w hu e
   exact ⟨t,h1,fr7 _ _ h2 (fun z=>by rw [z,hp] at h2; cases h2)⟩
 have ob7:=R7.ob
 refine ⟨_,rfl,_,_,rfl,Or.inl (SqL.of ‹_›),_,_,rfl,rfl,_,rfl,?_⟩
 rw [List.length_map]
 have mn:=mus_nonneg L
 cases qu with
 | nil=>
  refine iteDF (by decide) ?_
  exact q H7 cl al D ah fr7 R7 N1.gone nal (L.mono fun z h=>by cases h)
 | cons u qs=>
  refine iteDT (by rw [List.length_cons]; omega) ⟨_,fun _ _ h=>h,?_⟩
  have unq:=(List.nodup_cons.mp qnd).1
  have qsnd:=(List.nodup_cons.mp qnd).2
  obtain ⟨du,hu⟩:=qlab u List.mem_cons_self
  have un:=(L.dom u du hu).1
  refine ⟨_,rfl,?_⟩
  refine ⟨.inl ⟨rfl,_,SqL.of hlw⟩,?_⟩
  refine ⟨lw,_,0,0,nV u,rfl,rfl,hlw,by decide,by decide,seqIndex_of (by decide) (by rw [List.length_map,List.length_cons]; omega),rfl,?_⟩
  have e8:((u :: qs).map nV).eraseIdx 0=qs.map nV:=rfl
  rw [e8]
  have R8:RchH T.c_Reach (upd H7 lw (.lst (qs.map nV))) p dx cl al n D ah:=R7.off lwp lwc lwa fun xs z=>by rw [hlw] at z; cases z
  have fr8:∀b o,H b=some o->b≠p->upd H7 lw (.lst (qs.map nV)) b=some o:=fun b o e hb=>by rw [upd_ne (ne_of_none e nlw)]; exact fr7 b o e hb
  have hlw8:upd H7 lw (.lst (qs.map nV)) lw=some (.lst (qs.map nV)):=upd_same
  have W8:WaysH (upd H7 lw (.lst (qs.map nV))) wl ds kv n G:=by
   refine ⟨fr8 _ _ W.top pwl.symm,W.len,W.dnd,fun u d e=>fr8 _ _ (W.dict u d e) (fun z=>?_),fun u v w hu e=>?_,W.key,W.nd⟩
   ·have:=W.dict u d e; rw [z,hp] at this; cases this
   ·obtain ⟨t,h1,h2⟩:=W.val u v w hu e
    exact ⟨t,h1,fr8 _ _ h2 (fun z=>by rw [z,hp] at h2; cases h2)⟩
  generalize upd H7 lw (.lst (qs.map nV))=H8 at *
  have ob8:=R8.ob
  have wt8:=W8.top
  obtain ⟨d,ed⟩:∃d,ds[u]?=some d:=⟨ds[u]'(by rw [W.len]; exact un),by simp⟩
  have hd8:=W8.dict u d ed
  have atd:atI (ds.map V.ref) (u:Int)=some (.ref d):=at_ref ed
  have hnu:nV u = .int (u:Int):=rfl
  rw [hnu]
  refine ⟨_,rfl,_,_,_,rfl,by assumption,by rfl,_,rfl,_,rfl,_,rfl,_,_,_,_,rfl,rfl,Or.inl (SqL.of ‹_›),by assumption,?_⟩
  refine ⟨p,dx,cl,al,d,u,n,kv u,G,pi,_,_,D,ah,du,rfl,R8,n1,hd8,fun v w e=>W8.val u v w un e,fun kx hk=>W8.key u kx un hk,W8.nd u un,gr,L,hu,fun H9 D' ah' lf fs fr9 R9 nlf hlf fnd fn L' ms kp=>?_⟩
  have hlw9:=fr9 _ _ hlw8 lwc lwa
  refine ⟨_,rfl,?_⟩
  refine ⟨.inl ⟨rfl,_,SqL.of hlw9⟩,?_⟩
  refine ⟨_,rfl,?_⟩
  refine ⟨lf,rfl,⟨_,SqL.of hlf⟩,?_⟩
  refine comp_filL (fun x=>!inV x (qs.map nV)) (fun x=>x) (SqL.of hlf) (by rw [List.length_map]; have:=nodup_bound n fs fnd fn; exact Nat.le_trans (show fs.length<=40 by omega) (by decide)) (fun i x Q' hx hQ=>?_) (fun i x Q' hx _ hQ=>?_) ?_
  ·rw [List.getElem?_map] at hx
   cases ez:fs[i]? with
   | none=>rw [ez] at hx; cases hx
   | some z=>
    rw [ez] at hx
    have hx':x=nV z:=(Option.some.inj hx).symm
    subst hx'
    refine ⟨_,rfl,_,rfl,?_⟩
    refine ⟨lw,_,rfl,.inl (SqL.of hlw9),rfl,nV_flat _,?_⟩
    refine ⟨_,rfl,?_⟩
    exact hQ
  ·refine ⟨_,rfl,?_⟩
   exact hQ
  intro l2 H10 N10
  have hlw10:=N10.same _ _ hlw9
  have e10:((fs.map nV).filter fun x=>!inV x (qs.map nV)).map (fun x=>x)=(fs.filter fun z=>!decide (z∈qs)).map nV:=by
   rw [List.map_id',List.filter_map]
   congr 1
   apply List.filter_congr
   intro z _
   show (!inV (nV z) (qs.map nV))=_
   rw [nV_in]
  have hl2:=N10.at_
  rw [e10] at hl2
  have R10:=R9.same N10.same
  have qb:=nodup_bound n qs qsnd fun z hz=>by
   obtain ⟨dz,e⟩:=qlab z (List.mem_cons_of_mem _ hz)
   exact (L.dom z dz e).1
  have fb:=nodup_bound n fs fnd fn
  have flen:(fs.filter fun z=>!decide (z∈qs)).length<=fs.length:=List.length_filter_le _ _
  refine ⟨lw,l2,_,_,rfl,rfl,hlw10,hl2,?_,?_⟩
  ·rw [List.length_map,List.length_map]
   exact Nat.le_trans (show _<=80 by omega) (by decide)
  rw [<-List.map_append]
  refine ⟨_,?_,D',ah',qs++fs.filter fun z=>!decide (z∈qs),_,_,rfl,fun b o e hb=>?_,R10.off lwp lwc lwa (fun xs z=>by rw [hlw10] at z; cases z),upd_same,?_,fun z hz=>?_,L'.mono fun z hz=>?_,rfl⟩
  ·have mn':=mus_nonneg L'
   rw [List.length_append,List.length_cons]
   omega
  ·rw [upd_ne (ne_of_none e nlw)]
   refine N10.same _ _ (fr9 b o (fr8 b o e hb) (ne_of_none e N1.gone) (ne_of_none e nal))
  ·refine List.nodup_append.mpr ⟨qsnd,fnd.filter _,fun a ha b hb e=>?_⟩
   subst e
   have:=(List.mem_filter.mp hb).2
   simp at this
   exact this ha
  ·rcases List.mem_append.mp hz with h | h
   ·exact kp z (.inl (qlab z (List.mem_cons_of_mem _ h)))
   ·exact kp z (.inr (List.mem_filter.mp h).1)
  ·rcases hz with ⟨h1,h2⟩ | h
   ·rcases List.mem_cons.mp h1 with h | h
    ·exact absurd h h2
    ·exact List.mem_append.mpr (.inl h)
   ·by_cases hq:z∈qs
    ·exact List.mem_append.mpr (.inl hq)
    ·exact List.mem_append.mpr (.inr (List.mem_filter.mpr ⟨h,by simp [hq]⟩))
end
end K7
namespace SW
open PySem L2
theorem mem_putK {kvs:List (Key×V)} {k:Key} {y:V} {kx:Key×V} (h:kx∈putK kvs k y):kx.1=k\/kx∈kvs:=by
 unfold putK at h
 split at h
 ·obtain ⟨z,hz,e⟩:=List.mem_map.mp h
  by_cases q:z.1=k
  ·rw [if_pos q] at e
   rw [<-e]
   exact .inl q
  ·rw [if_neg q] at e
   rw [<-e]
   exact .inr hz
 ·rcases List.mem_append.mp h with h | h
  ·exact .inr h
  ·have:kx=(k,y):=by simpa using h
   rw [this]
   exact .inl rfl
theorem valV_drop (k j:Key):∀kvs:List (Key×V),valV (dropK kvs k) j=if j=k then none else valV kvs j
 | []=>by simp [dropK,valV]
 | kx :: r=>by
  have ih:=valV_drop k j r
  by_cases q:kx.1=k
  ·have e:dropK (kx :: r) k=dropK r k:=by unfold dropK; rw [List.filter_cons_of_neg (by simp [q])]
   rw [e,ih]
   by_cases z:j=k
   ·rw [if_pos z,if_pos z]
   ·rw [if_neg z,if_neg z,valV_neg (fun w=>z (w.symm.trans q))]
  ·have e:dropK (kx :: r) k=kx :: dropK r k:=by unfold dropK; rw [List.filter_cons_of_pos (by simp [q])]
   rw [e]
   by_cases z:kx.1=j
   ·rw [valV_pos z,valV_pos z,if_neg (fun w=>q (z.trans w))]
   ·rw [valV_neg z,valV_neg z,ih]
theorem nd_put {kvs:List (Key×V)} (k:Key) (y:V) (h:(kvs.map (·.1)).Nodup):((putK kvs k y).map (·.1)).Nodup:=by
 unfold putK
 split
 ·have:(kvs.map fun kv=>if kv.1=k then (kv.1,y) else kv).map (·.1)=kvs.map (·.1):=by
   rw [List.map_map]
   apply List.map_congr_left
   intro z _
   show (if z.1=k then (z.1,y) else z).1=z.1
   split <;> rfl
  rw [this]
  exact h
 ·rename_i hn
  rw [List.map_append]
  refine List.nodup_append.mpr ⟨h,by simp,fun a ha b hb e=>?_⟩
  have:b=k:=by simpa using hb
  subst e
  subst this
  obtain ⟨z,hz,ez⟩:=List.mem_map.mp ha
  apply hn
  rw [List.any_eq_true]
  exact ⟨z,hz,by simp [ez]⟩
theorem nd_drop {kvs:List (Key×V)} (k:Key) (h:(kvs.map (·.1)).Nodup):((dropK kvs k).map (·.1)).Nodup:=by
 unfold dropK
 exact h.sublist (List.filter_sublist.map _)
def kN (kx:Key×V):Nat:=match kx.1 with
 | .inl i=>i.toNat
 | .inr _=>0
theorem keys_bound {kvs:List (Key×V)} {n:Nat} (h:∀kx,kx∈kvs->∃v:Nat,kx.1 = .inl (v:Int)/\v<n) (nd:(kvs.map (·.1)).Nodup):kvs.length<=n:=by
 have h1:(kvs.map kN).Nodup:=by
  have:kvs.map kN=(kvs.map (·.1)).map (fun k:Key=>match k with | .inl i=>i.toNat | .inr _=>0):=by rw [List.map_map]; rfl
  rw [this]
  refine List.pairwise_map.mpr ?_
  refine List.Pairwise.imp_of_mem (fun {a b} ha hb ne e=>?_) nd
  obtain ⟨x,hx,rfl⟩:=List.mem_map.mp ha
  obtain ⟨y,hy,rfl⟩:=List.mem_map.mp hb
  obtain ⟨v,ev,_⟩:=h x hx
  obtain ⟨v',ev',_⟩:=h y hy
  rw [ev,ev'] at e
  dsimp only at e
  exact ne (by rw [ev,ev']; congr 1; omega)
 have:=nodup_bound n (kvs.map kN) h1 fun x hx=>by
  obtain ⟨kx,hk,rfl⟩:=List.mem_map.mp hx
  obtain ⟨v,ev,hv⟩:=h kx hk
  unfold kN
  rw [ev]
  show (v:Int).toNat<n
  omega
 rw [List.length_map] at this
 exact this
def eset (E:Nat->Nat->Option Q2) (u v:Nat) (o:Option Q2):Nat->Nat->Option Q2:=fun a b=>if a=u/\b=v then o else E a b
theorem eset_same (E:Nat->Nat->Option Q2) (u v:Nat) (o:Option Q2):eset E u v o u v=o:=by unfold eset; rw [if_pos ⟨rfl,rfl⟩]
theorem eset_ne {E:Nat->Nat->Option Q2} {u v a b:Nat} {o:Option Q2} (h:¬(a=u/\b=v)):eset E u v o a b=E a b:=by unfold eset; rw [if_neg h]
section
variable {H:Hp} {wl:Addr} {ds:List Addr} {kv:Nat->List (Key×V)} {n:Nat} {E:Nat->Nat->Option Q2}
theorem WaysH.bound (W:WaysH H wl ds kv n E) {u:Nat} (hu:u<n):(kv u).length<=n:=keys_bound (fun kx hk=>by
 obtain ⟨v,w,e1,e2,_⟩:=W.key u kx hu hk
 exact ⟨v,e1,e2⟩) (W.nd u hu)
theorem WaysH.write (W:WaysH H wl ds kv n E) {u:Nat} {d:Addr} {kvs:List (Key×V)} {E':Nat->Nat->Option Q2} (hu:u<n) (hd:ds[u]?=some d) (hE:∀a b,a≠u->E' a b=E a b)
  (val:∀v w,E' u v=some w->∃t,valV kvs (.inl (v:Int))=some (.ref t)/\H t=some (.tup [.int w.1,.int w.2])) (key:∀kx,kx∈kvs->∃(v:Nat) (w:Q2),kx.1 = .inl (v:Int)/\v<n/\E' u v=some w) (nd:(kvs.map (·.1)).Nodup) :
  WaysH (upd H d (.dK kvs)) wl ds (fset kv u kvs) n E':=by
 have hdd:=W.dict u d hd
 have tup:∀t xs,H t=some (.tup xs)->upd H d (.dK kvs) t=some (.tup xs):=fun t xs e=>by rw [upd_ne (ne_of e hdd (by intro z; cases z))]; exact e
 refine ⟨by rw [upd_ne (ne_of W.top hdd (by intro z; cases z))]; exact W.top,W.len,W.dnd,fun z dz e=>?_,fun z v w hz e=>?_,fun z kx hz hk=>?_,fun z hz=>?_⟩
 ·by_cases q:z=u
  ·subst q
   rw [hd] at e
   cases e
   rw [upd_same,ZH]
  ·have:dz≠d:=fun w=>by
    subst w
    obtain ⟨l1,q1⟩:=List.getElem?_eq_some_iff.mp e
    obtain ⟨l2,q2⟩:=List.getElem?_eq_some_iff.mp hd
    exact q ((List.getElem_inj W.dnd).mp (q1.trans q2.symm))
   rw [upd_ne this,ZI q]
   exact W.dict z dz e
 ·by_cases q:z=u
  ·subst q
   rw [ZH]
   obtain ⟨t,h1,h2⟩:=val v w e
   exact ⟨t,h1,tup _ _ h2⟩
  ·rw [hE z v q] at e
   rw [ZI q]
   obtain ⟨t,h1,h2⟩:=W.val z v w hz e
   exact ⟨t,h1,tup _ _ h2⟩
 ·by_cases q:z=u
  ·subst q
   rw [ZH] at hk
   exact key kx hk
  ·rw [ZI q] at hk
   obtain ⟨v,w,e1,e2,e3⟩:=W.key z kx hz hk
   exact ⟨v,w,e1,e2,by rw [hE z v q]; exact e3⟩
 ·by_cases q:z=u
  ·subst q; rw [ZH]; exact nd
  ·rw [ZI q]; exact W.nd z hz
theorem WaysH.put (W:WaysH H wl ds kv n E) {u v:Nat} {d t:Addr} {x y:Int} (hu:u<n) (hv:v<n) (hd:ds[u]?=some d) (ht:H t=some (.tup [.int x,.int y])):WaysH (upd H d (.dK (putK (kv u) (.inl (v:Int)) (.ref t)))) wl ds (fset kv u (putK (kv u) (.inl (v:Int)) (.ref t))) n (eset E u v (some (x,y))):=by
 refine W.write hu hd (fun a b h=>eset_ne fun z=>h z.1) (fun z w e=>?_) (fun kx hk=>?_) (nd_put _ _ (W.nd u hu))
 ·rw [valV_put]
  by_cases q:z=v
  ·subst q
   rw [eset_same] at e
   cases e
   rw [if_pos rfl]
   exact ⟨t,rfl,ht⟩
  ·rw [eset_ne fun w=>q w.2] at e
   rw [if_neg (fun w=>q (by have:=Sum.inl.inj w; omega))]
   exact W.val u z w hu e
 ·rcases mem_putK hk with h | h
  ·exact ⟨v,_,h,hv,eset_same _ _ _ _⟩
  ·obtain ⟨z,w,e1,e2,e3⟩:=W.key u kx hu h
   by_cases q:z=v
   ·subst q
    exact ⟨z,_,e1,e2,eset_same _ _ _ _⟩
   ·exact ⟨z,w,e1,e2,by rw [eset_ne fun w=>q w.2]; exact e3⟩
theorem WaysH.drop (W:WaysH H wl ds kv n E) {u v:Nat} {d:Addr} (hu:u<n) (hd:ds[u]?=some d):WaysH (upd H d (.dK (dropK (kv u) (.inl (v:Int))))) wl ds (fset kv u (dropK (kv u) (.inl (v:Int)))) n (eset E u v none):=by
 refine W.write hu hd (fun a b h=>eset_ne fun z=>h z.1) (fun z w e=>?_) (fun kx hk=>?_) (nd_drop _ (W.nd u hu))
 ·by_cases q:z=v
  ·subst q; rw [eset_same] at e; cases e
  ·rw [eset_ne fun w=>q w.2] at e
   rw [valV_drop,if_neg (fun w=>q (by have:=Sum.inl.inj w; omega))]
   exact W.val u z w hu e
 ·have hm:kx∈(kv u).filter fun kv=>decide (kv.1 ≠ .inl (v:Int)):=hk
  obtain ⟨h1,h2⟩:=List.mem_filter.mp hm
  obtain ⟨z,w,e1,e2,e3⟩:=W.key u kx hu h1
  have q:z≠v:=fun q=>by subst q; exact (of_decide_eq_true h2) e1
  exact ⟨z,w,e1,e2,by rw [eset_ne fun w=>q w.2]; exact e3⟩
theorem WaysH.gone (W:WaysH H wl ds kv n E) {u v:Nat} (hu:u<n) (h:valV (kv u) (.inl (v:Int))=none):eset E u v none=E:=by
 funext a b
 by_cases q:a=u/\b=v
 ·obtain ⟨rfl,rfl⟩:=q
  rw [eset_same]
  cases e:E a b with
  | none=>rfl
  | some w=>
   obtain ⟨t,h1,_⟩:=W.val a b w hu e
   rw [h] at h1
   cases h1
 ·rw [eset_ne q]
end
structure NetH (K:W.Frag) (cN fm:Addr) (ff:Option Addr) (H0 H:Hp) (p dx vt rl sl wl:Addr) (as ds:List Addr) (U S:Nat->Nat->Int) (r c:Nat) (a b:Int) (kv:Nat->List (Key×V)) (E:Nat->Nat->Option Q2):Prop where
 base:Same H0 H
 mat:Mat K H0 vt (mkT U r c)
 rule:RuleAt K fm ff H0 rl a b
 ob:H p=some (.ins cN dx (netF vt rl r sl wl))
 st:MatM H sl as (mkT S r c)
 ws:WaysH H wl ds kv (r+c) E
 na:∀x,x∈as->H0 x=none
 nd:∀x,x∈ds->H0 x=none
 sa:sl∉as
 wa:wl∉as
section
variable {K:W.Frag} {cN fm:Addr} {ff:Option Addr} {H0 H H':Hp} {p dx vt rl sl wl:Addr} {as ds:List Addr} {U S:Nat->Nat->Int} {r c:Nat} {a b:Int} {kv kv':Nat->List (Key×V)} {E E':Nat->Nat->Option Q2}
theorem NetH.same (N:NetH K cN fm ff H0 H p dx vt rl sl wl as ds U S r c a b kv E) (h:Same H H'):NetH K cN fm ff H0 H' p dx vt rl sl wl as ds U S r c a b kv E:=
 ⟨N.base.trans h,N.mat,N.rule,h _ _ N.ob,N.st.same h,N.ws.same h,N.na,N.nd,N.sa,N.wa⟩
theorem NetH.wr (N:NetH K cN fm ff H0 H p dx vt rl sl wl as ds U S r c a b kv E) {d:Addr} {k0 kvs:List (Key×V)} (hd:d∈ds) (hdd:H d=some (.dK k0)) (W:WaysH (upd H d (.dK kvs)) wl ds kv' (r+c) E'):NetH K cN fm ff H0 (upd H d (.dK kvs)) p dx vt rl sl wl as ds U S r c a b kv' E':=by
 refine ⟨N.base.upd (N.nd d hd),N.mat,N.rule,by rw [upd_ne (ne_of N.ob hdd (by intro z; cases z))]; exact N.ob,N.st.keep (ne_of N.st.top hdd (by intro z; cases z)) (fun z=>?_),W,N.na,N.nd,N.sa,N.wa⟩
 obtain ⟨n,hn,en⟩:=List.getElem_of_mem z
 have hl:=N.st.len
 rw [mk_len] at hl
 have:=N.st.rows n d _ (by rw [List.getElem?_eq_getElem hn,en]) (mk_get (by omega))
 rw [hdd] at this
 cases this
theorem NetH.dk (N:NetH K cN fm ff H0 H p dx vt rl sl wl as ds U S r c a b kv E) {u:Nat} (hu:u<r+c):∃d,ds[u]?=some d/\d∈ds/\H d=some (.dK (kv u))/\atI (ds.map V.ref) (u:Int)=some (.ref d):=by
 have hl:=N.ws.len
 have e:ds[u]?=some (ds[u]'(by omega)):=by simp
 exact ⟨_,e,List.mem_of_getElem? e,N.ws.dict u _ e,at_ref e⟩
end
structure LayE (a b v s:Int) (r i j:Nat) (E E':Nat->Nat->Option Q2):Prop where
 up:0<v->∃x y,E' i (r+j)=some (x,y)/\Pr a b v (s+1) x y
 up0:¬0<v->E' i (r+j)=E i (r+j)
 dn:0<s->∃x y,E' (r+j) i=some (y,x)/\Pr a b v s x y
 dn0:¬0<s->E' (r+j) i=none
 rest:∀u w,¬(u=i/\w=r+j)->¬(u=r+j/\w=i)->E' u w=E u w
theorem pr_inv {a b v n x y p q:Int} (b0:0<b) (v0:0<v) (h:Pr a b v n x y) (L:Low (1*y) (1*x) p q):Pr a b v n q p:=by
 have e1:=L.eq
 rw [Int.one_mul,Int.one_mul] at e1
 have e2:=h.eq
 have y0:=h.y0
 have x0:=h.x0
 have q0:=L.y0
 have lx:=L.lex
 have ly:=L.ley
 rw [Int.one_mul] at lx ly
 have p0:0<p:=by
  rcases Int.lt_or_le 0 p with z | z
  ·exact z
  ·have:p=0:=by have:=L.x0; omega
   subst this
   have:=Int.mul_pos q0 y0
   rw [Int.zero_mul] at e1
   omega
 refine ⟨q0,p0,?_,?_,by have:=h.xl; omega,by have:=h.yl; omega⟩
 ·have:=L.one
  unfold gcdI at *
  rw [Int.gcd_comm]
  exact this
 ·have:y*(q*(b*v))=y*(p*(a+(n - 1)*b)):=by
   have h1:y*(q*(b*v))=(q*y)*(b*v):=by grind
   have h2:y*(p*(a+(n - 1)*b))=p*(y*(a+(n - 1)*b)):=by grind
   rw [h1,h2,<-e1,<-e2]
   grind
  exact Int.eq_of_mul_eq_mul_left (Int.ne_of_gt y0) this
end SW
namespace K7
open PySem L2 SW
section
variable {P:Program} {w:World} {K:W.Frag} {mg:Str->Option Value} {base:Heap}
abbrev Txt.net (T:Txt K mg) (H0 H:Hp) (p dx vt rl sl wl:Addr) (as ds:List Addr) (U S:Nat->Nat->Int) (r c:Nat) (a b:Int) (kv:Nat->List (Key×V)) (E:Nat->Nat->Option Q2):Prop:=NetH K T.c_Net T.a_Qv T.ff H0 H p dx vt rl sl wl as ds U S r c a b kv E
def spLay (T:Txt K mg):Sp:=fun vs H Q _=>∃(H0:Hp) (p dx vt rl sl wl:Addr) (as ds:List Addr) (U S:Nat->Nat->Int) (r c:Nat) (a b:Int) (kv:Nat->List (Key×V)) (E:Nat->Nat->Option Q2) (i j:Nat),vs=[.ref p,.int (i:Int),.int (j:Int)]/\T.net H0 H p dx vt rl sl wl as ds U S r c a b kv E/\i<r/\j<c/\r+c<=40/\0<=U i j/\U i j<=10 ^ 15/\0<=S i j/\S i j<=800/\(0<S i j->0<U i j) /\
 ∀(H':Hp) (kv':Nat->List (Key×V)) (E':Nat->Nat->Option Q2),T.net H0 H' p dx vt rl sl wl as ds U S r c a b kv' E'->LayE a b (U i j) (S i j) r i j E E'->(∀x o,H x=some o->x∉ds->H' x=some o)->Q .non H'
theorem ok_Qr (T:Txt K mg):FnOk P w K mg base CX0 5 T.a_Qr T.fd_Qr ["self","i","j"] (spLay T):=by
 refine T.F_Qr.ok sc_Qr (fun vs H Q E h=>?_) (fun cdv A outer s H vs Q E hr h=>?_)
 ·obtain ⟨H0,p,dx,vt,rl,sl,wl,as,ds,U,S,r,c,a,b,kv,E,i,j,rfl,_⟩:=h
  rfl
 obtain ⟨H0,p,dx,vt,rl,sl,wl,as,ds,U,S,r,c,a,b,kv,G,i,j,rfl,N,hi,hj,n1,v0,v1,s0,s1,sv,q⟩:=h
 refine ⟨_,(pss_cons (ps_set (i:=3) sc_Qr.nd rfl (Or.inl rfl) (pe_ix (ix_Q K) (pe_ix (ix_Q K) (ZA K (pv 0) rfl) (pv 1) (fun _ _=>rfl)) (pv 2) (fun _ _=>rfl)))
   (pss_cons (ps_set (i:=4) sc_Qr.nd rfl (Or.inl rfl) (pe_ix (ix_Q K) (pe_ix (ix_Q K) (ZA K (pv 0) rfl) (pv 1) (fun _ _=>rfl)) (pv 2) (fun _ _=>rfl)))
   (pss_cons (ps_set (i:=5) sc_Qr.nd rfl (Or.inl rfl) (pe_op op_add (ZA K (pv 0) rfl) (pv 2)))
   (pss_cons (ps_meet (ps_if (pt_cmpR op_gt (pv 3) pe_int (nomark _))
   (pss_one (ps_dputR hr.u1 (pe_ix (ix_Q K) (ZA K (pv 0) rfl) (pv 1) (fun _ _=>rfl)) (pv 5) (pe_call (ok_price T) (hr.mono (by decide)) rfl T.m_price T.F_price.kp T.b_price .nil pass0 (pa_cons (pv 3) (pa_cons (pe_op op_add (pv 4) pe_int) (pa_cons (ZA K (pv 0) rfl) pa_nil)))) rfl))
   pss_nil))
   (pss_one (ps_if (pt_cmpR op_gt (pv 4) pe_int (nomark _))
   (pss_one (ps_dputR hr.u1 (pe_ix (ix_Q K) (ZA K (pv 0) rfl) (pv 5) (fun _ _=>rfl)) (pv 1) (pe_call (ok_over T) (hr.mono (by decide)) rfl T.m_over T.F_over.kp T.b_over .nil pass0 (pa_cons (ZE (pa_cons pe_int (pa_cons pe_int pa_nil))) (pa_cons (pe_call (ok_price T) (hr.mono (by decide)) rfl T.m_price T.F_price.kp T.b_price .nil pass0 (pa_cons (pv 3) (pa_cons (pv 4) (pa_cons (ZA K (pv 0) rfl) pa_nil)))) pa_nil))) rfl))
   (pss_one (ps_expr (pe_dpopN (pe_ix (ix_Q K) (ZA K (pv 0) rfl) (pv 5) (fun _ _=>rfl)) (pv 1) ⟨rfl,rfl,rfl,rfl⟩))))))))),?_⟩
 have a0:=N.rule.a0
 have ab:=N.rule.ab
 have b1:=N.rule.b1
 have ob:=N.ob
 have mv:=N.mat.same N.base
 obtain ⟨ts,tv,sq1,at1,sq2,_⟩:=mv.get hi
 obtain ⟨as',ta,sq3,at3,sq4,_⟩:=(N.st.mat (K:=K)).get hi
 have cj:atI ((row c (U i)).map V.int) (j:Int)=some (.int (U i j)):=at_row hj
 have sj:atI ((row c (S i)).map V.int) (j:Int)=some (.int (S i j)):=at_row hj
 refine ⟨_,rfl,_,_,_,_,_,rfl,by assumption,T.cl_Net,T.na_Net_votes,by rfl,_,rfl,_,_,_,_,rfl,rfl,by assumption,by assumption,_,rfl,_,_,_,_,rfl,rfl,by assumption,by assumption,_,rfl,_,_,_,_,_,rfl,by assumption,T.cl_Net,T.na_Net_seats,by rfl,_,rfl,_,_,_,_,rfl,rfl,by assumption,by assumption,_,rfl,_,_,_,_,rfl,rfl,by assumption,by assumption,_,rfl,_,_,_,_,_,rfl,by assumption,T.cl_Net,T.na_Net_height,by rfl,_,rfl,_,_,rfl,rfl,?_⟩
 refine ⟨fun σ H1=>∃(kv1:Nat->List (Key×V)) (E1:Nat->Nat->Option Q2),σ=[some (.ref p),some (.int (i:Int)),some (.int (j:Int)),some (.int (U i j)),some (.int (S i j)),some (.int ((r:Int)+(j:Int)))]/\T.net H0 H1 p dx vt rl sl wl as ds U S r c a b kv1 E1 /\
  (0<U i j->∃x y,E1 i (r+j)=some (x,y)/\Pr a b (U i j) (S i j+1) x y)/\(¬0<U i j->E1 i (r+j)=G i (r+j))/\(∀u w,¬(u=i/\w=r+j)->E1 u w=G u w)/\(∀x o,H x=some o->x∉ds->H1 x=some o),?_,?_⟩
 ·refine ⟨_,rfl,_,_,rfl,rfl,_,rfl,?_⟩
  refine ite3 (fun c'=>?_) (fun c'=>?_)
  ·refine ⟨_,rfl,_,rfl,_,_,rfl,rfl,_,rfl,_,_,_,_,_,rfl,by assumption,T.cl_Net,T.na_Net_rule,by rfl,?_⟩
   refine ⟨U i j,S i j+1,rl,a,b,rfl,N.rule.same N.base,by omega,by omega,c',v1,fun t H1 x y pr S1 nt ht=>?_⟩
   have N1:=N.same S1
   have ob1:=N1.ob
   have wt1:=N1.ws.top
   obtain ⟨d,ed,hdm,hdd,atd⟩:=N1.dk (show i<r+c by omega)
   refine ⟨_,rfl,_,_,_,_,_,rfl,by assumption,T.cl_Net,T.na_Net_ways,by rfl,_,rfl,_,_,_,_,rfl,rfl,Or.inl (SqL.of ‹_›),by assumption,_,rfl,?_⟩
   have W:=N1.ws.put (v:=r+j) (show i<r+c by omega) (by omega) ed ht
   refine ⟨d,kv i,.inl ((r+j:Nat):Int),rfl,?_,hdd,Nat.lt_of_le_of_lt (N1.ws.bound (show i<r+c by omega)) (Nat.lt_of_le_of_lt n1 (by decide)),?_⟩
   ·show V.int ((r:Int)+(j:Int))=V.int ((r+j:Nat):Int)
    rw [Int.natCast_add]
   ·exact ⟨_,_,rfl,N1.wr hdm hdd W,fun _=>⟨x,y,eset_same _ _ _ _,pr⟩,fun z=>absurd c' z,fun u w h=>eset_ne h,fun x o e hx=>by rw [upd_ne (fun z=>hx (by rw [z]; exact hdm))]; exact S1 _ _ e⟩
  ·exact ⟨kv,G,rfl,N,fun z=>absurd z c',fun _=>rfl,fun _ _ _=>rfl,fun x o e _=>e⟩
 rintro σ H1 ⟨kv1,E1,rfl,N1,u1,u2,u3,fr1⟩
 have ob1:=N1.ob
 have wt1:=N1.ws.top
 have pj:((r:Int)+(j:Int))=((r+j:Nat):Int):=by omega
 rw [pj]
 refine ⟨_,rfl,_,_,rfl,rfl,_,rfl,?_⟩
 refine ite3 (fun c'=>?_) (fun c'=>?_)
 ·skip
  refine ⟨(by show 2<=sizeLine; decide),fun t1 H2 M2=>?_⟩
  have N2:=N1.same M2.same
  have ob2:=N2.ob
  refine ⟨_,rfl,_,rfl,_,rfl,_,_,_,_,_,rfl,by assumption,T.cl_Net,T.na_Net_rule,by rfl,?_⟩
  refine ⟨U i j,S i j,rl,a,b,rfl,N2.rule.same N2.base,by omega,by omega,sv c',v1,fun t H3 x y pr S3 nt ht=>?_⟩
  have N3:=N2.same S3
  have ob3:=N3.ob
  have bx:x<10 ^ 40/\y<10 ^ 40:=by
   obtain ⟨h1,h2,_⟩:=pr_bd a0 ab b1 (sv c') v1 (by omega) (by omega) pr
   exact ⟨Int.lt_trans h1 (by decide),Int.lt_trans h2 (by decide)⟩
  refine ⟨t1,t,1,1,x,y,rfl,⟨S3 _ _ M2.at_,by decide,by decide,by decide,by decide⟩,⟨ht,Int.le_of_lt pr.x0,pr.y0,bx.1,bx.2⟩,pr.x0,fun t3 H4 x' y' L M4=>?_⟩
  have N4:=N3.same M4.same
  have ob4:=N4.ob
  have wt4:=N4.ws.top
  obtain ⟨d,ed,hdm,hdd,atd⟩:=N4.dk (show r+j<r+c by omega)
  have pr':=pr_inv (by omega) (sv c') pr L
  have W:=N4.ws.put (v:=i) (show r+j<r+c by omega) (by omega) ed M4.at_
  refine ⟨_,rfl,_,_,_,_,_,rfl,by assumption,T.cl_Net,T.na_Net_ways,by rfl,_,rfl,_,_,_,_,rfl,rfl,Or.inl (SqL.of ‹_›),by assumption,_,rfl,?_⟩
  refine ⟨d,kv1 (r+j),.inl (i:Int),rfl,rfl,hdd,Nat.lt_of_le_of_lt (N4.ws.bound (show r+j<r+c by omega)) (Nat.lt_of_le_of_lt n1 (by decide)),?_⟩
  refine q _ _ _ (N4.wr hdm hdd W) ⟨fun z=>?_,fun z=>?_,fun _=>⟨y',x',eset_same _ _ _ _,pr'⟩,fun z=>absurd c' z,fun u w h1 h2=>?_⟩ fun x o e hx=>?_
  ·rw [eset_ne (by omega)]; exact u1 z
  ·rw [eset_ne (by omega)]; exact u2 z
  ·rw [eset_ne h2]; exact u3 u w h1
  ·rw [upd_ne (fun z=>hx (by rw [z]; exact hdm))]
   exact M4.same _ _ (S3 _ _ (M2.same _ _ (fr1 x o e hx)))
 ·obtain ⟨d,ed,hdm,hdd,atd⟩:=N1.dk (show r+j<r+c by omega)
  unfold tDrop tDPopN
  refine ⟨_,rfl,_,_,_,_,_,rfl,by assumption,T.cl_Net,T.na_Net_ways,by rfl,_,rfl,_,_,_,_,rfl,rfl,Or.inl (SqL.of ‹_›),by assumption,?_⟩
  refine ⟨d,kv1 (r+j),rfl,hdd,?_⟩
  refine ⟨_,rfl,?_⟩
  refine ⟨kv1 (r+j),.inl (i:Int),hdd,rfl,fun v hv=>?_,fun hv=>?_⟩
  ·have W:=N1.ws.drop (v:=i) (show r+j<r+c by omega) ed
   refine q _ _ _ (N1.wr hdm hdd W) ⟨fun z=>?_,fun z=>?_,fun z=>absurd z c',fun _=>eset_same _ _ _ _,fun u w h1 h2=>?_⟩ fun x o e hx=>?_
   ·rw [eset_ne (by omega)]; exact u1 z
   ·rw [eset_ne (by omega)]; exact u2 z
   ·rw [eset_ne h2]; exact u3 u w h1
   ·rw [upd_ne (fun z=>hx (by rw [z]; exact hdm))]
    exact fr1 x o e hx
  ·have e:=N1.ws.gone (show r+j<r+c by omega) hv
   refine q _ _ _ N1 ⟨u1,u2,fun z=>absurd z c',fun _=>?_,fun u w h1 h2=>u3 u w h1⟩ fr1
   rw [<-e,eset_same]
end
end K7
namespace SW
open PySem L2
def PL (p:Nat->Nat) (k:Nat):List V:=(List.range (k+1)).map fun j=>nV (p j)
theorem PL_len (p:Nat->Nat) (k:Nat):(PL p k).length=k+1:=by unfold PL; simp
theorem PL_at {p:Nat->Nat} {k j:Nat} (h:j<=k):atI (PL p k) (j:Int)=some (.int (p j:Int)):=by
 refine atI_nat' ?_
 unfold PL
 rw [List.getElem?_map,List.getElem?_range (by omega)]
 rfl
theorem comp_copy {K:W.Frag} {te:TE} {σ:St} {j:Nat} {R:List V->Hp->Prop} {H1:Hp} {a:Addr} {f:Nat->Nat->Int} {r c:Nat} (mt:Mat K H1 a (mkT f r c)) (hz:r<=sizeLine)
  (hs:∀(b:Addr) (ys:List V) (H:Hp) (Q:VK),SqL K H b ys->(∀l H',New H H' l (.lst ys)->Q (.ref l) H')->te (σ.set j (some (.ref b))) H Q)
  (hd:∀(bs:List Addr) (H:Hp),Same H1 H->bs.length=r->bs.Nodup->(∀b,b∈bs->H1 b=none)->(∀(k:Nat) (b:Addr),bs[k]?=some b->H b=some (.lst ((row c (f k)).map V.int)))->R (bs.map V.ref) H):∃a',V.ref a = .ref a'/\(∃xs,SqL K H1 a' xs)/\CompW (Itl K a') (gName j) tYes te (wipe [j] σ) R H1:=by
 obtain ⟨as,ha,la,mrows⟩:=mt
 rw [mk_len] at la
 refine ⟨a,rfl,⟨_,ha⟩,?_⟩
 refine comp_list (xs:=as.map V.ref) (fun i ys H2=>Same H1 H2/\∃bs:List Addr,ys=bs.map V.ref/\bs.length=i/\bs.Nodup/\(∀b,b∈bs->H1 b=none)/\∀(k:Nat) (b:Addr),bs[k]?=some b->H2 b=some (.lst ((row c (f k)).map V.int))) (by rw [List.length_map,la]; exact hz) ⟨Same.refl _,[],rfl,rfl,List.nodup_nil,fun b h=>(by cases h),fun k b e=>(by simp at e)⟩ (fun i ys H2 _ h=>h.1.seq ha) ?_ ?_
 ·rintro i x ys H2 hx ⟨S2,bs,rfl,lb,nd,nbs,hb⟩
  obtain ⟨b,rfl,ea,hi,hrow⟩:=rowAt la mrows hx
  refine yes (hs b _ H2 _ (S2.seq hrow) fun l H3 N3=>?_)
  refine ⟨S2.trans N3.same,bs++[l],by simp,by simp [lb],?_,fun d hd=>?_,fun k d e=>?_⟩
  ·refine List.nodup_append.mpr ⟨nd,by simp,fun x hx y hy=>?_⟩
   have:y=l:=by simpa using hy
   subst this
   rintro rfl
   obtain ⟨n,hn,en⟩:=List.getElem_of_mem hx
   have:=hb n x (by rw [List.getElem?_eq_getElem hn,en])
   rw [N3.gone] at this
   cases this
  ·rcases List.mem_append.mp hd with h | h
   ·exact nbs d h
   ·have:d=l:=by simpa using h
    rw [this]
    exact S2.free N3.gone
  ·by_cases hk:k<bs.length
   ·rw [List.getElem?_append_left hk] at e
    exact N3.same _ _ (hb k d e)
   ·rw [List.getElem?_append_right (by omega)] at e
    have hz:k - bs.length=0:=by have:=(List.getElem?_eq_some_iff.mp e).1; simp at this; omega
    rw [hz] at e
    have ed:d=l:=by simpa using e.symm
    have ek:k=i:=by omega
    rw [ed,ek]
    exact N3.at_
 ·rintro ys H2 ⟨S2,bs,rfl,lb,nd,nbs,hb⟩
  rw [List.length_map,la] at lb
  exact hd bs H2 S2 lb nd nbs hb
structure NetP (a b:Int) (U S:Nat->Nat->Int) (r c:Nat) (dn':Nat->Nat->Prop) (E:Nat->Nat->Option Q2):Prop where
 up:∀i j,i<r->j<c->dn' i j->0<U i j->∃x y,E i (r+j)=some (x,y)/\Pr a b (U i j) (S i j+1) x y
 dn:∀i j,i<r->j<c->dn' i j->0<S i j->∃x y,E (r+j) i=some (y,x)/\Pr a b (U i j) (S i j) x y
 out:∀u v w,E u v=some w->(∃i j,i<r/\j<c/\u=i/\v=r+j/\0<U i j/\dn' i j)\/(∃i j,i<r/\j<c/\u=r+j/\v=i/\0<S i j/\dn' i j)
theorem NetP.full {a b:Int} {U S:Nat->Nat->Int} {r c:Nat} {d:Nat->Nat->Prop} {E:Nat->Nat->Option Q2} (N:NetP a b U S r c d E) (h:∀i j,i<r->j<c->d i j):NetE a b U S r c E:=
 ⟨fun i j hi hj hv=>N.up i j hi hj (h i j hi hj) hv,fun i j hi hj hs=>N.dn i j hi hj (h i j hi hj) hs,fun u v w e=>(N.out u v w e).imp (fun ⟨i,j,a,b,c,d,e,_⟩=>⟨i,j,a,b,c,d,e⟩) fun ⟨i,j,a,b,c,d,e,_⟩=>⟨i,j,a,b,c,d,e⟩⟩
theorem NetE.part {a b:Int} {U S:Nat->Nat->Int} {r c:Nat} {E:Nat->Nat->Option Q2} (N:NetE a b U S r c E):NetP a b U S r c (fun _ _=>True) E:=
 ⟨fun i j hi hj _ hv=>N.up i j hi hj hv,fun i j hi hj _ hs=>N.dn i j hi hj hs,fun u v w e=>(N.out u v w e).imp (fun ⟨i,j,a,b,c,d,e⟩=>⟨i,j,a,b,c,d,e,trivial⟩) fun ⟨i,j,a,b,c,d,e⟩=>⟨i,j,a,b,c,d,e,trivial⟩⟩
theorem NetP.lay {a b:Int} {U S S':Nat->Nat->Int} {r c i j:Nat} {d:Nat->Nat->Prop} {E E':Nat->Nat->Option Q2} (N:NetP a b U S r c d E) (hi:i<r) (hj:j<c) (hS:∀x y,¬(x=i/\y=j)->S' x y=S x y) (L:LayE a b (U i j) (S' i j) r i j E E') :
  NetP a b U S' r c (fun x y=>d x y\/(x=i/\y=j)) E':=by
 refine ⟨fun x y hx hy hd hv=>?_,fun x y hx hy hd hs=>?_,fun u v w e=>?_⟩
 ·by_cases q:x=i/\y=j
  ·obtain ⟨rfl,rfl⟩:=q
   exact L.up hv
  ·rw [L.rest x (r+y) (fun z=>q ⟨z.1,by omega⟩) (by omega),hS x y q]
   exact N.up x y hx hy (hd.resolve_right q) hv
 ·by_cases q:x=i/\y=j
  ·obtain ⟨rfl,rfl⟩:=q
   exact L.dn hs
  ·rw [hS x y q] at hs
   rw [L.rest (r+y) x (by omega) (fun z=>q ⟨z.2,by omega⟩),hS x y q]
   exact N.dn x y hx hy (hd.resolve_right q) hs
 ·by_cases q1:u=i/\v=r+j
  ·obtain ⟨rfl,rfl⟩:=q1
   by_cases hv:0<U u j
   ·exact .inl ⟨u,j,hi,hj,rfl,rfl,hv,.inr ⟨rfl,rfl⟩⟩
   ·rw [L.up0 hv] at e
    rcases N.out _ _ _ e with ⟨x,y,hx,hy,e1,e2,hu,hd⟩ | ⟨x,y,hx,hy,e1,e2,hs,hd⟩
    ·have:y=j:=by omega
     subst e1 this
     exact absurd hu hv
    ·omega
  ·by_cases q2:u=r+j/\v=i
   ·obtain ⟨rfl,rfl⟩:=q2
    by_cases hs:0<S' v j
    ·exact .inr ⟨v,j,hi,hj,rfl,rfl,hs,.inr ⟨rfl,rfl⟩⟩
    ·rw [L.dn0 hs] at e; cases e
   ·rw [L.rest u v q1 q2] at e
    rcases N.out _ _ _ e with ⟨x,y,hx,hy,e1,e2,hu,hd⟩ | ⟨x,y,hx,hy,e1,e2,hs,hd⟩
    ·exact .inl ⟨x,y,hx,hy,e1,e2,hu,.inl hd⟩
    ·refine .inr ⟨x,y,hx,hy,e1,e2,?_,.inl hd⟩
     rw [hS x y (fun z=>q2 ⟨by omega,by omega⟩)]
     exact hs
end SW
namespace K7
open PySem L2 SW
section
variable {P:Program} {w:World} {K:W.Frag} {mg:Str->Option Value} {base:Heap}
def spCellB:Sp:=fun vs H Q _=>∃(x y h:Nat),vs=[.int x,.int y,.int h]/\((x<h/\h<=y)\/h<=x)/\∀p H',New H H' p (.tup [.int (cr h x y),.int (cc h x y)])->Q (.ref p) H'
theorem ok_Qb (T:Txt K mg):FnOk P w K mg base CX0 1 T.a_Qb T.fd_Qb ["one","other","height"] spCellB:=by
 refine T.F_Qb.ok sc_Qb (fun vs H Q E h=>?_) (fun cdv A outer s H vs Q E hr h=>?_)
 ·obtain ⟨x,y,h,rfl,_⟩:=h
  rfl
 obtain ⟨x,y,h,rfl,ho,q⟩:=h
 refine ⟨_,(pss_one (ps_ret (pe_ifExp (pt_cmpR op_lt (pv 0) (pv 2) (nomark _)) (ZE (pa_cons (pv 0) (pa_cons (pe_op op_sub (pv 1) (pv 2)) pa_nil))) (ZE (pa_cons (pv 1) (pa_cons (pe_op op_sub (pv 0) (pv 2)) pa_nil)))))),?_⟩
 refine ⟨_,rfl,_,rfl,_,_,rfl,rfl,_,rfl,?_⟩
 refine ite3 (fun c=>?_) (fun c=>?_)
 ·refine ⟨_,rfl,_,rfl,_,rfl,_,_,rfl,rfl,?_⟩
  refine ⟨(by show 2<=sizeLine; decide),fun p H' N=>q p H' ?_⟩
  have e1:cr h x y=x:=by unfold cr; rw [if_pos (by omega)]
  have e2:((cc h x y:Nat):Int)=(y:Int) - h:=by unfold cc; rw [if_pos (by omega)]; omega
  rw [e1,e2]
  exact N
 ·refine ⟨_,rfl,_,rfl,_,rfl,_,_,rfl,rfl,?_⟩
  refine ⟨(by show 2<=sizeLine; decide),fun p H' N=>q p H' ?_⟩
  have e1:cr h x y=y:=by unfold cr; rw [if_neg (by omega)]
  have e2:((cc h x y:Nat):Int)=(x:Int) - h:=by unfold cc; rw [if_neg (by omega)]; omega
  rw [e1,e2]
  exact N
def spPathTo (cR:Addr):Sp:=fun vs H Q _=>∃(p dx cl al:Addr) (n t k:Nat) (D:Nat->Option Q2) (ah:Nat->Option Nat) (p':Nat->Nat),vs=[.ref p,.int (t:Int)]/\RchH cR H p dx cl al n D ah/\p' k=t/\(∀j,j<=k->p' j<n)/\ah (p' 0)=none/\(∀j,j<k->ah (p' (j+1))=some (p' j))/\k<=100 /\
 ∀l H',Same H H'->H l=none->H' l=some (.lst (PL p' k))->Q (.ref l) H'
theorem ok_Qf (T:Txt K mg):FnOk P w K mg base CX0 1 T.a_Qf T.fd_Qf ["self","node"] (spPathTo T.c_Reach):=by
 refine T.F_Qf.ok sc_Qf (fun vs H Q E h=>?_) (fun cdv A outer s H vs Q E hr h=>?_)
 ·obtain ⟨p,dx,cl,al,n,t,k,D,ah,p',rfl,_⟩:=h
  rfl
 obtain ⟨p,dx,cl,al,n,t,k,D,ah,p',rfl,R,ht,hn,h0,hs,k1,q⟩:=h
 refine ⟨_,(pss_cons (ps_set (i:=2) sc_Qf.nd rfl (Or.inl rfl) (ZF (pa_cons (pv 1) pa_nil)))
   (pss_cons (ps_while PassesOwn.never (pt_cmpR op_notNR (pe_ix (ix_Q K) (ZA K (pv 0) rfl) (pe_ix (ix_Q K) (pv 2) pe_int (fun _ _=>rfl)) (fun _ _=>rfl)) pe_non (nomark _))
   (pss_one (ps_expr (pe_bm PySem.F.plainAttrs_list PySem.F.slot_list_insert PySem.F.type_list_insert mt_insert0 (pv 2) (pa_cons pe_int (pa_cons (pe_ix (ix_Q K) (ZA K (pv 0) rfl) (pe_ix (ix_Q K) (pv 2) pe_int (fun _ _=>rfl)) (fun _ _=>rfl)) pa_nil))))))
   (pss_one (ps_ret (pv 2))))),?_⟩
 refine ⟨_,rfl,?_⟩
 refine ⟨(by show 1<=sizeLine; decide),fun l H1 N1=>?_⟩
 refine ⟨fun m σ H2=>m<=k/\σ=[some (.ref p),some (.int (t:Int)),some (.ref l)]/\Same H H2/\H2 l=some (.lst ((List.range (k+1 - m)).map fun i=>nV (p' (m+i)))),⟨k,Nat.le_refl _,rfl,N1.same,?_⟩,?_⟩
 ·rw [N1.at_,show k+1 - k=1 by omega]
  show _=some (HO.lst [nV (p' (k+0))])
  rw [Nat.add_zero,ht]; rfl
 rintro m σ H2 ⟨hm,rfl,S2,hl⟩
 have ob2:=S2 _ _ R.ob
 have al2:=S2 _ _ R.ah
 have at0:atI ((List.range (k+1 - m)).map fun i=>nV (p' (m+i))) 0=some (.int (p' m:Int)):=by
  refine atI_nat' (v:=0) ?_
  rw [List.getElem?_map,List.getElem?_range (by omega)]
  rfl
 have ata:atI ((List.range n).map fun v=>vAh (ah v)) (p' m:Int)=some (vAh (ah (p' m))):=by
  refine atI_nat' ?_
  rw [List.getElem?_map,List.getElem?_range (hn m hm)]
  rfl
 refine ⟨_,rfl,_,_,_,_,_,rfl,by assumption,T.cl_Reach,T.na_Reach_ahead,by rfl,_,rfl,_,_,_,_,rfl,rfl,Or.inl (SqL.of ‹_›),by assumption,_,_,_,_,rfl,rfl,Or.inl (SqL.of ‹_›),by assumption,rfl,_,rfl,?_⟩
 cases m with
 | zero=>
  rw [h0]
  refine iteNT rfl ?_
  refine ⟨_,rfl,?_⟩
  refine q l H2 S2 N1.gone ?_
  rw [hl]
  unfold PL
  simp
 | succ m=>
  rw [hs m (by omega)]
  refine iteNF (by intro z; cases z) ⟨_,fun _ _ h=>h,?_⟩
  refine ⟨_,rfl,?_⟩
  refine ⟨.inl ⟨rfl,_,SqL.of hl⟩,?_⟩
  refine ⟨_,rfl,_,_,_,_,_,rfl,by assumption,T.cl_Reach,T.na_Reach_ahead,by rfl,_,rfl,_,_,_,_,rfl,rfl,Or.inl (SqL.of ‹_›),by assumption,_,_,_,_,rfl,rfl,Or.inl (SqL.of ‹_›),by assumption,?_⟩
  rw [hs m (by omega)]
  refine ⟨l,_,_,rfl,rfl,hl,?_,?_⟩
  ·rw [List.length_map,List.length_range]
   exact Nat.lt_of_le_of_lt (show _<=101 by omega) (by decide)
  refine ⟨m,by omega,by omega,rfl,S2.upd N1.gone,?_⟩
  rw [upd_same,show k+1 - m=(k+1 - (m+1))+1 by omega,List.range_succ_eq_map,List.map_cons,List.map_map]
  congr 2
  refine congrArg (List.cons _) (List.map_congr_left fun i _=>?_)
  show nV (p' (m+1+i))=nV (p' (m+(i+1)))
  rw [show m+1+i=m+(i+1) by omega]
end
end K7
namespace SW
open PySem L2
theorem comp_dicts {te:TE} {σ:St} {j:Nat} {R:List V->Hp->Prop} {H1:Hp} {lo:Int} {n:Nat} (hz:n<=sizeLine) (hs:∀(i:Nat) (H:Hp) (Q:VK),(∀p,H p=none->Q (.ref p) (upd H p (.dK [])))->te (σ.set j (some (.int (lo+i)))) H Q)
  (hd:∀(ds:List Addr) (H:Hp),Same H1 H->ds.length=n->ds.Nodup->(∀d,d∈ds->H1 d=none/\H d=some (.dK []))->R (ds.map V.ref) H):CompW (Itr lo n) (gName j) tYes te (wipe [j] σ) R H1:=by
 refine comp_range (fun i ys H2=>Same H1 H2/\∃ds:List Addr,ys=ds.map V.ref/\ds.length=i/\ds.Nodup/\∀d,d∈ds->H1 d=none/\H2 d=some (.dK [])) hz ⟨Same.refl _,[],rfl,rfl,List.nodup_nil,fun d h=>(by cases h)⟩ ?_ ?_
 ·rintro i ys H2 hi ⟨S2,ds,rfl,ld,nd,hds⟩
  refine yes (hs i H2 _ fun p np=>?_)
  have nm:p∉ds:=fun h=>by have:=(hds p h).2; rw [np] at this; cases this
  refine ⟨S2.trans (same_new np _),ds++[p],by simp,by simp [ld],?_,fun d hd=>?_⟩
  ·refine List.nodup_append.mpr ⟨nd,by simp,fun x hx y hy=>?_⟩
   have:y=p:=by simpa using hy
   subst this
   rintro rfl
   exact nm hx
  ·rcases List.mem_append.mp hd with h | h
   ·obtain ⟨h1,h2⟩:=hds d h
    exact ⟨h1,by rw [upd_ne (fun z=>by subst z; exact nm h)]; exact h2⟩
   ·have:d=p:=by simpa using h
    subst this
    exact ⟨S2.free np,upd_same⟩
 ·rintro ys H2 ⟨S2,ds,rfl,ld,nd,hds⟩
  exact hd ds H2 S2 ld nd hds
end SW
namespace K7
open PySem L2 SW
section
variable {P:Program} {w:World} {K:W.Frag} {mg:Str->Option Value} {base:Heap}
def spNet (T:Txt K mg):Sp:=fun vs H Q _=>∃(H0:Hp) (p dx vt rl s0:Addr) (U S:Nat->Nat->Int) (r c:Nat) (a b:Int),vs=[.ref p,.ref vt,.ref s0,.int (c:Int),.ref rl]/\H p=some (.ins T.c_Net dx [])/\Same H0 H/\H0 p=none/\Mat K H0 vt (mkT U r c)/\RuleAt K T.a_Qv T.ff H0 rl a b/\Mat K H0 s0 (mkT S r c)/\r+c<=40/\TabOk a b U S r c /\
 ∀(H':Hp) (sl wl:Addr) (as ds:List Addr) (kv:Nat->List (Key×V)) (E:Nat->Nat->Option Q2),T.net H0 H' p dx vt rl sl wl as ds U S r c a b kv E->NetE a b U S r c E->(∀x o,H x=some o->x≠p->H' x=some o)->Q .non H'
theorem ok_Qq (T:Txt K mg):FnOk P w K mg base CX0 6 T.a_Qq T.fd_Qq ["self","votes","seats","width","rule"] (spNet T):=by
 refine T.F_Qq.ok sc_Qq (fun vs H Q E h=>?_) (fun cdv A outer s H vs Q E hr h=>?_)
 ·obtain ⟨H0,p,dx,vt,rl,s0,U,S,r,c,a,b,rfl,_⟩:=h
  rfl
 obtain ⟨H0,p,dx,vt,rl,s0,U,S,r,c,a,b,rfl,hp,S0,np,mv,hrl,ms,n1,tab,q⟩:=h
 refine ⟨_,(pss_cons (ps_fld (pv 0) (pv 1) rfl)
   (pss_cons (ps_fld (pv 0) (pv 4) rfl)
   (pss_cons (ps_fld (pv 0) (pe_callB (len_Q K) (by rfl) T.n_len PySem.boot_len (pa_cons (pv 1) pa_nil)) rfl)
   (pss_cons (ps_fld (pv 0) (ZD [7] rfl (ZK rfl) (ZB K (pv 2)) (fun _=>(pg_name (i:=7) sc_Qq.nd rfl (Or.inl rfl))) (fun _=>ZL) (fun _=>(pe_callTy (list_Q K) (by rfl) T.n_list PyProof.Rows.boot_list (pa_cons (pv 7) pa_nil)))) rfl)
   (pss_cons (ps_fld (pv 0) (ZD [8] rfl (ZK rfl) (pi_range1 rfl T.n_range (pa_cons (pe_op op_add (ZA K (pv 0) rfl) (pv 3)) pa_nil)) (fun _=>(pg_name (i:=8) sc_Qq.nd rfl (Or.inl rfl))) (fun _=>ZL) (fun _=>pe_dnewK)) rfl)
   (pss_one (ps_for PassesOwn.never rfl (pi_range1 rfl T.n_range (pa_cons (ZA K (pv 0) rfl) pa_nil)) (pg_name (i:=5) sc_Qq.nd rfl (Or.inl rfl))
   (pss_one (ps_for PassesOwn.never rfl (pi_range1 rfl T.n_range (pa_cons (pv 3) pa_nil)) (pg_name (i:=6) sc_Qq.nd rfl (Or.inl rfl))
   (pss_one (ps_expr (pe_meth (pv 0) T.cl_Net T.mt_Qr (ok_Qr T) (hr.mono (by decide)) T.b_Qr .nil pass0 (pa_cons (pv 5) (pa_cons (pv 6) pa_nil)))))))))))))),?_⟩
 obtain ⟨ts,tsl,tl⟩:=mv.top
 have p0:∀x o,H0 x=some o->x≠p:=fun x o e=>ne_of_none e np
 refine ⟨_,rfl,_,rfl,?_⟩
 refine ⟨p,T.c_Net,dx,[],rfl,hp,T.cl_Net,T.na_Net_votes,(by decide),?_⟩
 have B1:∀x o,H x=some o->x≠p->upd H p (.ins T.c_Net dx (putF "votes" (.ref vt) [])) x=some o:=fun x o e hx=>by rw [upd_ne hx]; exact e
 have p1:upd H p (.ins T.c_Net dx (putF "votes" (.ref vt) [])) p=some (.ins T.c_Net dx (putF "votes" (.ref vt) [])):=upd_same
 generalize upd H p (.ins T.c_Net dx (putF "votes" (.ref vt) []))=H1 at *
 refine ⟨_,rfl,_,rfl,?_⟩
 refine ⟨p,T.c_Net,dx,_,rfl,p1,T.cl_Net,T.na_Net_rule,(by show 1<1000; decide),?_⟩
 have B2:∀x o,H x=some o->x≠p->upd H1 p (.ins T.c_Net dx (putF "rule" (.ref rl) (putF "votes" (.ref vt) []))) x=some o:=fun x o e hx=>by rw [upd_ne hx]; exact B1 x o e hx
 have p2:upd H1 p (.ins T.c_Net dx (putF "rule" (.ref rl) (putF "votes" (.ref vt) []))) p=some (.ins T.c_Net dx (putF "rule" (.ref rl) (putF "votes" (.ref vt) []))):=upd_same
 generalize upd H1 p (.ins T.c_Net dx (putF "rule" (.ref rl) (putF "votes" (.ref vt) [])))=H2 at *
 have S02:Same H0 H2:=fun x o e=>B2 x o (S0 _ _ e) (p0 x o e)
 have tsl2:=S02.seq tsl
 refine ⟨_,rfl,_,_,rfl,Or.inl ‹_›,_,rfl,?_⟩
 rw [tl]
 refine ⟨p,T.c_Net,dx,_,rfl,p2,T.cl_Net,T.na_Net_height,(by show 2<1000; decide),?_⟩
 have B3:∀x o,H x=some o->x≠p->upd H2 p (.ins T.c_Net dx (putF "height" (.int (r:Int)) (putF "rule" (.ref rl) (putF "votes" (.ref vt) [])))) x=some o:=fun x o e hx=>by rw [upd_ne hx]; exact B2 x o e hx
 have p3:upd H2 p (.ins T.c_Net dx (putF "height" (.int (r:Int)) (putF "rule" (.ref rl) (putF "votes" (.ref vt) [])))) p=some (.ins T.c_Net dx (putF "height" (.int (r:Int)) (putF "rule" (.ref rl) (putF "votes" (.ref vt) [])))):=upd_same
 generalize upd H2 p (.ins T.c_Net dx (putF "height" (.int (r:Int)) (putF "rule" (.ref rl) (putF "votes" (.ref vt) []))))=H3 at *
 have S03:Same H0 H3:=fun x o e=>B3 x o (S0 _ _ e) (p0 x o e)
 refine ⟨_,rfl,?_⟩
 refine comp_copy (ms.same S03) (Nat.le_trans (show r<=40 by omega) (by decide)) (fun b ys H Q hb hQ=>⟨_,rfl,b,ys,rfl,.inl hb,hQ⟩) fun as H4 S4 la and nas has=>?_
 intro sl H5 N5
 have S35:=S4.trans N5.same
 have p5:=S35 _ _ p3
 refine ⟨_,rfl,?_⟩
 refine ⟨p,T.c_Net,dx,_,rfl,p5,T.cl_Net,T.na_Net_seats,(by show 3<1000; decide),?_⟩
 have slp:sl≠p:=fun z=>by have:=N5.gone; rw [z,S4 _ _ p3] at this; cases this
 have asp:∀x,x∈as->x≠p:=fun x hx z=>by have:=nas x hx; rw [z,p3] at this; cases this
 have B6:∀x o,H x=some o->x≠p->upd H5 p (.ins T.c_Net dx (putF "seats" (.ref sl) (putF "height" (.int (r:Int)) (putF "rule" (.ref rl) (putF "votes" (.ref vt) []))))) x=some o:=fun x o e hx=>by rw [upd_ne hx]; exact S35 _ _ (B3 x o e hx)
 have p6:upd H5 p (.ins T.c_Net dx (putF "seats" (.ref sl) (putF "height" (.int (r:Int)) (putF "rule" (.ref rl) (putF "votes" (.ref vt) []))))) p=some (.ins T.c_Net dx (putF "seats" (.ref sl) (putF "height" (.int (r:Int)) (putF "rule" (.ref rl) (putF "votes" (.ref vt) []))))):=upd_same
 have m6:MatM (upd H5 p (.ins T.c_Net dx (putF "seats" (.ref sl) (putF "height" (.int (r:Int)) (putF "rule" (.ref rl) (putF "votes" (.ref vt) [])))))) sl as (mkT S r c):=by
  refine MatM.keep ⟨N5.at_,and,by rw [mk_len]; exact la,fun i x y e1 e2=>?_⟩ slp (fun z=>asp p z rfl)
  have hi:i<r:=by have:=(List.getElem?_eq_some_iff.mp e1).1; omega
  rw [mk_get hi] at e2
  rw [<-Option.some.inj e2]
  exact N5.same _ _ (has i x e1)
 have sla:sl∉as:=fun z=>by
  obtain ⟨n,hn,en⟩:=List.getElem_of_mem z
  have:=has n sl (by rw [List.getElem?_eq_getElem hn,en])
  rw [N5.gone] at this
  cases this
 have na0:∀x,x∈as->H0 x=none:=fun x hx=>by
  cases e:H0 x with
  | none=>rfl
  | some o=>have:=S03 _ _ e; rw [nas x hx] at this; cases this
 generalize upd H5 p (.ins T.c_Net dx (putF "seats" (.ref sl) (putF "height" (.int (r:Int)) (putF "rule" (.ref rl) (putF "votes" (.ref vt) [])))))=H6 at *
 have S06:Same H0 H6:=fun x o e=>B6 x o (S0 _ _ e) (p0 x o e)
 refine ⟨_,rfl,_,_,_,_,_,rfl,by assumption,T.cl_Net,T.na_Net_height,by rfl,_,rfl,_,_,rfl,rfl,?_⟩
 refine ⟨_,rfl,by omega,by omega,?_⟩
 rw [show ((r:Int)+(c:Int)).toNat=r+c by omega]
 refine comp_dicts (Nat.le_trans n1 (by decide)) (fun i H Q h=>h) fun ds H7 S7 ld dnd hds=>?_
 intro wl H8 N8
 have S68:=S7.trans N8.same
 have p8:=S68 _ _ p6
 refine ⟨_,rfl,?_⟩
 refine ⟨p,T.c_Net,dx,_,rfl,p8,T.cl_Net,T.na_Net_ways,(by show 4<1000; decide),?_⟩
 have wlp:wl≠p:=fun z=>by have:=N8.gone; rw [z,S7 _ _ p6] at this; cases this
 have dsp:∀x,x∈ds->x≠p:=fun x hx z=>by have:=(hds x hx).1; rw [z,p6] at this; cases this
 have B9:∀x o,H x=some o->x≠p->upd H8 p (.ins T.c_Net dx (netF vt rl r sl wl)) x=some o:=fun x o e hx=>by rw [upd_ne hx]; exact S68 _ _ (B6 x o e hx)
 have wla:wl∉as:=fun z=>by
  obtain ⟨n,hn,en⟩:=List.getElem_of_mem z
  have hl:=m6.len
  rw [mk_len] at hl
  have:=S7 _ _ (m6.rows n wl _ (by rw [List.getElem?_eq_getElem hn,en]) (mk_get (by omega)))
  rw [N8.gone] at this
  cases this
 have net:T.net H0 (upd H8 p (.ins T.c_Net dx (netF vt rl r sl wl))) p dx vt rl sl wl as ds U S r c a b (fun _=>[]) (fun _ _=>none):=by
  refine ⟨fun x o e=>B9 x o (S0 _ _ e) (p0 x o e),mv,hrl,upd_same,(m6.same S68).keep slp (fun z=>asp p z rfl),⟨by rw [upd_ne wlp]; exact N8.at_,ld,dnd,fun u d e=>?_,fun u v w _ e=>(by cases e),fun u kx _ h=>(by cases h),fun u _=>List.nodup_nil⟩,na0,fun x hx=>?_,sla,wla⟩
  ·have hm:=List.mem_of_getElem? e
   rw [upd_ne (dsp d hm)]
   exact N8.same _ _ (hds d hm).2
  ·cases e:H0 x with
   | none=>rfl
   | some o=>have:=S06 _ _ e; rw [(hds x hx).1] at this; cases this
 have e9:(upd H8 p (.ins T.c_Net dx (putF "ways" (.ref wl) (putF "seats" (.ref sl) (putF "height" (.int (r:Int)) (putF "rule" (.ref rl) (putF "votes" (.ref vt) [])))))))=upd H8 p (.ins T.c_Net dx (netF vt rl r sl wl)):=rfl
 rw [e9]
 generalize upd H8 p (.ins T.c_Net dx (netF vt rl r sl wl))=H9 at *
 have pds:p∉ds:=fun z=>dsp p z rfl
 have xds:∀x o,H x=some o->x∉ds:=fun x o e z=>by
  by_cases xp:x=p
  ·exact pds (xp ▸ z)
  ·have:=B6 x o e xp
   rw [(hds x z).1] at this
   cases this
 have ob9:=net.ob
 refine ⟨_,rfl,_,_,_,_,_,rfl,by assumption,T.cl_Net,T.na_Net_height,by rfl,?_⟩
 refine ⟨_,rfl,by omega,by omega,?_⟩
 rw [Int.toNat_natCast]
 refine for_range (fun i σ H'=>∃(v5 v6:Option V) (kv:Nat->List (Key×V)) (E:Nat->Nat->Option Q2),σ=[some (.ref p),some (.ref vt),some (.ref s0),some (.int (c:Int)),some (.ref rl),v5,v6,none,none]/\T.net H0 H' p dx vt rl sl wl as ds U S r c a b kv E/\NetP a b U S r c (fun x _=>x<i) E/\(∀x o,H x=some o->x≠p->H' x=some o)) ⟨_,_,_,_,rfl,net,⟨fun i j _ _ h=>absurd h (Nat.not_lt_zero _),fun i j _ _ h=>absurd h (Nat.not_lt_zero _),fun u v w e=>(by cases e)⟩,B9⟩ ?_ ?_
 ·rintro i σ H' hi ⟨v5,v6,kv,E,rfl,net',NP,fr⟩
  refine ⟨_,rfl,?_⟩
  refine ⟨_,rfl,by omega,by omega,?_⟩
  rw [Int.toNat_natCast]
  refine for_range (fun j σ H'=>∃(v6:Option V) (kv:Nat->List (Key×V)) (E:Nat->Nat->Option Q2),σ=[some (.ref p),some (.ref vt),some (.ref s0),some (.int (c:Int)),some (.ref rl),some (.int (0+(i:Int))),v6,none,none]/\T.net H0 H' p dx vt rl sl wl as ds U S r c a b kv E/\NetP a b U S r c (fun x y=>x<i\/(x=i/\y<j)) E/\(∀x o,H x=some o->x≠p->H' x=some o)) ⟨_,kv,E,rfl,net',⟨fun x y hx hy h=>NP.up x y hx hy (h.resolve_right (by omega)),fun x y hx hy h=>NP.dn x y hx hy (h.resolve_right (by omega)),fun u v w e=>(NP.out u v w e).imp (fun ⟨i,j,a,b,c,d,e,f⟩=>⟨i,j,a,b,c,d,e,.inl f⟩) fun ⟨i,j,a,b,c,d,e,f⟩=>⟨i,j,a,b,c,d,e,.inl f⟩⟩,fr⟩ ?_ ?_
  ·rintro j σ H2' hj ⟨v6,kv2,E2,rfl,net2,NP2,fr2⟩
   have ob2':=net2.ob
   rw [show (0:Int)+(i:Int)=(i:Int) by omega,show (0:Int)+(j:Int)=(j:Int) by omega]
   refine ⟨_,rfl,_,_,_,rfl,by assumption,by rfl,_,rfl,_,rfl,?_⟩
   have tv:=tab.v0 i j hi hj
   have ts:=tab.s0 i j hi hj
   refine ⟨H0,p,dx,vt,rl,sl,wl,as,ds,U,S,r,c,a,b,kv2,E2,i,j,rfl,net2,hi,hj,n1,tv.1,tv.2,ts.1,ts.2,tab.z i j hi hj,fun H3' kv3 E3 net3 lay fr3=>?_⟩
   have NP3:=NP2.lay hi hj (fun _ _ _=>rfl) lay
   refine ⟨_,kv3,E3,rfl,net3,⟨fun x y hx hy h=>NP3.up x y hx hy (by omega),fun x y hx hy h=>NP3.dn x y hx hy (by omega),fun u v w e=>(NP3.out u v w e).imp (fun ⟨i,j,a,b,c,d,e,f⟩=>⟨i,j,a,b,c,d,e,by omega⟩) fun ⟨i,j,a,b,c,d,e,f⟩=>⟨i,j,a,b,c,d,e,by omega⟩⟩,fun x o e hx=>fr3 x o (fr2 x o e hx) (xds x o e)⟩
  ·rintro σ H2' ⟨v6,kv2,E2,rfl,net2,NP2,fr2⟩
   exact ⟨_,_,kv2,E2,rfl,net2,⟨fun x y hx hy h=>NP2.up x y hx hy (by omega),fun x y hx hy h=>NP2.dn x y hx hy (by omega),fun u v w e=>(NP2.out u v w e).imp (fun ⟨i,j,a,b,c,d,e,f⟩=>⟨i,j,a,b,c,d,e,by omega⟩) fun ⟨i,j,a,b,c,d,e,f⟩=>⟨i,j,a,b,c,d,e,by omega⟩⟩,fr2⟩
 ·rintro σ H' ⟨v5,v6,kv,E,rfl,net',NP,fr⟩
  exact q H' sl wl as ds kv E net' (NP.full fun i j hi _=>hi) fr
end
end K7
namespace SW
open PySem L2
section
variable {K:W.Frag} {cN fm:Addr} {ff:Option Addr} {H0 H H':Hp} {p dx vt rl sl wl:Addr} {as ds:List Addr} {U S:Nat->Nat->Int} {r c:Nat} {a b:Int} {kv kv':Nat->List (Key×V)} {E E':Nat->Nat->Option Q2}
theorem WaysH.keep {n:Nat} {x:Addr} {o:HO} {ys:List V} (W:WaysH H wl ds kv n E) (hx:H x=some (.lst ys)) (wx:wl≠x):WaysH (upd H x o) wl ds kv n E:=by
 refine ⟨by rw [upd_ne wx]; exact W.top,W.len,W.dnd,fun u d e=>?_,fun u v w hu e=>?_,W.key,W.nd⟩
 ·have h:=W.dict u d e
  rw [upd_ne (ne_of h hx (by intro z; cases z))]
  exact h
 ·obtain ⟨t,h1,h2⟩:=W.val u v w hu e
  exact ⟨t,h1,by rw [upd_ne (ne_of h2 hx (by intro z; cases z))]; exact h2⟩
theorem NetH.seat (N:NetH K cN fm ff H0 H p dx vt rl sl wl as ds U S r c a b kv E) {i j:Nat} {x:Addr} {v:Int} (hx:as[i]?=some x) (hi:i<r) (hj:j<c) :
  NetH K cN fm ff H0 (upd H x (.lst (((row c (S i)).map V.int).set j (.int v)))) p dx vt rl sl wl as ds U (upd2 S i j v) r c a b kv E:=by
 have hm:=List.mem_of_getElem? hx
 have hr:=N.st.rows i x _ hx (mk_get hi)
 exact ⟨N.base.upd (N.na x hm),N.mat,N.rule,by rw [upd_ne (ne_of N.ob hr (by intro z; cases z))]; exact N.ob,N.st.set hx hi hj (fun z=>N.sa (by rw [z]; exact hm)),N.ws.keep hr (fun z=>N.wa (by rw [z]; exact hm)),N.na,N.nd,N.sa,N.wa⟩
end
end SW
namespace K7
open PySem L2 SW
section
variable {P:Program} {w:World} {K:W.Frag} {mg:Str->Option Value} {base:Heap}
def spMove (T:Txt K mg):Sp:=fun vs H Q _=>∃(H0:Hp) (p dx vt rl sl wl:Addr) (as ds:List Addr) (U S:Nat->Nat->Int) (r c:Nat) (a b:Int) (kv:Nat->List (Key×V)) (E:Nat->Nat->Option Q2) (pl:Addr) (k:Nat) (p':Nat->Nat) (st:Int),vs=[.ref p,.ref pl]/\T.net H0 H p dx vt rl sl wl as ds U S r c a b kv E/\H pl=some (.lst (PL p' k))/\pl∉as/\r+c<=40/\TabOk a b U S r c/\NetE a b U S r c E/\Wk r c st p' k/\k<=100 /\
 (∀t,t<k->0<=S (rr r p' t) (rc r p' t)+dlt st t/\S (rr r p' t) (rc r p' t)+dlt st t<=800/\(0<S (rr r p' t) (rc r p' t)+dlt st t->0<U (rr r p' t) (rc r p' t))) /\
 ∀(H':Hp) (kv':Nat->List (Key×V)) (E':Nat->Nat->Option Q2),T.net H0 H' p dx vt rl sl wl as ds U (moved r p' st S k) r c a b kv' E'->NetE a b U (moved r p' st S k) r c E'->(∀x o,H x=some o->x∉ds->x∉as->H' x=some o)->Q .non H'
theorem ok_Qs (T:Txt K mg):FnOk P w K mg base CX0 6 T.a_Qs T.fd_Qs ["self","path"] (spMove T):=by
 refine T.F_Qs.ok sc_Qs (fun vs H Q E h=>?_) (fun cdv A outer s H vs Q E hr h=>?_)
 ·obtain ⟨H0,p,dx,vt,rl,sl,wl,as,ds,U,S,r,c,a,b,kv,E,pl,k,p',st,rfl,_⟩:=h
  rfl
 obtain ⟨H0,p,dx,vt,rl,sl,wl,as,ds,U,S,r,c,a,b,kv,G,pl,k,p',st,rfl,N,hpl,pla,n1,tab,NE,W,k1,bd,q⟩:=h
 refine ⟨_,(pss_one (ps_for PassesOwn.never rfl (pi_range1 rfl T.n_range (pa_cons (pe_op op_sub (pe_callB (len_Q K) (by rfl) T.n_len PySem.boot_len (pa_cons (pv 1) pa_nil)) pe_int) pa_nil)) (pg_name (i:=2) sc_Qs.nd rfl (Or.inl rfl))
   (pss_cons (ps_set (i:=3) sc_Qs.nd rfl (Or.inl rfl) (pe_call (ok_Qb T) (hr.mono (by decide)) rfl T.m_Qb T.F_Qb.kp T.b_Qb .nil pass0 (pa_cons (pe_ix (ix_Q K) (pv 1) (pv 2) (fun _ _=>rfl)) (pa_cons (pe_ix (ix_Q K) (pv 1) (pe_op op_add (pv 2) pe_int) (fun _ _=>rfl)) (pa_cons (ZA K (pv 0) rfl) pa_nil)))))
   (pss_cons (ps_augS (pe_ix (ix_Q K) (ZA K (pv 0) rfl) (pe_ix (ix_Q K) (pv 3) pe_int (fun _ _=>rfl)) (fun _ _=>rfl)) (pe_ix (ix_Q K) (pv 3) pe_int (fun _ _=>rfl)) (getL_Q K) (pe_ifExp (pt_cmpR op_lt (pe_ix (ix_Q K) (pv 1) (pv 2) (fun _ _=>rfl)) (ZA K (pv 0) rfl) (nomark _)) pe_int (pe_un un_neg pe_int)) ip_add set_list)
   (pss_one (ps_expr (pe_meth (pv 0) T.cl_Net T.mt_Qr (ok_Qr T) (hr.mono (by decide)) T.b_Qr .nil pass0 (pa_cons (pe_ix (ix_Q K) (pv 3) pe_int (fun _ _=>rfl)) (pa_cons (pe_ix (ix_Q K) (pv 3) pe_int (fun _ _=>rfl)) pa_nil))))))))),?_⟩
 have plds:pl∉ds:=fun z=>by
  obtain ⟨n,hn,en⟩:=List.getElem_of_mem z
  have:=N.ws.dict n pl (by rw [List.getElem?_eq_getElem hn,en])
  rw [hpl] at this
  cases this
 refine ⟨_,rfl,_,_,rfl,Or.inl (SqL.of ‹_›),_,_,rfl,rfl,?_⟩
 rw [PL_len]
 refine ⟨_,rfl,by omega,by omega,?_⟩
 rw [show (((k+1:Nat):Int) - 1).toNat=k by omega]
 refine for_range (fun t σ H'=>∃(v2 v3:Option V) (kv:Nat->List (Key×V)) (E:Nat->Nat->Option Q2),σ=[some (.ref p),some (.ref pl),v2,v3]/\T.net H0 H' p dx vt rl sl wl as ds U (moved r p' st S t) r c a b kv E/\NetE a b U (moved r p' st S t) r c E/\(∀x o,H x=some o->x∉ds->x∉as->H' x=some o)) ⟨_,_,kv,G,rfl,N,NE,fun x o e _ _=>e⟩ ?_ ?_
 ·rintro t σ H1 ht ⟨v2,v3,kv1,E1,rfl,N1,NE1,fr1⟩
  have hpl1:=fr1 _ _ hpl plds pla
  have ob1:=N1.ob
  have at0:atI (PL p' k) (0+(t:Int))=some (.int (p' t:Int)):=by rw [Int.zero_add]; exact PL_at (by omega)
  have at1:atI (PL p' k) (0+(t:Int)+1)=some (.int (p' (t+1):Int)):=by rw [show (0:Int)+(t:Int)+1=((t+1:Nat):Int) by omega]; exact PL_at (by omega)
  have op:=W.opp t ht
  obtain ⟨c1,c2,c3⟩:=opp_cell op
  have nx:moved r p' st S t (rr r p' t) (rc r p' t)=S (rr r p' t) (rc r p' t):=W.next ht
  have bdt:=bd t ht
  refine ⟨_,rfl,_,rfl,_,_,_,_,rfl,rfl,Or.inl (SqL.of ‹_›),by assumption,_,rfl,_,rfl,_,_,rfl,rfl,_,_,_,_,rfl,rfl,Or.inl (SqL.of ‹_›),by assumption,_,rfl,_,_,_,_,_,rfl,by assumption,T.cl_Net,T.na_Net_height,by rfl,?_⟩
  refine ⟨p' t,p' (t+1),r,rfl,by rcases op with ⟨x,y,z⟩ | ⟨x,y,z⟩ <;> omega,fun tc H2 M2=>?_⟩
  obtain ⟨i,hi⟩:∃i,cr r (p' t) (p' (t+1))=i:=⟨_,rfl⟩
  obtain ⟨j,hj⟩:∃j,cc r (p' t) (p' (t+1))=j:=⟨_,rfl⟩
  have hi':rr r p' t=i:=hi
  have hj':rc r p' t=j:=hj
  rw [hi,hj] at M2
  rw [hi] at c1
  rw [hj] at c2
  rw [hi',hj'] at nx bdt
  have mvd:moved r p' st S (t+1)=upd2 (moved r p' st S t) i j (S i j+dlt st t):=by
   show upd2 (moved r p' st S t) (rr r p' t) (rc r p' t) (S (rr r p' t) (rc r p' t)+dlt st t)=_
   rw [hi',hj']
  have N2:=N1.same M2.same
  have ob2:=N2.ob
  have htc:=M2.at_
  have hpl2:=M2.same _ _ hpl1
  have hst:=N2.st.top
  have la:=N2.st.len
  rw [mk_len] at la
  obtain ⟨x,hx⟩:∃x,as[i]?=some x:=⟨as[i]'(by omega),by simp⟩
  have hrow:=N2.st.rows _ x _ hx (mk_get c1)
  have atx:atI (as.map V.ref) (i:Int)=some (.ref x):=at_ref hx
  have aty:atI ((row c (moved r p' st S t i)).map V.int) (j:Int)=some (.int (moved r p' st S t i j)):=at_row c2
  have al:=W.sg t ht
  have hxa:=List.mem_of_getElem? hx
  have tv:=tab.v0 i j c1 c2
  have htx:tc≠x:=ne_of htc hrow (by intro z; cases z)
  refine ⟨_,rfl,_,_,_,_,_,rfl,by assumption,T.cl_Net,T.na_Net_seats,by rfl,_,rfl,_,_,_,_,rfl,rfl,Or.inr (SqT.of ‹_›),rfl,_,_,_,_,rfl,rfl,Or.inl (SqL.of ‹_›),by assumption,_,rfl,_,_,_,_,rfl,rfl,Or.inr (SqT.of ‹_›),rfl,_,_,_,_,rfl,rfl,SqL.of ‹_›,by assumption,_,rfl,_,rfl,_,_,_,_,rfl,rfl,Or.inl (SqL.of ‹_›),by assumption,_,rfl,_,_,_,_,_,rfl,by assumption,T.cl_Net,T.na_Net_height,by rfl,_,_,rfl,rfl,_,rfl,?_⟩
  rw [nx]
  refine ite3 (fun cs=>?_) (fun cs=>?_)
  case' refine_1=>
   have dl:dlt st t=1:=by rw [al,if_pos (by omega)]
  case' refine_2=>
   have dl:dlt st t = -1:=by rw [al,if_neg (by omega)]
  all_goals
   first | (refine ⟨_,rfl,?_⟩; refine ⟨_,_,rfl,rfl,?_⟩) | (refine ⟨_,_,rfl,rfl,?_⟩)
   refine ⟨x,_,_,j,rfl,rfl,hrow,ixN_nat (by rw [List.length_map,ZJ]; exact c2),?_⟩
   have N3:=N2.seat (v:=S i j+dlt st t) hx c1 c2
   rw [dl] at N3 bdt
   rw [dl] at mvd
   have htc3:=(upd_ne (H:=H2) (o:=.lst (((row c (moved r p' st S t i)).map V.int).set j (.int (S i j+dlt st t)))) htx).trans htc
   rw [dl] at htc3
   have fr3:∀y o,H y=some o->y∉ds->y∉as->upd H2 x (.lst (((row c (moved r p' st S t i)).map V.int).set j (.int (S i j+dlt st t)))) y=some o:=fun y o e h1 h2=>by
    rw [upd_ne (fun z=>h2 (by rw [z]; exact hxa))]
    exact M2.same _ _ (fr1 y o e h1 h2)
   rw [dl] at fr3
   have ob3:=N3.ob
   refine ⟨_,rfl,_,_,_,rfl,by assumption,by rfl,_,rfl,_,_,_,_,rfl,rfl,Or.inr (SqT.of ‹_›),rfl,_,rfl,_,_,_,_,rfl,rfl,Or.inr (SqT.of ‹_›),rfl,?_⟩
   refine ⟨H0,p,dx,vt,rl,sl,wl,as,ds,U,_,r,c,a,b,kv1,E1,i,j,rfl,N3,c1,c2,n1,tv.1,tv.2,by rw [upd2_same]; exact bdt.1,by rw [upd2_same]; exact bdt.2.1,by rw [upd2_same]; exact bdt.2.2,fun H4 kv4 E4 N4 lay fr4=>?_⟩
   have NE4:=(NE1.part.lay c1 c2 (S':=upd2 (moved r p' st S t) i j _) (fun x y h=>upd2_ne h) lay).full fun _ _ _ _ => .inl trivial
   refine ⟨_,_,kv4,E4,rfl,?_,?_,fun y o e h1 h2=>fr4 y o (fr3 y o e h1 h2) h1⟩
   ·rw [mvd]; exact N4
   ·rw [mvd]; exact NE4
 ·rintro σ H1 ⟨v2,v3,kv1,E1,rfl,N1,NE1,fr1⟩
  exact q H1 kv1 E1 N1 NE1 fr1
end
end K7
namespace SW
open PySem L2
theorem cut_from {xs:List V} {k:Nat} (h:k<=xs.length):cutV xs (some (k:Int)) none=xs.drop k:=by
 unfold cutV
 have e1:HT.sIx xs.length 0 (some (k:Int))=k:=by
  simp only [HT.sIx]
  split <;> omega
 have e2:HT.sIx xs.length xs.length none=xs.length:=rfl
 rw [e1,e2,List.take_of_length_le (by rw [List.length_drop]; omega)]
theorem cut_to {xs:List V} {k:Nat} (h:k<=xs.length):cutV xs none (some (k:Int))=xs.take k:=by
 unfold cutV
 have e1:HT.sIx xs.length 0 none=0:=rfl
 have e2:HT.sIx xs.length xs.length (some (k:Int))=k:=by
  simp only [HT.sIx]
  split <;> omega
 rw [e1,e2]
 simp
def dealF (sl rl cl:Addr):List (Str×V):=[("seats",.ref sl),("rows",.ref rl),("columns",.ref cl)]
def barF (rl cl:Addr):List (Str×V):=[("rows",.ref rl),("columns",.ref cl)]
def sel (n:Nat) (f:Nat->Bool):List Nat:=(List.range n).filter f
theorem sel_mem {n z:Nat} {f:Nat->Bool}:z∈sel n f↔z<n/\f z=true:=by unfold sel; rw [List.mem_filter,List.mem_range]
theorem sel_nd (n:Nat) (f:Nat->Bool):(sel n f).Nodup:=List.nodup_range.filter _
theorem sel_len (n:Nat) (f:Nat->Bool):(sel n f).length<=n:=Nat.le_trans (List.length_filter_le _ _) (by simp)
end SW
namespace K7
open PySem L2 SW
section
variable {P:Program} {w:World} {K:W.Frag} {mg:Str->Option Value} {base:Heap}
def spDealInit (K:W.Frag) (cD:Addr):Sp:=fun vs H Q _=>∃(p dx s0 r0 c0:Addr) (S:Nat->Nat->Int) (r c:Nat) (xs ys:List V),vs=[.ref p,.ref s0,.ref r0,.ref c0]/\H p=some (.ins cD dx [])/\Mat K H s0 (mkT S r c)/\r<=40/\SqL K H r0 xs/\SqL K H c0 ys /\
 ∀(H':Hp) (sl rl cl:Addr) (as:List Addr),(∀x o,H x=some o->x≠p->H' x=some o)->H' p=some (.ins cD dx (dealF sl rl cl))->MatM H' sl as (mkT S r c)->H' rl=some (.lst xs)->H' cl=some (.lst ys)->H sl=none->H rl=none->H cl=none->(∀x,x∈as->H x=none)->sl∉as->rl∉as->cl∉as->rl≠cl->Q .non H'
theorem sqOff {H:Hp} {p q:Addr} {o:HO} {ys:List V} {C dx:Addr} {fs:List (Str×V)} (h:SqL K H q ys) (hp:H p=some (.ins C dx fs)):SqL K (upd H p o) q ys:=by
 rcases h with (h | ⟨ob,h⟩) | h
 ·exact .inl (.inl (by rw [upd_ne (ne_of h hp (by intro z; cases z))]; exact h))
 ·exact .inl (.inr ⟨ob,by rw [upd_ne (ne_of h hp (by intro z; cases z))]; exact h⟩)
 ·exact .inr h
theorem ok_Qi (T:Txt K mg):FnOk P w K mg base CX0 1 T.a_Qi T.fd_Qi ["self","seats","rows","columns"] (spDealInit K T.c_QC):=by
 refine T.F_Qi.ok sc_Qi (fun vs H Q E h=>?_) (fun cdv A outer s H vs Q E hr h=>?_)
 ·obtain ⟨p,dx,s0,r0,c0,S,r,c,xs,ys,rfl,_⟩:=h
  rfl
 obtain ⟨p,dx,s0,r0,c0,S,r,c,xs,ys,rfl,hp,mt,r1,hr0,hc0,q⟩:=h
 refine ⟨_,(pss_cons (ps_fld (pv 0) (ZD [4] rfl (ZK rfl) (ZB K (pv 1)) (fun _=>(pg_name (i:=4) sc_Qi.nd rfl (Or.inl rfl))) (fun _=>ZL) (fun _=>(pe_callTy (list_Q K) (by rfl) T.n_list PyProof.Rows.boot_list (pa_cons (pv 4) pa_nil)))) rfl)
   (pss_cons (ps_fld (pv 0) (pe_callTy (list_Q K) (by rfl) T.n_list PyProof.Rows.boot_list (pa_cons (pv 2) pa_nil)) rfl)
   (pss_one (ps_fld (pv 0) (pe_callTy (list_Q K) (by rfl) T.n_list PyProof.Rows.boot_list (pa_cons (pv 3) pa_nil)) rfl)))),?_⟩
 refine ⟨_,rfl,?_⟩
 refine comp_copy mt (Nat.le_trans r1 (by decide)) (fun b ys H Q hb hQ=>⟨_,rfl,b,ys,rfl,.inl hb,hQ⟩) fun as H1 S1 la and nas has=>?_
 intro sl H2 N2
 have S02:=S1.trans N2.same
 have p2:=S02 _ _ hp
 refine ⟨_,rfl,?_⟩
 refine ⟨p,T.c_QC,dx,[],rfl,p2,T.cl_QC,T.na_QC_seats,(by decide),?_⟩
 have slp:sl≠p:=fun z=>by have:=N2.gone; rw [z,S1 _ _ hp] at this; cases this
 have asp:∀x,x∈as->x≠p:=fun x hx z=>by have:=nas x hx; rw [z,hp] at this; cases this
 have sla:sl∉as:=fun z=>by
  obtain ⟨n,hn,en⟩:=List.getElem_of_mem z
  have:=has n sl (by rw [List.getElem?_eq_getElem hn,en])
  rw [N2.gone] at this
  cases this
 have nsl:H sl=none:=S1.free N2.gone
 have m3:MatM (upd H2 p (.ins T.c_QC dx (putF "seats" (.ref sl) []))) sl as (mkT S r c):=by
  refine MatM.keep ⟨N2.at_,and,by rw [mk_len]; exact la,fun i x y e1 e2=>?_⟩ slp (fun z=>asp p z rfl)
  have hi:i<r:=by have:=(List.getElem?_eq_some_iff.mp e1).1; omega
  rw [mk_get hi] at e2
  rw [<-Option.some.inj e2]
  exact N2.same _ _ (has i x e1)
 have B3:∀x o,H x=some o->x≠p->upd H2 p (.ins T.c_QC dx (putF "seats" (.ref sl) [])) x=some o:=fun x o e hx=>by rw [upd_ne hx]; exact S02 _ _ e
 have hr3:SqL K (upd H2 p (.ins T.c_QC dx (putF "seats" (.ref sl) []))) r0 xs:=sqOff (S02.seq hr0) p2
 have hc3:SqL K (upd H2 p (.ins T.c_QC dx (putF "seats" (.ref sl) []))) c0 ys:=sqOff (S02.seq hc0) p2
 have p3:upd H2 p (.ins T.c_QC dx (putF "seats" (.ref sl) [])) p=some (.ins T.c_QC dx (putF "seats" (.ref sl) [])):=upd_same
 generalize upd H2 p (.ins T.c_QC dx (putF "seats" (.ref sl) []))=H3 at *
 refine ⟨_,rfl,?_⟩
 refine ⟨r0,xs,rfl,.inl hr3,fun rl H4 N4=>?_⟩
 refine ⟨_,rfl,?_⟩
 have p4:=N4.same _ _ p3
 refine ⟨p,T.c_QC,dx,_,rfl,p4,T.cl_QC,T.na_QC_rows,(by show 1<1000; decide),?_⟩
 have rlp:rl≠p:=fun z=>by have:=N4.gone; rw [z,p3] at this; cases this
 have nrl:H rl=none:=by
  cases e:H rl with
  | none=>rfl
  | some o=>have:=B3 _ _ e rlp; rw [N4.gone] at this; cases this
 have asome:∀{H:Hp},MatM H sl as (mkT S r c)->∀x,x∈as->H x≠none:=fun {H} m x hx z=>by
  obtain ⟨n,hn,en⟩:=List.getElem_of_mem hx
  have hl:=m.len
  rw [mk_len] at hl
  have:=m.rows n x _ (by rw [List.getElem?_eq_getElem hn,en]) (mk_get (by omega))
  rw [z] at this
  cases this
 have rla:rl∉as:=fun z=>asome m3 rl z N4.gone
 have B5:∀x o,H x=some o->x≠p->upd H4 p (.ins T.c_QC dx (putF "rows" (.ref rl) (putF "seats" (.ref sl) []))) x=some o:=fun x o e hx=>by rw [upd_ne hx]; exact N4.same _ _ (B3 x o e hx)
 have m5:MatM (upd H4 p (.ins T.c_QC dx (putF "rows" (.ref rl) (putF "seats" (.ref sl) [])))) sl as (mkT S r c):=(m3.same N4.same).keep slp (fun z=>asp p z rfl)
 have hc5:SqL K (upd H4 p (.ins T.c_QC dx (putF "rows" (.ref rl) (putF "seats" (.ref sl) [])))) c0 ys:=sqOff (N4.same.seq hc3) p4
 have p5:upd H4 p (.ins T.c_QC dx (putF "rows" (.ref rl) (putF "seats" (.ref sl) []))) p=some (.ins T.c_QC dx (putF "rows" (.ref rl) (putF "seats" (.ref sl) []))):=upd_same
 have rl5:upd H4 p (.ins T.c_QC dx (putF "rows" (.ref rl) (putF "seats" (.ref sl) []))) rl=some (.lst xs):=by rw [upd_ne rlp]; exact N4.at_
 generalize upd H4 p (.ins T.c_QC dx (putF "rows" (.ref rl) (putF "seats" (.ref sl) [])))=H5 at *
 refine ⟨_,rfl,?_⟩
 refine ⟨c0,ys,rfl,.inl hc5,fun cl H6 N6=>?_⟩
 refine ⟨_,rfl,?_⟩
 have p6:=N6.same _ _ p5
 refine ⟨p,T.c_QC,dx,_,rfl,p6,T.cl_QC,T.na_QC_columns,(by show 2<1000; decide),?_⟩
 have clp:cl≠p:=fun z=>by have:=N6.gone; rw [z,p5] at this; cases this
 have ncl:H cl=none:=by
  cases e:H cl with
  | none=>rfl
  | some o=>have:=B5 _ _ e clp; rw [N6.gone] at this; cases this
 have cla:cl∉as:=fun z=>asome m5 cl z N6.gone
 refine q _ sl rl cl as (fun x o e hx=>by rw [upd_ne hx]; exact N6.same _ _ (B5 x o e hx)) upd_same ((m5.same N6.same).keep slp (fun z=>asp p z rfl)) (by rw [upd_ne rlp]; exact N6.same _ _ rl5) (by rw [upd_ne clp]; exact N6.at_) nsl nrl ncl nas sla rla cla (fun z=>?_)
 have:=N6.gone
 rw [<-z,rl5] at this
 cases this
def spBarInit (K:W.Frag) (cB:Addr):Sp:=fun vs H Q _=>∃(p dx r0 c0:Addr) (xs ys:List V),vs=[.ref p,.ref r0,.ref c0]/\H p=some (.ins cB dx [])/\SqL K H r0 xs/\SqL K H c0 ys /\
 ∀(H':Hp) (rl cl:Addr),(∀x o,H x=some o->x≠p->H' x=some o)->H' p=some (.ins cB dx (barF rl cl))->H' rl=some (.lst xs)->H' cl=some (.lst ys)->H rl=none->H cl=none->rl≠cl->Q .non H'
theorem ok_Qt (T:Txt K mg):FnOk P w K mg base CX0 1 T.a_Qt T.fd_Qt ["self","rows","columns"] (spBarInit K T.c_Bar):=by
 refine T.F_Qt.ok sc_Qt (fun vs H Q E h=>?_) (fun cdv A outer s H vs Q E hr h=>?_)
 ·obtain ⟨p,dx,r0,c0,xs,ys,rfl,_⟩:=h
  rfl
 obtain ⟨p,dx,r0,c0,xs,ys,rfl,hp,hr0,hc0,q⟩:=h
 refine ⟨_,(pss_cons (ps_fld (pv 0) (pe_callTy (list_Q K) (by rfl) T.n_list PyProof.Rows.boot_list (pa_cons (pv 1) pa_nil)) rfl)
   (pss_one (ps_fld (pv 0) (pe_callTy (list_Q K) (by rfl) T.n_list PyProof.Rows.boot_list (pa_cons (pv 2) pa_nil)) rfl))),?_⟩
 refine ⟨_,rfl,?_⟩
 refine ⟨r0,xs,rfl,.inl hr0,fun rl H4 N4=>?_⟩
 refine ⟨_,rfl,?_⟩
 have p4:=N4.same _ _ hp
 refine ⟨p,T.c_Bar,dx,_,rfl,p4,T.cl_Bar,T.na_Bar_rows,(by decide),?_⟩
 have rlp:rl≠p:=fun z=>by have:=N4.gone; rw [z,hp] at this; cases this
 have B5:∀x o,H x=some o->x≠p->upd H4 p (.ins T.c_Bar dx (putF "rows" (.ref rl) [])) x=some o:=fun x o e hx=>by rw [upd_ne hx]; exact N4.same _ _ e
 have hc5:SqL K (upd H4 p (.ins T.c_Bar dx (putF "rows" (.ref rl) []))) c0 ys:=sqOff (N4.same.seq hc0) p4
 have p5:upd H4 p (.ins T.c_Bar dx (putF "rows" (.ref rl) [])) p=some (.ins T.c_Bar dx (putF "rows" (.ref rl) [])):=upd_same
 have rl5:upd H4 p (.ins T.c_Bar dx (putF "rows" (.ref rl) [])) rl=some (.lst xs):=by rw [upd_ne rlp]; exact N4.at_
 generalize upd H4 p (.ins T.c_Bar dx (putF "rows" (.ref rl) []))=H5 at *
 refine ⟨_,rfl,?_⟩
 refine ⟨c0,ys,rfl,.inl hc5,fun cl H6 N6=>?_⟩
 refine ⟨_,rfl,?_⟩
 have p6:=N6.same _ _ p5
 refine ⟨p,T.c_Bar,dx,_,rfl,p6,T.cl_Bar,T.na_Bar_columns,(by show 1<1000; decide),?_⟩
 have clp:cl≠p:=fun z=>by have:=N6.gone; rw [z,p5] at this; cases this
 have ncl:H cl=none:=by
  cases e:H cl with
  | none=>rfl
  | some o=>have:=B5 _ _ e clp; rw [N6.gone] at this; cases this
 refine q _ rl cl (fun x o e hx=>by rw [upd_ne hx]; exact N6.same _ _ (B5 x o e hx)) upd_same (by rw [upd_ne rlp]; exact N6.same _ _ rl5) (by rw [upd_ne clp]; exact N6.at_) N4.gone ncl (fun z=>?_)
 have:=N6.gone
 rw [<-z,rl5] at this
 cases this
def spEnds (cR:Addr):Sp:=fun vs H Q _=>∃(p dx cl al ll:Addr) (r c:Nat) (D:Nat->Option Q2) (ah:Nat->Option Nat) (lf:Nat->Int),vs=[.ref p,.ref ll,.int (r:Int)]/\RchH cR H p dx cl al (r+c) D ah/\H ll=some (.lst ((row (r+c) lf).map V.int))/\r+c<=40 /\
 ∀l H',New H H' l (.lst ((sel c fun j=>decide (0<lf (r+j))&&(D (r+j)).isSome).map fun j=>nV (r+j)))->Q (.ref l) H'
theorem ok_Qn (T:Txt K mg):FnOk P w K mg base CX0 1 T.a_Qn T.fd_Qn ["reach","left","height"] (spEnds T.c_Reach):=by
 refine T.F_Qn.ok sc_Qn (fun vs H Q E h=>?_) (fun cdv A outer s H vs Q E hr h=>?_)
 ·obtain ⟨p,dx,cl,al,ll,r,c,D,ah,lf,rfl,_⟩:=h
  rfl
 obtain ⟨p,dx,cl,al,ll,r,c,D,ah,lf,rfl,R,hl,n1,q⟩:=h
 refine ⟨_,(pss_one (ps_ret (ZD [3] rfl (ZK rfl) (pi_range2 rfl T.n_range (pa_cons (pv 2) (pa_cons (pe_callB (len_Q K) (by rfl) T.n_len PySem.boot_len (pa_cons (pv 1) pa_nil)) pa_nil))) (fun _=>(pg_name (i:=3) sc_Qn.nd rfl (Or.inl rfl))) (fun _=>pts_one (PW.pt (pw_and (pt_cmpR op_gt (pe_ix (ix_Q K) (pv 1) (pv 3) (fun _ _=>rfl)) pe_int (nomark _)) (pw_and1 (pt_cmpR op_notNR (pe_ix (ix_Q K) (ZA K (pv 0) rfl) (pv 3) (fun _ _=>rfl)) pe_non (nomark _)))))) (fun _=>(pv 3))))),?_⟩
 have ob:=R.ob
 obtain ⟨xs,hcl,hxl,hxs⟩:=R.co
 refine ⟨_,rfl,_,rfl,_,_,rfl,Or.inl (SqL.of ‹_›),?_⟩
 rw [List.length_map,ZJ]
 refine ⟨_,_,rfl,⟨by omega,by omega,by omega,by omega⟩,?_⟩
 rw [show (((r+c:Nat):Int) - (r:Int)).toNat=c by omega]
 refine comp_filR (fun j=>decide (0<lf (r+j))&&(D (r+j)).isSome) (fun j=>nV (r+j)) (Nat.le_trans (show c<=40 by omega) (by decide)) (fun j Q' hj hQ=>?_) (fun j Q' hj _ hQ=>?_) fun l H' N=>q l H' N
 ·have ej:((r:Int)+(j:Int))=((r+j:Nat):Int):=by omega
  rw [ej]
  have at1:atI ((row (r+c) lf).map V.int) ((r+j:Nat):Int)=some (.int (lf (r+j))):=at_row (by omega)
  obtain ⟨x,ex,hcx⟩:∃x,xs[r+j]?=some x/\CostAt H x (D (r+j)):=⟨xs[r+j]'(by omega),by simp,hxs (r+j) _ (by simp)⟩
  have at2:atI xs ((r+j:Nat):Int)=some x:=atI_nat' ex
  refine ⟨_,rfl,_,rfl,_,_,_,_,rfl,rfl,Or.inl (SqL.of ‹_›),by assumption,_,_,rfl,rfl,_,rfl,?_⟩
  by_cases h0:0<lf (r+j)
  ·rw [decide_eq_true h0] at hQ ⊢
   refine iteT ?_
   refine ⟨_,rfl,_,_,_,_,_,rfl,by assumption,T.cl_Reach,T.na_Reach_costs,by rfl,_,rfl,_,_,_,_,rfl,rfl,Or.inl (SqL.of ‹_›),by assumption,rfl,_,rfl,?_⟩
   cases hD:D (r+j) with
   | none=>
    rw [hD] at hcx hQ
    have:x = .non:=hcx
    subst this
    exact hQ
   | some d=>
    rw [hD] at hcx hQ
    obtain ⟨t,h1,_⟩:=hcx
    subst h1
    exact hQ
  ·rw [decide_eq_false h0] at hQ ⊢
   refine iteF ?_
   exact hQ
 ·have ej:((r:Int)+(j:Int))=((r+j:Nat):Int):=by omega
  refine ⟨_,rfl,?_⟩
  rw [ej]
  exact hQ
def spBarOf (K:W.Frag) (cR cB:Addr):Sp:=fun vs H Q _=>∃(p dx cl al:Addr) (r c:Nat) (D:Nat->Option Q2) (ah:Nat->Option Nat),vs=[.ref p,.int (r:Int)]/\RchH cR H p dx cl al (r+c) D ah/\r+c<=40 /\
 ∀(q dq rl2 cl2:Addr) (H':Hp),Same H H'->H q=none->H' q=some (.ins cB dq (barF rl2 cl2))->H' rl2=some (.lst ((sel r fun i=>(D i).isNone).map nV))->H' cl2=some (.lst ((sel c fun j=>(D (r+j)).isNone).map nV))->H rl2=none->H cl2=none->rl2≠cl2->Q (.ref q) H'
theorem sel_add (r c:Nat) (f:Nat->Bool):sel (r+c) f=sel r f++(sel c fun j=>f (r+j)).map fun j=>r+j:=by
 unfold sel
 rw [List.range_add,List.filter_append,List.filter_map]
 rfl
theorem ok_Qo (T:Txt K mg):FnOk P w K mg base CX0 3 T.a_Qo T.fd_Qo ["reach","height"] (spBarOf K T.c_Reach T.c_Bar):=by
 refine T.F_Qo.ok sc_Qo (fun vs H Q E h=>?_) (fun cdv A outer s H vs Q E hr h=>?_)
 ·obtain ⟨p,dx,cl,al,r,c,D,ah,rfl,_⟩:=h
  rfl
 obtain ⟨p,dx,cl,al,r,c,D,ah,rfl,R,n1,q⟩:=h
 refine ⟨_,(pss_cons (ps_setC (i:=2) [3] rfl (ZK rfl) (pi_range1 rfl T.n_range (pa_cons (pe_callB (len_Q K) (by rfl) T.n_len PySem.boot_len (pa_cons (ZA K (pv 0) rfl) pa_nil)) pa_nil)) (fun _=>(pg_name (i:=3) sc_Qo.nd rfl (Or.inl rfl))) (fun _=>pts_one (pt_cmpR op_isNR (pe_ix (ix_Q K) (ZA K (pv 0) rfl) (pv 3) (fun _ _=>rfl)) pe_non (nomark _))) (fun _=>(pv 3)) sc_Qo.nd rfl rfl)
   (pss_one (ps_ret (pe_make T.M_Bar (ok_Qt T) (hr.mono (by decide)) rfl T.m_Bar T.b_Qt .nil pass0 (pa_cons (ZD [3] rfl (ZK rfl) (ZB K (pv 2)) (fun _=>(pg_name (i:=3) sc_Qo.nd rfl (Or.inl rfl))) (fun _=>pts_one (pt_cmpR op_lt (pv 3) (pv 1) (nomark _))) (fun _=>(pv 3))) (pa_cons (ZD [3] rfl (ZK rfl) (ZB K (pv 2)) (fun _=>(pg_name (i:=3) sc_Qo.nd rfl (Or.inl rfl))) (fun _=>pts_one (pt_cmpR op_ge (pv 3) (pv 1) (nomark _))) (fun _=>(pe_op op_sub (pv 3) (pv 1)))) pa_nil)))))),?_⟩
 have ob:=R.ob
 obtain ⟨xs,hcl,hxl,hxs⟩:=R.co
 refine ⟨_,rfl,_,_,_,_,_,rfl,by assumption,T.cl_Reach,T.na_Reach_costs,by rfl,_,_,rfl,Or.inl (SqL.of ‹_›),?_⟩
 rw [hxl]
 refine ⟨_,rfl,by omega,by omega,?_⟩
 rw [Int.toNat_natCast]
 refine comp_filR (fun j=>(D j).isNone) (fun j=>nV j) (Nat.le_trans n1 (by decide)) (fun j Q' hj hQ=>?_) (fun j Q' hj _ hQ=>?_) fun l1 H1 N1=>?_
 ·rw [show (0:Int)+(j:Int)=(j:Int) by omega]
  obtain ⟨x,ex,hcx⟩:∃x,xs[j]?=some x/\CostAt H x (D j):=⟨xs[j]'(by omega),by simp,hxs j _ (by simp)⟩
  have at2:atI xs (j:Int)=some x:=atI_nat' ex
  refine ⟨_,rfl,_,_,_,_,_,rfl,by assumption,T.cl_Reach,T.na_Reach_costs,by rfl,_,rfl,_,_,_,_,rfl,rfl,Or.inl (SqL.of ‹_›),by assumption,rfl,_,rfl,?_⟩
  cases hD:D j with
  | none=>
   rw [hD] at hcx hQ
   have:x = .non:=hcx
   subst this
   exact hQ
  | some d=>
   rw [hD] at hcx hQ
   obtain ⟨t,h1,_⟩:=hcx
   subst h1
   exact hQ
 ·rw [show (0:Int)+(j:Int)=(j:Int) by omega]
  refine ⟨_,rfl,?_⟩
  exact hQ
 have hl1:H1 l1=some (.lst ((sel (r+c) fun j=>(D j).isNone).map nV)):=N1.at_
 have sz:((sel (r+c) fun j=>(D j).isNone).map nV).length<=sizeLine:=by rw [List.length_map]; exact Nat.le_trans (sel_len _ _) (Nat.le_trans n1 (by decide))
 have item:∀{i:Nat} {x:V},((sel (r+c) fun j=>(D j).isNone).map nV)[i]?=some x->∃z:Nat,x = .int (z:Int):=fun {i x} h=>by
  obtain ⟨z,_,e⟩:=List.mem_map.mp (List.mem_of_getElem? h)
  exact ⟨z,e.symm⟩
 have tN:∀z:Nat,(match V.int (z:Int) with | .int k=>k.toNat | _=>0)=z:=fun z=>by show (z:Int).toNat=z; omega
 refine ⟨_,rfl,?_⟩
 refine ⟨l1,rfl,⟨_,SqL.of hl1⟩,comp_filL (fun x=>match x with | .int k=>decide (k<(r:Int)) | _=>false) (fun x=>x) (SqL.of hl1) sz (fun i x Q' hx hQ=>?_) (fun i x Q' hx _ hQ=>?_) fun l2 H2 N2=>?_⟩
 ·obtain ⟨z,rfl⟩:=item hx
  refine ⟨_,rfl,_,rfl,_,_,rfl,rfl,_,rfl,?_⟩
  exact hQ
 ·refine ⟨_,rfl,?_⟩
  exact hQ
 have hl12:=N2.same _ _ hl1
 refine ⟨_,rfl,?_⟩
 refine ⟨l1,rfl,⟨_,SqL.of hl12⟩,comp_filL (fun x=>match x with | .int k=>decide ((r:Int)<=k) | _=>false) (fun x=>match x with | .int k => .int (k - (r:Int)) | v=>v) (SqL.of hl12) sz (fun i x Q' hx hQ=>?_) (fun i x Q' hx _ hQ=>?_) fun l3 H3 N3=>?_⟩
 ·obtain ⟨z,rfl⟩:=item hx
  refine ⟨_,rfl,_,rfl,_,_,rfl,rfl,_,rfl,?_⟩
  exact hQ
 ·obtain ⟨z,rfl⟩:=item hx
  refine ⟨_,rfl,_,rfl,_,_,rfl,rfl,?_⟩
  exact hQ
 have e2:(((sel (r+c) fun j=>(D j).isNone).map nV).filter (fun x=>match x with | .int k=>decide (k<(r:Int)) | _=>false)).map (fun x=>x)=(sel r fun i=>(D i).isNone).map nV:=by
  rw [List.map_id',sel_add,List.map_append,List.filter_append,List.filter_map,List.filter_map]
  have a1:(sel r fun j=>(D j).isNone).filter ((fun x=>match x with | .int k=>decide (k<(r:Int)) | _=>false) ∘ nV)=sel r fun j=>(D j).isNone:=List.filter_eq_self.mpr fun z hz=>by
   have:=(sel_mem.mp hz).1
   show decide ((z:Int)<(r:Int))=true
   exact decide_eq_true (by omega)
  have a2:((sel c fun j=>(D (r+j)).isNone).map fun j=>r+j).filter ((fun x=>match x with | .int k=>decide (k<(r:Int)) | _=>false) ∘ nV)=[]:=List.filter_eq_nil_iff.mpr fun z hz=>by
   obtain ⟨j,_,rfl⟩:=List.mem_map.mp hz
   show ¬decide (((r+j:Nat):Int)<(r:Int))=true
   rw [decide_eq_false (by omega)]
   exact Bool.false_ne_true
  rw [a1,a2,List.map_nil,List.append_nil]
 have e3:(((sel (r+c) fun j=>(D j).isNone).map nV).filter (fun x=>match x with | .int k=>decide ((r:Int)<=k) | _=>false)).map (fun x=>match x with | .int k => .int (k - (r:Int)) | v=>v)=(sel c fun j=>(D (r+j)).isNone).map nV:=by
  rw [sel_add,List.map_append,List.filter_append,List.filter_map,List.filter_map]
  have a1:(sel r fun j=>(D j).isNone).filter ((fun x=>match x with | .int k=>decide ((r:Int)<=k) | _=>false) ∘ nV)=[]:=List.filter_eq_nil_iff.mpr fun z hz=>by
   have:=(sel_mem.mp hz).1
   show ¬decide ((r:Int)<=(z:Int))=true
   rw [decide_eq_false (by omega)]
   exact Bool.false_ne_true
  have a2:((sel c fun j=>(D (r+j)).isNone).map fun j=>r+j).filter ((fun x=>match x with | .int k=>decide ((r:Int)<=k) | _=>false) ∘ nV)=(sel c fun j=>(D (r+j)).isNone).map fun j=>r+j:=List.filter_eq_self.mpr fun z hz=>by
   obtain ⟨j,_,rfl⟩:=List.mem_map.mp hz
   show decide ((r:Int)<=((r+j:Nat):Int))=true
   exact decide_eq_true (by omega)
  rw [a1,a2,List.map_nil,List.nil_append,List.map_map,List.map_map]
  apply List.map_congr_left
  intro j _
  show V.int (((r+j:Nat):Int) - (r:Int))=V.int (j:Int)
  rw [show ((r+j:Nat):Int) - (r:Int)=(j:Int) by omega]
 have hl2:=N3.same _ _ N2.at_
 rw [e2] at hl2
 have hl3:=N3.at_
 rw [e3] at hl3
 intro x dq nx ndq nexd
 have S3:Same H H3:=N1.same.trans (N2.same.trans N3.same)
 have up:∀b o,H3 b=some o->upd (upd H3 dq (.own x)) x (.ins T.c_Bar dq []) b=some o:=fun b o e=>by rw [upd_ne (ne_of_none e nx),upd_ne (ne_of_none e ndq)]; exact e
 refine ⟨x,dq,l2,l3,_,_,rfl,upd_same,SqL.of (up _ _ hl2),SqL.of (up _ _ hl3),fun H' rl2 cl2 fr hx h1 h2 n1 n2 ne=>⟨rfl,?_⟩⟩
 have fin:∀b,upd (upd H3 dq (.own x)) x (.ins T.c_Bar dq []) b=none->H b=none:=fun b z=>by
  cases e:H b with
  | none=>rfl
  | some o=>have:=up _ _ (S3 _ _ e); rw [z] at this; cases this
 exact q x dq rl2 cl2 H' (fun b o e=>fr b o (up _ _ (S3 _ _ e)) (ne_of_none (S3 _ _ e) nx)) (S3.free nx) hx h1 h2 (fin _ n1) (fin _ n2) ne
end
end K7
namespace SW
open PySem L2
theorem upZ_nV (n:Nat):(upZ 0 n).map V.int=(List.range n).map nV:=by
 unfold upZ
 rw [List.map_map]
 apply List.map_congr_left
 intro k _
 show V.int (0+(k:Int))=V.int (k:Int)
 rw [Int.zero_add]
theorem low_pos {a b x y:Int} (a0:0<a) (L:Low a b x y):0<x:=by
 have h0:=L.x0
 have e:=L.eq
 rcases Int.lt_or_le 0 x with h | h
 ·exact h
 ·have:x=0:=by omega
  subst this
  have:=Int.mul_pos L.y0 a0
  rw [Int.zero_mul] at e
  omega
theorem comp_ratios {K:W.Frag} {te:TE} {σ:St} {j:Nat} {R0:List V->Hp->Prop} {H1:Hp} {a:Addr} {zs:List V} {e:Nat->Q2} (hl:SqL K H1 a zs) (hz:zs.length<=sizeLine)
  (hs:∀(i:Nat) (x:V) (H:Hp) (Q:VK),zs[i]?=some x->Same H1 H->(∀p H' u v,Low (e i).1 (e i).2 u v->New H H' p (.tup [.int u,.int v])->Q (.ref p) H')->te (σ.set j (some x)) H Q)
  (hd:∀(ra:List Addr) (R:Nat->Q2) (H:Hp),Same H1 H->ra.length=zs.length->(∀(k:Nat) (x:Addr),ra[k]?=some x->H x=some (.tup [.int (R k).1,.int (R k).2]))->(∀k,k<zs.length->Low (e k).1 (e k).2 (R k).1 (R k).2)->R0 (ra.map V.ref) H) :
  ∃a',V.ref a = .ref a'/\(∃xs,SqL K H1 a' xs)/\CompW (Itl K a') (gName j) tYes te (wipe [j] σ) R0 H1:=by
 refine ⟨a,rfl,⟨_,hl⟩,?_⟩
 refine comp_list (fun i ys H2=>Same H1 H2/\∃(ra:List Addr) (R:Nat->Q2),ys=ra.map V.ref/\ra.length=i/\(∀(k:Nat) (x:Addr),ra[k]?=some x->H2 x=some (.tup [.int (R k).1,.int (R k).2]))/\∀k,k<i->Low (e k).1 (e k).2 (R k).1 (R k).2) hz ⟨Same.refl _,[],fun _=>(0,0),rfl,rfl,fun k x e=>(by simp at e),fun k h=>absurd h (Nat.not_lt_zero _)⟩ (fun i ys H2 _ h=>h.1.seq hl) ?_ ?_
 ·rintro i x ys H2 hx ⟨S2,ra,R,rfl,lr,hr,hL⟩
  refine yes (hs i x H2 _ hx S2 fun p H3 u v L N3=>?_)
  refine ⟨S2.trans N3.same,ra++[p],fset R i (u,v),by simp,by simp [lr],fun k y e=>?_,fun k hk=>?_⟩
  ·by_cases q:k<ra.length
   ·rw [List.getElem?_append_left q] at e
    rw [ZI (by omega)]
    exact N3.same _ _ (hr k y e)
   ·rw [List.getElem?_append_right (by omega)] at e
    have hz:k - ra.length=0:=by have:=(List.getElem?_eq_some_iff.mp e).1; simp at this; omega
    rw [hz] at e
    have ey:y=p:=by simpa using e.symm
    have ek:k=i:=by omega
    rw [ey,ek,ZH]
    exact N3.at_
  ·by_cases q:k=i
   ·rw [q,ZH]; exact L
   ·rw [ZI q]; exact hL k (by omega)
 ·rintro ys H2 ⟨S2,ra,R,rfl,lr,hr,hL⟩
  exact hd ra R H2 S2 lr hr hL
structure DealH (cD:Addr) (H:Hp) (q dq sl rl cl:Addr) (as ra ca:List Addr) (S:Nat->Nat->Int) (r c:Nat) (R C:Nat->Q2):Prop where
 ob:H q=some (.ins cD dq (dealF sl rl cl))
 st:MatM H sl as (mkT S r c)
 rows:H rl=some (.lst (ra.map V.ref))
 rlen:ra.length=r
 rt:∀(i:Nat) (x:Addr),ra[i]?=some x->H x=some (.tup [.int (R i).1,.int (R i).2])
 cols:H cl=some (.lst (ca.map V.ref))
 clen:ca.length=c
 ct:∀(j:Nat) (x:Addr),ca[j]?=some x->H x=some (.tup [.int (C j).1,.int (C j).2])
 sa:sl∉as
 ra':rl∉as
 ca':cl∉as
 ne:rl≠cl
theorem DealH.same {cD:Addr} {H H':Hp} {q dq sl rl cl:Addr} {as ra ca:List Addr} {S:Nat->Nat->Int} {r c:Nat} {R C:Nat->Q2} (d:DealH cD H q dq sl rl cl as ra ca S r c R C) (h:Same H H'):DealH cD H' q dq sl rl cl as ra ca S r c R C:=
 ⟨h _ _ d.ob,d.st.same h,h _ _ d.rows,d.rlen,fun i x e=>h _ _ (d.rt i x e),h _ _ d.cols,d.clen,fun j x e=>h _ _ (d.ct j x e),d.sa,d.ra',d.ca',d.ne⟩
def RatOk (n:Nat) (p:Q2):Prop:=0<p.1/\0<p.2/\gcdI p.1 p.2=1/\p.1<2 ^ (80*n+1)/\p.2<2 ^ (80*n+1)
structure DealOk (a b:Int) (U S:Nat->Nat->Int) (r c:Nat) (R C:Nat->Q2):Prop where
 ro:∀i,i<r->RatOk (r+c) (R i)
 co:∀j,j<c->RatOk (r+c) (C j)
 fits:∀i j,i<r->j<c->fitsB (U i j*(R i).1*(C j).1) ((R i).2*(C j).2) a b (S i j)=true
end SW
namespace K7
open PySem L2 SW
section
variable {P:Program} {w:World} {K:W.Frag} {mg:Str->Option Value} {base:Heap}
def spDealOf (T:Txt K mg):Sp:=fun vs H Q _=>∃(H0:Hp) (p dx vt rl sl wl:Addr) (as ds:List Addr) (U S:Nat->Nat->Int) (r c:Nat) (a b:Int) (kv:Nat->List (Key×V)) (E:Nat->Nat->Option Q2) (pi:Nat->Q2),vs=[.ref p]/\T.net H0 H p dx vt rl sl wl as ds U S r c a b kv E/\r+c<=40/\TabOk a b U S r c/\NetE a b U S r c E/\(∀v,qpos (pi v))/\Cells a b U S r c pi /\
 ∀(H':Hp) (q dq sl' rl' cl':Addr) (as' ra ca:List Addr) (R C:Nat->Q2),Same H H'->H q=none->DealH T.c_QC H' q dq sl' rl' cl' as' ra ca S r c R C->DealOk a b U S r c R C->H sl'=none->H rl'=none->H cl'=none->(∀x,x∈as'->H x=none)->Q (.ref q) H'
theorem ok_Qc (T:Txt K mg):FnOk P w K mg base CX0 5 T.a_Qc T.fd_Qc ["net"] (spDealOf T):=by
 refine T.F_Qc.ok sc_Qc (fun vs H Q E h=>?_) (fun cdv A outer s H vs Q E hr h=>?_)
 ·obtain ⟨H0,p,dx,vt,rl,sl,wl,as,ds,U,S,r,c,a,b,kv,E,pi,rfl,_⟩:=h
  rfl
 obtain ⟨H0,p,dx,vt,rl,sl,wl,as,ds,U,S,r,c,a,b,kv,G,pi,rfl,N,n1,tab,NE,pp,cs,q⟩:=h
 refine ⟨_,(pss_cons (ps_set (i:=1) sc_Qc.nd rfl (Or.inl rfl) (ZA K (pe_make T.M_Reach (ok_Qh T) (hr.mono (by decide)) rfl T.m_Reach T.b_Qh .nil pass0 (pa_cons (pe_callTy (call_listR rfl) (by rfl) T.n_list PyProof.Rows.boot_list (pa_cons (pe_rng1 rfl T.n_range (pa_cons (pe_callB (len_Q K) (by rfl) T.n_len PySem.boot_len (pa_cons (ZA K (pv 0) rfl) pa_nil)) pa_nil)) pa_nil)) (pa_cons (ZA K (pv 0) rfl) pa_nil))) rfl))
   (pss_cons (ps_setC (i:=2) [4] rfl (ZK rfl) (ZB K (pe_slice (sl_Q K) (pv 1) po_none (po_some (ZA K (pv 0) rfl)))) (fun _=>(pg_name (i:=4) sc_Qc.nd rfl (Or.inl rfl))) (fun _=>ZL) (fun _=>(pe_call (ok_ratio T) (hr.mono (by decide)) rfl T.m_ratio T.F_ratio.kp T.b_ratio .nil pass0 (pa_cons (pe_ix (ix_Q K) (pv 4) pe_int (fun _ _=>rfl)) (pa_cons (pe_ix (ix_Q K) (pv 4) pe_int (fun _ _=>rfl)) pa_nil)))) sc_Qc.nd rfl rfl)
   (pss_cons (ps_setC (i:=3) [4] rfl (ZK rfl) (ZB K (pe_slice (sl_Q K) (pv 1) (po_some (ZA K (pv 0) rfl)) po_none)) (fun _=>(pg_name (i:=4) sc_Qc.nd rfl (Or.inl rfl))) (fun _=>ZL) (fun _=>(pe_call (ok_ratio T) (hr.mono (by decide)) rfl T.m_ratio T.F_ratio.kp T.b_ratio .nil pass0 (pa_cons (pe_ix (ix_Q K) (pv 4) pe_int (fun _ _=>rfl)) (pa_cons (pe_ix (ix_Q K) (pv 4) pe_int (fun _ _=>rfl)) pa_nil)))) sc_Qc.nd rfl rfl)
   (pss_one (ps_ret (pe_make T.M_QC (ok_Qi T) (hr.mono (by decide)) rfl T.m_QC T.b_Qi .nil pass0 (pa_cons (ZA K (pv 0) rfl) (pa_cons (pv 2) (pa_cons (pv 3) pa_nil))))))))),?_⟩
 have ob:=N.ob
 have wt:=N.ws.top
 have gr:=NE.gr tab pp cs
 refine ⟨_,rfl,_,_,_,_,_,rfl,by assumption,T.cl_Net,T.na_Net_ways,by rfl,_,_,rfl,Or.inl (SqL.of ‹_›),?_⟩
 rw [List.length_map,N.ws.len]
 refine ⟨_,rfl,fun pr H1 M1=>?_⟩
 refine ⟨pr,0,((r+c:Nat):Int),rfl,M1.at_,by decide,by decide,by omega,by omega,by omega,fun l1 H2 M2=>?_⟩
 have S2:=M1.same.trans M2.same
 have hl1:=M2.at_
 rw [show (((r+c:Nat):Int) - 0).toNat=r+c by omega,upZ_nV] at hl1
 have N2:=N.same S2
 have ob2:=N2.ob
 refine ⟨_,rfl,_,_,_,_,_,rfl,by assumption,T.cl_Net,T.na_Net_ways,by rfl,?_⟩
 intro x dq nx ndq nexd
 have up:∀b o,H2 b=some o->upd (upd H2 dq (.own x)) x (.ins T.c_Reach dq []) b=some o:=fun b o e=>by rw [upd_ne (ne_of_none e nx),upd_ne (ne_of_none e ndq)]; exact e
 refine ⟨x,dq,l1,wl,List.range (r+c),ds,kv,r+c,G,pi,rfl,upd_same,up _ _ hl1,List.nodup_range,fun z hz=>List.mem_range.mp hz,N2.ws.same up,n1,gr,fun H3 cl al D ah fr R ncl nal L=>⟨rfl,?_⟩⟩
 have S23:Same H2 H3:=fun b o e=>fr b o (up b o e) (ne_of_none e nx)
 have S3:=S2.trans S23
 have N3:=N.same S3
 have ob3:=N3.ob
 have rob:=R.ob
 obtain ⟨xs,hcl,hxl,hxs⟩:=R.co
 have lab:∀v,v<r+c->∃d,D v=some d:=fun v hv=>L.sta v (List.mem_range.mpr hv)
 obtain ⟨d,hd⟩:∃d:Nat->Q2,∀v,v<r+c->D v=some (d v):=⟨fun v=>(D v).getD (1,1),fun v hv=>by
  obtain ⟨y,e⟩:=lab v hv
  dsimp only
  rw [e]; rfl⟩
 have dp:∀v,v<r+c->qpos (d v)/\(d v).1<2 ^ (80*(r+c)+1)/\(d v).2<2 ^ (80*(r+c)+1):=fun v hv=>⟨(L.dom v _ (hd v hv)).2,(L.size (hd v hv)).1,(L.size (hd v hv)).2⟩
 have dt:∀v y,xs[v]?=some y->v<r+c/\∃t,y = .ref t/\H3 t=some (.tup [.int (d v).1,.int (d v).2]):=fun v y e=>by
  have hv:v<r+c:=by have:=(List.getElem?_eq_some_iff.mp e).1; omega
  have:=hxs v y e
  rw [hd v hv] at this
  exact ⟨hv,this⟩
 have fit:∀z:Int,0<z->z<2 ^ (80*(r+c)+1)->Fits z:=fun z h1 h2=>ZG (Int.le_of_lt h1) h2 (by omega)
 refine ⟨_,_,_,_,_,rfl,by assumption,T.cl_Reach,T.na_Reach_costs,by rfl,_,rfl,_,rfl,_,_,_,_,_,rfl,by assumption,T.cl_Net,T.na_Net_height,by rfl,_,rfl,?_⟩
 refine ⟨cl,xs,rfl,SqL.of hcl,fun l4 H4 N4=>?_⟩
 rw [cut_to (by omega)] at N4
 have S34:=N4.same
 refine comp_ratios (e:=fun k=>((d k).2,(d k).1)) (SqL.of N4.at_) (by rw [List.length_take]; exact Nat.le_trans (show _<=40 by omega) (by decide)) (fun i y H Q' hy SH hQ=>?_) fun ra R5 H5 S5 lra hra hRL=>?_
 ·rw [List.getElem?_take] at hy
  split at hy
  ·rename_i hi
   obtain ⟨hv,t,rfl,ht⟩:=dt i y hy
   have ht':=SH _ _ (S34 _ _ ht)
   obtain ⟨d0,d1,d2⟩:=dp i hv
   refine ⟨_,rfl,_,_,_,_,rfl,rfl,Or.inr (SqT.of ‹_›),rfl,_,rfl,_,_,_,_,rfl,rfl,Or.inr (SqT.of ‹_›),rfl,?_⟩
   exact ⟨_,_,rfl,Int.le_of_lt d0.2,d0.1,fit _ d0.1 d1,fun p H' u v L5 N5=>hQ p H' u v L5 N5⟩
  ·cases hy
 intro l6 H6 N6
 have S36:=S34.trans (S5.trans N6.same)
 have hcl6:=S36 _ _ hcl
 have ob6:=S36 _ _ ob3
 have lr:(xs.take r).length=r:=by rw [List.length_take]; omega
 rw [lr] at lra hRL
 refine ⟨_,rfl,_,rfl,_,_,_,_,_,rfl,by assumption,T.cl_Net,T.na_Net_height,by rfl,_,rfl,?_⟩
 refine ⟨cl,xs,rfl,SqL.of hcl6,fun l7 H7 N7=>?_⟩
 rw [cut_from (by omega)] at N7
 have S37:=S36.trans N7.same
 have lc:(xs.drop r).length=c:=by rw [List.length_drop]; omega
 refine comp_ratios (e:=fun k=>((d (r+k)).1,(d (r+k)).2)) (SqL.of N7.at_) (by rw [lc]; exact Nat.le_trans (show _<=40 by omega) (by decide)) (fun i y H Q' hy SH hQ=>?_) fun ca C8 H8 S8 lca hca hCL=>?_
 ·rw [List.getElem?_drop] at hy
  obtain ⟨hv,t,rfl,ht⟩:=dt (r+i) y hy
  have ht':=SH _ _ (S37 _ _ ht)
  obtain ⟨d0,d1,d2⟩:=dp (r+i) hv
  refine ⟨_,rfl,_,_,_,_,rfl,rfl,Or.inr (SqT.of ‹_›),rfl,_,rfl,_,_,_,_,rfl,rfl,Or.inr (SqT.of ‹_›),rfl,?_⟩
  exact ⟨_,_,rfl,Int.le_of_lt d0.1,d0.2,fit _ d0.2 d2,fun p H' u v L5 N5=>hQ p H' u v L5 N5⟩
 intro l9 H9 N9
 rw [lc] at lca hCL
 have S39:=S37.trans (S8.trans N9.same)
 have S09:=S3.trans S39
 have N9':=N.same S09
 have ob9:=N9'.ob
 have h6:=(N7.same.trans (S8.trans N9.same)) _ _ N6.at_
 refine ⟨_,rfl,_,_,_,_,_,rfl,by assumption,T.cl_Net,T.na_Net_seats,by rfl,_,rfl,_,rfl,?_⟩
 intro y dy ny ndy neyd
 have up9:∀b o,H9 b=some o->upd (upd H9 dy (.own y)) y (.ins T.c_QC dy []) b=some o:=fun b o e=>by rw [upd_ne (ne_of_none e ny),upd_ne (ne_of_none e ndy)]; exact e
 have m9:=N9'.st.same up9
 refine ⟨y,dy,sl,l6,l9,S,r,c,_,_,rfl,upd_same,m9.mat,by omega,SqL.of (up9 _ _ h6),SqL.of (up9 _ _ N9.at_),fun H' sl' rl' cl' as' fr' hy' m' hr' hc' n1' n2' n3' n4' sa' ra' ca' ne'=>⟨rfl,?_⟩⟩
 have S9':Same H9 H':=fun b o e=>fr' b o (up9 b o e) (ne_of_none e ny)
 have fin:∀b,upd (upd H9 dy (.own y)) y (.ins T.c_QC dy []) b=none->H b=none:=fun b z=>by
  cases e:H b with
  | none=>rfl
  | some o=>have:=up9 _ _ (S09 _ _ e); rw [z] at this; cases this
 have cells:Cells a b U S r c (fun v=>if v<r+c then d v else (1,1)):=NE.cells tab fun u v w e=>by
  obtain ⟨hu,hv,_⟩:=gr.lt u v w e
  obtain ⟨dv,e1,e2⟩:=L.opt u (d u) v w (hd u hu) (fun z=>z) e
  rw [hd v hv] at e1
  cases e1
  rw [if_pos hu,if_pos hv]
  exact e2
 refine q H' y dy sl' rl' cl' as' ra ca R5 C8 (S09.trans S9') (S09.free ny) ⟨hy',m',hr',lra,fun i x e=>S9' _ _ ((N6.same.trans (N7.same.trans (S8.trans N9.same))) _ _ (hra i x e)),hc',lca,fun j x e=>S9' _ _ (N9.same _ _ (hca j x e)),sa',ra',ca',ne'⟩ ⟨fun i hi=>?_,fun j hj=>?_,fun i j hi hj=>?_⟩ (fin _ n1') (fin _ n2') (fin _ n3') (fun z hz=>fin _ (n4' z hz))
 ·obtain ⟨d0,d1,d2⟩:=dp i (by omega)
  have L5:=hRL i hi
  have lx:=L5.lex
  have ly:=L5.ley
  exact ⟨low_pos d0.2 L5,L5.y0,L5.one,Int.lt_of_le_of_lt lx d2,Int.lt_of_le_of_lt ly d1⟩
 ·obtain ⟨d0,d1,d2⟩:=dp (r+j) (by omega)
  have L5:=hCL j hj
  have lx:=L5.lex
  have ly:=L5.ley
  exact ⟨low_pos d0.1 L5,L5.y0,L5.one,Int.lt_of_le_of_lt lx d1,Int.lt_of_le_of_lt ly d2⟩
 ·refine deal_fits tab.a0 (by have:=tab.a0; have:=tab.ab; omega) (dp i (by omega)).1 (dp (r+j) (by omega)).1 (hRL i hi) (hCL j hj) (tab.v0 i j hi hj).1 (tab.s0 i j hi hj).1 (tab.z i j hi hj) fun hv=>?_
  have:=cells i j hi hj hv
  dsimp only at this
  rw [if_pos (by omega),if_pos (by omega)] at this
  exact this
end
end K7
namespace SW
open PySem L2
theorem sumZ_pos {f:Nat->Int}:∀{n:Nat},0<sumZ n f->∃i,i<n/\0<f i
 | 0,h=>absurd h (by unfold sumZ; decide)
 | n+1,h=>by
  unfold sumZ at h
  by_cases q:0<f n
  ·exact ⟨n,by omega,q⟩
  ·obtain ⟨i,h1,h2⟩:=sumZ_pos (n:=n) (f:=f) (by omega)
   exact ⟨i,by omega,h2⟩
theorem sumZ_nil {f:Nat->Int} {n:Nat} (h0:∀i,i<n->0<=f i) (h:sumZ n f<=0) {i:Nat} (hi:i<n):f i=0:=by
 rcases Int.lt_or_le 0 (f i) with q | q
 ·have:=sumZ_lt (n:=n) (f:=fun _=>0) (g:=f) (k:=i) (fun j hj=>h0 j hj) hi q
  rw [sumZ_zero] at this
  omega
 ·have:=h0 i hi; omega
theorem sumZ_split (f:Nat->Int) (r:Nat):∀c,sumZ (r+c) f=sumZ r f+sumZ c fun j=>f (r+j)
 | 0=>by unfold sumZ; simp
 | c+1=>by
  show sumZ (r+c) f+f (r+c)=sumZ r f+(sumZ c (fun j=>f (r+j))+f (r+c))
  rw [sumZ_split f r c]
  omega
theorem row_app (r c:Nat) (p q:Nat->Int):row r p++row c q=row (r+c) fun x=>if x<r then p x else q (x - r):=by
 unfold row
 rw [List.range_add,List.map_append,List.map_map]
 congr 1
 ·apply List.map_congr_left
  intro x hx
  rw [if_pos (List.mem_range.mp hx)]
 ·apply List.map_congr_left
  intro x _
  show q x=if r+x<r then p (r+x) else q (r+x - r)
  rw [if_neg (by omega),show r+x - r=x by omega]
theorem row_fset {n z:Nat} {f:Nat->Int} {v:Int} (h:z<n):((row n f).map V.int).set z (.int v)=(row n (fset f z v)).map V.int:=by
 rw [<-List.map_set,row_set h]
 rfl
theorem PL_last (p:Nat->Nat) (k:Nat):atI (PL p k) (-1)=some (.int (p k:Int)):=by
 unfold atI ixN
 rw [PL_len,if_neg (by omega),if_pos (by omega),show ((-1:Int)+((k+1:Nat):Int)).toNat=k by omega]
 show (PL p k)[k]?=_
 unfold PL
 rw [List.getElem?_map,List.getElem?_range (by omega)]
 rfl
theorem comp_rowsN {K:W.Frag} {te:TE} {σ:St} {j:Nat} {R:List V->Hp->Prop} {H1:Hp} {a:Addr} {ts:List V} {g:Nat->Nat->Int} {c:Nat} (ha:SqL K H1 a ts) (hz:ts.length<=sizeLine)
  (hs:∀(i:Nat) (x:V) (H:Hp) (Q:VK),ts[i]?=some x->Same H1 H->(∀l H',New H H' l (.lst ((row c (g i)).map V.int))->Q (.ref l) H')->te (σ.set j (some x)) H Q)
  (hd:∀(bs:List Addr) (H:Hp),Same H1 H->bs.length=ts.length->bs.Nodup->(∀b,b∈bs->H1 b=none)->(∀(k:Nat) (b:Addr),bs[k]?=some b->H b=some (.lst ((row c (g k)).map V.int)))->R (bs.map V.ref) H):∃a',V.ref a = .ref a'/\(∃xs,SqL K H1 a' xs)/\CompW (Itl K a') (gName j) tYes te (wipe [j] σ) R H1:=by
 refine ⟨a,rfl,⟨_,ha⟩,?_⟩
 refine comp_list (fun i ys H2=>Same H1 H2/\∃bs:List Addr,ys=bs.map V.ref/\bs.length=i/\bs.Nodup/\(∀b,b∈bs->H1 b=none)/\∀(k:Nat) (b:Addr),bs[k]?=some b->H2 b=some (.lst ((row c (g k)).map V.int))) hz ⟨Same.refl _,[],rfl,rfl,List.nodup_nil,fun b h=>(by cases h),fun k b e=>(by simp at e)⟩ (fun i ys H2 _ h=>h.1.seq ha) ?_ ?_
 ·rintro i x ys H2 hx ⟨S2,bs,rfl,lb,nd,nbs,hb⟩
  refine yes (hs i x H2 _ hx S2 fun l H3 N3=>?_)
  refine ⟨S2.trans N3.same,bs++[l],by simp,by simp [lb],?_,fun d hd=>?_,fun k d e=>?_⟩
  ·refine List.nodup_append.mpr ⟨nd,by simp,fun x hx y hy=>?_⟩
   have:y=l:=by simpa using hy
   subst this
   rintro rfl
   obtain ⟨n,hn,en⟩:=List.getElem_of_mem hx
   have:=hb n x (by rw [List.getElem?_eq_getElem hn,en])
   rw [N3.gone] at this
   cases this
  ·rcases List.mem_append.mp hd with h | h
   ·exact nbs d h
   ·have:d=l:=by simpa using h
    rw [this]
    exact S2.free N3.gone
  ·by_cases hk:k<bs.length
   ·rw [List.getElem?_append_left hk] at e
    exact N3.same _ _ (hb k d e)
   ·rw [List.getElem?_append_right (by omega)] at e
    have hz:k - bs.length=0:=by have:=(List.getElem?_eq_some_iff.mp e).1; simp at this; omega
    rw [hz] at e
    have ed:d=l:=by simpa using e.symm
    have ek:k=i:=by omega
    rw [ed,ek]
    exact N3.at_
 ·rintro ys H2 ⟨S2,bs,rfl,lb,nd,nbs,hb⟩
  exact hd bs H2 S2 lb nd nbs hb
section
variable {K:W.Frag} {cN fm:Addr} {ff:Option Addr} {H0 H H':Hp} {p dx vt rl sl wl:Addr} {as ds:List Addr} {U S:Nat->Nat->Int} {r c:Nat} {a b:Int} {kv kv':Nat->List (Key×V)} {E E':Nat->Nat->Option Q2}
theorem NetH.off (N:NetH K cN fm ff H0 H p dx vt rl sl wl as ds U S r c a b kv E) {x:Addr} {ys:List V} {o:HO} (hx:H x=some (.lst ys)) (nx:H0 x=none) (xs:sl≠x) (xw:wl≠x) (xa:x∉as):NetH K cN fm ff H0 (upd H x o) p dx vt rl sl wl as ds U S r c a b kv E:=
 ⟨N.base.upd nx,N.mat,N.rule,by rw [upd_ne (ne_of N.ob hx (by intro z; cases z))]; exact N.ob,N.st.keep xs xa,N.ws.keep hx xw,N.na,N.nd,N.sa,N.wa⟩
end
def dueF (r:Nat) (pe qe:Nat->Int) (x:Nat):Int:=if x<r then pe x else qe (x - r)
structure Due (r c:Nat) (pe qe:Nat->Int):Prop where
 p0:∀i,i<r->0<=pe i/\pe i<=400
 q0:∀j,j<c->0<=qe j/\qe j<=400
 eq:sumZ r pe=sumZ c qe
end SW
namespace K7
open PySem L2 SW
section
variable {P:Program} {w:World} {K:W.Frag} {mg:Str->Option Value} {base:Heap}
structure Bars (U:Nat->Nat->Int) (r c:Nat) (pe qe:Nat->Int) (f g:Nat->Bool):Prop where
 no:∀i j,i<r->j<c->f i=false->g j=true->¬0<U i j
 more:sumZ r (fun i=>if f i=true then pe i else 0)<sumZ c (fun j=>if g j=true then qe j else 0)
structure Sums (U S:Nat->Nat->Int) (r c:Nat) (pe qe:Nat->Int):Prop where
 rows:∀i,i<r->sumZ c (S i)=pe i
 cols:∀j,j<c->sumZ r (fun i=>S i j)=qe j
 s0:∀i j,i<r->j<c->0<=S i j/\S i j<=400/\(0<S i j->0<U i j)
def spWoven (T:Txt K mg):Sp:=fun vs H Q _=>∃(vt pl pt rl:Addr) (U:Nat->Nat->Int) (r c:Nat) (pe qe:Nat->Int) (a b:Int),vs=[.ref vt,.ref pl,.ref pt,.ref rl]/\Mat K H vt (mkT U r c)/\H pl=some (.lst ((row r pe).map V.int))/\H pt=some (.lst ((row c qe).map V.int))/\T.rl H rl a b/\r+c<=40/\(∀i j,i<r->j<c->0<=U i j/\U i j<=10 ^ 15)/\Due r c pe qe /\
 (∀(H':Hp) (q dq sl rl' cl:Addr) (as ra ca:List Addr) (S:Nat->Nat->Int) (R C:Nat->Q2),Same H H'->H q=none->DealH T.c_QC H' q dq sl rl' cl as ra ca S r c R C->DealOk a b U S r c R C->Sums U S r c pe qe->H sl=none->H rl'=none->H cl=none->(∀x,x∈as->H x=none)->Q (.ref q) H') /\
 (∀(H':Hp) (q dq rl' cl:Addr) (f g:Nat->Bool),Same H H'->H q=none->H' q=some (.ins T.c_Bar dq (barF rl' cl))->H' rl'=some (.lst ((sel r f).map nV))->H' cl=some (.lst ((sel c g).map nV))->H rl'=none->H cl=none->rl'≠cl->Bars U r c pe qe f g->Q (.ref q) H')
theorem ok_woven0 (T:Txt K mg):FnOk P w K mg base CX0 8 T.a_woven T.fd_woven ["votes","places","parties","rule"] (spWoven T):=by
 refine T.F_woven.ok sc_woven (fun vs H Q E h=>?_) (fun cdv A outer s H vs Q E hr h=>?_)
 ·obtain ⟨vt,pl,pt,rl,U,r,c,pe,qe,a,b,rfl,_⟩:=h
  rfl
 obtain ⟨vt,pl,pt,rl,U,r,c,pe,qe,a,b,rfl,mv,hpl,hpt,hrl,n1,ub,du,qD,qB⟩:=h
 refine ⟨_,(pss_cons (ps_set (i:=4) sc_woven.nd rfl (Or.inl rfl) (pe_callB (len_Q K) (by rfl) T.n_len PySem.boot_len (pa_cons (pv 1) pa_nil)))
   (pss_cons (ps_set (i:=5) sc_woven.nd rfl (Or.inl rfl) (pe_make T.M_Net (ok_Qq T) (hr.mono (by decide)) rfl T.m_Net T.b_Qq .nil pass0 (pa_cons (pv 0) (pa_cons (ZD [10] rfl (ZK rfl) (ZB K (pv 0)) (fun _=>(pg_name (i:=10) sc_woven.nd rfl (Or.inl rfl))) (fun _=>ZL) (fun _=>(ZD [11] rfl (ZK rfl) (ZB K (pv 2)) (fun _=>(pg_name (i:=11) sc_woven.nd rfl (Or.inl rfl))) (fun _=>ZL) (fun _=>pe_int)))) (pa_cons (pe_callB (len_Q K) (by rfl) T.n_len PySem.boot_len (pa_cons (pv 2) pa_nil)) (pa_cons (pv 3) pa_nil))))))
   (pss_cons (ps_set (i:=6) sc_woven.nd rfl (Or.inr rfl) (pe_op op_catN (pv 1) (pv 2)))
   (pss_cons (ps_while PassesOwn.never (pt_cmpR op_gt (pe_callB (sum_Q K rfl) (by rfl) T.n_sum PyProof.Rows.boot_sum (pa_cons (pv 6) pa_nil)) pe_int (nomark _))
   (pss_cons (ps_set (i:=7) sc_woven.nd rfl (Or.inl rfl) (pe_make T.M_Reach (ok_Qh T) (hr.mono (by decide)) rfl T.m_Reach T.b_Qh .nil pass0 (pa_cons (ZD [12] rfl (ZK rfl) (pi_range1 rfl T.n_range (pa_cons (pv 4) pa_nil)) (fun _=>(pg_name (i:=12) sc_woven.nd rfl (Or.inl rfl))) (fun _=>pts_one (pt_cmpR op_gt (pe_ix (ix_Q K) (pv 6) (pv 12) (fun _ _=>rfl)) pe_int (nomark _))) (fun _=>(pv 12))) (pa_cons (ZA K (pv 5) rfl) pa_nil))))
   (pss_cons (ps_set (i:=8) sc_woven.nd rfl (Or.inl rfl) (pe_call (ok_Qn T) (hr.mono (by decide)) rfl T.m_Qn T.F_Qn.kp T.b_Qn .nil pass0 (pa_cons (pv 7) (pa_cons (pv 6) (pa_cons (pv 4) pa_nil)))))
   (pss_cons (ps_if (pt_cmpR op_eqI (pe_callB (len_Q K) (by rfl) T.n_len PySem.boot_len (pa_cons (pv 8) pa_nil)) pe_int (nomark _))
   (pss_one (ps_ret (pe_call (ok_Qo T) (hr.mono (by decide)) rfl T.m_Qo T.F_Qo.kp T.b_Qo .nil pass0 (pa_cons (pv 7) (pa_cons (pv 4) pa_nil)))))
   pss_nil)
   (pss_cons (ps_set (i:=9) sc_woven.nd rfl (Or.inl rfl) (pe_meth (pv 7) T.cl_Reach T.mt_Qf (ok_Qf T) (hr.mono (by decide)) T.b_Qf .nil pass0 (pa_cons (pe_ix (ix_Q K) (pv 8) pe_int (fun _ _=>rfl)) pa_nil)))
   (pss_cons (ps_expr (pe_meth (pv 5) T.cl_Net T.mt_Qs (ok_Qs T) (hr.mono (by decide)) T.b_Qs .nil pass0 (pa_cons (pv 9) pa_nil)))
   (pss_cons (ps_augS (pv 6) (pe_ix (ix_Q K) (pv 9) pe_int (fun _ _=>rfl)) (getL_Q K) pe_int ip_sub set_list)
   (pss_one (ps_augS (pv 6) (pe_ix (ix_Q K) (pv 9) (pe_un un_neg pe_int) (fun _ _=>rfl)) (getL_Q K) pe_int ip_sub set_list)))))))))
   (pss_one (ps_ret (pe_call (ok_Qc T) (hr.mono (by decide)) rfl T.m_Qc T.F_Qc.kp T.b_Qc .nil pass0 (pa_cons (pv 5) pa_nil)))))))),?_⟩
 have a0:=hrl.a0
 have ab:=hrl.ab
 have b1:=hrl.b1
 obtain ⟨ts,tsl,tl⟩:=mv.top
 refine ⟨_,rfl,_,_,rfl,Or.inl (SqL.of ‹_›),_,rfl,_,rfl,?_⟩
 rw [List.length_map,ZJ]
 refine comp_rowsN (g:=fun _ _=>0) (c:=c) tsl (by rw [tl]; exact Nat.le_trans (show r<=40 by omega) (by decide)) (fun i x H1 Q' hx S1 hQ=>?_) fun bs H1 S1 lb nd nbs hb=>?_
 ·have hpt1:=S1 _ _ hpt
  refine ⟨_,rfl,?_⟩
  refine ⟨pt,rfl,⟨_,SqL.of hpt1⟩,comp_mapL (fun _ => .int 0) (SqL.of hpt1) (by rw [List.length_map,ZJ]; exact Nat.le_trans (show c<=40 by omega) (by decide)) (fun i x Q _ h=>h) fun l H2 N2=>hQ l H2 ?_⟩
  have:((row c qe).map V.int).map (fun _=>V.int 0)=(row c fun _=>0).map V.int:=by unfold row; rw [List.map_map,List.map_map,List.map_map]; rfl
  rw [<-this]
  exact N2
 intro s0 H2 N2
 rw [tl] at lb
 have S2:=S1.trans N2.same
 have hpt2:=S2 _ _ hpt
 have hpl2:=S2 _ _ hpl
 have m0:Mat K H2 s0 (mkT (fun _ _=>0) r c):=by
  refine ⟨bs,SqL.of N2.at_,by rw [mk_len]; exact lb,fun i x y e1 e2=>SqL.of ?_⟩
  have hi:i<r:=by have:=(List.getElem?_eq_some_iff.mp e1).1; omega
  rw [mk_get hi] at e2
  rw [<-Option.some.inj e2]
  exact N2.same _ _ (hb i x e1)
 refine ⟨_,rfl,_,_,rfl,Or.inl (SqL.of ‹_›),_,rfl,?_⟩
 rw [List.length_map,ZJ]
 intro np dn nnp ndn nedn
 have up2:∀b o,H2 b=some o->upd (upd H2 dn (.own np)) np (.ins T.c_Net dn []) b=some o:=fun b o e=>by rw [upd_ne (ne_of_none e nnp),upd_ne (ne_of_none e ndn)]; exact e
 have tab0:TabOk a b U (fun _ _=>0) r c:=⟨a0,ab,b1,ub,fun i j _ _=>⟨by decide,by decide⟩,fun i j _ _ z=>absurd z (by decide)⟩
 refine ⟨H2,np,dn,vt,rl,s0,U,fun _ _=>0,r,c,a,b,rfl,upd_same,up2,nnp,mv.same S2,hrl.same S2,m0,n1,tab0,fun H3 sl wl as ds kv G net NE fr3=>⟨rfl,?_⟩⟩
 have S23:Same H2 H3:=net.base
 have S3:=S2.trans S23
 have hpl3:=S3 _ _ hpl
 have hpt3:=S3 _ _ hpt
 refine ⟨_,rfl,_,rfl,?_⟩
 refine ⟨pl,pt,_,_,rfl,rfl,hpl3,hpt3,by rw [List.length_map,List.length_map,ZJ,ZJ]; exact Nat.le_trans n1 (by decide),fun ll H4 N4=>?_⟩
 rw [<-List.map_append,row_app] at N4
 have nll:H2 ll=none:=S23.free N4.gone
 have asome:∀{H:Hp} {S:Nat->Nat->Int},MatM H sl as (mkT S r c)->∀x,x∈as->H x≠none:=fun {H S} m x hx z=>by
  obtain ⟨n,hn,en⟩:=List.getElem_of_mem hx
  have hl:=m.len
  rw [mk_len] at hl
  have:=m.rows n x _ (by rw [List.getElem?_eq_getElem hn,en]) (mk_get (by omega))
  rw [z] at this
  cases this
 have lla:ll∉as:=fun z=>asome net.st ll z N4.gone
 have lls:sl≠ll:=fun z=>by have:=net.st.top; rw [z,N4.gone] at this; cases this
 have llw:wl≠ll:=fun z=>by have:=net.ws.top; rw [z,N4.gone] at this; cases this
 have rowE:∀{S:Nat->Nat->Int} {i:Nat},i<r->ls r c S i=sumZ c (S i):=fun {S i} hi=>by unfold ls; rw [if_pos hi]
 have colE:∀{S:Nat->Nat->Int} {j:Nat},ls r c S (r+j)=sumZ r (fun i=>S i j):=fun {S j}=>by unfold ls; rw [if_neg (by omega),show r+j - r=j by omega]
 have duR:∀{i:Nat},i<r->dueF r pe qe i=pe i:=fun {i} hi=>by unfold dueF; rw [if_pos hi]
 have duC:∀{j:Nat},dueF r pe qe (r+j)=qe j:=fun {j}=>by unfold dueF; rw [if_neg (by omega),show r+j - r=j by omega]
 have due0:∀x,x<r+c->0<=dueF r pe qe x/\dueF r pe qe x<=400:=fun x hx=>by
  unfold dueF
  split
  ·exact du.p0 x ‹_›
  ·exact du.q0 (x - r) (by omega)
 have sle:∀{S:Nat->Nat->Int} {lf:Nat->Int},(∀i j,i<r->j<c->0<=S i j)->(∀x,x<r+c->0<=lf x)->(∀x,x<r+c->ls r c S x+lf x=dueF r pe qe x)->∀i j,i<r->j<c->S i j<=400:=fun {S lf} s0 l0 sm i j hi hj=>by
  have h1:=sm i (by omega)
  rw [rowE hi,duR hi] at h1
  have h2:=l0 i (by omega)
  have h3:=du.p0 i hi
  have h4:=sumZ_le (n:=c) (f:=fun y=>if y=j then S i j else 0) (g:=S i) fun y hy=>by
   by_cases e:y=j
   ·rw [if_pos e,e]; exact Int.le_refl _
   ·rw [if_neg e]; exact s0 i y hi hy
  have h5:=sumZ_upd (f:=fun _=>0) (g:=fun y=>if y=j then S i j else 0) (k:=j) (fun y hy=>if_neg hy) c
  rw [sumZ_zero,if_pos hj,if_pos rfl] at h5
  omega
 obtain ⟨pi0,pp0,cs0⟩:=cells0 (V:=U) (S:=fun _ _=>0) (r:=r) (c:=c) a0 ab (fun i j hi hj=>(ub i j hi hj).2) (fun _ _ _ _=>rfl)
 refine ⟨fun m σ H'=>∃(v7 v8 v9:Option V) (lf:Nat->Int) (S:Nat->Nat->Int) (kv:Nat->List (Key×V)) (E:Nat->Nat->Option Q2) (pi:Nat->Q2),σ=[some (.ref vt),some (.ref pl),some (.ref pt),some (.ref rl),some (.int (r:Int)),some (.ref np),some (.ref ll),v7,v8,v9,none,none,none]/\T.net H2 H' np dn vt rl sl wl as ds U S r c a b kv E/\NetE a b U S r c E/\TabOk a b U S r c/\(∀v,qpos (pi v))/\Cells a b U S r c pi/\H' ll=some (.lst ((row (r+c) lf).map V.int))/\(∀x,x<r+c->0<=lf x)/\(∀x,x<r+c->ls r c S x+lf x=dueF r pe qe x)/\m=(sumZ (r+c) lf).toNat,?_,?_⟩
 ·refine ⟨_,_,_,_,dueF r pe qe,_,kv,G,pi0,rfl,net.same N4.same,NE,tab0,pp0,cs0,N4.at_,fun x hx=>(due0 x hx).1,fun x hx=>?_,rfl⟩
  have:ls r c (fun _ _=>0) x=0:=by
   unfold ls
   split
   ·exact sumZ_zero c
   ·exact sumZ_zero r
  omega
 rintro m σ H5 ⟨v7,v8,v9,lf,S,kv5,E5,pi5,rfl,net5,NE5,tab5,pp5,cs5,hll,l0,sums,rfl⟩
 have S5:Same H H5:=S2.trans net5.base
 have ob5:=net5.ob
 refine ⟨_,rfl,_,_,rfl,SqL.of ‹_›,_,_,rfl,rfl,_,rfl,?_⟩
 rw [row_sum]
 have tot:sumZ (r+c) lf=2*sumZ c (fun j=>lf (r+j)):=by
  have h1:=sumZ_split lf r c
  have h2:sumZ r (fun i=>sumZ c (S i))+sumZ r lf=sumZ r pe:=by
   rw [<-sumZ_add]
   refine sumZ_congr fun i hi=>?_
   have:=sums i (by omega)
   rw [rowE hi,duR hi] at this
   exact this
  have h3:sumZ c (fun j=>sumZ r fun i=>S i j)+sumZ c (fun j=>lf (r+j))=sumZ c qe:=by
   rw [<-sumZ_add]
   refine sumZ_congr fun j hj=>?_
   have:=sums (r+j) (by omega)
   rw [colE,duC] at this
   exact this
  have h4:=sumZ_swap S c r
  have:=du.eq
  omega
 refine ite3 (fun more=>⟨_,fun _ _ h=>h,?_⟩) (fun less=>?_)
 · 
  refine ⟨_,rfl,?_⟩
  refine ⟨_,rfl,by omega,by omega,?_⟩
  rw [Int.toNat_natCast]
  refine comp_filR (fun i=>decide (0<lf i)) (fun i=>nV i) (Nat.le_trans (show r<=40 by omega) (by decide)) (fun i Q' hi hQ=>?_) (fun i Q' hi _ hQ=>?_) ?_
  ·rw [show (0:Int)+(i:Int)=(i:Int) by omega]
   have at1:atI ((row (r+c) lf).map V.int) (i:Int)=some (.int (lf i)):=at_row (by omega)
   refine ⟨_,rfl,_,rfl,_,_,_,_,rfl,rfl,Or.inl (SqL.of ‹_›),by assumption,_,_,rfl,rfl,_,rfl,?_⟩
   exact hQ
  ·rw [show (0:Int)+(i:Int)=(i:Int) by omega]
   refine ⟨_,rfl,?_⟩
   exact hQ
  intro l6 H6 N6
  have hl6:H6 l6=some (.lst ((sel r fun i=>decide (0<lf i)).map nV)):=N6.at_
  have net6:=net5.same N6.same
  have ob6:=net6.ob
  refine ⟨_,rfl,_,_,_,_,_,rfl,by assumption,T.cl_Net,T.na_Net_ways,by rfl,?_⟩
  intro xq dq nxq ndq neq
  have up6:∀b o,H6 b=some o->upd (upd H6 dq (.own xq)) xq (.ins T.c_Reach dq []) b=some o:=fun b o e=>by rw [upd_ne (ne_of_none e nxq),upd_ne (ne_of_none e ndq)]; exact e
  have gr:=NE5.gr tab5 pp5 cs5
  refine ⟨xq,dq,l6,wl,sel r fun i=>decide (0<lf i),ds,kv5,r+c,E5,pi5,rfl,upd_same,up6 _ _ hl6,sel_nd _ _,fun z hz=>by have:=(sel_mem.mp hz).1; omega,net6.ws.same up6,n1,gr,fun H7 cl al D ah fr7 R ncl nal L=>⟨rfl,?_⟩⟩
  have S67:Same H6 H7:=fun b o e=>fr7 b o (up6 b o e) (ne_of_none e nxq)
  have S57:=N6.same.trans S67
  have net7:=net5.same S57
  have hll7:=S57 _ _ hll
  refine ⟨_,rfl,_,rfl,_,rfl,?_⟩
  refine ⟨xq,dq,cl,al,ll,r,c,D,ah,lf,rfl,R,hll7,n1,fun le H8 N8=>?_⟩
  have R8:=R.same N8.same
  have S58:=S57.trans N8.same
  have hle:=N8.at_
  refine ⟨_,rfl,_,_,rfl,Or.inl (SqL.of ‹_›),_,_,rfl,rfl,_,rfl,?_⟩
  rw [List.length_map]
  cases hsel:(sel c fun j=>decide (0<lf (r+j))&&(D (r+j)).isSome) with
  | nil=>
   refine iteDT rfl ?_
   refine ⟨_,rfl,_,rfl,?_⟩
   refine ⟨xq,dq,cl,al,r,c,D,ah,rfl,R8,n1,fun q dq' rl' cl' H9 S9 nq hq h1 h2 n1' n2' ne=>?_⟩
   have S89:=S5.trans S58
   obtain ⟨j0,hj0,some0⟩:=sumZ_pos (n:=c) (f:=fun j=>lf (r+j)) (by omega)
   have bar:=barred NE5 tab5 L (due:=dueF r pe qe) (left:=lf) (fun i hi h=>sel_mem.mpr ⟨hi,by simp [h]⟩) l0 sums (fun j hj h=>by
    cases e:D (r+j) with
    | none=>rfl
    | some d=>
     have:j∈sel c fun j=>decide (0<lf (r+j))&&(D (r+j)).isSome:=sel_mem.mpr ⟨hj,by simp [h,e]⟩
     rw [hsel] at this
     cases this) hj0 some0
   refine qB H9 q dq' rl' cl' (fun i=>(D i).isNone) (fun j=>(D (r+j)).isNone) (S89.trans S9) (S89.free nq) hq h1 h2 (S89.free n1') (S89.free n2') ne ⟨fun i j hi hj h1 h2=>bar.1 i j hi hj (fun z=>by rw [z] at h1; cases h1) (Option.isNone_iff_eq_none.mp h2),?_⟩
   have e1:sumZ r (fun i=>if (D i).isNone=true then pe i else 0)=sumZ r (fun i=>if D i=none then dueF r pe qe i else 0):=sumZ_congr fun i hi=>by
    rw [duR hi]
    cases D i <;> simp
   have e2:sumZ c (fun j=>if (D (r+j)).isNone=true then qe j else 0)=sumZ c (fun j=>if D (r+j)=none then dueF r pe qe (r+j) else 0):=sumZ_congr fun j hj=>by
    rw [duC]
    cases D (r+j) <;> simp
   rw [e1,e2]
   exact bar.2
  | cons j1 js=>
   refine iteDF (by rw [List.length_cons]; omega) ?_
   have hj1:=sel_mem.mp (show j1∈sel c fun j=>decide (0<lf (r+j))&&(D (r+j)).isSome by rw [hsel]; exact List.mem_cons_self)
   obtain ⟨hj1c,hj1b⟩:=hj1
   have lf1:0<lf (r+j1):=by simp at hj1b; exact hj1b.1
   obtain ⟨d1,hd1⟩:∃d,D (r+j1)=some d:=by
    cases e:D (r+j1) with
    | none=>rw [e] at hj1b; simp at hj1b
    | some d=>exact ⟨d,rfl⟩
   rw [hsel] at hle
   have at0:atI ((j1 :: js).map fun j=>nV (r+j)) 0=some (.int ((r+j1:Nat):Int)):=atI_nat' (v:=0) rfl
   have ob8:=R8.ob
   obtain ⟨k,hk⟩:=L.up _ _ hd1
   obtain ⟨p',e1,e2,e3,e4,W⟩:=Lab.way NE5 L hk hd1
   have pn:∀j,j<=k->p' j<r+c:=fun j hj=>by
    by_cases q:j=k
    ·rw [q,e1]; omega
    ·obtain ⟨du',_,_,z,_⟩:=W.tight j (by omega)
     exact (L.dom _ _ z).1
   have k1:k+1<=r+c:=by
    have:=nodup_bound (r+c) ((List.range (k+1)).map p') (List.pairwise_map.mpr (List.Pairwise.imp_of_mem (fun {x y} hx hy hxy e=>by
     have hy':=List.mem_range.mp hy
     exact W.apart x y hxy (by omega) e) List.pairwise_lt_range)) (fun x hx=>by
     obtain ⟨j,hj,rfl⟩:=List.mem_map.mp hx
     exact pn j (by have:=List.mem_range.mp hj; omega))
    simpa using this
   have p0r:p' 0<r:=(sel_mem.mp e3).1
   have lf0:0<lf (p' 0):=by have:=(sel_mem.mp e3).2; simpa using this
   refine ⟨_,rfl,_,_,_,rfl,by assumption,by rfl,_,rfl,_,_,_,_,rfl,rfl,Or.inl (SqL.of ‹_›),by assumption,?_⟩
   refine ⟨xq,dq,cl,al,r+c,r+j1,k,D,ah,p',rfl,R8,e1,pn,e2,e4,by omega,fun lp H9 S9 nlp hlp=>?_⟩
   have S59:=S58.trans S9
   have net9:=net5.same S59
   have ob9:=net9.ob
   have hll9:=S59 _ _ hll
   have lpa:lp∉as:=fun z=>asome (net5.same S58).st lp z nlp
   have lpl:lp≠ll:=fun z=>by have:=S58 _ _ hll; rw [<-z,nlp] at this; cases this
   have lpd:lp∉ds:=fun z=>by
    obtain ⟨n,hn,en⟩:=List.getElem_of_mem z
    have:=net9.ws.dict n lp (by rw [List.getElem?_eq_getElem hn,en])
    rw [hlp] at this
    cases this
   have lld:ll∉ds:=fun z=>by
    obtain ⟨n,hn,en⟩:=List.getElem_of_mem z
    have:=net9.ws.dict n ll (by rw [List.getElem?_eq_getElem hn,en])
    rw [hll9] at this
    cases this
   obtain ⟨M,ppM,potM⟩:=npot_ok gr L
   obtain ⟨csM,sM⟩:=W.grow NE5 tab5 ppM potM p0r
   have sb:=sle (fun i j hi hj=>(tab5.s0 i j hi hj).1) l0 sums
   refine ⟨_,rfl,_,_,_,rfl,by assumption,by rfl,_,rfl,?_⟩
   refine ⟨H2,np,dn,vt,rl,sl,wl,as,ds,U,S,r,c,a,b,kv5,E5,lp,k,p',1,rfl,net9,hlp,lpa,n1,tab5,NE5,W.wk p0r,by omega,fun t ht=>?_,fun H10 kv10 E10 net10 NE10 fr10=>?_⟩
   ·obtain ⟨c1,c2,_⟩:=opp_cell (W.opp t ht)
    have h1:=sM _ _ c1 c2
    have h2:=sb _ _ c1 c2
    have h3:=W.at_ (S:=S) ht (Nat.le_refl _)
    have h3':moved r p' 1 S k (cr r (p' t) (p' (t+1))) (cc r (p' t) (p' (t+1)))=S (rr r p' t) (rc r p' t)+dlt 1 t:=h3
    rw [h3'] at h1
    have h2':S (rr r p' t) (rc r p' t)<=400:=h2
    refine ⟨h1.1,?_,h1.2.2⟩
    unfold dlt
    split <;> omega
   have hll10:=fr10 _ _ hll9 lld lla
   have hlp10:=fr10 _ _ hlp lpd lpa
   have hn0:=pn 0 (Nat.zero_le _)
   have at1:atI (PL p' k) 0=some (.int (p' 0:Int)):=PL_at (j:=0) (Nat.zero_le _)
   have at2:atI ((row (r+c) lf).map V.int) (p' 0:Int)=some (.int (lf (p' 0))):=at_row hn0
   refine ⟨_,rfl,_,rfl,_,_,_,_,rfl,rfl,Or.inl (SqL.of ‹_›),by assumption,_,_,_,_,rfl,rfl,SqL.of ‹_›,by assumption,_,_,rfl,rfl,?_⟩
   refine ⟨ll,_,_,p' 0,rfl,rfl,hll10,ixN_nat (by rw [List.length_map,ZJ]; exact hn0),?_⟩
   rw [row_fset hn0]
   have net11:=net10.off (o:=.lst ((row (r+c) (fset lf (p' 0) (lf (p' 0) - 1))).map V.int)) hll10 nll lls llw lla
   have hlp11:(upd H10 ll (.lst ((row (r+c) (fset lf (p' 0) (lf (p' 0) - 1))).map V.int))) lp=some (.lst (PL p' k)):=by rw [upd_ne lpl]; exact hlp10
   have hll11:(upd H10 ll (.lst ((row (r+c) (fset lf (p' 0) (lf (p' 0) - 1))).map V.int))) ll=some (.lst ((row (r+c) (fset lf (p' 0) (lf (p' 0) - 1))).map V.int)):=upd_same
   generalize upd H10 ll (.lst ((row (r+c) (fset lf (p' 0) (lf (p' 0) - 1))).map V.int))=H11 at *
   have at3:=PL_last p' k
   have hnk:p' k<r+c:=pn k (Nat.le_refl _)
   have at4:atI ((row (r+c) (fset lf (p' 0) (lf (p' 0) - 1))).map V.int) (p' k:Int)=some (.int (fset lf (p' 0) (lf (p' 0) - 1) (p' k))):=at_row hnk
   have at3':atI (PL p' k) (-1)=some (.int (p' k:Int)):=at3
   refine ⟨_,rfl,_,rfl,_,rfl,_,_,_,_,rfl,rfl,Or.inl (SqL.of ‹_›),by assumption,_,_,_,_,rfl,rfl,SqL.of ‹_›,by assumption,_,_,rfl,rfl,?_⟩
   refine ⟨ll,_,_,p' k,rfl,rfl,hll11,ixN_nat (by rw [List.length_map,ZJ]; exact hnk),?_⟩
   rw [row_fset hnk]
   have ne0k:p' 0≠p' k:=by rw [e1]; omega
   have rk:r<=p' k:=by rw [e1]; omega
   have lfk:fset lf (p' 0) (lf (p' 0) - 1) (p' k)=lf (p' k):=ZI (fun z=>ne0k z.symm)
   have lk0:0<lf (p' k):=by rw [e1]; exact lf1
   have l0':∀x,x<r+c->0<=fset (fset lf (p' 0) (lf (p' 0) - 1)) (p' k) (fset lf (p' 0) (lf (p' 0) - 1) (p' k) - 1) x:=fun x hx=>by
    have h:=l0 x hx
    rw [lfk]
    by_cases q:x=p' k
    ·rw [q,ZH]; omega
    ·rw [ZI q]
     by_cases q2:x=p' 0
     ·rw [q2,ZH]; omega
     ·rw [ZI q2]; exact h
   have sums':∀x,x<r+c->ls r c (moved r p' 1 S k) x+fset (fset lf (p' 0) (lf (p' 0) - 1)) (p' k) (fset lf (p' 0) (lf (p' 0) - 1) (p' k) - 1) x=dueF r pe qe x:=fun x hx=>by
    rw [W.sums p0r rk hx,lfk]
    have h:=sums x hx
    by_cases q:x=p' k
    ·subst q
     rw [ZH,if_neg ne0k,if_pos rfl]; omega
    ·rw [ZI q,if_neg (show ¬p' k=x from fun z=>q z.symm)]
     by_cases q2:x=p' 0
     ·subst q2
      rw [ZH,if_pos rfl]; omega
     ·rw [ZI q2,if_neg (show ¬p' 0=x from fun z=>q2 z.symm)]; omega
   have s0':∀i j,i<r->j<c->0<=moved r p' 1 S k i j:=fun i j hi hj=>(sM i j hi hj).1
   have sb':=sle s0' l0' sums'
   refine ⟨_,?_,_,_,_,_,moved r p' 1 S k,kv10,E10,npot D M pi5,rfl,net11.off hll11 nll lls llw lla,NE10,⟨a0,ab,b1,ub,fun i j hi hj=>⟨s0' i j hi hj,by have:=sb' i j hi hj; omega⟩,fun i j hi hj=>(sM i j hi hj).2.2⟩,ppM,csM,upd_same,l0',sums',rfl⟩
   have u1:=sumZ_upd (f:=lf) (g:=fset lf (p' 0) (lf (p' 0) - 1)) (k:=p' 0) (fun z hz=>ZI hz) (r+c)
   have u2:=sumZ_upd (f:=fset lf (p' 0) (lf (p' 0) - 1)) (g:=fset (fset lf (p' 0) (lf (p' 0) - 1)) (p' k) (fset lf (p' 0) (lf (p' 0) - 1) (p' k) - 1)) (k:=p' k) (fun z hz=>ZI hz) (r+c)
   rw [if_pos hn0,ZH] at u1
   rw [if_pos hnk,ZH] at u2
   dsimp only
   omega
 · 
  refine ⟨_,rfl,?_⟩
  refine ⟨H2,np,dn,vt,rl,sl,wl,as,ds,U,S,r,c,a,b,kv5,E5,pi5,rfl,net5,n1,tab5,NE5,pp5,cs5,fun H6 q dq sl' rl' cl' as' ra ca R C S6 nq d dok n1' n2' n3' n4'=>?_⟩
  have z0:∀x,x<r+c->lf x=0:=fun x hx=>sumZ_nil l0 (by omega) hx
  refine qD H6 q dq sl' rl' cl' as' ra ca S R C (S5.trans S6) (S5.free nq) d dok ⟨fun i hi=>?_,fun j hj=>?_,fun i j hi hj=>?_⟩ (S5.free n1') (S5.free n2') (S5.free n3') (fun x hx=>S5.free (n4' x hx))
  ·have:=sums i (by omega)
   rw [rowE hi,duR hi,z0 i (by omega)] at this
   omega
  ·have:=sums (r+j) (by omega)
   rw [colE,duC,z0 (r+j) (by omega)] at this
   omega
  ·exact ⟨(tab5.s0 i j hi hj).1,sle (fun i j hi hj=>(tab5.s0 i j hi hj).1) l0 sums i j hi hj,tab5.z i j hi hj⟩
end
end K7
namespace SW
open PySem L2
theorem any_iff {bs:List Bool} {n:Nat} {Pp:Nat->Prop} (hl:bs.length=n) (h:∀(i:Nat) (b:Bool),bs[i]?=some b->(b=true↔Pp i)):bs.any id=true↔∃i,i<n/\Pp i:=by
 rw [List.any_eq_true]
 constructor
 ·rintro ⟨b,hb,q⟩
  obtain ⟨i,hi,e⟩:=List.getElem_of_mem hb
  exact ⟨i,by omega,(h i b (by rw [List.getElem?_eq_getElem hi,e])).mp q⟩
 ·rintro ⟨i,hi,q⟩
  have e:bs[i]?=some (bs[i]'(by omega)):=by simp
  exact ⟨_,List.mem_of_getElem? e,(h i _ e).mpr q⟩
theorem snoc_bools {bs:List Bool} {b:Bool} {i:Nat} {Pp:Nat->Prop} (lb:bs.length=i) (hb:∀(k:Nat) (b:Bool),bs[k]?=some b->(b=true↔Pp k)) (h:b=true↔Pp i):∀(k:Nat) (b':Bool),(bs++[b])[k]?=some b'->(b'=true↔Pp k):=fun k b' e=>by
 by_cases q:k<bs.length
 ·rw [List.getElem?_append_left q] at e
  exact hb k b' e
 ·rw [List.getElem?_append_right (by omega)] at e
  have hz:k - bs.length=0:=by have:=(List.getElem?_eq_some_iff.mp e).1; simp at this; omega
  rw [hz] at e
  have ey:b'=b:=by simpa using e.symm
  have ek:k=i:=by omega
  rw [ey,ek]
  exact h
theorem comp_boolsL {K:W.Frag} {te:TE} {σ:St} {j:Nat} {R:List V->Hp->Prop} {H1:Hp} {a:Addr} {zs:List V} (Pp:Nat->Prop) (hl:SqL K H1 a zs) (hz:zs.length<=sizeLine) (hs:∀(i:Nat) (x:V) (H:Hp) (Q:VK),zs[i]?=some x->Same H1 H->(∀(b:Bool) (H':Hp),Same H H'->(b=true↔Pp i)->Q (.bl b) H')->te (σ.set j (some x)) H Q)
  (hd:∀(bs:List Bool) (H:Hp),Same H1 H->bs.length=zs.length->(∀(i:Nat) (b:Bool),bs[i]?=some b->(b=true↔Pp i))->R (bs.map V.bl) H):∃a',V.ref a = .ref a'/\(∃xs,SqL K H1 a' xs)/\CompW (Itl K a') (gName j) tYes te (wipe [j] σ) R H1:=by
 refine ⟨a,rfl,⟨_,hl⟩,?_⟩
 refine comp_list (fun i ys H2=>Same H1 H2/\∃bs:List Bool,ys=bs.map V.bl/\bs.length=i/\∀(k:Nat) (b:Bool),bs[k]?=some b->(b=true↔Pp k)) hz ⟨Same.refl _,[],rfl,rfl,fun k b e=>(by simp at e)⟩ (fun i ys H2 _ h=>h.1.seq hl) ?_ ?_
 ·rintro i x ys H2 hx ⟨S2,bs,rfl,lb,hb⟩
  refine yes (hs i x H2 _ hx S2 fun b H3 S3 h=>⟨S2.trans S3,bs++[b],by simp,by simp [lb],snoc_bools lb hb h⟩)
 ·rintro ys H2 ⟨S2,bs,rfl,lb,hb⟩
  exact hd bs H2 S2 lb hb
def RatP (p:Q2):Prop:=0<p.1/\0<p.2/\gcdI p.1 p.2=1
def Rising (ns:List Int) (m:Int):Prop:=∀(k:Nat) (x:Int),ns[k]?=some x->(if k=0 then 0<=x else ∀y,ns[k - 1]?=some y->y+1<=x)/\x<m
def BR (p:Q2):Prop:=p.1<2 ^ 3400/\p.2<2 ^ 3400
end SW
namespace SW
structure ShownD (a b:Int) (U S:Nat->Nat->Int) (r c:Nat) (pe qe:Nat->Int) (R C:Nat->Q2):Prop where
 ro:∀i,i<r->RatP (R i)
 co:∀j,j<c->RatP (C j)
 rows:∀i,i<r->sumZ c (S i)=pe i
 cols:∀j,j<c->sumZ r (fun i=>S i j)=qe j
 fits:∀i j,i<r->j<c->0<=S i j/\fitsB (U i j*(R i).1*(C j).1) ((R i).2*(C j).2) a b (S i j)=true
structure ShownB (U:Nat->Nat->Int) (r c:Nat) (pe qe:Nat->Int) (ns ms:List Int):Prop where
 rn:Rising ns r
 rm:Rising ms c
 no:∀i:Nat,i<r->(i:Int)∉ns->∀j:Nat,j<c->(j:Int)∈ms->¬0<U i j
 more:(ns.map fun x=>pe x.toNat).sum<(ms.map fun x=>qe x.toNat).sum
end SW
namespace SW
open PySem L2
theorem int_flat (ns:List Int):(ns.map V.int).all flatV=true:=by
 rw [List.all_eq_true]
 intro x hx
 obtain ⟨k,_,rfl⟩:=List.mem_map.mp hx
 rfl
theorem int_in {ns:List Int} {v:Int}:inV (.int v) (ns.map V.int)=decide (v∈ns):=by
 rw [Bool.eq_iff_iff,decide_eq_true_iff]
 unfold inV
 rw [List.any_eq_true]
 constructor
 ·rintro ⟨x,hx,e⟩
  obtain ⟨k,hk,rfl⟩:=List.mem_map.mp hx
  have e':(k == v)=true:=e
  rw [<-eq_of_beq e']; exact hk
 ·intro h
  refine ⟨_,List.mem_map.mpr ⟨v,h,rfl⟩,?_⟩
  show (v == v)=true
  simp
theorem Rising.nonneg {ns:List Int} {m:Int} (R:Rising ns m):∀(k:Nat) (x:Int),ns[k]?=some x->0<=x/\x<m:=by
 intro k
 induction k with
 | zero=>intro x e; have:=R 0 x e; rw [if_pos rfl] at this; exact this
 | succ k ih=>
  intro x e
  have hk:=(List.getElem?_eq_some_iff.mp e).1
  have ey:ns[k]?=some (ns[k]'(by omega)):=by simp
  have h1:=ih _ ey
  have h2:=R (k+1) x e
  rw [if_neg (by omega)] at h2
  have h3:=h2.1 _ ey
  exact ⟨by omega,h2.2⟩
theorem Rising.mem {ns:List Int} {m:Int} (R:Rising ns m) {x:Int} (h:x∈ns):0<=x/\x<m:=by
 obtain ⟨k,hk,e⟩:=List.getElem_of_mem h
 exact R.nonneg k x (by rw [List.getElem?_eq_getElem hk,e])
theorem vint {ns:List Int} {i:Nat} {x:V} (h:(ns.map V.int)[i]?=some x):∃y,x = .int y/\ns[i]?=some y/\y∈ns:=by
 rw [List.getElem?_map] at h
 cases e:ns[i]? with
 | none=>rw [e] at h; cases h
 | some y=>rw [e] at h; exact ⟨y,(Option.some.inj h).symm,rfl,List.mem_of_getElem? e⟩
structure BarH (cB:Addr) (H:Hp) (q dq rl cl:Addr) (ns ms:List Int):Prop where
 ob:H q=some (.ins cB dq (barF rl cl))
 rows:H rl=some (.lst (ns.map V.int))
 cols:H cl=some (.lst (ms.map V.int))
 ne:rl≠cl
def selV (f:Nat->Int):V->V
 | .int y => .int (f y.toNat)
 | v=>v
theorem selV_map (f:Nat->Int) (ms:List Int):(ms.map V.int).map (selV f)=(ms.map fun x=>f x.toNat).map V.int:=by rw [List.map_map,List.map_map]; rfl
end SW
namespace SW
open PySem L2
theorem sel_succ (n:Nat) (f:Nat->Bool):sel (n+1) f=sel n f++if f n=true then [n] else []:=by
 unfold sel
 rw [List.range_succ,List.filter_append]
 congr 1
 cases h:f n <;> simp [h]
def selI (n:Nat) (f:Nat->Bool):List Int:=(sel n f).map fun (z:Nat)=>(z:Int)
theorem selI_V (n:Nat) (f:Nat->Bool):(sel n f).map nV=(selI n f).map V.int:=by unfold selI; rw [List.map_map]; rfl
theorem selI_len (n:Nat) (f:Nat->Bool):(selI n f).length<=n:=by unfold selI; rw [List.length_map]; exact sel_len n f
theorem selI_mem {n z:Nat} {f:Nat->Bool}:(z:Int)∈selI n f↔z<n/\f z=true:=by
 unfold selI
 rw [List.mem_map]
 constructor
 ·rintro ⟨x,hx,e⟩
  have:x=z:=by omega
  subst this
  exact sel_mem.mp hx
 ·intro h
  exact ⟨z,sel_mem.mpr h,rfl⟩
theorem sel_pw (n:Nat) (f:Nat->Bool):(sel n f).Pairwise (· < ·):=List.pairwise_lt_range.filter _
theorem selI_rising (n:Nat) (f:Nat->Bool):Rising (selI n f) n:=by
 intro k x e
 unfold selI at e
 rw [List.getElem?_map] at e
 cases ez:(sel n f)[k]? with
 | none=>rw [ez] at e; cases e
 | some z=>
  rw [ez] at e
  have ex:x=(z:Int):=(Option.some.inj e).symm
  subst ex
  have hm:=(sel_mem.mp (List.mem_of_getElem? ez)).1
  refine ⟨?_,by omega⟩
  by_cases hk:k=0
  ·rw [if_pos hk]; omega
  ·rw [if_neg hk]
   intro y ey
   unfold selI at ey
   rw [List.getElem?_map] at ey
   cases ew:(sel n f)[k - 1]? with
   | none=>rw [ew] at ey; cases ey
   | some v=>
    rw [ew] at ey
    have:y=(v:Int):=(Option.some.inj ey).symm
    subst this
    obtain ⟨h1,h2⟩:=List.getElem?_eq_some_iff.mp ez
    obtain ⟨h3,h4⟩:=List.getElem?_eq_some_iff.mp ew
    have:=List.pairwise_iff_getElem.mp (sel_pw n f) (k - 1) k h3 h1 (by omega)
    omega
theorem selI_sum (f:Nat->Bool) (p:Nat->Int):∀n,((selI n f).map fun x=>p x.toNat).sum=sumZ n fun i=>if f i=true then p i else 0
 | 0=>rfl
 | n+1=>by
  have ih:=selI_sum f p n
  show _=sumZ n (fun i=>if f i=true then p i else 0)+(if f n=true then p n else 0)
  rw [<-ih]
  unfold selI
  rw [sel_succ,List.map_append,List.map_append,List.sum_append]
  congr 1
  by_cases h:f n=true
  ·rw [if_pos h,if_pos h]; simp
  ·rw [if_neg h,if_neg h]; rfl
theorem DealH.off {H:Hp} {q:Addr} {r c:Nat} {cD dq sl rl' cl:Addr} {as ra ca:List Addr} {S:Nat->Nat->Int} {R C:Nat->Q2} (d:DealH cD H q dq sl rl' cl as ra ca S r c R C) {x:Addr} {ys:List V} {o:HO} (hx:H x=some (.lst ys)) (xs:sl≠x) (xr:rl'≠x) (xc:cl≠x) (xa:x∉as):DealH cD (upd H x o) q dq sl rl' cl as ra ca S r c R C:=
 ⟨by rw [upd_ne (ne_of d.ob hx (by intro z; cases z))]; exact d.ob,d.st.keep xs xa,by rw [upd_ne xr]; exact d.rows,d.rlen,fun i y e=>by rw [upd_ne (ne_of (d.rt i y e) hx (by intro z; cases z))]; exact d.rt i y e,by rw [upd_ne xc]; exact d.cols,d.clen,fun j y e=>by rw [upd_ne (ne_of (d.ct j y e) hx (by intro z; cases z))]; exact d.ct j y e,d.sa,d.ra',d.ca',d.ne⟩
end SW
namespace K7
open PySem L2 SW
section
variable {P:Program} {w:World} {K:W.Frag} {mg:Str->Option Value} {base:Heap}
theorem Bars.shown {U:Nat->Nat->Int} {r c:Nat} {pe qe:Nat->Int} {f g:Nat->Bool} (b:Bars U r c pe qe f g):ShownB U r c pe qe (selI r f) (selI c g):=
 ⟨selI_rising r f,selI_rising c g,fun i hi hn j hj hm=>b.no i j hi hj (by
  cases e:f i with
  | false=>rfl
  | true=>exact absurd (selI_mem.mpr ⟨hi,e⟩) hn) (selI_mem.mp hm).2,by rw [selI_sum,selI_sum]; exact b.more⟩
inductive AnsH (T:Txt K mg) (H:Hp) (q:Addr) (a b:Int) (U:Nat->Nat->Int) (r c:Nat) (pe qe:Nat->Int):Prop where
 | deal (dq sl rl' cl:Addr) (as ra ca:List Addr) (S:Nat->Nat->Int) (R C:Nat->Q2) (d:DealH T.c_QC H q dq sl rl' cl as ra ca S r c R C) (ok:DealOk a b U S r c R C) (sm:Sums U S r c pe qe)
 | bar (dq rl' cl:Addr) (ns ms:List Int) (d:BarH T.c_Bar H q dq rl' cl ns ms) (ln:ns.length<=1000) (lm:ms.length<=1000) (sh:ShownB U r c pe qe ns ms)
inductive AnsN (T:Txt K mg) (H0 H:Hp) (q:Addr) (a b:Int) (U:Nat->Nat->Int) (r c:Nat) (pe qe:Nat->Int):Prop where
 | deal (dq sl rl' cl:Addr) (as ra ca:List Addr) (S:Nat->Nat->Int) (R C:Nat->Q2) (d:DealH T.c_QC H q dq sl rl' cl as ra ca S r c R C) (ok:DealOk a b U S r c R C) (sm:Sums U S r c pe qe) (n1:H0 sl=none) (n2:H0 rl'=none) (n3:H0 cl=none) (n4:∀x,x∈as->H0 x=none)
 | bar (dq rl' cl:Addr) (ns ms:List Int) (d:BarH T.c_Bar H q dq rl' cl ns ms) (ln:ns.length<=1000) (lm:ms.length<=1000) (sh:ShownB U r c pe qe ns ms) (n2:H0 rl'=none) (n3:H0 cl=none)
section
variable {T:Txt K mg} {H0 H H':Hp} {q:Addr} {a b:Int} {U:Nat->Nat->Int} {r c:Nat} {pe qe:Nat->Int}
end
def spWovenA (T:Txt K mg):Sp:=fun vs H Q _=>∃(vt pl pt rl:Addr) (U:Nat->Nat->Int) (r c:Nat) (pe qe:Nat->Int) (a b:Int),vs=[.ref vt,.ref pl,.ref pt,.ref rl]/\Mat K H vt (mkT U r c)/\H pl=some (.lst ((row r pe).map V.int))/\H pt=some (.lst ((row c qe).map V.int))/\T.rl H rl a b/\r+c<=40/\(∀i j,i<r->j<c->0<=U i j/\U i j<=10 ^ 15)/\Due r c pe qe /\
 ∀(H':Hp) (q:Addr),Same H H'->H q=none->AnsN T H H' q a b U r c pe qe->Q (.ref q) H'
theorem woven_ans {T:Txt K mg} {vs:List V} {H:Hp} {Q:VK} {E:XK} (h:spWovenA T vs H Q E):spWoven T vs H Q E:=by
 obtain ⟨vt,pl,pt,rl,U,r,c,pe,qe,a,b,ev,mv,hpl,hpt,hrl,n1,ub,du,k⟩:=h
 refine ⟨vt,pl,pt,rl,U,r,c,pe,qe,a,b,ev,mv,hpl,hpt,hrl,n1,ub,du,?_,?_⟩
 ·intro H' q dq sl rl' cl as ra ca S R C S1 nq d ok sm n1 n2 n3 n4
  exact k H' q S1 nq (.deal dq sl rl' cl as ra ca S R C d ok sm n1 n2 n3 n4)
 ·intro H' q dq rl' cl f g S1 nq hq h1 h2 n2 n3 ne bs
  rw [selI_V] at h1 h2
  exact k H' q S1 nq (.bar dq rl' cl _ _ ⟨hq,h1,h2,ne⟩ (Nat.le_trans (selI_len _ _) (by omega)) (Nat.le_trans (selI_len _ _) (by omega)) bs.shown n2 n3)
theorem ok_woven (T:Txt K mg):FnOk P w K mg base CX0 8 T.a_woven T.fd_woven ["votes","places","parties","rule"] (spWovenA T):=(ok_woven0 T).imp fun _ _ _ _ h=>woven_ans h
end
end K7
namespace K7
open PySem L2 SW
section
variable {P:Program} {w:World} {K:W.Frag} {mg:Str->Option Value} {base:Heap}
def spSize:Sp:=fun vs H Q _=>∃c k:Int,vs=[.int c,.int k]/\0<=k/\k<900/\∀(n:Nat) (H':Hp),0<n->n<=12->Same H H'->Q (.int n) H'
theorem ok_QM (T:Txt K mg):FnOk P w K mg base CX0 2 T.a_QM T.fd_QM ["_law_cell","_law_k"] spSize:=by
 refine T.F_QM.ok sc_QM (fun vs H Q E h=>?_) (fun cdv A outer s H vs Q E hr h=>?_)
 ·obtain ⟨c,k,rfl,_⟩:=h
  rfl
 obtain ⟨c,k,rfl,k0,k1,q⟩:=h
 refine ⟨_,(pss_one (ps_ret (pe_op op_add (pe_op op_add pe_int (pe_call (ok_QN T) (hr.mono (by decide)) rfl T.m_QN T.F_QN.kp T.b_QN .nil pass0 (pa_cons (pv 0) (pa_cons (pv 1) (pa_cons pe_int pa_nil))))) (pe_op ZC pe_int (pe_op op_fdivF (pe_call (ok_QN T) (hr.mono (by decide)) rfl T.m_QN T.F_QN.kp T.b_QN .nil pass0 (pa_cons (pv 0) (pa_cons (pe_op op_add (pv 1) pe_int) (pa_cons pe_int pa_nil)))) pe_int))))),?_⟩
 refine ⟨_,rfl,_,rfl,?_⟩
 refine ⟨_,_,_,rfl,k0,by omega,by decide,fun d H1 d0 d1 S1=>?_⟩
 refine ⟨_,_,rfl,rfl,_,rfl,_,rfl,_,_,rfl,rfl,?_⟩
 refine ⟨_,_,_,rfl,by omega,by omega,by decide,fun e H2 e0 e1 S2=>?_⟩
 refine ⟨_,_,rfl,rfl,⟨by omega,fits_of (by omega) (by omega)⟩,_,_,rfl,rfl,.inr ⟨fits_of (by omega) (by omega),fits_of (by omega) (by omega)⟩,_,_,rfl,rfl,?_⟩
 have e2:0<=e / 15:=Int.ediv_nonneg e0 (by decide)
 have e3:e / 15<=1:=by omega
 show Q (.int (1+d+7*(e / 15))) H2
 rw [show 1+d+7*(e / 15)=(((1+d+7*(e / 15)).toNat:Nat):Int) by omega]
 exact q _ H2 (by omega) (by omega) (S1.trans S2)
def spTable (K:W.Frag):Sp:=fun vs H Q _=>∃(a:Addr) (ns:List Int),vs=[.ref a]/\SqL K H a (ns.map V.int) /\
 ∀(t vt pl pt:Addr) (as:List Addr) (U:Nat->Nat->Int) (r c:Nat) (pe qe:Nat->Int) (H':Hp),Same H H'->H' t=some (.tup [.ref vt,.ref pl,.ref pt])->MatM H' vt as (mkT U r c)->H' pl=some (.lst ((row r pe).map V.int))->H' pt=some (.lst ((row c qe).map V.int))->0<r->r<=12->0<c->c<=12->(∀i j,i<r->j<c->0<=U i j/\U i j<=10 ^ 9)->Due r c pe qe->pl≠pt->Q (.ref t) H'
theorem ok_Qz (T:Txt K mg):FnOk P w K mg base CX0 5 T.a_Qz T.fd_Qz ["_law_script"] (spTable K):=by
 refine T.F_Qz.ok sc_Qz (fun vs H Q E h=>?_) (fun cdv A outer s H vs Q E hr h=>?_)
 ·obtain ⟨a,ns,rfl,_⟩:=h
  rfl
 obtain ⟨a,ns,rfl,hS,q⟩:=h
 refine ⟨_,(pss_cons (ps_set (i:=1) sc_Qz.nd rfl (Or.inl rfl) (pe_call (ok_Qy T) (hr.mono (by decide)) rfl T.m_Qy T.F_Qy.kp T.b_Qy .nil pass0 (pa_cons (pv 0) (pa_cons pe_int pa_nil))))
   (pss_cons (ps_par (i:=2) (j:=3) rfl sc_Qz.nd rfl rfl (by decide) rfl rfl (pa_cons (pe_call (ok_QM T) (hr.mono (by decide)) rfl T.m_QM T.F_QM.kp T.b_QM .nil pass0 (pa_cons (pv 1) (pa_cons pe_int pa_nil))) (pa_cons (pe_call (ok_QM T) (hr.mono (by decide)) rfl T.m_QM T.F_QM.kp T.b_QM .nil pass0 (pa_cons (pv 1) (pa_cons pe_int pa_nil))) pa_nil)) rfl)
   (pss_cons (ps_set (i:=4) sc_Qz.nd rfl (Or.inl rfl) (ZF pa_nil))
   (pss_cons (ps_for PassesOwn.never rfl (pi_range1 rfl T.n_range (pa_cons (pv 2) pa_nil)) (pg_name (i:=5) sc_Qz.nd rfl (Or.inl rfl))
   (pss_cons (ps_set (i:=6) sc_Qz.nd rfl (Or.inl rfl) (ZF pa_nil))
   (pss_cons (ps_for PassesOwn.never rfl (pi_range1 rfl T.n_range (pa_cons (pv 3) pa_nil)) (pg_name (i:=7) sc_Qz.nd rfl (Or.inl rfl))
   (pss_cons (ps_set (i:=8) sc_Qz.nd rfl (Or.inl rfl) (pe_op op_add (pe_op ZC (pv 5) (pv 3)) (pv 7)))
   (pss_one (ps_expr (pe_bm PySem.F.plainAttrs_list PySem.F.slot_list_append PySem.F.type_list_append mt_append (pv 6) (pa_cons (pe_call (ok_QL T) (hr.mono (by decide)) rfl T.m_QL T.F_QL.kp T.b_QL .nil pass0 (pa_cons (pe_op op_add (pe_call (ok_Qy T) (hr.mono (by decide)) rfl T.m_Qy T.F_Qy.kp T.b_Qy .nil pass0 (pa_cons (pv 0) (pa_cons (pe_op op_add pe_int (pe_op op_mod (pv 8) pe_int)) pa_nil))) (pe_op ZC pe_int (pv 8))) pa_nil)) pa_nil))))))
   (pss_one (ps_expr (pe_bm PySem.F.plainAttrs_list PySem.F.slot_list_append PySem.F.type_list_append mt_append (pv 4) (pa_cons (pv 6) pa_nil)))))))
   (pss_cons (ps_set (i:=9) sc_Qz.nd rfl (Or.inl rfl) (pe_call (ok_QN T) (hr.mono (by decide)) rfl T.m_QN T.F_QN.kp T.b_QN .nil pass0 (pa_cons (pv 1) (pa_cons pe_int (pa_cons pe_int pa_nil)))))
   (pss_cons (ps_meet (ps_if (PW.pt (pw_and (pt_cmpR op_lt (pe_op ZC (pv 2) (pv 3)) pe_int (nomark _)) (pw_and1 (pt_cmpR op_eqI (pe_call (ok_QN T) (hr.mono (by decide)) rfl T.m_QN T.F_QN.kp T.b_QN .nil pass0 (pa_cons (pv 1) (pa_cons pe_int (pa_cons pe_int pa_nil)))) pe_int (nomark _)))))
   (pss_one (ps_set (i:=9) sc_Qz.nd rfl (Or.inl rfl) (pe_op ZC (pv 9) pe_int)))
   pss_nil))
   (pss_cons (ps_par (i:=10) (j:=11) rfl sc_Qz.nd rfl rfl (by decide) rfl rfl (pa_cons (ZD [6] rfl (ZK rfl) (ZB K (pv 4)) (fun _=>(pg_name (i:=6) sc_Qz.nd rfl (Or.inl rfl))) (fun _=>ZL) (fun _=>pe_int)) (pa_cons (ZD [15] rfl (ZK rfl) (ZB K (pe_ix (ix_Q K) (pv 4) pe_int (fun _ _=>rfl))) (fun _=>(pg_name (i:=15) sc_Qz.nd rfl (Or.inl rfl))) (fun _=>ZL) (fun _=>pe_int)) pa_nil)) rfl)
   (pss_cons (ps_set (i:=12) sc_Qz.nd rfl (Or.inl rfl) (pe_call (ok_QN T) (hr.mono (by decide)) rfl T.m_QN T.F_QN.kp T.b_QN .nil pass0 (pa_cons (pv 1) (pa_cons pe_int (pa_cons pe_int pa_nil)))))
   (pss_cons (ps_for PassesOwn.never rfl (pi_range1 rfl T.n_range (pa_cons (pv 9) pa_nil)) (pg_name (i:=13) sc_Qz.nd rfl (Or.inl rfl))
   (pss_cons (ps_set (i:=14) sc_Qz.nd rfl (Or.inl rfl) (pe_op op_add (pe_op ZC (pe_op op_add (pe_call (ok_Qy T) (hr.mono (by decide)) rfl T.m_Qy T.F_Qy.kp T.b_Qy .nil pass0 (pa_cons (pv 0) (pa_cons pe_int pa_nil))) (pe_op ZC pe_int (pv 13))) (pe_op op_add (pv 13) pe_int)) (pe_call (ok_Qy T) (hr.mono (by decide)) rfl T.m_Qy T.F_Qy.kp T.b_Qy .nil pass0 (pa_cons (pv 0) (pa_cons (pe_op op_add pe_int (pe_op op_mod (pv 13) pe_int)) pa_nil)))))
   (pss_cons (ps_par (i:=5) (j:=7) rfl sc_Qz.nd rfl rfl (by decide) rfl rfl (pa_cons (pe_call (ok_QN T) (hr.mono (by decide)) rfl T.m_QN T.F_QN.kp T.b_QN .nil pass0 (pa_cons (pv 14) (pa_cons pe_int (pa_cons (pv 2) pa_nil)))) (pa_cons (pe_call (ok_QN T) (hr.mono (by decide)) rfl T.m_QN T.F_QN.kp T.b_QN .nil pass0 (pa_cons (pv 14) (pa_cons pe_int (pa_cons (pv 3) pa_nil)))) pa_nil)) rfl)
   (pss_cons (ps_meet (ps_augS (pv 10) (pe_ifExp (pt_cmpR op_eqI (pv 12) pe_int (nomark _)) (pe_callB (call_min2 rfl) (by rfl) T.n_min PyProof.Rows.boot_min (pa_cons (pv 5) (pa_cons (pe_call (ok_QN T) (hr.mono (by decide)) rfl T.m_QN T.F_QN.kp T.b_QN .nil pass0 (pa_cons (pv 14) (pa_cons pe_int (pa_cons (pv 2) pa_nil)))) pa_nil))) (pv 5)) (getL_Q K) pe_int ip_add set_list))
   (pss_one (ps_augS (pv 11) (pe_ifExp (pt_cmpR op_gt (pv 12) pe_int (nomark _)) (pe_callB (call_min2 rfl) (by rfl) T.n_min PyProof.Rows.boot_min (pa_cons (pv 7) (pa_cons (pe_call (ok_QN T) (hr.mono (by decide)) rfl T.m_QN T.F_QN.kp T.b_QN .nil pass0 (pa_cons (pv 14) (pa_cons pe_int (pa_cons (pv 3) pa_nil)))) pa_nil))) (pv 7)) (getL_Q K) pe_int ip_add set_list))))))
   (pss_one (ps_ret (ZE (pa_cons (pv 4) (pa_cons (pv 10) (pa_cons (pv 11) pa_nil))))))))))))))),?_⟩
 refine ⟨_,rfl,?_⟩
 refine ⟨a,ns,_,rfl,hS,by decide,fun cell=>?_⟩
 unfold tPar
 refine ⟨_,rfl,?_⟩
 refine ⟨_,_,rfl,by decide,by decide,fun r H1 r0 r1 S1=>?_⟩
 refine ⟨_,rfl,?_⟩
 refine ⟨_,_,rfl,by decide,by decide,fun c H2 c0 c1 S2=>?_⟩
 refine ⟨_,_,rfl,?_⟩
 refine ⟨Nat.zero_le _,fun l H3 N3=>?_⟩
 have S03:Same H H3:=S1.trans (S2.trans N3.same)
 have nl:H l=none:=S1.free (S2.free N3.gone)
 have hl3:=N3.at_
 refine ⟨_,rfl,?_⟩
 refine ⟨_,rfl,by omega,by omega,?_⟩
 rw [Int.toNat_natCast]
 refine for_range (fun i σ H'=>∃(as:List Addr) (f:Nat->Nat->Int) (v6 v7 v8 v9:Option V),σ=[some (.ref a),some (.int cell),some (.int r),some (.int c),some (.ref l),v6,v7,v8,v9,none,none,none,none,none,none,none]/\Same H H'/\H' l=some (.lst (as.map V.ref))/\as.length=i/\as.Nodup/\l∉as /\
  (∀(k:Nat) (b:Addr),as[k]?=some b->H' b=some (.lst ((row c (f k)).map V.int)))/\∀i' j,i'<i->j<c->0<=f i' j/\f i' j<=10 ^ 9) ⟨[],fun _ _=>0,_,_,_,_,rfl,S03,hl3,rfl,List.nodup_nil,by simp,fun k b e=>(by simp at e),fun i' j h=>(by omega)⟩ ?_ ?_
 ·rintro i σ H' hi ⟨as,f,v6,v7,v8,v9,rfl,S',hl,la,nd,las,rows,bd⟩
  refine ⟨Nat.zero_le _,fun b H4 N4=>?_⟩
  have hb4:=N4.at_
  refine ⟨_,rfl,?_⟩
  refine ⟨_,rfl,by omega,by omega,?_⟩
  rw [Int.toNat_natCast]
  refine for_range (fun j σ H5=>∃(g:Nat->Int) (v8 v9:Option V),σ=[some (.ref a),some (.int cell),some (.int r),some (.int c),some (.ref l),some (.int (0+(i:Int))),some (.ref b),v8,v9,none,none,none,none,none,none,none]/\Same H' H5/\H5 b=some (.lst ((row j g).map V.int))/\∀j',j'<j->0<=g j'/\g j'<=10 ^ 9) ⟨fun _=>0,_,_,rfl,N4.same,hb4,fun j' h=>(by omega)⟩ ?_ ?_
  ·rintro j σ H5 hj ⟨g,v8,v9,rfl,S5,hb,gb⟩
   have hS5:=(S'.trans S5).seq hS
   have m0:0<=(0+(i:Int))*(c:Int):=Int.mul_nonneg (by omega) (by omega)
   refine ⟨_,rfl,_,rfl,_,_,rfl,rfl,.inr ⟨fits_of (by omega) (by omega),fits_of (by omega) (by omega)⟩,_,rfl,_,_,rfl,rfl,_,rfl,?_⟩
   refine ⟨.inl ⟨rfl,_,SqL.of hb⟩,?_⟩
   refine ⟨_,rfl,_,rfl,_,_,rfl,rfl,by omega,_,_,rfl,rfl,?_⟩
   refine ⟨a,ns,_,rfl,hS5,?_,fun cv=>?_⟩
   ·have:=Int.emod_nonneg ((0+(i:Int))*(c:Int)+(0+(j:Int))) (by decide:(40:Int)≠0)
    show (0:Int)<=3+((0+(i:Int))*(c:Int)+(0+(j:Int))) % 40
    omega
   refine ⟨_,rfl,_,_,rfl,rfl,.inl (.inl ⟨by decide,by decide⟩),_,_,rfl,rfl,?_⟩
   refine ⟨_,rfl,fun v H6 v0 v1 S6=>?_⟩
   have hb6:=S6 _ _ hb
   refine ⟨b,_,_,rfl,rfl,hb6,?_,?_⟩
   ·rw [List.length_map,ZJ]
    exact Nat.lt_of_le_of_lt (show j<=12 by omega) (by decide)
   have e:(row j g).map V.int++[V.int v]=(row (j+1) (fun x=>if x=j then v else g x)).map V.int:=by
    rw [row_succ,List.map_append,if_pos rfl]
    rw [row_congr (g:=g) fun x hx=>if_neg (by omega)]
    rfl
   rw [e]
   refine ⟨fun x=>if x=j then v else g x,_,_,rfl,(S5.trans S6).upd N4.gone,upd_same,fun j' hj'=>?_⟩
   show 0<=(if j'=j then v else g j')/\(if j'=j then v else g j')<=10 ^ 9
   split
   ·exact ⟨v0,v1⟩
   ·exact gb j' (by omega)
  ·rintro σ H5 ⟨g,v8,v9,rfl,S5,hb,gb⟩
   have hl5:=S5 _ _ hl
   refine ⟨_,rfl,?_⟩
   refine ⟨.inl ⟨rfl,_,SqL.of hl5⟩,?_⟩
   refine ⟨_,rfl,?_⟩
   refine ⟨l,_,_,rfl,rfl,hl5,?_,?_⟩
   ·rw [List.length_map,la]
    exact Nat.lt_of_le_of_lt (show i<=12 by omega) (by decide)
   have lb:l≠b:=fun z=>by rw [z,N4.gone] at hl; cases hl
   have bas:b∉as:=fun h=>by
    obtain ⟨n,hn,en⟩:=List.getElem_of_mem h
    have:=rows n b (by rw [List.getElem?_eq_getElem hn,en])
    rw [N4.gone] at this
    cases this
   refine ⟨as++[b],fun x y=>if x=i then g y else f x y,_,_,_,_,rfl,(S'.trans S5).upd nl,?_,by simp [la],?_,?_,fun n d e=>?_,fun i' j hi' hj=>?_⟩
   ·rw [upd_same,List.map_append]; rfl
   ·refine List.nodup_append.mpr ⟨nd,by simp,fun x hx y hy=>?_⟩
    have:y=b:=by simpa using hy
    subst this
    rintro rfl
    exact bas hx
   ·intro h
    rcases List.mem_append.mp h with h | h
    ·exact las h
    ·exact lb (by simpa using h)
   ·have dl:d≠l:=fun z=>by
     subst z
     have:=List.mem_of_getElem? e
     rcases List.mem_append.mp this with h | h
     ·exact las h
     ·exact lb (by simpa using h)
    rw [upd_ne dl]
    by_cases hn:n<as.length
    ·rw [List.getElem?_append_left hn] at e
     have:row c (fun y=>if n=i then g y else f n y)=row c (f n):=row_congr fun y _=>if_neg (by omega)
     rw [this]
     exact S5 _ _ (rows n d e)
    ·rw [List.getElem?_append_right (by omega)] at e
     have hz:n - as.length=0:=by have:=(List.getElem?_eq_some_iff.mp e).1; simp at this; omega
     rw [hz] at e
     have ed:d=b:=by simpa using e.symm
     have en:n=i:=by omega
     subst ed en
     have:row c (fun y=>if n=n then g y else f n y)=row c g:=row_congr fun y _=>if_pos rfl
     rw [this]
     exact hb
   ·show 0<=(if i'=i then g j else f i' j)/\(if i'=i then g j else f i' j)<=10 ^ 9
    split
    ·exact gb j hj
    ·exact bd i' j (by omega) hj
 rintro σ H4 ⟨as,f,v6,v7,v8,v9,rfl,S4,hl,la,nd,las,rows,bd⟩
 have mm:MatM H4 l as (mkT f r c):=⟨hl,nd,by rw [mk_len]; exact la,fun i b x e1 e2=>by
  have hi:i<r:=by have:=(List.getElem?_eq_some_iff.mp e1).1; omega
  rw [mk_get hi] at e2
  rw [<-Option.some.inj e2]
  exact rows i b e1⟩
 refine ⟨_,rfl,?_⟩
 refine ⟨_,_,_,rfl,by decide,by decide,by decide,fun d H5 d0 d1 S5=>?_⟩
 have rc:0<=(r:Int)*(c:Int)/\(r:Int)*(c:Int)<=12*12:=mul_bd (by omega) (by omega) (by omega) (by omega)
 refine ⟨fun σ H6=>Same H4 H6/\∃m:Nat,m<=300/\σ=[some (.ref a),some (.int cell),some (.int r),some (.int c),some (.ref l),v6,v7,v8,v9,some (.int (m:Int)),none,none,none,none,none,none],?_,?_⟩
 ·refine ⟨_,rfl,_,rfl,_,_,rfl,rfl,.inr ⟨fits_of (by omega) (by omega),fits_of (by omega) (by omega)⟩,_,_,rfl,rfl,_,rfl,?_⟩
  refine ite3 (fun _=>?_) (fun _=>iteF ?_)
  ·refine ⟨_,rfl,?_⟩
   refine ⟨_,_,_,rfl,by decide,by decide,by decide,fun d2 H6 _ _ S6=>?_⟩
   refine ⟨_,_,rfl,rfl,_,rfl,?_⟩
   refine ite3 (fun _=>?_) (fun _=>?_)
   ·refine ⟨_,rfl,_,_,rfl,rfl,.inr ⟨fits_of (by omega) (by omega),fits_of (by omega) (by omega)⟩,?_⟩
    refine ⟨S5.trans S6,(d*20).toNat,by omega,?_⟩
    rw [show (((d*20).toNat:Nat):Int)=d*20 by omega]
    rfl
   ·refine ⟨S5.trans S6,d.toNat,by omega,?_⟩
    rw [show ((d.toNat:Nat):Int)=d by omega]
    rfl
  ·refine ⟨S5,d.toNat,by omega,?_⟩
   rw [show ((d.toNat:Nat):Int)=d by omega]
   rfl
 rintro σ H6 ⟨S46,m,m1,rfl⟩
 have mm6:=mm.same S46
 have ml6:=mm6.top
 obtain ⟨as0,b0,sq0,at0,sr0,sl0⟩:=(mm6.mat (K:=K)).get r0
 have at0':atI (as0.map V.ref) 0=some (.ref b0):=at0
 refine ⟨_,rfl,?_⟩
 refine ⟨l,rfl,⟨_,SqL.of ml6⟩,comp_mapL (fun _ => .int 0) (SqL.of ml6) (by rw [List.length_map,la]; exact Nat.le_trans r1 (by decide)) (fun i x Q _ h=>h) fun pl H7 N7=>?_⟩
 have hpl7:=N7.at_
 have e7:(as.map V.ref).map (fun _=>V.int 0)=(row r fun _=>0).map V.int:=by
  unfold row
  apply List.ext_getElem
  ·simp [la]
  ·intro i h1 h2; simp
 rw [e7] at hpl7
 have sq7:=N7.same.sq sq0
 have sl7:=N7.same.seq sl0
 refine ⟨_,rfl,_,_,_,_,rfl,rfl,by assumption,by assumption,?_⟩
 refine ⟨b0,rfl,⟨_,sl7⟩,comp_mapL (fun _ => .int 0) sl7 (by rw [List.length_map,ZJ]; exact Nat.le_trans c1 (by decide)) (fun i x Q _ h=>h) fun pt H8 N8=>?_⟩
 have hpt8:=N8.at_
 have e8:((row c (f 0)).map V.int).map (fun _=>V.int 0)=(row c fun _=>0).map V.int:=by unfold row; rw [List.map_map,List.map_map,List.map_map]; rfl
 rw [e8] at hpt8
 have hpl8:=N8.same _ _ hpl7
 have npl:H6 pl=none:=N7.gone
 have npt:H6 pt=none:=N7.same.free N8.gone
 have plt:pl≠pt:=fun z=>by have:=N8.gone; rw [<-z,hpl7] at this; cases this
 have S68:=N7.same.trans N8.same
 refine ⟨_,_,rfl,?_⟩
 refine ⟨_,rfl,?_⟩
 refine ⟨_,_,_,rfl,by decide,by decide,by decide,fun sk H9 _ _ S9=>?_⟩
 refine ⟨_,rfl,?_⟩
 refine ⟨_,rfl,by omega,by omega,?_⟩
 rw [Int.toNat_natCast]
 refine for_range (fun k σ H'=>Same H6 H'/\∃(pe qe:Nat->Int) (v5 v7 v13 v14 v15:Option V),σ=[some (.ref a),some (.int cell),some (.int r),some (.int c),some (.ref l),v5,v7,v13,v9,some (.int (m:Int)),some (.ref pl),some (.ref pt),some (.int sk),v14,v15,none]/\H' pl=some (.lst ((row r pe).map V.int))/\H' pt=some (.lst ((row c qe).map V.int))/\(∀i,i<r->0<=pe i)/\(∀j,j<c->0<=qe j)/\sumZ r pe=k/\sumZ c qe=k) ⟨S68.trans S9,fun _=>0,fun _=>0,_,_,_,_,_,rfl,S9 _ _ hpl8,S9 _ _ hpt8,fun _ _=>Int.le_refl _,fun _ _=>Int.le_refl _,sumZ_zero r,sumZ_zero c⟩ ?_ ?_
 ·rintro k σ H' hk ⟨S',pe,qe,v5,v7,v13,v14,v15,rfl,hpl,hpt,p0,q0,sp,sq⟩
  have hS':=((S4.trans S46).trans S').seq hS
  refine ⟨_,rfl,?_⟩
  refine ⟨a,ns,_,rfl,hS',by decide,fun c1'=>?_⟩
  have mk:CMulF (c1'+7*(0+(k:Int))) (0+(k:Int)+3):=.inl (.inr ⟨by omega,by omega⟩)
  refine ⟨_,rfl,_,_,rfl,rfl,.inr ⟨fits_of (by omega) (by omega),fits_of (by omega) (by omega)⟩,_,_,rfl,rfl,_,rfl,_,_,rfl,rfl,_,_,rfl,rfl,by omega,_,rfl,_,rfl,_,_,rfl,rfl,by omega,_,_,rfl,rfl,?_⟩
  refine ⟨a,ns,_,rfl,hS',?_,fun c2'=>?_⟩
  ·have:=Int.emod_nonneg (0+(k:Int)) (by decide:(20:Int)≠0)
   show (0:Int)<=3+(0+(k:Int)) % 20
   omega
  refine ⟨_,_,rfl,rfl,_,rfl,_,rfl,?_⟩
  refine ⟨_,_,_,rfl,by decide,by decide,by omega,fun di Ha i0 i1 Sa=>?_⟩
  refine ⟨_,rfl,_,rfl,?_⟩
  refine ⟨_,_,_,rfl,by decide,by decide,by omega,fun dj Hb j0 j1 Sb=>?_⟩
  refine ⟨_,_,rfl,?_⟩
  have Sab:=Sa.trans Sb
  have hplb:=Sab _ _ hpl
  have hptb:=Sab _ _ hpt
  have inc:∀{n:Nat} {f:Nat->Int} {x:Nat},x<n->(∀i,i<n->0<=f i)->(∀i,i<n->0<=fset f x (f x+1) i)/\sumZ n (fset f x (f x+1))=sumZ n f+1:=fun {n f x} hx f0=>by
   refine ⟨fun i hi=>?_,?_⟩
   ·by_cases e:i=x
    ·rw [e,ZH]; have:=f0 x hx; omega
    ·rw [ZI e]; exact f0 i hi
   ·have:=sumZ_upd (f:=f) (g:=fset f x (f x+1)) (k:=x) (fun z hz=>ZI hz) n
    rw [if_pos hx,ZH] at this
    omega
  refine ⟨fun σ Hc=>Same H6 Hc/\∃(pe':Nat->Int),σ=[some (.ref a),some (.int cell),some (.int r),some (.int c),some (.ref l),some (.int di),v7,some (.int dj),v9,some (.int (m:Int)),some (.ref pl),some (.ref pt),some (.int sk),some (.int (0+(k:Int))),some (.int ((c1'+7*(0+(k:Int)))*(0+(k:Int)+3)+c2')),none]/\Hc pl=some (.lst ((row r pe').map V.int))/\Hc pt=some (.lst ((row c qe).map V.int))/\(∀i,i<r->0<=pe' i)/\sumZ r pe'=k+1,?_,?_⟩
  ·refine ⟨_,rfl,_,rfl,_,_,rfl,rfl,_,rfl,?_⟩
   refine ite3 (fun _=>?_) (fun _=>?_)
   case' refine_1=>
    refine ⟨_,rfl,_,rfl,_,rfl,?_⟩
    refine ⟨_,_,_,rfl,by decide,by decide,by omega,fun d9 Hc a0' a1' Sc=>?_⟩
    refine ⟨_,_,rfl,?_⟩
    obtain ⟨x,ex,x0,x1⟩:∃x:Int,(if d9<di then d9 else di)=x/\0<=x/\x<r:=⟨_,rfl,by split <;> omega,by split <;> omega⟩
    rw [ex]
   case' refine_2=>
    refine ⟨_,rfl,?_⟩
    obtain ⟨Hc,eH,Sc⟩:∃Hc,Hb=Hc/\Same Hb Hc:=⟨Hb,rfl,Same.refl _⟩
    obtain ⟨x,ex,x0,x1⟩:∃x:Int,di=x/\0<=x/\x<r:=⟨_,rfl,by omega,by omega⟩
    rw [eH]
    have hd:V.int di=V.int x:=by rw [ex]
    rw [hd]
   all_goals
    have hplc:=Sc _ _ hplb
    have hptc:=Sc _ _ hptb
    have xn:x.toNat<r:=by omega
    have exn:((x.toNat:Nat):Int)=x:=by omega
    have atx:atI ((row r pe).map V.int) x=some (.int (pe x.toNat)):=by rw [<-exn]; exact at_row xn
    have ixx:ixN ((row r pe).map V.int).length x=some x.toNat:=by
     have:=ixN_nat (n:=((row r pe).map V.int).length) (v:=x.toNat) (by rw [List.length_map,ZJ]; exact xn)
     rw [exn] at this
     exact this
    obtain ⟨g1,g2⟩:=inc xn p0
    refine ⟨_,_,_,_,rfl,rfl,SqL.of ‹_›,by assumption,_,_,rfl,rfl,?_⟩
    refine ⟨pl,_,_,x.toNat,rfl,rfl,hplc,ixx,?_⟩
    rw [row_fset xn]
    refine ⟨(S'.trans (Sab.trans Sc)).upd npl,fset pe x.toNat (pe x.toNat+1),rfl,upd_same,by rw [upd_ne plt.symm]; exact hptc,g1,by rw [g2,sp]⟩
  rintro σ Hc ⟨Sc',pe',rfl,hplc,hptc,p0',sp'⟩
  refine ⟨_,rfl,_,rfl,_,_,rfl,rfl,_,rfl,?_⟩
  refine ite3 (fun _=>?_) (fun _=>?_)
  case' refine_1=>
   refine ⟨_,rfl,_,rfl,_,rfl,?_⟩
   refine ⟨_,_,_,rfl,by decide,by decide,by omega,fun d9 Hd a0' a1' Sd=>?_⟩
   refine ⟨_,_,rfl,?_⟩
   obtain ⟨x,ex,x0,x1⟩:∃x:Int,(if d9<dj then d9 else dj)=x/\0<=x/\x<c:=⟨_,rfl,by split <;> omega,by split <;> omega⟩
   rw [ex]
  case' refine_2=>
   refine ⟨_,rfl,?_⟩
   obtain ⟨Hd,eH,Sd⟩:∃Hd,Hc=Hd/\Same Hc Hd:=⟨Hc,rfl,Same.refl _⟩
   obtain ⟨x,ex,x0,x1⟩:∃x:Int,dj=x/\0<=x/\x<c:=⟨_,rfl,by omega,by omega⟩
   rw [eH]
   have hd:V.int dj=V.int x:=by rw [ex]
   rw [hd]
  all_goals
   have hpld:=Sd _ _ hplc
   have hptd:=Sd _ _ hptc
   have xn:x.toNat<c:=by omega
   have exn:((x.toNat:Nat):Int)=x:=by omega
   have atx:atI ((row c qe).map V.int) x=some (.int (qe x.toNat)):=by rw [<-exn]; exact at_row xn
   have ixx:ixN ((row c qe).map V.int).length x=some x.toNat:=by
    have:=ixN_nat (n:=((row c qe).map V.int).length) (v:=x.toNat) (by rw [List.length_map,ZJ]; exact xn)
    rw [exn] at this
    exact this
   obtain ⟨g1,g2⟩:=inc xn q0
   refine ⟨_,_,_,_,rfl,rfl,SqL.of ‹_›,by assumption,_,_,rfl,rfl,?_⟩
   refine ⟨pt,_,_,x.toNat,rfl,rfl,hptd,ixx,?_⟩
   rw [row_fset xn]
   refine ⟨(Sc'.trans Sd).upd npt,pe',fset qe x.toNat (qe x.toNat+1),_,_,_,_,_,rfl,by rw [upd_ne plt]; exact hpld,upd_same,p0',g1,by rw [sp']; omega,by rw [g2,sq]; omega⟩
 ·rintro σ H' ⟨S',pe,qe,v5,v7,v13,v14,v15,rfl,hpl,hpt,p0,q0,sp,sq⟩
  refine ⟨_,rfl,_,rfl,_,rfl,?_⟩
  refine ⟨(by show 3<=sizeLine; decide),fun t Ht Nt=>?_⟩
  have le:∀{n:Nat} {f:Nat->Int},(∀i,i<n->0<=f i)->sumZ n f=m->∀i,i<n->0<=f i/\f i<=400:=fun {n f} f0 fs i hi=>by
   have h4:=sumZ_le (n:=n) (f:=fun y=>if y=i then f i else 0) (g:=f) fun y hy=>by
    by_cases e:y=i
    ·rw [if_pos e,e]; exact Int.le_refl _
    ·rw [if_neg e]; exact f0 y hy
   have h5:=sumZ_upd (f:=fun _=>0) (g:=fun y=>if y=i then f i else 0) (k:=i) (fun y hy=>if_neg hy) n
   rw [sumZ_zero,if_pos hi,if_pos rfl] at h5
   exact ⟨f0 i hi,by omega⟩
  exact q t l pl pt as f r c pe qe Ht ((S4.trans S46).trans (S'.trans Nt.same)) Nt.at_ (mm6.same (S'.trans Nt.same)) (Nt.same _ _ hpl) (Nt.same _ _ hpt) r0 r1 c0 c1 bd ⟨le p0 sp,le q0 sq,by rw [sp,sq]⟩ plt
end
end K7
namespace SW
open PySem L2
def BQ (e:Nat) (p:Q2):Prop:=0<p.1/\0<p.2/\p.1<2 ^ e/\p.2<2 ^ e
theorem mul_pow2 {x y:Int} {e f:Nat} (x0:0<=x) (y0:0<y) (hx:x<2 ^ e) (hy:y<2 ^ f):x*y<2 ^ (e+f):=by
 rw [Int.pow_add]
 refine Int.lt_of_lt_of_le (Int.mul_lt_mul_of_pos_right hx y0) (Int.mul_le_mul_of_nonneg_left (Int.le_of_lt hy) (Int.le_of_lt (Int.pow_pos (by decide))))
structure Prs (K:W.Frag) (H:Hp) (p:Addr) (ra:List Addr) (n:Nat) (R:Nat->Q2):Prop where
 top:SqL K H p (ra.map V.ref)
 len:ra.length=n
 tup:∀(i:Nat) (x:Addr),ra[i]?=some x->H x=some (.tup [.int (R i).1,.int (R i).2])
theorem Prs.same {K:W.Frag} {H H':Hp} {p:Addr} {ra:List Addr} {n:Nat} {R:Nat->Q2} (x:Prs K H p ra n R) (S:Same H H'):Prs K H' p ra n R:=⟨S.seq x.top,x.len,fun i y e=>S _ _ (x.tup i y e)⟩
theorem Prs.get {K:W.Frag} {H:Hp} {p:Addr} {ra:List Addr} {n:Nat} {R:Nat->Q2} (x:Prs K H p ra n R) {i:Nat} (hi:i<n):∃y,ra[i]?=some y/\atI (ra.map V.ref) (i:Int)=some (.ref y)/\H y=some (.tup [.int (R i).1,.int (R i).2]):=by
 have hl:=x.len
 have e:ra[i]?=some (ra[i]'(by omega)):=by simp
 exact ⟨_,e,at_ref e,x.tup i _ e⟩
structure Adj (K:W.Frag) (H:Hp) (p:Addr) (as:List Addr) (n:Nat) (W:Nat->List Nat):Prop where
 top:SqL K H p (as.map V.ref)
 len:as.length=n
 rows:∀(u:Nat) (a:Addr),as[u]?=some a->SqL K H a ((W u).map nV)
theorem Adj.same {K:W.Frag} {H H':Hp} {p:Addr} {as:List Addr} {n:Nat} {W:Nat->List Nat} (x:Adj K H p as n W) (S:Same H H'):Adj K H' p as n W:=⟨S.seq x.top,x.len,fun u a e=>S.seq (x.rows u a e)⟩
theorem Adj.get {K:W.Frag} {H:Hp} {p:Addr} {as:List Addr} {n:Nat} {W:Nat->List Nat} (x:Adj K H p as n W) {u:Nat} (hu:u<n):∃a,as[u]?=some a/\atI (as.map V.ref) (u:Int)=some (.ref a)/\SqL K H a ((W u).map nV):=by
 have hl:=x.len
 have e:as[u]?=some (as[u]'(by omega)):=by simp
 exact ⟨_,e,at_ref e,x.rows u _ e⟩
theorem fil_nat (ws:List Nat) (p:V->Bool) (q:Nat->Bool) (h:∀x,p (nV x)=q x):((ws.map nV).filter p).map (fun x=>x)=(ws.filter q).map nV:=by
 rw [List.map_id',List.filter_map]
 congr 1
 exact List.filter_congr fun x _=>h x
end SW
namespace K7
open PySem L2 SW
section
variable {P:Program} {w:World} {K:W.Frag} {mg:Str->Option Value} {base:Heap}
def spJust:Sp:=fun vs H Q _=>∃(tc ts te:Addr) (x p q:Q2),vs=[.ref tc,.ref ts,.ref te]/\H tc=some (.tup [.int x.1,.int x.2])/\H ts=some (.tup [.int p.1,.int p.2])/\H te=some (.tup [.int q.1,.int q.2])/\BQ 80 x/\BQ 3000 p/\BQ 3000 q/\∀b:Bool,(b=true↔just p x q)->Q (.bl b) H
theorem ok_Qm (T:Txt K mg):FnOk P w K mg base CX0 1 T.a_Qm T.fd_Qm ["cost","start","end"] spJust:=by
 refine T.F_Qm.ok sc_Qm (fun vs H Q E h=>?_) (fun cdv A outer s H vs Q E hr h=>?_)
 ·obtain ⟨tc,ts,te,x,p,q,rfl,_⟩:=h
  rfl
 obtain ⟨tc,ts,te,x,p,q,rfl,h1,h2,h3,⟨x1,x2,x3,x4⟩,⟨p1,p2,p3,p4⟩,⟨q1,q2,q3,q4⟩,k⟩:=h
 refine ⟨_,(pss_one (ps_ret (pe_cmpR op_eqI (pe_op ZC (pe_op ZC (pe_ix (ix_Q K) (pv 1) pe_int (fun _ _=>rfl)) (pe_ix (ix_Q K) (pv 0) pe_int (fun _ _=>rfl))) (pe_ix (ix_Q K) (pv 2) pe_int (fun _ _=>rfl))) (pe_op ZC (pe_op ZC (pe_ix (ix_Q K) (pv 2) pe_int (fun _ _=>rfl)) (pe_ix (ix_Q K) (pv 1) pe_int (fun _ _=>rfl))) (pe_ix (ix_Q K) (pv 0) pe_int (fun _ _=>rfl))) (nomark _)))),?_⟩
 have m1:CMulF p.1 x.1:=.inr ⟨ZG (Int.le_of_lt p1) p3 (by decide),ZG (Int.le_of_lt x1) x3 (by decide)⟩
 have m2:CMulF (p.1*x.1) q.2:=.inr ⟨ZG (Int.le_of_lt (Int.mul_pos p1 x1)) (mul_pow2 (Int.le_of_lt p1) x1 p3 x3) (by decide),ZG (Int.le_of_lt q2) q4 (by decide)⟩
 have m3:CMulF q.1 p.2:=.inr ⟨ZG (Int.le_of_lt q1) q3 (by decide),ZG (Int.le_of_lt p2) p4 (by decide)⟩
 have m4:CMulF (q.1*p.2) x.2:=.inr ⟨ZG (Int.le_of_lt (Int.mul_pos q1 p2)) (mul_pow2 (Int.le_of_lt q1) p2 q3 p4) (by decide),ZG (Int.le_of_lt x2) x4 (by decide)⟩
 refine ⟨_,rfl,_,_,_,_,rfl,rfl,Or.inr (SqT.of ‹_›),rfl,_,rfl,_,_,_,_,rfl,rfl,Or.inr (SqT.of ‹_›),rfl,_,_,rfl,rfl,by omega,_,rfl,_,_,_,_,rfl,rfl,Or.inr (SqT.of ‹_›),rfl,_,_,rfl,rfl,by omega,_,rfl,_,_,_,_,rfl,rfl,Or.inr (SqT.of ‹_›),rfl,_,rfl,_,_,_,_,rfl,rfl,Or.inr (SqT.of ‹_›),rfl,_,_,rfl,rfl,by omega,_,rfl,_,_,_,_,rfl,rfl,Or.inr (SqT.of ‹_›),rfl,_,_,rfl,rfl,by omega,_,_,rfl,rfl,?_⟩
 exact k _ decide_eq_true_iff
def spFreeFrom (K:W.Frag):Sp:=fun vs H Q _=>∃(d lv:Addr) (kvs:List (Key×V)) (la:List Addr) (n u:Nat) (E:Nat->Option Q2) (lm:Nat->Q2),vs=[.int (u:Int),.ref d,.ref lv]/\H d=some (.dK kvs)/\(∀(v:Nat) (x:Q2),E v=some x->∃t,valV kvs (.inl (v:Int))=some (.ref t)/\H t=some (.tup [.int x.1,.int x.2]))/\(∀kx,kx∈kvs->∃(v:Nat) (x:Q2),kx.1 = .inl (v:Int)/\v<n/\E v=some x) /\
 Prs K H lv la n lm/\u<n/\kvs.length<=1000/\(∀v x,E v=some x->BQ 80 x)/\(∀v,v<n->BQ 3000 (lm v)) /\
 ∀(l:Addr) (H':Hp) (ws:List Nat),Same H H'->H l=none->H' l=some (.lst (ws.map nV))->(∀v,v∈ws↔∃x,E v=some x/\just (lm u) x (lm v))->ws.length<=1000->Q (.ref l) H'
theorem valV_mem {kvs:List (Key×V)} {k:Key} {x:V} (h:valV kvs k=some x):∃kx,kx∈kvs/\kx.1=k:=by
 unfold valV at h
 cases e:kvs.find? fun kv=>decide (kv.1=k) with
 | none=>rw [e] at h; cases h
 | some kx=>
  have h1:=List.find?_some e
  exact ⟨kx,List.mem_of_find?_eq_some e,of_decide_eq_true h1⟩
theorem ok_Ql (T:Txt K mg):FnOk P w K mg base CX0 2 T.a_Ql T.fd_Ql ["node","ways","levels"] (spFreeFrom K):=by
 refine T.F_Ql.ok sc_Ql (fun vs H Q E h=>?_) (fun cdv A outer s H vs Q E hr h=>?_)
 ·obtain ⟨d,lv,kvs,la,n,u,G,lm,rfl,_⟩:=h
  rfl
 obtain ⟨d,lv,kvs,la,n,u,G,lm,rfl,hd,hval,hkey,pr,hu,lk,gb,lb,k⟩:=h
 refine ⟨_,(pss_one (ps_ret (pe_thaw H (ZD [3] rfl (ZK rfl) (pi_dict (pv 1)) (fun _=>(pg_name (i:=3) sc_Ql.nd rfl (Or.inl rfl))) (fun _=>pts_one (pt_val (pe_call (ok_Qm T) (hr.mono (by decide)) rfl T.m_Qm T.F_Qm.kp T.b_Qm .nil pass0 (pa_cons (pe_dgetR hr.u1 (pv 1) (pv 3) (fun _ _=>rfl)) (pa_cons (pe_ix (ix_Q K) (pv 2) (pv 0) (fun _ _=>rfl)) (pa_cons (pe_ix (ix_Q K) (pv 2) (pv 3) (fun _ _=>rfl)) pa_nil)))))) (fun _=>(pv 3)))))),?_⟩
 unfold tThawE
 refine ⟨_,rfl,?_⟩
 refine ⟨d,kvs,rfl,hd,fun o=>?_⟩
 refine comp_dict (fun i ys H'=>H'=upd H d (.frz o (.dK kvs))/\∃ws:List Nat,ys=ws.map nV/\ws.length<=i/\∀v,v∈ws↔∃i' kx x,i'<i/\kvs[i']?=some kx/\kx.1 = .inl (v:Int)/\G v=some x/\just (lm u) x (lm v)) (Nat.le_trans lk (by decide)) ⟨rfl,[],rfl,Nat.le_refl _,fun v=>⟨fun h=>(by cases h),fun ⟨i',kx,x,h,_⟩=>absurd h (Nat.not_lt_zero _)⟩⟩ (fun i ys H' _ h=>by rw [h.1]; exact upd_same) ?_ ?_
 ·rintro i kx ys H' hkx ⟨rfl,ws,rfl,lw,hws⟩
  obtain ⟨v,x,ek,vn,ex⟩:=hkey kx (List.mem_of_getElem? hkx)
  obtain ⟨te,hve,hte⟩:=hval v x ex
  rw [ek]
  have off:∀{b:Addr} {zs:List V},H b=some (.tup zs)->upd H d (.frz o (.dK kvs)) b=some (.tup zs):=fun {b zs} e=>by rw [upd_ne (ne_of e hd (by intro z; cases z))]; exact e
  have offL:SqL K (upd H d (.frz o (.dK kvs))) lv (la.map V.ref):=by
   rcases pr.top with (h | ⟨ob,h⟩) | h
   ·exact .inl (.inl (by rw [upd_ne (ne_of h hd (by intro z; cases z))]; exact h))
   ·exact .inl (.inr ⟨ob,by rw [upd_ne (ne_of h hd (by intro z; cases z))]; exact h⟩)
   ·exact .inr h
  have dg:DGet (upd H d (.frz o (.dK kvs))) d (.int (v:Int)) (some (.ref te)):=.inl ⟨kvs,.inl (v:Int),.inr ⟨o,upd_same⟩,rfl,hve.symm⟩
  have dg0:DGet (upd H d (.frz o (.dK kvs))) d (kV (Sum.inl (v:Int))) (some (.ref te)):=dg
  obtain ⟨yu,eu,atu,hyu⟩:=pr.get hu
  obtain ⟨yv,ev,atv,hyv⟩:=pr.get vn
  have atv0:atI (la.map V.ref) (v:Int)=some (.ref yv):=atv
  have step:∀bb:Bool,(bb=true↔just (lm u) x (lm v))->∀ws':List Nat,(∀z,z∈ws'↔z∈ws\/(bb=true/\z=v))->∀z,z∈ws'↔∃i' kx x,i'<i+1/\kvs[i']?=some kx/\kx.1 = .inl (z:Int)/\G z=some x/\just (lm u) x (lm z):=fun bb hb ws' hw' z=>by
   rw [hw' z,hws z]
   constructor
   ·rintro (⟨i',kx',x',h1,h2⟩ | ⟨h1,rfl⟩)
    ·exact ⟨i',kx',x',by omega,h2⟩
    ·exact ⟨i,kx,x,by omega,hkx,ek,ex,hb.mp h1⟩
   ·rintro ⟨i',kx',x',h1,h2,h3,h4,h5⟩
    by_cases e:i'=i
    ·subst e
     rw [hkx] at h2
     cases h2
     rw [ek] at h3
     have:v=z:=by have:=Sum.inl.inj h3; omega
     subst this
     rw [ex] at h4
     cases h4
     exact .inr ⟨hb.mpr h5,rfl⟩
    ·exact .inl ⟨i',kx',x',by omega,h2,h3,h4,h5⟩
  refine ⟨_,rfl,_,rfl,_,_,rfl,by assumption,_,rfl,_,rfl,_,_,_,_,rfl,rfl,Or.inl ‹_›,by assumption,_,rfl,_,rfl,_,_,_,_,rfl,rfl,Or.inl ‹_›,by assumption,?_⟩
  refine ⟨te,yu,yv,x,lm u,lm v,rfl,off hte,off hyu,off hyv,gb v x ex,lb u hu,lb v vn,fun bb hb=>?_⟩
  refine ⟨_,rfl,?_⟩
  cases bb with
  | true=>
   rw [if_pos rfl]
   refine ⟨_,rfl,?_⟩
   refine ⟨rfl,ws++[v],by rw [List.map_append]; rfl,by rw [List.length_append]; exact Nat.add_le_add_right lw 1,step true hb _ fun z=>?_⟩
   simp
  | false=>
   rw [if_neg Bool.false_ne_true]
   exact ⟨rfl,ws,rfl,by omega,step false hb _ fun z=>by simp⟩
 ·rintro ys H' ⟨rfl,ws,rfl,lw,hws⟩ l H2 N2
  refine ⟨d,o,kvs,N2.same _ _ upd_same,fun o u z=>(by rw [hd] at z; cases z),?_⟩
  have nl:l≠d:=fun z=>by have:=N2.gone; rw [z,upd_same] at this; cases this
  refine k l _ ws (fun b ob e=>?_) ?_ (by rw [upd_ne nl]; exact N2.at_) (fun v=>(hws v).trans ⟨fun ⟨i',kx,x,_,_,_,h4,h5⟩=>⟨x,h4,h5⟩,fun ⟨x,h4,h5⟩=>?_⟩) (Nat.le_trans lw lk)
  ·by_cases q:b=d
   ·subst q; rw [hd] at e; cases e; exact upd_same
   ·rw [upd_ne q]; exact N2.same _ _ (by rw [upd_ne q]; exact e)
  ·have:=N2.gone
   rw [upd_ne nl] at this
   exact this
  ·obtain ⟨t,hv,_⟩:=hval v x h4
   obtain ⟨kx,hm,ek⟩:=valV_mem hv
   obtain ⟨i',hi',e'⟩:=List.getElem_of_mem hm
   exact ⟨i',kx,x,hi',by rw [List.getElem?_eq_getElem hi',e'],ek,h4,h5⟩
end
end K7
namespace SW
open PySem L2
theorem NetE.bq {a b:Int} {V S:Nat->Nat->Int} {r c:Nat} {E:Nat->Nat->Option Q2} (N:NetE a b V S r c E) (T:TabOk a b V S r c) {u v:Nat} {x:Q2} (h:E u v=some x):BQ 80 x:=by
 rcases N.out u v x h with ⟨i,j,hi,hj,rfl,rfl,hv⟩ | ⟨i,j,hi,hj,rfl,rfl,hs⟩
 ·obtain ⟨x,y,e,pr⟩:=N.up u j hi hj hv
  rw [e] at h
  cases h
  have s:=T.s0 u j hi hj
  obtain ⟨h1,h2,h3⟩:=pr_bd T.a0 T.ab T.b1 hv (T.v0 u j hi hj).2 (by omega) (by omega) pr
  exact ⟨h3.1,h3.2,h1,h2⟩
 ·obtain ⟨x,y,e,pr⟩:=N.dn v j hi hj hs
  rw [e] at h
  cases h
  have s:=T.s0 v j hi hj
  obtain ⟨h1,h2,h3⟩:=pr_bd T.a0 T.ab T.b1 (T.z v j hi hj hs) (T.v0 v j hi hj).2 (by omega) (by omega) pr
  exact ⟨h3.2,h3.1,h2,h1⟩
theorem keys_len {n:Nat} {kvs:List (Key×V)} (nd:(kvs.map (·.1)).Nodup) (h:∀kx,kx∈kvs->∃v:Nat,kx.1 = .inl (v:Int)/\v<n):kvs.length<=n:=by
 let f:Key->Nat:=fun k=>match k with | .inl i=>i.toNat | .inr _=>0
 have hk:∀k,k∈kvs.map (·.1)->∃v:Nat,k = .inl (v:Int)/\v<n:=fun k hk=>by
  obtain ⟨kx,hm,rfl⟩:=List.mem_map.mp hk
  exact h kx hm
 have nd2:((kvs.map (·.1)).map f).Nodup:=by
  refine List.pairwise_map.mpr (List.Pairwise.imp_of_mem (fun {x y} hx hy hne=>?_) nd)
  obtain ⟨v,rfl,_⟩:=hk x hx
  obtain ⟨v',rfl,_⟩:=hk y hy
  intro z
  have z':(v:Int).toNat=(v':Int).toNat:=z
  exact hne (by congr 1; omega)
 have:=nodup_bound n _ nd2 fun x hx=>by
  obtain ⟨k,hm,rfl⟩:=List.mem_map.mp hx
  obtain ⟨v,rfl,hv⟩:=hk k hm
  show (v:Int).toNat<n
  omega
 rw [List.length_map,List.length_map] at this
 exact this
end SW
namespace K7
open PySem L2 SW
section
variable {P:Program} {w:World} {K:W.Frag} {mg:Str->Option Value} {base:Heap}
def spFreeWays (T:Txt K mg):Sp:=fun vs H Q _=>∃(H0:Hp) (p dx vt rl sl wl:Addr) (as ds:List Addr) (U S:Nat->Nat->Int) (r c:Nat) (a b:Int) (kv:Nat->List (Key×V)) (E:Nat->Nat->Option Q2) (q dq sl0 rl0 cl0:Addr) (as0 ra ca:List Addr) (S0:Nat->Nat->Int) (R C:Nat->Q2),vs=[.ref p,.ref q]/\T.net H0 H p dx vt rl sl wl as ds U S r c a b kv E/\NetE a b U S r c E/\TabOk a b U S r c/\DealH T.c_QC H q dq sl0 rl0 cl0 as0 ra ca S0 r c R C/\(∀i,i<r->BQ 3000 (R i))/\(∀j,j<c->BQ 3000 (C j))/\r+c<=40 /\
 ∀(H':Hp) (l:Addr) (ws:List Addr) (W:Nat->List Nat),Same H H'->H l=none->Adj K H' l ws (r+c) W->(∀u v,u<r+c->(v∈W u↔FreeE a b U S r c (lam r c R C) u v))->(∀u,u<r+c->(W u).length<=1000)->Q (.ref l) H'
theorem ok_Qk (T:Txt K mg):FnOk P w K mg base CX0 3 T.a_Qk T.fd_Qk ["net","dealing"] (spFreeWays T):=by
 refine T.F_Qk.ok sc_Qk (fun vs H Q E h=>?_) (fun cdv A outer s H vs Q E hr h=>?_)
 ·obtain ⟨H0,p,dx,vt,rl,sl,wl,as,ds,U,S,r,c,a,b,kv,G,q,dq,sl0,rl0,cl0,as0,ra,ca,S0,R,C,rfl,_⟩:=h
  rfl
 obtain ⟨H0,p,dx,vt,rl,sl,wl,as,ds,U,S,r,c,a,b,kv,G,q,dq,sl0,rl0,cl0,as0,ra,ca,S0,R,C,rfl,N,NE,tab,d,rb,cb,n1,k⟩:=h
 refine ⟨_,(pss_cons (ps_set (i:=2) sc_Qk.nd rfl (Or.inr rfl) (pe_op op_catN (ZD [4] rfl (ZK rfl) (ZB K (ZA K (pv 1) rfl)) (fun _=>(pg_name (i:=4) sc_Qk.nd rfl (Or.inl rfl))) (fun _=>ZL) (fun _=>(ZE (pa_cons (pe_ix (ix_Q K) (pv 4) pe_int (fun _ _=>rfl)) (pa_cons (pe_ix (ix_Q K) (pv 4) pe_int (fun _ _=>rfl)) pa_nil))))) (ZA K (pv 1) rfl)))
   (pss_one (ps_ret (ZD [3] rfl (ZK rfl) (pi_range1 rfl T.n_range (pa_cons (pe_callB (len_Q K) (by rfl) T.n_len PySem.boot_len (pa_cons (pv 2) pa_nil)) pa_nil)) (fun _=>(pg_name (i:=3) sc_Qk.nd rfl (Or.inl rfl))) (fun _=>ZL) (fun _=>(pe_call (ok_Ql T) (hr.mono (by decide)) rfl T.m_Ql T.F_Ql.kp T.b_Ql .nil pass0 (pa_cons (pv 3) (pa_cons (pe_ix (ix_Q K) (ZA K (pv 0) rfl) (pv 3) (fun _ _=>rfl)) (pa_cons (pv 2) pa_nil))))))))),?_⟩
 have ob:=d.ob
 have hrows:=d.rows
 have lr:=d.rlen
 have lc:=d.clen
 refine ⟨_,rfl,_,_,_,_,_,rfl,by assumption,T.cl_QC,T.na_QC_rows,by rfl,?_⟩
 refine ⟨rl0,rfl,⟨_,SqL.of hrows⟩,?_⟩
 refine comp_list (xs:=ra.map V.ref) (fun i ys H'=>Same H H'/\∃la:List Addr,ys=la.map V.ref/\la.length=i/\∀(k:Nat) (x:Addr),la[k]?=some x->H' x=some (.tup [.int (R k).2,.int (R k).1])) (by rw [List.length_map,lr]; exact Nat.le_trans (show r<=40 by omega) (by decide)) ⟨Same.refl _,[],rfl,rfl,fun k x e=>(by simp at e)⟩ (fun i ys H' _ h=>h.1.seq (SqL.of hrows)) ?_ ?_
 ·rintro i x ys H1 hx ⟨S1,la,rfl,ll,hla⟩
  rw [List.getElem?_map] at hx
  cases e:ra[i]? with
  | none=>rw [e] at hx; cases hx
  | some y=>
   rw [e] at hx
   have ex:x = .ref y:=(Option.some.inj hx).symm
   subst ex
   have hy:=S1 _ _ (d.rt i y e)
   refine yes ?_
   refine ⟨_,rfl,_,_,_,_,rfl,rfl,Or.inr (SqT.of ‹_›),rfl,_,rfl,_,_,_,_,rfl,rfl,Or.inr (SqT.of ‹_›),rfl,?_⟩
   refine ⟨(by show 2<=sizeLine; decide),fun t H2 N2=>?_⟩
   refine ⟨S1.trans N2.same,la++[t],by simp,by simp [ll],fun n z en=>?_⟩
   by_cases hn:n<la.length
   ·rw [List.getElem?_append_left hn] at en
    exact N2.same _ _ (hla n z en)
   ·rw [List.getElem?_append_right (by omega)] at en
    have hz:n - la.length=0:=by have:=(List.getElem?_eq_some_iff.mp en).1; simp at this; omega
    rw [hz] at en
    have ez:z=t:=by simpa using en.symm
    have en':n=i:=by omega
    rw [ez,en']
    exact N2.at_
 rintro ys H1 ⟨S1,la,rfl,ll,hla⟩ l2 H2 N2
 rw [List.length_map,lr] at ll
 have S2:=S1.trans N2.same
 have d2:=d.same S2
 have ob2:=d2.ob
 refine ⟨_,rfl,_,_,_,_,_,rfl,by assumption,T.cl_QC,T.na_QC_columns,by rfl,?_⟩
 refine ⟨l2,cl0,_,_,rfl,rfl,N2.at_,d2.cols,by rw [List.length_map,List.length_map,ll,lc]; exact Nat.le_trans n1 (by decide),fun lv H3 N3=>?_⟩
 have S3:=S2.trans N3.same
 have pr3:Prs K H3 lv (la++ca) (r+c) (lam r c R C):=by
  refine ⟨SqL.of (by rw [List.map_append]; exact N3.at_),by rw [List.length_append,ll,lc],fun i x e=>?_⟩
  have hi:i<r+c:=by have:=(List.getElem?_eq_some_iff.mp e).1; rw [List.length_append,ll,lc] at this; exact this
  by_cases h:i<r
  ·rw [List.getElem?_append_left (by omega)] at e
   rw [lam_row h]
   exact (N2.same.trans N3.same) _ _ (hla i x e)
  ·rw [List.getElem?_append_right (by omega),ll] at e
   have:=lam_col (r:=r) (R:=R) (C:=C) (show i - r<c by omega)
   rw [show r+(i - r)=i by omega] at this
   rw [this]
   exact S3 _ _ (d.ct (i - r) x e)
 have lmb:∀v,v<r+c->BQ 3000 (lam r c R C v):=fun v hv=>lam_all (Pp:=BQ 3000) (fun i hi=>⟨(rb i hi).2.1,(rb i hi).1,(rb i hi).2.2.2,(rb i hi).2.2.1⟩) cb hv
 have hlv:=pr3.top
 refine ⟨_,rfl,_,_,rfl,Or.inl ‹_›,?_⟩
 rw [List.length_map,pr3.len]
 refine ⟨_,rfl,by omega,by omega,?_⟩
 rw [Int.toNat_natCast]
 refine comp_range (fun i ys H'=>Same H3 H'/\∃(ws:List Addr) (W:Nat->List Nat),ys=ws.map V.ref/\ws.length=i/\(∀(u:Nat) (x:Addr),ws[u]?=some x->H' x=some (.lst ((W u).map nV)))/\(∀u,u<i->(W u).length<=1000)/\∀u v,u<i->(v∈W u↔FreeE a b U S r c (lam r c R C) u v)) (Nat.le_trans n1 (by decide)) ⟨Same.refl _,[],fun _=>[],rfl,rfl,fun u x e=>(by simp at e),fun u h=>absurd h (Nat.not_lt_zero _),fun u v h=>absurd h (Nat.not_lt_zero _)⟩ ?_ ?_
 ·rintro u ys H4 hu ⟨S4,ws,W,rfl,lw,hws,lW,hW⟩
  rw [show (0:Int)+(u:Int)=(u:Int) by omega]
  have N4:=N.same (S3.trans S4)
  have ob4:=N4.ob
  have hwl:=N4.ws.top
  have ld:=N4.ws.len
  have ed:ds[u]?=some (ds[u]'(by omega)):=by simp
  have atd:atI (ds.map V.ref) (u:Int)=some (.ref (ds[u]'(by omega))):=at_ref ed
  have hd:=N4.ws.dict u _ ed
  refine yes ?_
  refine ⟨_,rfl,_,rfl,_,_,_,_,_,rfl,by assumption,T.cl_Net,T.na_Net_ways,by rfl,_,rfl,_,_,_,_,rfl,rfl,Or.inl (SqL.of ‹_›),by assumption,_,rfl,?_⟩
  refine ⟨_,lv,kv u,la++ca,r+c,u,G u,lam r c R C,rfl,hd,fun v x e=>N4.ws.val u v x hu e,fun kx hk=>N4.ws.key u kx hu hk,pr3.same S4,hu,?_,fun v x e=>NE.bq tab e,lmb,fun l H5 vs S5 nl hl hvs lvs=>?_⟩
  ·exact Nat.le_trans (keys_len (N4.ws.nd u hu) fun kx hk=>by
    obtain ⟨v,x,e1,e2,_⟩:=N4.ws.key u kx hu hk
    exact ⟨v,e1,e2⟩) (by omega)
  refine ⟨S4.trans S5,ws++[l],fun z=>if z=u then vs else W z,by simp,by simp [lw],fun z x e=>?_,fun z hz=>?_,fun z v hz=>?_⟩
  ·show H5 x=some (.lst ((if z=u then vs else W z).map nV))
   by_cases hn:z<ws.length
   ·rw [List.getElem?_append_left hn] at e
    rw [if_neg (by omega)]
    exact S5 _ _ (hws z x e)
   ·rw [List.getElem?_append_right (by omega)] at e
    have hz:z - ws.length=0:=by have:=(List.getElem?_eq_some_iff.mp e).1; simp at this; omega
    rw [hz] at e
    have ex:x=l:=by simpa using e.symm
    have ez:z=u:=by omega
    rw [ex,if_pos ez]
    exact hl
  ·show (if z=u then vs else W z).length<=1000
   by_cases ez:z=u
   ·rw [if_pos ez]; exact lvs
   ·rw [if_neg ez]; exact lW z (by omega)
  ·show v∈(if z=u then vs else W z)↔_
   by_cases ez:z=u
   ·rw [if_pos ez,ez,hvs v]
    exact NE.free tab
   ·rw [if_neg ez]
    exact hW z v (by omega)
 ·rintro ys H4 ⟨S4,ws,W,rfl,lw,hws,lW,hW⟩ l H5 N5
  exact k H5 l ws W (S3.trans (S4.trans N5.same)) (S3.free (S4.free N5.gone)) ⟨SqL.of N5.at_,lw,fun u x e=>SqL.of (N5.same _ _ (hws u x e))⟩ hW lW
end
end K7
namespace SW
open PySem L2
theorem ite4 {c A B:Prop} [Decidable c] (h1:c->B) (h2:¬c->A):if (!decide c)=true then A else B:=by
 by_cases h:c
 ·exact iteNT h (h1 h)
 ·exact iteNF h (h2 h)
theorem bl_flat (bs:List Bool):(bs.map V.bl).all flatV=true:=by
 rw [List.all_eq_true]
 intro x hx
 obtain ⟨k,_,rfl⟩:=List.mem_map.mp hx
 rfl
theorem PL_flat (p:Nat->Nat) (k:Nat):(PL p k).all flatV=true:=by
 rw [List.all_eq_true]
 intro x hx
 unfold PL at hx
 obtain ⟨z,_,rfl⟩:=List.mem_map.mp hx
 rfl
theorem first_of {bs:List Bool} (h:bs.any id=true):∃j:Nat,bs[j]?=some true/\∀(m:Nat) (b:Bool),m<j->bs[m]?=some b->b=false:=by
 induction bs with
 | nil=>cases h
 | cons b bs ih=>
  cases b with
  | true=>exact ⟨0,rfl,fun m b hm=>absurd hm (Nat.not_lt_zero _)⟩
  | false=>
   obtain ⟨j,h1,h2⟩:=ih (by simpa using h)
   refine ⟨j+1,by simpa using h1,fun m b hm e=>?_⟩
   cases m with
   | zero=>simpa using e.symm
   | succ m=>exact h2 m b (by omega) (by simpa using e)
def laL (n:Nat) (f:Nat->Bool):List Bool:=(List.range n).map f
theorem laL_len (n:Nat) (f:Nat->Bool):(laL n f).length=n:=by unfold laL; simp
theorem laL_get {n:Nat} {f:Nat->Bool} {v:Nat} (h:v<n):(laL n f)[v]?=some (f v):=by unfold laL; rw [List.getElem?_map,List.getElem?_range h]; rfl
theorem laL_at {n:Nat} {f:Nat->Bool} {v:Nat} (h:v<n):atI ((laL n f).map V.bl) (v:Int)=some (.bl (f v)):=atI_nat' (by rw [List.getElem?_map,laL_get h]; rfl)
theorem comp_bls {K:W.Frag} {te:TE} {σ:St} {j:Nat} {R:List V->Hp->Prop} {H1:Hp} {a:Addr} {zs:List V} (g:Nat->Bool) (hl:SqL K H1 a zs) (hz:zs.length<=sizeLine) (hs:∀(i:Nat) (x:V) (H:Hp) (Q:VK),zs[i]?=some x->Same H1 H->(∀(H':Hp),Same H H'->Q (.bl (g i)) H')->te (σ.set j (some x)) H Q)
  (hd:∀(H:Hp),Same H1 H->R ((laL zs.length g).map V.bl) H):∃a',V.ref a = .ref a'/\(∃xs,SqL K H1 a' xs)/\CompW (Itl K a') (gName j) tYes te (wipe [j] σ) R H1:=by
 refine ⟨a,rfl,⟨_,hl⟩,?_⟩
 refine comp_list (fun i ys H2=>Same H1 H2/\ys=(laL i g).map V.bl) hz ⟨Same.refl _,rfl⟩ (fun i ys H2 _ h=>h.1.seq hl) ?_ ?_
 ·rintro i x ys H2 hx ⟨S2,rfl⟩
  refine yes (hs i x H2 _ hx S2 fun H3 S3=>⟨S2.trans S3,?_⟩)
  unfold laL
  rw [List.range_succ,List.map_append,List.map_append]
  rfl
 ·rintro ys H2 ⟨S2,rfl⟩
  exact hd H2 S2
theorem PL_init {p:Nat->Nat} {k:Nat}:cutV (PL p k) none (some (-1))=(List.range k).map fun t=>nV (p t):=by
 unfold cutV
 have e1:HT.sIx (PL p k).length 0 none=0:=rfl
 have e2:HT.sIx (PL p k).length (PL p k).length (some (-1))=k:=by
  rw [PL_len]
  simp only [HT.sIx]
  split <;> omega
 rw [e1,e2]
 unfold PL
 rw [List.drop_zero,Nat.sub_zero,<-List.map_take,List.take_range]
 congr 2
 omega
theorem PL_tail {p:Nat->Nat} {k i:Nat} (h:i<=k):cutV (PL p k) (some (i:Int)) none=PL (fun t=>p (i+t)) (k - i):=by
 rw [cut_from (by rw [PL_len]; omega)]
 unfold PL
 apply List.ext_getElem?
 intro m
 rw [List.getElem?_drop,List.getElem?_map,List.getElem?_map]
 by_cases hm:m<k - i+1
 ·rw [List.getElem?_range hm,List.getElem?_range (by omega)]
  rfl
 ·rw [List.getElem?_eq_none (by simp; omega),List.getElem?_eq_none (by simp; omega)]
  rfl
theorem in_nat {p:Nat->Nat} {k v:Nat}:inV (.int (v:Int)) ((List.range k).map fun t=>nV (p t))=decide (∃t,t<k/\p t=v):=by
 rw [Bool.eq_iff_iff,decide_eq_true_iff]
 unfold inV
 rw [List.any_eq_true]
 constructor
 ·rintro ⟨x,hx,e⟩
  obtain ⟨t,ht,rfl⟩:=List.mem_map.mp hx
  have e':(((p t:Nat):Int) == (v:Int))=true:=e
  have:=eq_of_beq e'
  exact ⟨t,List.mem_range.mp ht,by omega⟩
 ·rintro ⟨t,ht,rfl⟩
  refine ⟨_,List.mem_map.mpr ⟨t,List.mem_range.mpr ht,rfl⟩,?_⟩
  show (((p t:Nat):Int) == ((p t:Nat):Int))=true
  simp
theorem nat_flat {p:Nat->Nat} {k:Nat}:((List.range k).map fun t=>nV (p t)).all flatV=true:=by
 rw [List.all_eq_true]
 intro x hx
 obtain ⟨t,_,rfl⟩:=List.mem_map.mp hx
 rfl
end SW
namespace K7
open PySem L2 SW
section
variable {P:Program} {w:World} {K:W.Frag} {mg:Str->Option Value} {base:Heap}
def spRing (K:W.Frag):Sp:=fun vs H Q _=>∃(p:Addr) (as:List Addr) (n:Nat) (W:Nat->List Nat),vs=[.ref p]/\Adj K H p as n W/\(∀u v,u<n->v∈W u->v<n)/\(∀u,u<n->(W u).length<=1000)/\n<=40 /\
 ((∀v,v<n->La W n v=false)->∀H',Same H H'->Q .non H')/\∀(l:Addr) (H':Hp) (p':Nat->Nat) (k:Nat),(∃v,v<n/\La W n v=true)->Same H H'->H l=none->H' l=some (.lst (PL p' k))->Cyc W n p' k->k<=n->Q (.ref l) H'
theorem ok_ring (T:Txt K mg):FnOk P w K mg base CX0 1 T.a_ring T.fd_ring ["ways"] (spRing K):=by
 refine T.F_ring.ok sc_ring (fun vs H Q E h=>?_) (fun cdv A outer s H vs Q E hr h=>?_)
 ·obtain ⟨p,as,n,W,rfl,_⟩:=h
  rfl
 obtain ⟨p,as,n,W,rfl,ad,hW,lW,n1,qN,qS⟩:=h
 refine ⟨_,(pss_cons (ps_set (i:=1) sc_ring.nd rfl (Or.inr rfl) (ZD [4] rfl (ZK rfl) (ZB K (pv 0)) (fun _=>(pg_name (i:=4) sc_ring.nd rfl (Or.inl rfl))) (fun _=>ZL) (fun _=>pe_bl)))
   (pss_cons (ps_for PassesOwn.never rfl (pi_range1 rfl T.n_range (pa_cons (pe_callB (len_Q K) (by rfl) T.n_len PySem.boot_len (pa_cons (pv 0) pa_nil)) pa_nil)) (pg_name (i:=2) sc_ring.nd rfl (Or.inl rfl))
   (pss_one (ps_set (i:=1) sc_ring.nd rfl (Or.inr rfl) (ZD [5] rfl (ZK rfl) (ZB K (pv 0)) (fun _=>(pg_name (i:=5) sc_ring.nd rfl (Or.inl rfl))) (fun _=>ZL) (fun _=>(pe_callB (any_Q K rfl) (by rfl) T.n_any PyProof.Rows.boot_any (pa_cons (ZD [6] rfl (ZK rfl) (ZB K (pv 5)) (fun _=>(pg_name (i:=6) sc_ring.nd rfl (Or.inl rfl))) (fun _=>ZL) (fun _=>(pe_ix (ix_Q K) (pv 1) (pv 6) (fun _ _=>rfl)))) pa_nil)))))))
   (pss_cons (ps_if (pt_not (pt_val (pe_callB (any_Q K rfl) (by rfl) T.n_any PyProof.Rows.boot_any (pa_cons (pv 1) pa_nil))))
   (pss_one (ps_ret pe_non))
   pss_nil)
   (pss_cons (ps_set (i:=3) sc_ring.nd rfl (Or.inl rfl) (ZF (pa_cons (pe_index K (pv 1) (pa_cons pe_bl pa_nil)) pa_nil)))
   (pss_cons (ps_while PassesOwn.never (pt_cmpR (notIn_Q K) (pe_ix (ix_Q K) (pv 3) (pe_un un_neg pe_int) (fun _ _=>rfl)) (pe_slice (sl_Q K) (pv 3) po_none (po_some (pe_un un_neg pe_int))) (by with_unfolding_all rfl))
   (pss_one (ps_expr (pe_bm PySem.F.plainAttrs_list PySem.F.slot_list_append PySem.F.type_list_append mt_append (pv 3) (pa_cons (pe_ix (ix_Q K) (ZD [6] rfl (ZK rfl) (ZB K (pe_ix (ix_Q K) (pv 0) (pe_ix (ix_Q K) (pv 3) (pe_un un_neg pe_int) (fun _ _=>rfl)) (fun _ _=>rfl))) (fun _=>(pg_name (i:=6) sc_ring.nd rfl (Or.inl rfl))) (fun _=>pts_one (pt_val (pe_ix (ix_Q K) (pv 1) (pv 6) (fun _ _=>rfl)))) (fun _=>(pv 6))) pe_int (fun _ _=>rfl)) pa_nil)))))
   (pss_one (ps_ret (pe_slice (sl_Q K) (pv 3) (po_some (pe_index K (pv 3) (pa_cons (pe_ix (ix_Q K) (pv 3) (pe_un un_neg pe_int) (fun _ _=>rfl)) pa_nil))) po_none)))))))),?_⟩
 have top:=ad.top
 have la:=ad.len
 have lz:(as.map V.ref).length<=sizeLine:=by rw [List.length_map,la]; exact Nat.le_trans n1 (by decide)
 refine ⟨_,rfl,?_⟩
 refine comp_bls (fun v=>La W 0 v) top lz (fun i x H1 Q' hx S1 hQ=>?_) fun H1 S1=>?_
 ·skip
  exact hQ H1 (Same.refl _)
 intro l1 H2 N2
 rw [List.length_map,la] at N2
 have S2:=S1.trans N2.same
 have hl1:=N2.at_
 have top2:=S2.seq top
 refine ⟨_,rfl,_,_,rfl,Or.inl ‹_›,?_⟩
 rw [List.length_map,la]
 refine ⟨_,rfl,by omega,by omega,?_⟩
 rw [Int.toNat_natCast]
 refine for_range (fun t σ H'=>Same H H'/\∃(l:Addr) (v2:Option V),σ=[some (.ref p),some (.ref l),v2,none,none,none,none]/\H' l=some (.lst ((laL n fun v=>La W t v).map V.bl))/\H l=none) ⟨S2,l1,_,rfl,hl1,S1.free N2.gone⟩ ?_ ?_
 ·rintro t σ H3 ht ⟨S3,l3,v2,rfl,hl3,nl3⟩
  have top3:=S3.seq top
  refine ⟨_,rfl,?_⟩
  refine comp_bls (fun v=>La W (t+1) v) top3 lz (fun u x H4 Q' hx S4 hQ=>?_) fun H4 S4=>?_
  ·rw [List.getElem?_map] at hx
   cases e:as[u]? with
   | none=>rw [e] at hx; cases hx
   | some y=>
    rw [e] at hx
    have ex:x = .ref y:=(Option.some.inj hx).symm
    subst ex
    have hu:u<n:=by have:=(List.getElem?_eq_some_iff.mp e).1; omega
    have hy:=(S3.trans S4).seq (ad.rows u y e)
    have hl4:=S4 _ _ hl3
    refine ⟨_,rfl,?_⟩
    refine ⟨y,rfl,⟨_,hy⟩,comp_mapL (fun x=>match x with | .int k => .bl (La W t k.toNat) | v=>v) hy (by rw [List.length_map]; exact Nat.le_trans (lW u hu) (by decide)) (fun i x Q2 hx2 hQ2=>?_) fun l5 H5 N5=>?_⟩
    ·obtain ⟨z,hz,rfl⟩:=List.mem_map.mp (List.mem_of_getElem? hx2)
     have atz:atI ((laL n fun v=>La W t v).map V.bl) (z:Int)=some (.bl (La W t z)):=laL_at (hW u z hu hz)
     rw [show nV z = .int (z:Int) from rfl] at hQ2 ⊢
     refine ⟨_,rfl,_,rfl,_,_,_,_,rfl,rfl,Or.inl (SqL.of ‹_›),by assumption,?_⟩
     exact hQ2
    have e5:((W u).map nV).map (fun x=>match x with | .int k=>V.bl (La W t k.toNat) | v=>v)=((W u).map fun z=>La W t z).map V.bl:=by
     rw [List.map_map,List.map_map]
     rfl
    rw [e5] at N5
    have hl5:=N5.at_
    refine ⟨l5,_,rfl,SqL.of hl5,?_⟩
    have e6:((W u).map fun z=>La W t z).any id=La W (t+1) u:=by
     show _=(W u).any fun o=>La W t o
     rw [List.any_map]
     rfl
    rw [e6]
    exact hQ H5 N5.same
  intro l5 H5 N5
  rw [List.length_map,la] at N5
  exact ⟨S3.trans (S4.trans N5.same),l5,_,rfl,N5.at_,S3.free (S4.free N5.gone)⟩
 rintro σ H3 ⟨S3,l3,v2,rfl,hl3,nl3⟩
 refine ⟨_,rfl,?_⟩
 refine ⟨l3,_,rfl,SqL.of hl3,?_⟩
 refine ⟨_,rfl,?_⟩
 cases eb:(laL n fun v=>La W n v).any id with
 | false=>
  refine iteT ?_
  refine qN (fun v hv=>?_) H3 S3
  rw [List.any_eq_false] at eb
  have:=eb (La W n v) (List.mem_of_getElem? (laL_get (f:=fun v=>La W n v) hv))
  simpa using this
 | true=>
 refine iteF ?_
 obtain ⟨j,ej,fj⟩:=first_of eb
 have hj:j<n:=by have:=(List.getElem?_eq_some_iff.mp ej).1; rw [laL_len] at this; exact this
 have laj:La W n j=true:=by rw [laL_get hj] at ej; exact Option.some.inj ej
 refine ⟨_,rfl,?_⟩
 refine ⟨.inl ⟨rfl,_,SqL.of hl3⟩,?_⟩
 refine ⟨l3,_,_,j,rfl,rfl,SqL.of hl3,rfl,bl_flat _,⟨_,by rw [List.getElem?_map,ej]; rfl,rfl⟩,fun m z hm ez=>?_,?_⟩
 ·rw [List.getElem?_map] at ez
  cases e:(laL n fun v=>La W n v)[m]? with
  | none=>rw [e] at ez; cases ez
  | some b=>
   rw [e] at ez
   have:=fj m b hm e
   subst this
   rw [<-Option.some.inj ez]
   rfl
 refine ⟨(by show 1<=sizeLine; decide),fun lp H4 N4=>?_⟩
 have nlp:H lp=none:=S3.free N4.gone
 have l3p:l3≠lp:=fun z=>by rw [z,N4.gone] at hl3; cases hl3
 refine ⟨fun m σ H'=>∃(p':Nat->Nat) (k:Nat),σ=[some (.ref p),some (.ref l3),v2,some (.ref lp),none,none,none]/\Same H H'/\H' lp=some (.lst (PL p' k))/\H' l3=some (.lst ((laL n fun v=>La W n v).map V.bl))/\(∀t,t<=k->p' t<n/\La W n (p' t)=true)/\(∀t,t<k->p' (t+1)∈W (p' t))/\(∀i j,i<j->j<k->p' i≠p' j)/\k<=n/\m=n+1 - k,⟨_,fun _=>j,0,rfl,S3.trans N4.same,N4.at_,N4.same _ _ hl3,fun t _=>⟨hj,laj⟩,fun t ht=>absurd ht (Nat.not_lt_zero _),fun i j _ h=>absurd h (Nat.not_lt_zero _),Nat.zero_le _,rfl⟩,?_⟩
 rintro m σ H5 ⟨p',k,rfl,S5,hlp,hl5,nodes,steps,apart,kn,rfl⟩
 have atL:atI (PL p' k) (-1)=some (.int (p' k:Int)):=PL_last p' k
 refine ⟨_,rfl,_,rfl,_,_,_,_,rfl,rfl,Or.inl (SqL.of ‹_›),by assumption,_,rfl,_,rfl,_,rfl,?_⟩
 refine ⟨lp,_,rfl,SqL.of hlp,fun lc H6 N6=>?_⟩
 rw [PL_init] at N6
 have S6:=S5.trans N6.same
 have hlp6:=N6.same _ _ hlp
 have hl36:=N6.same _ _ hl5
 refine ⟨lc,_,rfl,.inl (SqL.of N6.at_),rfl,nat_flat,?_⟩
 rw [if_pos rfl,in_nat]
 refine ⟨_,rfl,?_⟩
 refine ite4 (fun hin=>?_) (fun hout=>?_)
 · 
  obtain ⟨i0,hi0,e0⟩:=hin
  have plg:∀m,m<=k->(PL p' k)[m]?=some (nV (p' m)):=fun m hm=>by
   unfold PL
   rw [List.getElem?_map,List.getElem?_range (by omega)]
   rfl
  refine ⟨_,rfl,_,rfl,?_⟩
  refine ⟨.inl ⟨rfl,_,SqL.of hlp6⟩,?_⟩
  refine ⟨_,rfl,_,rfl,_,_,_,_,rfl,rfl,Or.inl (SqL.of ‹_›),by assumption,?_⟩
  refine ⟨lp,_,_,i0,rfl,rfl,SqL.of hlp6,rfl,PL_flat _ _,⟨_,plg i0 (by omega),?_⟩,fun m z hm ez=>?_,?_⟩
  ·rw [e0]
   show (((p' k:Nat):Int) == ((p' k:Nat):Int))=true
   simp
  ·rw [plg m (by omega)] at ez
   rw [<-Option.some.inj ez,<-e0]
   have:=apart m i0 hm hi0
   show (((p' m:Nat):Int) == ((p' i0:Nat):Int))=false
   rw [beq_eq_false_iff_ne]
   omega
  refine ⟨_,rfl,?_⟩
  refine ⟨lp,_,rfl,SqL.of hlp6,fun l H7 N7=>?_⟩
  rw [PL_tail (by omega)] at N7
  refine qS l H7 _ (k - i0) ⟨j,hj,laj⟩ (S6.trans N7.same) (S6.free N7.gone) N7.at_ ⟨by omega,?_,fun t ht=>(nodes (i0+t) (by omega)).1,fun t ht=>steps (i0+t) (by omega),fun x y hxy hy=>apart (i0+x) (i0+y) (by omega) (by omega)⟩ (by omega)
  show p' (i0+(k - i0))=p' (i0+0)
  rw [show i0+(k - i0)=k by omega,Nat.add_zero,e0]
 ·refine ⟨_,fun _ _ h=>h,?_⟩
  obtain ⟨hkn,lak⟩:=nodes k (Nat.le_refl _)
  obtain ⟨y,ey,aty,hy⟩:=(ad.same S6).get hkn
  have top6:=S6.seq top
  refine ⟨_,rfl,?_⟩
  refine ⟨.inl ⟨rfl,_,SqL.of hlp6⟩,?_⟩
  refine ⟨_,rfl,_,rfl,_,rfl,_,_,_,_,rfl,rfl,Or.inl (SqL.of ‹_›),by assumption,_,_,_,_,rfl,rfl,Or.inl ‹_›,by assumption,?_⟩
  refine ⟨y,rfl,⟨_,hy⟩,comp_filL (fun x=>match x with | .int z=>La W n z.toNat | _=>false) (fun x=>x) hy (by rw [List.length_map]; exact Nat.le_trans (lW _ hkn) (by decide)) (fun i x Q2 hx hQ=>?_) (fun i x Q2 hx _ hQ=>?_) fun l7 H7 N7=>?_⟩
  ·obtain ⟨z,hz,rfl⟩:=List.mem_map.mp (List.mem_of_getElem? hx)
   have atz:atI ((laL n fun v=>La W n v).map V.bl) (z:Int)=some (.bl (La W n z)):=laL_at (hW _ z hkn hz)
   rw [show nV z = .int (z:Int) from rfl] at hQ ⊢
   refine ⟨_,rfl,_,rfl,_,_,_,_,rfl,rfl,Or.inl (SqL.of ‹_›),by assumption,_,rfl,?_⟩
   exact hQ
  ·refine ⟨_,rfl,?_⟩
   exact hQ
  rw [fil_nat (W (p' k)) _ (fun z=>La W n z) (fun z=>rfl)] at N7
  have hl7:=N7.at_
  obtain ⟨z0,h1,h2⟩:=La_next hW hkn lak
  obtain ⟨z,zs,ez⟩:∃z zs,(W (p' k)).filter (fun z=>La W n z)=z :: zs:=by
   cases e:(W (p' k)).filter (fun z=>La W n z) with
   | nil=>have:z0∈(W (p' k)).filter (fun z=>La W n z):=List.mem_filter.mpr ⟨h1,h2⟩; rw [e] at this; cases this
   | cons z zs=>exact ⟨z,zs,rfl⟩
  have hz:z∈W (p' k)/\La W n z=true:=List.mem_filter.mp (by rw [ez]; exact List.mem_cons_self ..)
  rw [ez] at hl7
  have at7:atI ((z :: zs).map nV) 0=some (.int (z:Int)):=atI_nat' (v:=0) rfl
  have hlp7:=N7.same _ _ hlp6
  refine ⟨_,_,_,_,rfl,rfl,Or.inl (SqL.of ‹_›),by assumption,?_⟩
  refine ⟨lp,_,_,rfl,rfl,hlp7,?_,?_⟩
  ·rw [PL_len]
   exact Nat.lt_of_le_of_lt (show k+1<=41 by omega) (by decide)
  have kn1:k+1<=n:=by
   have:=nodup_bound n ((List.range (k+1)).map p') (by
    refine List.pairwise_map.mpr (List.Pairwise.imp_of_mem (fun {x y} hx hy hne=>?_) (List.pairwise_lt_range (n:=k+1)))
    have hx:=List.mem_range.mp hx
    have hy:=List.mem_range.mp hy
    by_cases q:y<k
    ·exact apart x y hne q
    ·have:y=k:=by omega
     subst this
     exact fun e=>hout ⟨x,hne,e⟩) fun x hx=>by
    obtain ⟨t,ht,rfl⟩:=List.mem_map.mp hx
    exact (nodes t (by have:=List.mem_range.mp ht; omega)).1
   rw [List.length_map,List.length_range] at this
   exact this
  have ePL:PL p' k++[.int (z:Int)]=PL (fset p' (k+1) z) (k+1):=by
   unfold PL
   rw [List.range_succ (n:=k+1),List.map_append]
   congr 1
   ·apply List.map_congr_left
    intro t ht
    rw [ZI (by have:=List.mem_range.mp ht; omega)]
   ·show _=[nV (fset p' (k+1) z (k+1))]
    rw [ZH]
    rfl
  rw [ePL]
  refine ⟨n+1 - (k+1),by omega,fset p' (k+1) z,k+1,rfl,(S6.trans N7.same).upd nlp,upd_same,by rw [upd_ne l3p]; exact N7.same _ _ hl36,fun t ht=>?_,fun t ht=>?_,fun i j hij hj=>?_,kn1,rfl⟩
  ·by_cases q:t=k+1
   ·subst q; rw [ZH]; exact ⟨hW _ z hkn hz.1,hz.2⟩
   ·rw [ZI q]; exact nodes t (by omega)
  ·rw [ZI (show t≠k+1 by omega)]
   by_cases q:t=k
   ·subst q; rw [ZH]; exact hz.1
   ·rw [ZI (show t+1≠k+1 by omega)]; exact steps t (by omega)
  ·rw [ZI (show i≠k+1 by omega),ZI (show j≠k+1 by omega)]
   by_cases q:j<k
   ·exact apart i j hij q
   ·have:j=k:=by omega
    subst this
    exact fun e=>hout ⟨i,hij,e⟩
end
end K7
namespace K7
open PySem L2 SW
section
variable {P:Program} {w:World} {K:W.Frag} {mg:Str->Option Value} {base:Heap}
def spTwin (T:Txt K mg):Sp:=fun vs H Q _=>∃(vt q dq sl0 rl0 cl0 rl:Addr) (as0 ra ca:List Addr) (U S:Nat->Nat->Int) (r c:Nat) (R C:Nat->Q2) (a b:Int),vs=[.ref vt,.ref q,.ref rl]/\Mat K H vt (mkT U r c)/\T.rl H rl a b/\DealH T.c_QC H q dq sl0 rl0 cl0 as0 ra ca S r c R C/\TabOk a b U S r c/\(∀i j,i<r->j<c->S i j<=700)/\Cells a b U S r c (lam r c R C)/\(∀i,i<r->BQ 3000 (R i))/\(∀j,j<c->BQ 3000 (C j))/\r+c<=40 /\
 ((∀v,v<r+c->¬Go a b U S r c (lam r c R C) (r+c) v)->∀H',Same H H'->Q .non H') /\
 ((∃v,v<r+c/\Go a b U S r c (lam r c R C) (r+c) v)->∀(H':Hp) (q' dq' sl' rl' cl':Addr) (as':List Addr) (S':Nat->Nat->Int),Same H H'->H q'=none->DealH T.c_QC H' q' dq' sl' rl' cl' as' ra ca S' r c R C->Tw a b U S S' r c (lam r c R C)->(∃v,v<r+c/\Go a b U S' r c (lam r c R C) (r+c) v)->H sl'=none->H rl'=none->H cl'=none->(∀x,x∈as'->H x=none)->Q (.ref q') H')
theorem ok_twin (T:Txt K mg):FnOk P w K mg base CX0 8 T.a_twin T.fd_twin ["votes","dealing","rule"] (spTwin T):=by
 refine T.F_twin.ok sc_twin (fun vs H Q E h=>?_) (fun cdv A outer s H vs Q E hr h=>?_)
 ·obtain ⟨vt,q,dq,sl0,rl0,cl0,rl,as0,ra,ca,U,S,r,c,R,C,a,b,rfl,_⟩:=h
  rfl
 obtain ⟨vt,q,dq,sl0,rl0,cl0,rl,as0,ra,ca,U,S,r,c,R,C,a,b,rfl,mv,hrl,d,tab,s7,cs,rb,cb,n1,qN,qS⟩:=h
 refine ⟨_,(pss_cons (ps_set (i:=3) sc_twin.nd rfl (Or.inl rfl) (pe_make T.M_Net (ok_Qq T) (hr.mono (by decide)) rfl T.m_Net T.b_Qq .nil pass0 (pa_cons (pv 0) (pa_cons (ZA K (pv 1) rfl) (pa_cons (pe_callB (len_Q K) (by rfl) T.n_len PySem.boot_len (pa_cons (ZA K (pv 1) rfl) pa_nil)) (pa_cons (pv 2) pa_nil))))))
   (pss_cons (ps_set (i:=4) sc_twin.nd rfl (Or.inl rfl) (pe_call (ok_ring T) (hr.mono (by decide)) rfl T.m_ring T.F_ring.kp T.b_ring .nil pass0 (pa_cons (pe_call (ok_Qk T) (hr.mono (by decide)) rfl T.m_Qk T.F_Qk.kp T.b_Qk .nil pass0 (pa_cons (pv 3) (pa_cons (pv 1) pa_nil))) pa_nil)))
   (pss_cons (ps_if (pt_cmpR op_isNR (pv 4) pe_non (nomark _))
   (pss_one (ps_ret pe_non))
   pss_nil)
   (pss_cons (ps_expr (pe_meth (pv 3) T.cl_Net T.mt_Qs (ok_Qs T) (hr.mono (by decide)) T.b_Qs .nil pass0 (pa_cons (pv 4) pa_nil)))
   (pss_one (ps_ret (pe_make T.M_QC (ok_Qi T) (hr.mono (by decide)) rfl T.m_QC T.b_Qi .nil pass0 (pa_cons (ZA K (pv 3) rfl) (pa_cons (ZA K (pv 1) rfl) (pa_cons (ZA K (pv 1) rfl) pa_nil)))))))))),?_⟩
 have pp:∀v,qpos (lam r c R C v):=lam_pos (fun i hi=>⟨(rb i hi).1,(rb i hi).2.1⟩) (fun j hj=>⟨(cb j hj).1,(cb j hj).2.1⟩)
 have b0:0<b:=by have:=tab.a0; have:=tab.ab; omega
 have ob:=d.ob
 have hcols:=d.cols
 have lc:=d.clen
 refine ⟨_,rfl,_,rfl,_,_,_,_,_,rfl,by assumption,T.cl_QC,T.na_QC_seats,by rfl,_,rfl,_,_,_,_,_,rfl,by assumption,T.cl_QC,T.na_QC_columns,by rfl,_,_,rfl,Or.inl (SqL.of ‹_›),_,rfl,?_⟩
 rw [List.length_map,lc]
 intro np dn nnp ndn nedn
 have up:∀x o,H x=some o->upd (upd H dn (.own np)) np (.ins T.c_Net dn []) x=some o:=fun x o e=>by rw [upd_ne (ne_of_none e nnp),upd_ne (ne_of_none e ndn)]; exact e
 refine ⟨H,np,dn,vt,rl,sl0,U,S,r,c,a,b,rfl,upd_same,up,nnp,mv,hrl,d.st.mat,n1,tab,fun H3 sl wl as ds kv G net NE fr3=>⟨rfl,?_⟩⟩
 have S3:=net.base
 refine ⟨_,rfl,_,rfl,?_⟩
 refine ⟨H,np,dn,vt,rl,sl,wl,as,ds,U,S,r,c,a,b,kv,G,q,dq,sl0,rl0,cl0,as0,ra,ca,S,R,C,rfl,net,NE,tab,d.same S3,rb,cb,n1,fun H4 l ws W S4 nl adj hW lW=>?_⟩
 have lt:∀u v,u<r+c->v∈W u->v<r+c:=fun u v hu hv=>by
  rcases ((hW u v hu).mp hv).opp with ⟨x,y,z⟩ | ⟨x,y,z⟩ <;> omega
 have net4:=net.same S4
 refine ⟨l,ws,r+c,W,rfl,adj,lt,lW,n1,fun none H5 S5=>?_,fun lp H5 p' k hex S5 nlp hlp cyc kn=>?_⟩
 ·refine ⟨_,rfl,rfl,_,rfl,?_⟩
  refine iteT ?_
  exact qN (fun v hv g=>by have:=(La_go hW lt (r+c) v hv).mpr g; rw [none v hv] at this; cases this) H5 (S3.trans (S4.trans S5))
 ·have net5:=net4.same S5
  have F:FRing a b U S r c (lam r c R C) p' k:=cyc.fring hW
  have Wk':=F.wk b0 pp
  have tw:=F.tw tab pp cs
  have ob5:=net5.ob
  have lpa:lp∉as:=fun z=>by
   obtain ⟨n,hn,en⟩:=List.getElem_of_mem z
   have hl:=net4.st.len
   rw [mk_len] at hl
   have:=net4.st.rows n lp _ (by rw [List.getElem?_eq_getElem hn,en]) (mk_get (by omega))
   rw [nlp] at this
   cases this
  refine ⟨_,rfl,rfl,_,rfl,?_⟩
  refine iteF ?_
  refine ⟨_,rfl,_,_,_,rfl,by assumption,by rfl,_,rfl,?_⟩
  refine ⟨H,np,dn,vt,rl,sl,wl,as,ds,U,S,r,c,a,b,kv,G,lp,k,p',stOf r p',rfl,net5,hlp,lpa,n1,tab,NE,Wk',by omega,fun t ht=>?_,fun H6 kv6 E6 net6 NE6 fr6=>?_⟩
  ·obtain ⟨c1,c2,_⟩:=F.cell ht
   have h1:=tw.s0 _ _ c1 c2
   have h2:=s7 _ _ c1 c2
   rw [Wk'.at_ ht (Nat.le_refl k)] at h1
   exact ⟨h1.1,by omega,h1.2.2⟩
  have S6:=net6.base
  have d6:=d.same S6
  have ob6:=net6.ob
  have obq:=d6.ob
  refine ⟨_,rfl,_,_,_,_,_,rfl,by assumption,T.cl_Net,T.na_Net_seats,by rfl,_,rfl,_,_,_,_,_,rfl,by assumption,T.cl_QC,T.na_QC_rows,by rfl,_,rfl,_,_,_,_,_,rfl,by assumption,T.cl_QC,T.na_QC_columns,by rfl,?_⟩
  intro y dy ny ndy neyd
  have up6:∀x o,H6 x=some o->upd (upd H6 dy (.own y)) y (.ins T.c_QC dy []) x=some o:=fun x o e=>by rw [upd_ne (ne_of_none e ny),upd_ne (ne_of_none e ndy)]; exact e
  refine ⟨y,dy,sl,rl0,cl0,_,r,c,_,_,rfl,upd_same,(net6.st.same up6).mat,by omega,SqL.of (up6 _ _ d6.rows),SqL.of (up6 _ _ d6.cols),fun H7 sl2 rl2 cl2 as2 fr7 hy7 m7 hr7 hc7 n1' n2' n3' n4' sa' ra' ca' ne'=>⟨rfl,?_⟩⟩
  have S67:Same H6 H7:=fun x o e=>fr7 x o (up6 x o e) (ne_of_none e ny)
  have S7:=S6.trans S67
  have d7:=d.same S7
  have fin:∀x,upd (upd H6 dy (.own y)) y (.ins T.c_QC dy []) x=none->H x=none:=fun x z=>by
   cases e:H x with
   | none=>rfl
   | some o=>have:=up6 _ _ (S6 _ _ e); rw [z] at this; cases this
  obtain ⟨v0,hv0,lv0⟩:=hex
  exact qS ⟨v0,hv0,(La_go hW lt (r+c) v0 hv0).mp lv0⟩ H7 y dy sl2 rl2 cl2 as2 _ S7 (S6.free ny) ⟨hy7,m7,hr7,d7.rlen,d7.rt,hc7,d7.clen,d7.ct,sa',ra',ca',ne'⟩ tw ⟨p' 0,cyc.lt 0 (Nat.zero_le _),F.go tab pp (r+c)⟩ (fin _ n1') (fin _ n2') (fin _ n3') (fun x hx=>fin _ (n4' x hx))
end
end K7
namespace SW
open PySem L2
theorem Rising.pw {ns:List Int} {m:Int} (R:Rising ns m):ns.Pairwise (· < ·):=by
 have step:∀i (h:i+1<ns.length),ns[i]<ns[i+1]:=fun i h=>by
  have:=(R (i+1) ns[i+1] (by simp)).1
  rw [if_neg (by omega)] at this
  have:=this ns[i] (by rw [show i+1 - 1=i by omega]; simp)
  omega
 rw [List.pairwise_iff_getElem]
 intro i j hi hj hij
 have:∀d,∀h:i+d+1<ns.length,ns[i]<ns[i+d+1]:=by
  intro d
  induction d with
  | zero=>intro h; exact step i h
  | succ d ih=>intro h; have h1:=ih (by omega); have h2:=step (i+d+1) (by omega); exact Int.lt_trans h1 h2
 have:=this (j - i - 1) (by omega)
 simp only [show i+(j - i - 1)+1=j by omega] at this
 exact this
end SW
namespace K7
open PySem L2 SW
section
variable {P:Program} {w:World} {K:W.Frag} {mg:Str->Option Value} {base:Heap}
def spBarred (K:W.Frag):Sp:=fun vs H Q _=>∃(rl' cl:Addr) (ns ms:List Int) (r c:Nat) (vt pl pt:Addr) (U:Nat->Nat->Int) (pe qe:Nat->Int),vs=[.ref vt,.ref pl,.ref pt,.ref rl',.ref cl]/\H rl'=some (.lst (ns.map V.int))/\H cl=some (.lst (ms.map V.int))/\Mat K H vt (mkT U r c)/\SqL K H pl ((row r pe).map V.int)/\SqL K H pt ((row c qe).map V.int)/\r<=12/\c<=12/\ns.length<=40/\ms.length<=40/\ShownB U r c pe qe ns ms/\∀(H':Hp),Same H H'->Q (.bl true) H'
theorem ok_Qp (T:Txt K mg):FnOk P w K mg base CX0 2 T.a_Qp T.fd_Qp ["_law_votes","_law_places","_law_parties","_law_rows","_law_columns"] (spBarred K):=by
 refine T.F_Qp.ok sc_Qp (fun vs H Q E h=>?_) (fun cdv A outer s H vs Q E hr h=>?_)
 ·obtain ⟨rl',cl,ns,ms,r,c,vt,pl,pt,U,pe,qe,rfl,_⟩:=h
  rfl
 obtain ⟨rl',cl,ns,ms,r,c,vt,pl,pt,U,pe,qe,rfl,hrows,hcols,mv,hpl,hpt,r1,c1,ln,lm,sh,k⟩:=h
 refine ⟨_,(pss_cons (ps_for PassesOwn.never rfl (pi_tupQ K (ZE (pa_cons (ZE (pa_cons (pv 3) (pa_cons (pe_callB (len_Q K) (by rfl) T.n_len PySem.boot_len (pa_cons (pv 1) pa_nil)) pa_nil))) (pa_cons (ZE (pa_cons (pv 4) (pa_cons (pe_callB (len_Q K) (by rfl) T.n_len PySem.boot_len (pa_cons (pv 2) pa_nil)) pa_nil))) pa_nil)))) (pg_tupQ K rfl (pgs_cons (pg_name (i:=5) sc_Qp.nd rfl (Or.inl rfl)) (pgs_cons (pg_name (i:=6) sc_Qp.nd rfl (Or.inr rfl)) pgs_nil)))
   (pss_cons (ps_if (PW.pt (pw_or (pt_not (pt_val (pe_isT K rfl T.n_isinstance rfl T.n_list PyProof.Rows.boot_list (pv 5)))) (pw_or1 (pt_val (pe_callB (any_Q K rfl) (by rfl) T.n_any PyProof.Rows.boot_any (pa_cons (ZD [9] rfl (ZK rfl) (ZB K (pv 5)) (fun _=>(pg_name (i:=9) sc_Qp.nd rfl (Or.inl rfl))) (fun _=>ZL) (fun _=>(pe_or (pe_isT K rfl T.n_isinstance rfl T.n_bool PyProof.Rows.boot_bool (pv 9)) (pe_one (pe_not (pe_isT K rfl T.n_isinstance rfl T.n_int PyProof.Rows.boot_int (pv 9))))))) pa_nil))))))
   (pss_one (ps_ret pe_bl))
   pss_nil)
   (pss_one (ps_if (PW.pt (pw_or (pt_cmpR (neLI_Q K hr.units) (pv 5) (pe_callB (sortedS_Q w rfl) (by rfl) T.n_sorted PyProof.Rows.boot_sorted (pa_cons (pe_callTy (set_Q K w rfl) (by rfl) T.n_set PyProof.Rows.boot_set (pa_cons (pv 5) pa_nil)) pa_nil)) (nomark _)) (pw_or1 (pt_val (pe_callB (any_Q K rfl) (by rfl) T.n_any PyProof.Rows.boot_any (pa_cons (ZD [9] rfl (ZK rfl) (ZB K (pv 5)) (fun _=>(pg_name (i:=9) sc_Qp.nd rfl (Or.inl rfl))) (fun _=>ZL) (fun _=>(pe_not (pe_chain op_le op_lt pe_int (pv 9) (pv 6))))) pa_nil))))))
   (pss_one (ps_ret pe_bl))
   pss_nil))))
   (pss_cons (ps_for PassesOwn.never rfl (pi_range1 rfl T.n_range (pa_cons (pe_callB (len_Q K) (by rfl) T.n_len PySem.boot_len (pa_cons (pv 1) pa_nil)) pa_nil)) (pg_name (i:=7) sc_Qp.nd rfl (Or.inl rfl))
   (pss_one (ps_for PassesOwn.never rfl (ZB K (pv 4)) (pg_name (i:=8) sc_Qp.nd rfl (Or.inl rfl))
   (pss_one (ps_if (PW.pt (pw_and (pt_cmpR (notIn_Q K) (pv 7) (pv 3) (by with_unfolding_all rfl)) (pw_and1 (pt_cmpR op_gt (pe_ix (ix_Q K) (pe_ix (ix_Q K) (pv 0) (pv 7) (fun _ _=>rfl)) (pv 8) (fun _ _=>rfl)) pe_int (nomark _)))))
   (pss_one (ps_ret pe_bl))
   pss_nil)))))
   (pss_one (ps_ret (pe_cmpR op_gt (pe_callB (sum_Q K rfl) (by rfl) T.n_sum PyProof.Rows.boot_sum (pa_cons (ZD [8] rfl (ZK rfl) (ZB K (pv 4)) (fun _=>(pg_name (i:=8) sc_Qp.nd rfl (Or.inl rfl))) (fun _=>ZL) (fun _=>(pe_ix (ix_Q K) (pv 2) (pv 8) (fun _ _=>rfl)))) pa_nil)) (pe_callB (sum_Q K rfl) (by rfl) T.n_sum PyProof.Rows.boot_sum (pa_cons (ZD [7] rfl (ZK rfl) (ZB K (pv 3)) (fun _=>(pg_name (i:=7) sc_Qp.nd rfl (Or.inl rfl))) (fun _=>ZL) (fun _=>(pe_ix (ix_Q K) (pv 1) (pv 7) (fun _ _=>rfl)))) pa_nil)) (nomark _)))))),?_⟩
 have szn:(ns.map V.int).length<=sizeLine:=by rw [List.length_map]; exact Nat.le_trans ln (by decide)
 have szm:(ms.map V.int).length<=sizeLine:=by rw [List.length_map]; exact Nat.le_trans lm (by decide)
 have rn:=sh.rn
 have rm:=sh.rm
 refine ⟨_,rfl,_,rfl,_,_,rfl,Or.inl ‹_›,?_⟩
 rw [List.length_map,ZJ]
 refine ⟨(by show 2<=sizeLine; decide),fun t0 H1 N1=>?_⟩
 have hpt1:=N1.same.seq hpt
 refine ⟨_,rfl,_,rfl,_,_,rfl,Or.inl ‹_›,?_⟩
 rw [List.length_map,ZJ]
 refine ⟨(by show 2<=sizeLine; decide),fun t1 H2 N2=>?_⟩
 refine ⟨(by show 2<=sizeLine; decide),fun tt H3 N3=>?_⟩
 have S3:Same H H3:=N1.same.trans (N2.same.trans N3.same)
 have ht0:H3 t0=some (.tup [.ref rl',.int (r:Int)]):=(N2.same.trans N3.same) _ _ N1.at_
 have ht1:H3 t1=some (.tup [.ref cl,.int (c:Int)]):=N3.same _ _ N2.at_
 have htt:=N3.at_
 refine ⟨tt,rfl,⟨_,.inl (.inl htt)⟩,?_⟩
 refine for_tup (K:=K) (a:=tt) (xs:=[.ref t0,.ref t1]) (fun i σ H'=>Same H3 H'/\∃v5 v6,σ=[some (.ref vt),some (.ref pl),some (.ref pt),some (.ref rl'),some (.ref cl),v5,v6,none,none,none]) ⟨Same.refl _,_,_,rfl⟩ (fun i σ H' _ h => .inl (.inl (h.1 _ _ htt))) ?_ ?_
 ·rintro i x σ H4 hx ⟨S4,v5,v6,rfl⟩
  obtain ⟨t,l,zs,m,rfl,ht,hl,R,m1,lz⟩:∃(t l:Addr) (zs:List Int) (m:Nat),x = .ref t/\H4 t=some (.tup [.ref l,.int (m:Int)])/\H4 l=some (.lst (zs.map V.int))/\Rising zs m/\m<=12/\zs.length<=40:=by
   match i,hx with
   | 0,hx=>cases hx; exact ⟨t0,rl',ns,r,rfl,S4 _ _ ht0,S4 _ _ (S3 _ _ hrows),rn,r1,ln⟩
   | 1,hx=>cases hx; exact ⟨t1,cl,ms,c,rfl,S4 _ _ ht1,S4 _ _ (S3 _ _ hcols),rm,c1,lm⟩
   | i+2,hx=>cases hx
  have szz:(zs.map V.int).length<=sizeLine:=by rw [List.length_map]; exact Nat.le_trans lz (by decide)
  refine ⟨_,_,rfl,SqT.of ‹_›,rfl,_,_,rfl,_,_,rfl,rfl,_,rfl,_,_,_,rfl,.lst ‹_›,kit_list_list _,_,rfl,?_⟩
  refine iteF ?_
  refine ⟨_,rfl,?_⟩
  refine comp_boolsL (fun _=>False) (SqL.of hl) szz (fun e x H5 Q' hx S5 hQ=>?_) fun bs H5 S5 lb hb=>?_
  ·obtain ⟨y,rfl,ey,hy⟩:=vint hx
   refine ⟨_,rfl,_,_,_,rfl,.int _,kit_int_bool _,_,rfl,?_⟩
   refine iteF ?_
   refine ⟨_,rfl,_,_,_,rfl,.int _,kit_int_int _,_,rfl,?_⟩
   exact hQ false H5 (Same.refl _) ⟨fun z=>(by cases z),fun z=>z.elim⟩
  intro l6 H6 N6
  have hl6:=N6.at_
  have eb:bs.any id=false:=by
   cases e:bs.any id with
   | false=>rfl
   | true=>obtain ⟨_,_,z⟩:=(any_iff lb hb).mp e; exact z.elim
  refine ⟨l6,bs,rfl,SqL.of hl6,?_⟩
  rw [eb]
  refine ⟨_,rfl,?_⟩
  refine iteF ?_
  have S46:=S5.trans N6.same
  have hl':=S46 _ _ hl
  refine ⟨_,rfl,_,rfl,?_⟩
  refine ⟨l,zs,rfl,SqL.of hl',R.pw,fun x hx=>⟨(R.mem hx).1,(by have:=(R.mem hx).2; omega)⟩,fun st H7 N7=>?_⟩
  have hst:=N7.at_
  refine ⟨st,zs,rfl,hst,R.pw,(by omega),fun l8 H8 N8=>?_⟩
  have S48:=S46.trans (N7.same.trans N8.same)
  have hl8:=S48 _ _ hl
  have hn8:=N8.at_
  refine ⟨l,l8,zs,zs,rfl,rfl,SqL.of hl8,SqL.of hn8,?_⟩
  rw [if_pos rfl,decide_eq_true rfl]
  refine ⟨_,rfl,?_⟩
  refine iteF ?_
  refine ⟨_,rfl,?_⟩
  refine comp_boolsL (fun _=>False) (SqL.of hl8) szz (fun e x H9 Q' hx S9 hQ=>?_) fun bs2 H9 S9 lb2 hb2=>?_
  ·obtain ⟨y,rfl,ey,hy⟩:=vint hx
   obtain ⟨y0,y1⟩:=R.mem hy
   refine ⟨_,rfl,_,_,rfl,rfl,_,rfl,?_⟩
   refine iteDT y0 ?_
   refine ⟨_,rfl,_,_,rfl,rfl,_,rfl,?_⟩
   show Q' (.bl (!decide (y<(m:Int)))) H9
   rw [decide_eq_true y1]
   exact hQ false H9 (Same.refl _) ⟨fun z=>(by cases z),fun z=>z.elim⟩
  intro l10 H10 N10
  have hl10:=N10.at_
  have eb2:bs2.any id=false:=by
   cases e:bs2.any id with
   | false=>rfl
   | true=>obtain ⟨_,_,z⟩:=(any_iff lb2 hb2).mp e; exact z.elim
  refine ⟨l10,bs2,rfl,SqL.of hl10,?_⟩
  rw [eb2]
  refine ⟨_,rfl,?_⟩
  refine iteF ?_
  exact ⟨S4.trans (S48.trans (S9.trans N10.same)),_,_,rfl⟩
 rintro σ H4 ⟨S4,v5,v6,rfl⟩
 have S4:=S3.trans S4
 have hrows:=S4 _ _ hrows
 have hcols:=S4 _ _ hcols
 have mv:=mv.same S4
 have hpl:=S4.seq hpl
 have hpt:=S4.seq hpt
 refine ⟨_,rfl,_,_,rfl,Or.inl ‹_›,?_⟩
 rw [List.length_map,ZJ]
 refine ⟨_,rfl,by omega,by omega,?_⟩
 rw [Int.toNat_natCast]
 refine for_range (fun i σ H'=>H'=H4/\∃v7 v8,σ=[some (.ref vt),some (.ref pl),some (.ref pt),some (.ref rl'),some (.ref cl),v5,v6,v7,v8,none]) ⟨rfl,_,_,rfl⟩ ?_ ?_
 ·rintro i σ H5 hi ⟨rfl,v7,v8,rfl⟩
  rw [show (0:Int)+(i:Int)=(i:Int) by omega]
  refine ⟨_,rfl,?_⟩
  refine ⟨cl,rfl,⟨_,SqL.of hcols⟩,?_⟩
  refine for_list (xs:=ms.map V.int) (fun e σ H'=>H'=H5/\∃v8,σ=[some (.ref vt),some (.ref pl),some (.ref pt),some (.ref rl'),some (.ref cl),v5,v6,some (.int (i:Int)),v8,none]) ⟨rfl,_,rfl⟩ (fun e σ H' _ h=>by rw [h.1]; exact SqL.of hcols) ?_ ?_
  ·rintro e x σ H6 hx ⟨rfl,v8,rfl⟩
   obtain ⟨y,rfl,ey,hy⟩:=vint hx
   obtain ⟨y0,y1⟩:=rm.mem hy
   refine ⟨_,rfl,_,rfl,?_⟩
   refine ⟨rl',_,rfl,.inl (SqL.of hrows),rfl,int_flat _,?_⟩
   rw [if_pos rfl,int_in]
   refine ⟨_,rfl,?_⟩
   by_cases hin:(i:Int)∈ns
   ·rw [decide_eq_true hin]
    refine iteF (iteF ?_)
    exact ⟨rfl,_,rfl⟩
   ·rw [decide_eq_false hin]
    refine iteT ?_
    obtain ⟨ts,tv,sq1,at1,sq2,sl2⟩:=mv.get hi
    have aty:atI ((row c (U i)).map V.int) y=some (.int (U i y.toNat)):=by
     have:=at_row (c:=c) (f:=U i) (j:=y.toNat) (by omega)
     rw [show ((y.toNat:Nat):Int)=y by omega] at this
     exact this
    refine ⟨_,rfl,_,rfl,_,_,_,_,rfl,rfl,by assumption,by assumption,_,rfl,_,_,_,_,rfl,rfl,by assumption,by assumption,_,_,rfl,rfl,_,rfl,?_⟩
    refine iteDF (sh.no i hi hin y.toNat (by omega) (by rw [show ((y.toNat:Nat):Int)=y by omega]; exact hy)) ?_
    exact ⟨rfl,_,rfl⟩
  ·rintro σ H6 ⟨rfl,v8,rfl⟩
   exact ⟨rfl,_,_,rfl⟩
 rintro σ H5 ⟨rfl,v7,v8,rfl⟩
 refine ⟨_,rfl,?_⟩
 refine ⟨cl,rfl,⟨_,SqL.of hcols⟩,comp_mapL (selV qe) (SqL.of hcols) szm (fun e x Q' hx hQ=>?_) fun l6 H6 N6=>?_⟩
 ·obtain ⟨y,rfl,ey,hy⟩:=vint hx
  obtain ⟨y0,y1⟩:=rm.mem hy
  have aty:atI ((row c qe).map V.int) y=some (.int (qe y.toNat)):=by
   have:=at_row (c:=c) (f:=qe) (j:=y.toNat) (by omega)
   rw [show ((y.toNat:Nat):Int)=y by omega] at this
   exact this
  refine ⟨_,rfl,_,rfl,_,_,_,_,rfl,rfl,Or.inl ‹_›,by assumption,?_⟩
  exact hQ
 rw [selV_map] at N6
 have hl6:=N6.at_
 have hr6:=N6.same _ _ hrows
 have hpl6:=N6.same.seq hpl
 refine ⟨_,_,rfl,SqL.of ‹_›,_,rfl,?_⟩
 refine ⟨rl',rfl,⟨_,SqL.of hr6⟩,comp_mapL (selV pe) (SqL.of hr6) szn (fun e x Q' hx hQ=>?_) fun l7 H7 N7=>?_⟩
 ·obtain ⟨y,rfl,ey,hy⟩:=vint hx
  obtain ⟨y0,y1⟩:=rn.mem hy
  have aty:atI ((row r pe).map V.int) y=some (.int (pe y.toNat)):=by
   have:=at_row (c:=r) (f:=pe) (j:=y.toNat) (by omega)
   rw [show ((y.toNat:Nat):Int)=y by omega] at this
   exact this
  refine ⟨_,rfl,_,rfl,_,_,_,_,rfl,rfl,Or.inl ‹_›,by assumption,?_⟩
  exact hQ
 rw [selV_map] at N7
 have hl7:=N7.at_
 refine ⟨_,_,rfl,SqL.of ‹_›,_,_,rfl,rfl,?_⟩
 show Q (.bl (decide ((ns.map fun x=>pe x.toNat).sum<(ms.map fun x=>qe x.toNat).sum))) H7
 rw [decide_eq_true sh.more]
 exact k H7 (S4.trans (N6.same.trans N7.same))
end
end K7
namespace SW
theorem part_eq {a b m n t l k:Int} (b0:0<b) (n0:0<n) (e:a*n=b*m):t*n=l*(m+k*n)↔t*b=l*(a+k*b):=by
 have e1:b*(l*(m+k*n))=n*(l*(a+k*b)):=by
  have:b*(l*(m+k*n))=l*(b*m+b*(k*n)):=by grind
  rw [this,<-e]
  grind
 have e2:b*(t*n)=n*(t*b):=by grind
 constructor
 ·intro h
  have:n*(t*b)=n*(l*(a+k*b)):=by rw [<-e2,<-e1,h]
  exact Int.eq_of_mul_eq_mul_left (by omega) this
 ·intro h
  have:b*(t*n)=b*(l*(m+k*n)):=by rw [e2,e1,h]
  exact Int.eq_of_mul_eq_mul_left (by omega) this
def Wy (a b:Int) (U S:Nat->Nat->Int) (R C:Nat->Q2) (d:Int) (i j:Nat):Prop:=0<S i j+d/\U i j*(R i).1*(C j).1*b=(R i).2*(C j).2*(a+(S i j+d - 1)*b)
instance (a b:Int) (U S:Nat->Nat->Int) (R C:Nat->Q2) (d:Int) (i j:Nat):Decidable (Wy a b U S R C d i j):=by unfold Wy; exact inferInstance
def wyB (a b:Int) (U S:Nat->Nat->Int) (R C:Nat->Q2) (d:Int) (i j:Nat):Bool:=decide (Wy a b U S R C d i j)
theorem Wy.dn {a b:Int} {U S:Nat->Nat->Int} {r c:Nat} {R C:Nat->Q2} {i j:Nat} (hi:i<r) (hj:j<c) (h:Wy a b U S R C 0 i j):DnT a b (U i j) (S i j) (lam r c R C i) (lam r c R C (r+j)):=by
 rw [lam_row hi,lam_col hj]
 obtain ⟨h1,h2⟩:=h
 rw [Int.add_zero] at h1 h2
 refine ⟨h1,?_⟩
 show (R i).2*(C j).2*(a+(S i j - 1)*b)=(C j).1*(R i).1*(b*U i j)
 rw [<-h2]
 grind
theorem Wy.up {a b:Int} {U S:Nat->Nat->Int} {r c:Nat} {R C:Nat->Q2} {i j:Nat} (hi:i<r) (hj:j<c) (a0:0<a) (b0:0<b) (u0:0<=U i j) (s0:0<=S i j) (r0:0<(R i).2) (c0:0<(C j).2) (h:Wy a b U S R C 1 i j):UpT a b (U i j) (S i j) (lam r c R C i) (lam r c R C (r+j)):=by
 rw [lam_row hi,lam_col hj]
 obtain ⟨h1,h2⟩:=h
 rw [show S i j+1 - 1=S i j by omega] at h2
 refine ⟨?_,?_⟩
 ·rcases Int.lt_or_eq_of_le u0 with h | h
  ·exact h
  ·exfalso
   rw [<-h,Int.zero_mul,Int.zero_mul,Int.zero_mul] at h2
   have k1:0<=S i j*b:=Int.mul_nonneg s0 (Int.le_of_lt b0)
   have k2:0<(R i).2*(C j).2*(a+S i j*b):=Int.mul_pos (Int.mul_pos r0 c0) (by omega)
   omega
 ·show (C j).1*(R i).1*(b*U i j)=(R i).2*(C j).2*(a+S i j*b)
  rw [<-h2]
  grind
end SW
namespace K7
open PySem L2 SW
section
variable {P:Program} {w:World} {K:W.Frag} {mg:Str->Option Value} {base:Heap}
inductive WyOk (T:Txt K mg) (H:Hp):List V->List Nat->Prop where
 | mk {vt q dq sl rl' cl part:Addr} {as ra ca:List Addr} {U S:Nat->Nat->Int} {r c:Nat} {R C:Nat->Q2} {a b m n d:Int} {i:Nat} (mv:Mat K H vt (mkT U r c)) (dl:DealH T.c_QC H q dq sl rl' cl as ra ca S r c R C) (hpart:H part=some (.tup [.int m,.int n])) (m0:0<m) (mn:m<=n) (n1:n<=1000) (b0:0<b) (eab:a*n=b*m) (n40:r+c<=40) (ub:∀i j,i<r->j<c->0<=U i j/\U i j<=10 ^ 15) (sb:∀i j,i<r->j<c->0<=S i j/\S i j<=800) (rb:∀i,i<r->BQ 3000 (R i)) (cb:∀j,j<c->BQ 3000 (C j)) (d0:0<=d) (d1:d<=1) (hi:i<r):WyOk T H [.ref vt,.ref sl,.ref q,.ref part,.int (i:Int),.int d] (sel c (wyB a b U S R C d i))
def spWays (T:Txt K mg):Sp:=fun vs H Q _=>∃L,WyOk T H vs L/\∀(l:Addr) (H':Hp),Same H H'->H l=none->H' l=some (.lst (L.map nV))->Q (.ref l) H'
theorem ok_QH (T:Txt K mg):FnOk P w K mg base CX0 1 T.a_QH T.fd_QH ["_law_votes","_law_seats","_law_told","_law_part","_law_i","_law_by"] (spWays T):=by
 refine T.F_QH.ok sc_QH (fun vs H Q E h=>?_) (fun cdv A outer s H vs Q E hr h=>?_)
 ·obtain ⟨_,⟨_⟩,_⟩:=h
  rfl
 obtain ⟨_,@⟨vt,q,dq,sl,rl',cl,part,as,ra,ca,U,S,r,c,R,C,a,b,m,n,d,i,mv,dl,hpart,m0,mn,n1,b0,eab,n40,ub,sb,rb,cb,d0,d1,hi⟩,k⟩:=h
 refine ⟨_,(pss_cons (ps_set (i:=6) sc_QH.nd rfl (Or.inl rfl) (ZF pa_nil))
   (pss_cons (ps_for PassesOwn.never rfl (pi_range1 rfl T.n_range (pa_cons (pe_callB (len_Q K) (by rfl) T.n_len PySem.boot_len (pa_cons (pe_ix (ix_Q K) (pv 0) (pv 4) (fun _ _=>rfl)) pa_nil)) pa_nil)) (pg_name (i:=7) sc_QH.nd rfl (Or.inl rfl))
   (pss_cons (ps_set (i:=8) sc_QH.nd rfl (Or.inl rfl) (pe_op op_add (pe_ix (ix_Q K) (pe_ix (ix_Q K) (pv 1) (pv 4) (fun _ _=>rfl)) (pv 7) (fun _ _=>rfl)) (pv 5)))
   (pss_cons (ps_set (i:=9) sc_QH.nd rfl (Or.inl rfl) (pe_op ZC (pe_op ZC (pe_ix (ix_Q K) (pe_ix (ix_Q K) (pv 0) (pv 4) (fun _ _=>rfl)) (pv 7) (fun _ _=>rfl)) (pe_ix (ix_Q K) (pe_ix (ix_Q K) (ZA K (pv 2) rfl) (pv 4) (fun _ _=>rfl)) pe_int (fun _ _=>rfl))) (pe_ix (ix_Q K) (pe_ix (ix_Q K) (ZA K (pv 2) rfl) (pv 7) (fun _ _=>rfl)) pe_int (fun _ _=>rfl))))
   (pss_cons (ps_set (i:=10) sc_QH.nd rfl (Or.inl rfl) (pe_op ZC (pe_ix (ix_Q K) (pe_ix (ix_Q K) (ZA K (pv 2) rfl) (pv 4) (fun _ _=>rfl)) pe_int (fun _ _=>rfl)) (pe_ix (ix_Q K) (pe_ix (ix_Q K) (ZA K (pv 2) rfl) (pv 7) (fun _ _=>rfl)) pe_int (fun _ _=>rfl))))
   (pss_one (ps_if (PW.pt (pw_and (pt_cmpR op_gt (pv 8) pe_int (nomark _)) (pw_and1 (pt_cmpR op_eqI (pe_op ZC (pv 9) (pe_ix (ix_Q K) (pv 3) pe_int (fun _ _=>rfl))) (pe_op ZC (pv 10) (pe_op op_add (pe_ix (ix_Q K) (pv 3) pe_int (fun _ _=>rfl)) (pe_op ZC (pe_op op_sub (pv 8) pe_int) (pe_ix (ix_Q K) (pv 3) pe_int (fun _ _=>rfl))))) (nomark _)))))
   (pss_one (ps_expr (pe_bm PySem.F.plainAttrs_list PySem.F.slot_list_append PySem.F.type_list_append mt_append (pv 6) (pa_cons (pv 7) pa_nil))))
   pss_nil))))))
   (pss_one (ps_ret (pv 6))))),?_⟩
 refine ⟨Nat.zero_le _,fun l H1 N1=>?_⟩
 have hl1:=N1.at_
 obtain ⟨ts,tv,sq1,at1,sq2,sl2⟩:=(mv.same N1.same).get hi
 refine ⟨_,rfl,_,rfl,_,_,_,_,rfl,rfl,by assumption,by assumption,_,_,rfl,by assumption,?_⟩
 rw [List.length_map,ZJ]
 refine ⟨_,rfl,by omega,by omega,?_⟩
 rw [Int.toNat_natCast]
 refine for_range (fun j σ H'=>Same H H'/\H' l=some (.lst ((sel j (wyB a b U S R C d i)).map nV))/\∃v7 v8 v9 v10,σ=[some (.ref vt),some (.ref sl),some (.ref q),some (.ref part),some (.int (i:Int)),some (.int d),some (.ref l),v7,v8,v9,v10]) ⟨N1.same,hl1,_,_,_,_,rfl⟩ ?_ ?_
 rotate_left
 ·rintro σ H' ⟨S',hl,v7,v8,v9,v10,rfl⟩
  refine ⟨_,rfl,?_⟩
  exact k l H' S' N1.gone hl
 rintro j σ H2 hj ⟨S2,hl2,v7,v8,v9,v10,rfl⟩
 rw [show (0:Int)+(j:Int)=(j:Int) by omega]
 have d2:=dl.same S2
 have ob2:=d2.ob
 have hr2:=d2.rows
 have hc2:=d2.cols
 have hpart2:=S2 _ _ hpart
 obtain ⟨ts2,tv2,sqa,ata,sqb,_⟩:=(mv.same S2).get hi
 have atu:atI ((row c (U i)).map V.int) (j:Int)=some (.int (U i j)):=at_row hj
 obtain ⟨as',ta,sq3,at3,sq4,_⟩:=(d2.st.mat (K:=K)).get hi
 have ats:atI ((row c (S i)).map V.int) (j:Int)=some (.int (S i j)):=at_row hj
 have lra:=d2.rlen
 have lca:=d2.clen
 obtain ⟨xr,exr⟩:∃x,ra[i]?=some x:=⟨ra[i]'(by omega),by simp⟩
 obtain ⟨xc,exc⟩:∃x,ca[j]?=some x:=⟨ca[j]'(by omega),by simp⟩
 have hxr:=d2.rt i xr exr
 have hxc:=d2.ct j xc exc
 have atr:atI (ra.map V.ref) (i:Int)=some (.ref xr):=at_ref exr
 have atc:atI (ca.map V.ref) (j:Int)=some (.ref xc):=at_ref exc
 obtain ⟨u0,u1⟩:=ub i j hi hj
 obtain ⟨s0,s1⟩:=sb i j hi hj
 obtain ⟨r1,r2,rb1,rb2⟩:=rb i hi
 obtain ⟨c1,c2,cb1,cb2⟩:=cb j hj
 have m1:CMulF (U i j) (R i).1:=.inl (.inl ⟨by omega,by omega⟩)
 have f3:Fits (U i j*(R i).1):=by
  refine ZG (k:=50+3000) (Int.mul_nonneg u0 (Int.le_of_lt r1)) ?_ (by omega)
  rw [Int.pow_add]
  refine Int.lt_of_le_of_lt (Int.mul_le_mul_of_nonneg_left (Int.le_of_lt rb1) u0) (Int.mul_lt_mul_of_pos_right (by omega) (Int.pow_pos (by decide)))
 have m2:CMulF (U i j*(R i).1) (C j).1:=.inr ⟨f3,ZG (Int.le_of_lt c1) cb1 (by decide)⟩
 have m3:CMulF (R i).2 (C j).2:=.inr ⟨ZG (Int.le_of_lt r2) rb2 (by decide),ZG (Int.le_of_lt c2) cb2 (by decide)⟩
 have m4:CMulF (U i j*(R i).1*(C j).1) n:=.inl (.inr ⟨by omega,by omega⟩)
 have m5:CMulF (S i j+d - 1) n:=.inl (.inr ⟨by omega,by omega⟩)
 have mb:0<=(S i j+d - 1)*n\/S i j+d - 1<0:=by
  by_cases z:S i j+d - 1<0
  ·exact .inr z
  ·exact .inl (Int.mul_nonneg (by omega) (by omega))
 have off:wyB a b U S R C d i j=false->(sel (j+1) (wyB a b U S R C d i))=sel j (wyB a b U S R C d i):=fun z=>by
  rw [sel_succ,if_neg (by rw [z]; exact Bool.false_ne_true),List.append_nil]
 refine ⟨_,rfl,_,rfl,_,_,_,_,rfl,rfl,by assumption,by assumption,_,rfl,_,_,_,_,rfl,rfl,by assumption,by assumption,_,rfl,_,_,rfl,rfl,_,rfl,_,rfl,_,_,_,_,rfl,rfl,by assumption,by assumption,_,rfl,_,_,_,_,rfl,rfl,by assumption,by assumption,_,rfl,_,_,_,_,_,rfl,by assumption,T.cl_QC,T.na_QC_rows,by rfl,_,rfl,_,_,_,_,rfl,rfl,Or.inl (SqL.of ‹_›),by assumption,_,_,_,_,rfl,rfl,Or.inr (SqT.of ‹_›),rfl,_,_,rfl,rfl,by omega,_,rfl,_,_,_,_,_,rfl,by assumption,T.cl_QC,T.na_QC_columns,by rfl,?_⟩
 refine ⟨_,rfl,_,_,_,_,rfl,rfl,Or.inl (SqL.of ‹_›),by assumption,_,_,_,_,rfl,rfl,Or.inr (SqT.of ‹_›),rfl,_,_,rfl,rfl,by omega,_,rfl,_,_,_,_,_,rfl,by assumption,T.cl_QC,T.na_QC_rows,by rfl,_,rfl,_,_,_,_,rfl,rfl,Or.inl (SqL.of ‹_›),by assumption,_,_,_,_,rfl,rfl,Or.inr (SqT.of ‹_›),rfl,_,rfl,_,_,_,_,_,rfl,by assumption,T.cl_QC,T.na_QC_columns,by rfl,_,rfl,_,_,_,_,rfl,rfl,Or.inl (SqL.of ‹_›),by assumption,_,_,_,_,rfl,rfl,Or.inr (SqT.of ‹_›),rfl,?_⟩
 refine ⟨_,_,rfl,rfl,by omega,_,rfl,_,_,rfl,rfl,_,rfl,?_⟩
 by_cases h1:0<S i j+d
 rotate_left
 ·refine iteDF h1 (iteF ?_)
  exact ⟨S2,(by rw [off (decide_eq_false fun z=>h1 z.1)]; exact hl2),_,_,_,_,rfl⟩
 have mb1:=mul_bd (show 0<=S i j+d - 1 by omega) (show S i j+d - 1<=1000 by omega) (by omega:0<=n) n1
 have m6:CMulF ((R i).2*(C j).2) (m+(S i j+d - 1)*n):=.inl (.inr ⟨by omega,by omega⟩)
 refine iteDT h1 ?_
 refine ⟨_,rfl,_,rfl,_,_,_,_,rfl,rfl,Or.inr (SqT.of ‹_›),rfl,_,_,rfl,rfl,by omega,_,rfl,_,rfl,_,_,_,_,rfl,rfl,Or.inr (SqT.of ‹_›),rfl,_,rfl,_,_,rfl,rfl,_,rfl,_,_,_,_,rfl,rfl,Or.inr (SqT.of ‹_›),rfl,_,_,rfl,rfl,by omega,_,_,rfl,rfl,_,_,rfl,rfl,by omega,_,_,rfl,rfl,_,rfl,?_⟩
 by_cases h2:U i j*(R i).1*(C j).1*n=(R i).2*(C j).2*(m+(S i j+d - 1)*n)
 rotate_left
 ·refine iteDF h2 ?_
  exact ⟨S2,(by rw [off (decide_eq_false fun z=>h2 ((part_eq b0 (by omega) eab).mpr z.2))]; exact hl2),_,_,_,_,rfl⟩
 refine iteDT h2 ?_
 refine ⟨_,rfl,?_⟩
 refine ⟨.inl ⟨rfl,_,SqL.of hl2⟩,?_⟩
 refine ⟨_,rfl,?_⟩
 refine ⟨l,_,_,rfl,rfl,hl2,?_,?_⟩
 ·rw [List.length_map]
  exact Nat.lt_of_le_of_lt (sel_len j _) (Nat.lt_of_lt_of_le (show j<40 by omega) (by decide))
 have on:wyB a b U S R C d i j=true:=decide_eq_true ⟨h1,(part_eq b0 (by omega) eab).mp h2⟩
 refine ⟨S2.upd N1.gone,?_,_,_,_,_,rfl⟩
 rw [upd_same,sel_succ,if_pos on,List.map_append]
 rfl
end
end K7
namespace SW
open PySem L2
theorem comp_lsts {te:TE} {σ:St} {j:Nat} {R:List V->Hp->Prop} {H1:Hp} {lo:Int} {n:Nat} (g:Nat->List V) (hz:n<=sizeLine) (hs:∀(i:Nat) (H:Hp) (Q:VK),i<n->Same H1 H->(∀(l:Addr) (H':Hp),Same H H'->H' l=some (.lst (g i))->Q (.ref l) H')->te (σ.set j (some (.int (lo+i)))) H Q)
  (hd:∀(bs:List Addr) (H:Hp),Same H1 H->bs.length=n->(∀(k:Nat) (b:Addr),bs[k]?=some b->H b=some (.lst (g k)))->R (bs.map V.ref) H):CompW (Itr lo n) (gName j) tYes te (wipe [j] σ) R H1:=by
 refine comp_range (fun i ys H2=>Same H1 H2/\∃bs:List Addr,ys=bs.map V.ref/\bs.length=i/\∀(k:Nat) (b:Addr),bs[k]?=some b->H2 b=some (.lst (g k))) hz ⟨Same.refl _,[],rfl,rfl,fun k b e=>(by simp at e)⟩ ?_ ?_
 ·rintro i ys H2 hi ⟨S2,bs,rfl,lb,hb⟩
  refine yes (hs i H2 _ hi S2 fun l H3 S3 h=>⟨S2.trans S3,bs++[l],by simp,by simp [lb],fun k b e=>?_⟩)
  by_cases hk:k<bs.length
  ·rw [List.getElem?_append_left hk] at e
   exact S3 _ _ (hb k b e)
  ·rw [List.getElem?_append_right (by omega)] at e
   have:k - bs.length=0:=by
    have:=(List.getElem?_eq_some_iff.mp e).1
    simp at this
    omega
   rw [this] at e
   have e':l=b:=by simpa using e
   subst e'
   rw [show k=i by omega]
   exact h
 ·rintro ys H2 ⟨S2,bs,rfl,lb,hb⟩
  exact hd bs H2 S2 lb hb
theorem comp_filS {K:W.Frag} {te:TE} {tt:TT} {σ:St} {j:Nat} {R:List V->Hp->Prop} {H1:Hp} {a:Addr} {xs:List V} (p:V->Bool) (hl:SqL K H1 a xs) (hz:xs.length<=sizeLine)
  (ht:∀(i:Nat) (x:V) (H:Hp) (Q:Bool->Hp->Prop),xs[i]?=some x->Same H1 H->(∀H',Same H H'->Q (p x) H')->tt (σ.set j (some x)) H Q)
  (hs:∀(i:Nat) (x:V) (H:Hp) (Q:VK),xs[i]?=some x->Same H1 H->Q x H->te (σ.set j (some x)) H Q) (hd:∀H,Same H1 H->R (xs.filter p) H):∃a',V.ref a = .ref a'/\(∃xs,SqL K H1 a' xs)/\CompW (Itl K a') (gName j) tt te (wipe [j] σ) R H1:=by
 refine ⟨a,rfl,⟨_,hl⟩,?_⟩
 refine comp_list (fun i ys H=>Same H1 H/\ys=(xs.take i).filter p) hz ⟨Same.refl _,rfl⟩ (fun i ys H _ h=>h.1.seq hl) (fun i x ys H e h=>?_) (fun ys H h=>?_)
 ·obtain ⟨S2,rfl⟩:=h
  refine ht i x H _ e S2 fun H' S'=>?_
  cases hp:p x with
  | true=>
   refine iteT (hs i x H' _ e (S2.trans S') ⟨S2.trans S',?_⟩)
   rw [List.take_add_one,e,List.filter_append,Option.toList_some,List.filter_cons,List.filter_nil,hp]; simp
  | false=>
   refine iteF ⟨S2.trans S',?_⟩
   rw [List.take_add_one,e,List.filter_append,Option.toList_some,List.filter_cons,List.filter_nil,hp]; simp
 ·obtain ⟨S2,rfl⟩:=h
  rw [List.take_length]
  exact hd H S2
def nI (l:List Nat):List Int:=l.map fun (z:Nat)=>(z:Int)
theorem nI_V (l:List Nat):l.map nV=(nI l).map V.int:=by unfold nI; rw [List.map_map]; rfl
theorem nI_nil {l:List Nat}:nI l=[]↔l=[]:=by unfold nI; exact List.map_eq_nil_iff
theorem nI_mem {l:List Nat} {z:Nat}:(z:Int)∈nI l↔z∈l:=by
 unfold nI
 rw [List.mem_map]
 constructor
 ·rintro ⟨x,hx,e⟩
  have:x=z:=by omega
  subst this
  exact hx
 ·intro h
  exact ⟨z,h,rfl⟩
def unV:V->Nat
 | .int y=>y.toNat
 | _=>0
theorem fil_nV (l:List Nat) (p:Nat->Bool):(l.map nV).filter (fun x=>p (unV x))=(l.filter p).map nV:=by
 rw [List.filter_map]
 congr 1
def hitB (G W:Nat->List Nat) (i k:Nat):Bool:=decide (k≠i)&&decide ((G i).filter (fun j=>decide (j∈W k))≠[])
def stayB (G W:Nat->List Nat) (L:List Nat) (i:Nat):Bool:=decide (L.filter (hitB G W i)≠[])
theorem stay_hit {G W:Nat->List Nat} {L:List Nat} {i:Nat} (h:stayB G W L i=true):∃k,k∈L/\∃j,j∈G i/\j∈W k:=by
 have h:=of_decide_eq_true h
 obtain ⟨k,hk⟩:=List.exists_mem_of_ne_nil _ h
 obtain ⟨hk,hh⟩:=List.mem_filter.mp hk
 unfold hitB at hh
 rw [Bool.and_eq_true] at hh
 obtain ⟨j,hj⟩:=List.exists_mem_of_ne_nil _ (of_decide_eq_true hh.2)
 obtain ⟨h1,h2⟩:=List.mem_filter.mp hj
 exact ⟨k,hk,j,h1,of_decide_eq_true h2⟩
theorem vnat {l:List Nat} {i:Nat} {x:V} (h:(l.map nV)[i]?=some x):∃y:Nat,x = .int (y:Int)/\l[i]?=some y/\y∈l:=by
 rw [List.getElem?_map] at h
 cases e:l[i]? with
 | none=>rw [e] at h; cases h
 | some y=>rw [e] at h; exact ⟨y,(Option.some.inj h).symm,rfl,List.mem_of_getElem? e⟩
end SW
namespace K7
open PySem L2 SW
section
variable {P:Program} {w:World} {K:W.Frag} {mg:Str->Option Value} {base:Heap}
inductive LrOk (T:Txt K mg) (H:Hp):List V->Prop where
 | mk {vt q dq sl rl' cl part:Addr} {as ra ca:List Addr} {U S:Nat->Nat->Int} {r c:Nat} {R C:Nat->Q2} {a b m n:Int} (mv:Mat K H vt (mkT U r c)) (dl:DealH T.c_QC H q dq sl rl' cl as ra ca S r c R C) (hpart:H part=some (.tup [.int m,.int n])) (m0:0<m) (mn:m<=n) (n1:n<=1000) (a0:0<a) (b0:0<b) (eab:a*n=b*m) (n40:r+c<=40) (ub:∀i j,i<r->j<c->0<=U i j/\U i j<=10 ^ 15) (sb:∀i j,i<r->j<c->0<=S i j/\S i j<=800) (rb:∀i,i<r->BQ 3000 (R i)) (cb:∀j,j<c->BQ 3000 (C j)) (nogo:∀v,v<r+c->¬Go a b U S r c (lam r c R C) (r+c) v):LrOk T H [.ref vt,.ref q,.ref part]
def spLRing (T:Txt K mg):Sp:=fun vs H Q _=>LrOk T H vs/\∀H',Same H H'->Q (.bl false) H'
theorem ok_QI (T:Txt K mg):FnOk P w K mg base CX0 2 T.a_QI T.fd_QI ["_law_votes","_law_told","_law_part"] (spLRing T):=by
 refine T.F_QI.ok sc_QI (fun vs H Q E h=>?_) (fun cdv A outer s H vs Q E hr h=>?_)
 ·obtain ⟨⟨_⟩,_⟩:=h
  rfl
 obtain ⟨@⟨vt,q,dq,sl,rl',cl,part,as,ra,ca,U,S,r,c,R,C,a,b,m,n,mv,dl,hpart,m0,mn,n1,a0,b0,eab,n40,ub,sb,rb,cb,nogo⟩,k⟩:=h
 refine ⟨_,(pss_cons (ps_set (i:=3) sc_QI.nd rfl (Or.inr rfl) (ZD [8] rfl (ZK rfl) (pi_range1 rfl T.n_range (pa_cons (pe_callB (len_Q K) (by rfl) T.n_len PySem.boot_len (pa_cons (pv 0) pa_nil)) pa_nil)) (fun _=>(pg_name (i:=8) sc_QI.nd rfl (Or.inl rfl))) (fun _=>ZL) (fun _=>(pe_call (ok_QH T) (hr.mono (by decide)) rfl T.m_QH T.F_QH.kp T.b_QH .nil pass0 (pa_cons (pv 0) (pa_cons (ZA K (pv 1) rfl) (pa_cons (pv 1) (pa_cons (pv 2) (pa_cons (pv 8) (pa_cons pe_int pa_nil))))))))))
   (pss_cons (ps_set (i:=4) sc_QI.nd rfl (Or.inr rfl) (ZD [8] rfl (ZK rfl) (pi_range1 rfl T.n_range (pa_cons (pe_callB (len_Q K) (by rfl) T.n_len PySem.boot_len (pa_cons (pv 0) pa_nil)) pa_nil)) (fun _=>(pg_name (i:=8) sc_QI.nd rfl (Or.inl rfl))) (fun _=>ZL) (fun _=>(pe_call (ok_QH T) (hr.mono (by decide)) rfl T.m_QH T.F_QH.kp T.b_QH .nil pass0 (pa_cons (pv 0) (pa_cons (ZA K (pv 1) rfl) (pa_cons (pv 1) (pa_cons (pv 2) (pa_cons (pv 8) (pa_cons pe_int pa_nil))))))))))
   (pss_cons (ps_setC (i:=5) [8] rfl (ZK rfl) (pi_range1 rfl T.n_range (pa_cons (pe_callB (len_Q K) (by rfl) T.n_len PySem.boot_len (pa_cons (pv 0) pa_nil)) pa_nil)) (fun _=>(pg_name (i:=8) sc_QI.nd rfl (Or.inl rfl))) (fun _=>ZL) (fun _=>(pv 8)) sc_QI.nd rfl rfl)
   (pss_cons (ps_for PassesOwn.never rfl (ZB K (pv 0)) (pg_name (i:=6) sc_QI.nd rfl (Or.inl rfl))
   (pss_cons (ps_set (i:=7) sc_QI.nd rfl (Or.inl rfl) (ZF pa_nil))
   (pss_cons (ps_for PassesOwn.never rfl (ZB K (pv 5)) (pg_name (i:=8) sc_QI.nd rfl (Or.inr rfl))
   (pss_one (ps_if (pt_cmpR (neLI_Q K hr.units) (ZD [9] rfl (ZK rfl) (ZB K (pv 5)) (fun _=>(pg_name (i:=9) sc_QI.nd rfl (Or.inr rfl))) (fun _=>pts_one (PW.pt (pw_and (pt_cmpR op_ne (pv 9) (pv 8) (nomark _)) (pw_and1 (pt_cmpR (neLI_Q K hr.units) (ZD [10] rfl (ZK rfl) (ZB K (pe_ix (ix_Q K) (pv 3) (pv 8) (fun _ _=>rfl))) (fun _=>(pg_name (i:=10) sc_QI.nd rfl (Or.inl rfl))) (fun _=>pts_one (pt_cmpR (in_Q K) (pv 10) (pe_ix (ix_Q K) (pv 4) (pv 9) (fun _ _=>rfl)) (by with_unfolding_all rfl))) (fun _=>(pv 10))) (ZF pa_nil) (nomark _)))))) (fun _=>(pv 9))) (ZF pa_nil) (nomark _))
   (pss_one (ps_expr (pe_bm PySem.F.plainAttrs_list PySem.F.slot_list_append PySem.F.type_list_append mt_append (pv 7) (pa_cons (pv 8) pa_nil))))
   pss_nil)))
   (pss_one (ps_set (i:=5) sc_QI.nd rfl (Or.inl rfl) (pv 7))))))
   (pss_one (ps_ret (pe_cmpR (neLI_Q K hr.units) (pv 5) (ZF pa_nil) (nomark _)))))))),?_⟩
 obtain ⟨ts,tsl,tl⟩:=mv.top
 refine ⟨_,rfl,_,_,rfl,Or.inl ‹_›,?_⟩
 rw [tl]
 refine ⟨_,rfl,by omega,by omega,?_⟩
 rw [Int.toNat_natCast]
 refine comp_lsts (fun i=>(sel c (wyB a b U S R C 0 i)).map nV) (Nat.le_trans (show r<=40 by omega) (by decide)) (fun i H1 Q' hi S1 hQ=>?_) fun gs H1 S1 lg hg=>?_
 ·rw [show (0:Int)+(i:Int)=(i:Int) by omega]
  have ob:=(dl.same S1).ob
  refine ⟨_,rfl,_,rfl,_,_,_,_,_,rfl,by assumption,T.cl_QC,T.na_QC_seats,by rfl,_,rfl,_,rfl,_,rfl,?_⟩
  exact ⟨_,.mk (mv.same S1) (dl.same S1) (S1 _ _ hpart) m0 mn n1 b0 eab n40 ub sb rb cb (by decide) (by decide) hi,fun l H' S' nl hl=>hQ l H' S' hl⟩
 intro gp H2 N2
 have S02:=S1.trans N2.same
 have tsl2:=S02.seq tsl
 refine ⟨_,rfl,_,_,rfl,Or.inl ‹_›,?_⟩
 rw [tl]
 refine ⟨_,rfl,by omega,by omega,?_⟩
 rw [Int.toNat_natCast]
 refine comp_lsts (fun i=>(sel c (wyB a b U S R C 1 i)).map nV) (Nat.le_trans (show r<=40 by omega) (by decide)) (fun i H3 Q' hi S3 hQ=>?_) fun ks H3 S3 lk hk=>?_
 ·rw [show (0:Int)+(i:Int)=(i:Int) by omega]
  have S03:=S02.trans S3
  have ob:=(dl.same S03).ob
  refine ⟨_,rfl,_,rfl,_,_,_,_,_,rfl,by assumption,T.cl_QC,T.na_QC_seats,by rfl,_,rfl,_,rfl,_,rfl,?_⟩
  exact ⟨_,.mk (mv.same S03) (dl.same S03) (S03 _ _ hpart) m0 mn n1 b0 eab n40 ub sb rb cb (by decide) (by decide) hi,fun l H' S' nl hl=>hQ l H' S' hl⟩
 intro kp H4 N4
 have S24:=S3.trans N4.same
 have S04:=S02.trans S24
 have tsl4:=S04.seq tsl
 refine ⟨_,rfl,_,_,rfl,Or.inl ‹_›,?_⟩
 rw [tl]
 refine ⟨_,rfl,by omega,by omega,?_⟩
 rw [Int.toNat_natCast]
 refine comp_mapR (fun i=>nV i) (Nat.le_trans (show r<=40 by omega) (by decide)) (fun i Q' hi hQ=>?_) fun ll H5 N5=>?_
 ·rw [show (0:Int)+(i:Int)=(i:Int) by omega]
  refine ⟨_,rfl,?_⟩
  exact hQ
 have S05:=S04.trans N5.same
 have tsl5:=S05.seq tsl
 have hgp5:H5 gp=some (.lst (gs.map V.ref)):=(S24.trans N5.same) _ _ N2.at_
 have hkp5:H5 kp=some (.lst (ks.map V.ref)):=N5.same _ _ N4.at_
 have hg5:∀(k:Nat) (x:Addr),gs[k]?=some x->H5 x=some (.lst ((sel c (wyB a b U S R C 0 k)).map nV)):=fun k x e=>(N2.same.trans (S24.trans N5.same)) _ _ (hg k x e)
 have hk5:∀(k:Nat) (x:Addr),ks[k]?=some x->H5 x=some (.lst ((sel c (wyB a b U S R C 1 k)).map nV)):=fun k x e=>(N4.same.trans N5.same) _ _ (hk k x e)
 have ll5:=N5.at_
 refine ⟨_,rfl,?_⟩
 refine ⟨vt,rfl,⟨_,tsl5⟩,?_⟩
 refine for_list (K:=K) (xs:=ts.map V.ref) (fun t σ H'=>Same H5 H'/\∃(l:Addr) (L:List Nat) (v6 v7 v8:Option V),σ=[some (.ref vt),some (.ref q),some (.ref part),some (.ref gp),some (.ref kp),some (.ref l),v6,v7,v8,none,none]/\H' l=some (.lst (L.map nV))/\(∀x,x∈L->x<r)/\L.length<=r/\(L.length+t<=r\/L=[])) ⟨Same.refl _,ll,List.range r,_,_,_,rfl,ll5,fun x hx=>List.mem_range.mp hx,Nat.le_of_eq (by simp),.inl (Nat.le_of_eq (by simp))⟩ (fun t σ H' _ h=>h.1.seq tsl5) ?_ ?_
 rotate_left
 ·rintro σ H' ⟨S',l,L,v6,v7,v8,rfl,hl,lt,ln,fin⟩
  refine ⟨_,rfl,?_⟩
  refine ⟨Nat.zero_le _,fun p H'' N=>?_⟩
  have eL:L=[]:=by
   rcases fin with h | h
   ·rw [tl] at h
    exact List.length_eq_zero_iff.mp (by omega)
   ·exact h
  subst eL
  refine ⟨l,p,[],[],rfl,rfl,SqL.of (N.same _ _ hl),SqL.of N.at_,?_⟩
  rw [if_pos rfl,decide_eq_true rfl]
  exact k H'' (S05.trans (S'.trans N.same))
 rintro t x σ H6 hx ⟨S6,l,L,v6,v7,v8,rfl,hl,lt,ln,fin⟩
 have szL:(L.map nV).length<=sizeLine:=by rw [List.length_map]; exact Nat.le_trans ln (Nat.le_trans (show r<=40 by omega) (by decide))
 refine ⟨Nat.zero_le _,fun kl H7 N7=>?_⟩
 have hl7:=N7.same _ _ hl
 have hkl:=N7.at_
 refine ⟨_,rfl,?_⟩
 refine ⟨l,rfl,⟨_,SqL.of hl7⟩,?_⟩
 generalize eG:(fun i=>sel c (wyB a b U S R C 0 i))=G at *
 generalize eW:(fun i=>sel c (wyB a b U S R C 1 i))=W at *
 have hg5':∀(k:Nat) (x:Addr),gs[k]?=some x->H5 x=some (.lst ((G k).map nV)):=fun k x e=>by rw [<-eG]; exact hg5 k x e
 have hk5':∀(k:Nat) (x:Addr),ks[k]?=some x->H5 x=some (.lst ((W k).map nV)):=fun k x e=>by rw [<-eW]; exact hk5 k x e
 have lG:∀k,(G k).length<=c:=fun k=>by rw [<-eG]; exact sel_len c _
 refine for_list (K:=K) (xs:=L.map nV) (fun e σ H'=>Same H6 H'/\H' kl=some (.lst (((L.take e).filter (stayB G W L)).map nV))/\∃(v8:Option V),σ=[some (.ref vt),some (.ref q),some (.ref part),some (.ref gp),some (.ref kp),some (.ref l),some x,some (.ref kl),v8,none,none]) ⟨N7.same,hkl,_,rfl⟩ (fun e σ H' _ h=>SqL.of (h.1 _ _ hl)) ?_ ?_
 ·rintro e v σ H8 hv ⟨S8,hkl8,v8,rfl⟩
  obtain ⟨y,rfl,ey,hy⟩:=vnat hv
  have hyr:=lt y hy
  have hl8:=S8 _ _ hl
  refine ⟨_,rfl,?_⟩
  refine comp_filS (fun v=>hitB G W y (unV v)) (SqL.of hl8) szL (fun e2 v H9 Q' hv S9 hQ=>?_) (fun e2 v H9 Q' hv S9 hQ=>?_) fun H9 S9=>?_
  ·obtain ⟨z,rfl,ez,hz⟩:=vnat hv
   have hzr:=lt z hz
   have S59:=S6.trans (S8.trans S9)
   obtain ⟨gy,egy⟩:∃x,gs[y]?=some x:=⟨gs[y]'(by omega),by simp⟩
   obtain ⟨kz,ekz⟩:∃x,ks[z]?=some x:=⟨ks[z]'(by omega),by simp⟩
   have atg:atI (gs.map V.ref) (y:Int)=some (.ref gy):=at_ref egy
   have atk:atI (ks.map V.ref) (z:Int)=some (.ref kz):=at_ref ekz
   have hgp9:=S59 _ _ hgp5
   have hkp9:=S59 _ _ hkp5
   have hgy:=S59 _ _ (hg5' y gy egy)
   have hkz:=S59 _ _ (hk5' z kz ekz)
   have uz:unV (.int (z:Int))=z:=Int.toNat_natCast z
   rw [uz] at hQ
   unfold hitB at hQ
   refine ⟨_,rfl,_,rfl,rfl,_,rfl,?_⟩
   by_cases hzy:z=y
   ·rw [decide_eq_true (by rw [hzy])]
    refine iteF ?_
    rw [decide_eq_false (fun h=>h hzy)] at hQ
    exact hQ H9 (Same.refl _)
   rw [decide_eq_false (fun h=>hzy (by have:=V.int.inj h; omega))]
   refine iteT ?_
   rw [decide_eq_true (show z≠y from hzy)] at hQ
   refine ⟨_,rfl,_,rfl,_,_,_,_,rfl,rfl,Or.inl (SqL.of ‹_›),by assumption,?_⟩
   refine ⟨gy,rfl,⟨_,SqL.of hgy⟩,?_⟩
   refine comp_filL (fun v=>decide (unV v∈W z)) (fun v=>v) (SqL.of hgy) (by rw [List.length_map]; exact Nat.le_trans (lG y) (Nat.le_trans (show c<=40 by omega) (by decide))) (fun e3 v Q2 hv hQ2=>?_) (fun e3 v Q2 hv _ hQ2=>?_) fun l10 H10 N10=>?_
   ·obtain ⟨j,rfl,ej,hj⟩:=vnat hv
    have uj:unV (.int (j:Int))=j:=Int.toNat_natCast j
    rw [uj] at hQ2
    refine ⟨_,rfl,_,rfl,_,rfl,_,_,_,_,rfl,rfl,Or.inl (SqL.of ‹_›),by assumption,?_⟩
    refine ⟨kz,_,rfl,.inl (SqL.of hkz),rfl,(by rw [nI_V]; exact int_flat _),?_⟩
    rw [if_neg Bool.false_ne_true,nI_V,int_in,decide_eq_decide.mpr nI_mem]
    exact ⟨_,rfl,hQ2⟩
   ·refine ⟨_,rfl,?_⟩
    exact hQ2
   have eF:((((G y).map nV).filter (fun v=>decide (unV v∈W z))).map (fun v=>v))=(nI ((G y).filter (fun j=>decide (j∈W z)))).map V.int:=by
    rw [List.map_id',fil_nV (G y) (fun j=>decide (j∈W z)),nI_V]
   rw [eF] at N10
   have hl10:=N10.at_
   refine ⟨Nat.zero_le _,fun e0 H11 N11=>?_⟩
   refine ⟨l10,e0,_,[],rfl,rfl,SqL.of (N11.same _ _ hl10),SqL.of N11.at_,?_⟩
   rw [if_pos rfl]
   have hQ':=hQ H11 (N10.same.trans N11.same)
   rw [Bool.true_and,decide_not,<-decide_eq_decide.mpr nI_nil] at hQ'
   exact ⟨_,rfl,hQ'⟩
  ·refine ⟨_,rfl,?_⟩
   exact hQ
  ·intro lk9 H10 N10
   rw [fil_nV L (hitB G W y),nI_V] at N10
   have hl10:=N10.at_
   have S610:=S8.trans (S9.trans N10.same)
   refine ⟨Nat.zero_le _,fun e0 H11 N11=>?_⟩
   refine ⟨lk9,e0,_,[],rfl,rfl,SqL.of (N11.same _ _ hl10),SqL.of N11.at_,?_⟩
   refine ⟨_,rfl,?_⟩
   rw [if_pos rfl,decide_eq_decide.mpr nI_nil]
   have S611:=S610.trans N11.same
   have hkl11:=(S9.trans (N10.same.trans N11.same)) _ _ hkl8
   have step:(L.take (e+1)).filter (stayB G W L)=(L.take e).filter (stayB G W L)++[y].filter (stayB G W L):=by
    rw [List.take_add_one,ey,List.filter_append]; rfl
   by_cases hF:L.filter (hitB G W y)=[]
   ·rw [decide_eq_true hF]
    refine iteF ?_
    refine ⟨S611,?_,_,rfl⟩
    have off:stayB G W L y=false:=decide_eq_false fun h=>h hF
    rw [step,List.filter_cons,off,if_neg Bool.false_ne_true,List.filter_nil,List.append_nil]
    exact hkl11
   ·rw [decide_eq_false hF]
    refine iteT ?_
    have on:stayB G W L y=true:=decide_eq_true hF
    refine ⟨_,rfl,?_⟩
    refine ⟨.inl ⟨rfl,_,SqL.of hkl11⟩,?_⟩
    refine ⟨_,rfl,?_⟩
    refine ⟨kl,_,_,rfl,rfl,hkl11,?_,?_⟩
    ·rw [List.length_map]
     exact Nat.lt_of_le_of_lt (Nat.le_trans (List.length_filter_le _ _) (Nat.le_trans (List.length_take_le' _ _) (Nat.le_trans ln (show r<=40 by omega)))) (by decide)
    refine ⟨S611.upd N7.gone,?_,_,rfl⟩
    rw [upd_same,step,List.filter_cons,on,if_pos rfl,List.filter_nil,List.map_append]
    rfl
 ·rintro σ H8 ⟨S8,hkl8,v8,rfl⟩
  rw [List.length_map,List.take_length] at hkl8
  refine ⟨_,rfl,?_⟩
  refine ⟨S6.trans S8,kl,L.filter (stayB G W L),_,_,_,rfl,hkl8,fun x hx=>lt x (List.mem_filter.mp hx).1,Nat.le_trans (List.length_filter_le _ _) ln,?_⟩
  rcases fin with h | h
  rotate_left
  ·subst h
   exact .inr rfl
  have le:=List.length_filter_le (stayB G W L) L
  by_cases eq:(L.filter (stayB G W L)).length=L.length
  rotate_left
  ·exact .inl (by omega)
  have all:=List.length_filter_eq_length_iff.mp eq
  by_cases hL:L=[]
  ·rw [hL]
   exact .inr rfl
  exfalso
  obtain ⟨i0,hi0⟩:=List.exists_mem_of_ne_nil _ hL
  obtain ⟨v,hv,go⟩:=ring_go (a:=a) (b:=b) (V:=U) (S:=S) (c:=c) (pi:=lam r c R C) lt (fun i hi=>by
   obtain ⟨k,hk,j,hj,hj'⟩:=stay_hit (all i hi)
   rw [<-eG] at hj
   rw [<-eW] at hj'
   obtain ⟨j0,w0⟩:=sel_mem.mp hj
   obtain ⟨_,w1⟩:=sel_mem.mp hj'
   have hir:=lt i hi
   have hkr:=lt k hk
   exact ⟨k,hk,j,j0,Wy.up hkr j0 a0 b0 (ub k j hkr j0).1 (sb k j hkr j0).1 (rb k hkr).2.1 (cb j j0).2.1 (of_decide_eq_true w1),Wy.dn hir j0 (of_decide_eq_true w0)⟩) hi0
  exact nogo v hv go
end
end K7
namespace SW
open PySem L2
theorem wipe_set2 {σ:St} {i j:Nat} {u v:Option V} (hij:i≠j):((wipe [i,j] σ).set i u).set j v=(σ.set i u).set j v:=by
 show (((σ.set i none).set j none).set i u).set j v=_
 rw [List.set_comm _ _ (Ne.symm hij),List.set_set,List.set_set]
theorem comp_pairs {K:W.Frag} {te:TE} {σ:St} {i j:Nat} {R0:List V->Hp->Prop} {H1:Hp} {a:Addr} {ra:List Addr} {R e:Nat->Q2} (hij:i≠j) (hl:SqL K H1 a (ra.map V.ref)) (hz:ra.length<=sizeLine)
  (hr:∀(k:Nat) (x:Addr),ra[k]?=some x->H1 x=some (.tup [.int (R k).1,.int (R k).2]))
  (hs:∀(k:Nat) (H:Hp) (Q:VK),k<ra.length->Same H1 H->(∀p H' u v,Low (e k).1 (e k).2 u v->New H H' p (.tup [.int u,.int v])->Q (.ref p) H')->te ((σ.set i (some (.int (R k).1))).set j (some (.int (R k).2))) H Q)
  (hd:∀(rb:List Addr) (R':Nat->Q2) (H:Hp),Same H1 H->rb.length=ra.length->(∀(k:Nat) (x:Addr),rb[k]?=some x->H x=some (.tup [.int (R' k).1,.int (R' k).2]))->(∀k,k<ra.length->Low (e k).1 (e k).2 (R' k).1 (R' k).2)->R0 (rb.map V.ref) H) :
  ∃a',V.ref a = .ref a'/\(∃xs,SqL K H1 a' xs)/\CompW (Itl K a') (gTup K 2 (gCons (gName i) (gCons (gName j) gNil))) tYes te (wipe [i,j] σ) R0 H1:=by
 refine ⟨a,rfl,⟨_,hl⟩,?_⟩
 refine ⟨fun t m ys H=>m=ra.length - t/\t<=ra.length/\Same H1 H/\∃(rb:List Addr) (R':Nat->Q2),ys=rb.map V.ref/\rb.length=t/\(∀(k:Nat) (x:Addr),rb[k]?=some x->H x=some (.tup [.int (R' k).1,.int (R' k).2]))/\∀k,k<t->Low (e k).1 (e k).2 (R' k).1 (R' k).2,⟨ra.length,by simp,Nat.zero_le _,Same.refl _,[],fun _=>(0,0),rfl,rfl,fun k x e=>(by simp at e),fun k h=>absurd h (Nat.not_lt_zero _)⟩,?_⟩
 rintro t m ys H ⟨rfl,ht,S2,rb,R',rfl,lb,hb,hL⟩
 have q:=S2.seq hl
 by_cases hlt:t<ra.length
 ·refine .inr ⟨⟨_,V.ref (ra[t]'hlt),q,by simp [hlt]⟩,by omega,fun ys' H'=>Same H1 H'/\∃(rb:List Addr) (R':Nat->Q2),ys'=rb.map V.ref/\rb.length=t+1/\(∀(k:Nat) (x:Addr),rb[k]?=some x->H' x=some (.tup [.int (R' k).1,.int (R' k).2]))/\∀k,k<t+1->Low (e k).1 (e k).2 (R' k).1 (R' k).2,fun ys' H' q'=>⟨ra.length - (t+1),by omega,rfl,hlt,q'⟩,fun x H' y=>?_⟩
  obtain ⟨e1,y⟩:=y
  subst e1
  have ex:=y _ q
  have e2:V.ref (ra[t]'hlt)=x:=by
   rw [List.getElem?_map,List.getElem?_eq_getElem hlt] at ex
   exact Option.some.inj ex
  subst e2
  refine ⟨_,_,rfl,SqT.of (S2 _ _ (hr t _ (List.getElem?_eq_getElem hlt))),rfl,_,_,rfl,_,_,rfl,rfl,?_,?_⟩
  ·refine ⟨by simp,fun k x e3=>?_⟩
   have hk:=(wipe_get [i,j] σ k x e3).2
   have h1:i≠k:=fun z=>hk (by simp [z])
   have h2:j≠k:=fun z=>hk (by simp [z])
   rw [List.getElem?_set_ne h2,List.getElem?_set_ne h1]
   exact e3
  ·rw [wipe_set2 hij]
   refine yes (hs t _ _ hlt S2 fun p H3 u v L N3=>?_)
   refine ⟨S2.trans N3.same,rb++[p],fset R' t (u,v),by simp,by simp [lb],fun k y e=>?_,fun k hk=>?_⟩
   ·by_cases q:k<rb.length
    ·rw [List.getElem?_append_left q] at e
     rw [ZI (by omega)]
     exact N3.same _ _ (hb k y e)
    ·rw [List.getElem?_append_right (by omega)] at e
     have:k - rb.length=0:=by
      have:=(List.getElem?_eq_some_iff.mp e).1
      simp at this
      omega
     rw [this] at e
     have e':p=y:=by simpa using e
     subst e'
     rw [show k=t by omega,ZH]
     exact N3.at_
   ·by_cases q:k=t
    ·rw [q,ZH]; exact L
    ·rw [ZI q]; exact hL k (by omega)
 ·have e:t=ra.length:=by omega
  subst e
  exact .inl ⟨⟨_,q,by simp⟩,hd rb R' H S2 lb hb hL⟩
end SW
namespace K7
open PySem L2 SW
section
variable {P:Program} {w:World} {K:W.Frag} {mg:Str->Option Value} {base:Heap}
theorem ok_QA (T:Txt K mg):FnOk P w K mg base CX0 1 T.a_QA T.fd_QA ["_law_one","_law_other"] spRatio:=by
 refine T.F_QA.ok sc_QA (fun vs H Q E h=>?_) (fun cdv A outer s H vs Q E hr h=>?_)
 ·obtain ⟨a,b,rfl,_⟩:=h
  rfl
 obtain ⟨a,b,rfl,ha,hb,fb,q⟩:=h
 refine ⟨_,(pss_cons (ps_par (i:=2) (j:=3) rfl sc_QA.nd rfl rfl (by decide) rfl rfl (pa_cons (pv 0) (pa_cons (pv 1) pa_nil)) rfl)
   (pss_cons (ps_while PassesOwn.never (pt_cmpR op_gt (pv 3) pe_int (nomark _))
   (pss_one (ps_par (i:=2) (j:=3) rfl sc_QA.nd rfl rfl (by decide) rfl rfl (pa_cons (pv 3) (pa_cons (pe_op op_mod (pv 2) (pv 3)) pa_nil)) rfl)))
   (pss_one (ps_ret (ZE (pa_cons (pe_op op_fdivF (pv 0) (pv 2)) (pa_cons (pe_op op_fdivF (pv 1) (pv 2)) pa_nil))))))),?_⟩
 have hg:=gcdI_pos (a:=a) hb
 have fg:Fits (gcdI a b):=Fits.le (by omega) (gcdI_le hb) fb
 unfold tPar
 refine ⟨_,rfl,_,rfl,?_⟩
 refine ⟨_,_,rfl,?_⟩
 refine ⟨fun m σ H'=>H'=H/\∃(x y:Int),σ=[some (.int a),some (.int b),some (.int x),some (.int y)]/\0<=x/\0<=y/\gcdI x y=gcdI a b/\m=y.toNat,⟨_,rfl,a,b,rfl,ha,by omega,rfl,rfl⟩,?_⟩
 rintro m σ H' ⟨rfl,x,y,rfl,hx,hy,hg',rfl⟩
 refine ⟨_,rfl,_,_,rfl,rfl,_,rfl,?_⟩
 refine ite2 (fun c=>?_) (fun c=>?_)
 ·have c':0<y:=of_decide_eq_true c
  refine ⟨_,fun _ _ h=>h,?_⟩
  refine ⟨_,rfl,_,rfl,_,rfl,_,_,rfl,rfl,by omega,?_⟩
  have h1:=Int.emod_nonneg x (by omega:y≠0)
  have h2:=Int.emod_lt_of_pos x c'
  refine ⟨_,_,rfl,?_⟩
  exact ⟨_,by omega,rfl,y,x % y,rfl,hy,h1,by rw [gcdI_step]; exact hg',rfl⟩
 ·have c':¬0<y:=of_decide_eq_false (Bool.eq_false_iff.mpr c)
  have y0:y=0:=by omega
  subst y0
  rw [gcdI_zero hx] at hg'
  subst hg'
  refine ⟨_,rfl,_,rfl,?_⟩
  refine ⟨_,_,rfl,rfl,⟨hg,fg⟩,_,rfl,_,rfl,_,_,rfl,rfl,⟨hg,fg⟩,?_⟩
  exact ⟨(by show 2<=sizeLine; decide),fun p H' N=>q p _ _ _ (low_ok ha hb) N⟩
end
end K7
namespace SW
open PySem L2
theorem prs_mk {K:W.Frag} {H:Hp} {p:Addr} {ra:List Addr} {R:Nat->Q2} {r:Nat} (h:H p=some (.lst (ra.map V.ref))) (lr:ra.length=r) (rt:∀(i:Nat) (x:Addr),ra[i]?=some x->H x=some (.tup [.int (R i).1,.int (R i).2])):PrsL K H p ((List.range r).map R):=by
 refine ⟨ra,SqL.of h,by simp [lr],fun i a q e1 e2=>?_⟩
 have hi:i<r:=by have:=(List.getElem?_eq_some_iff.mp e1).1; omega
 rw [List.getElem?_map,List.getElem?_range hi] at e2
 obtain rfl:=Option.some.inj e2
 exact rt i a e1
theorem DealH.prow {K:W.Frag} {cD:Addr} {H:Hp} {q dq sl rl cl:Addr} {as ra ca:List Addr} {S:Nat->Nat->Int} {r c:Nat} {R C:Nat->Q2} (d:DealH cD H q dq sl rl cl as ra ca S r c R C):PrsL K H rl ((List.range r).map R):=prs_mk d.rows d.rlen d.rt
theorem DealH.pcol {K:W.Frag} {cD:Addr} {H:Hp} {q dq sl rl cl:Addr} {as ra ca:List Addr} {S:Nat->Nat->Int} {r c:Nat} {R C:Nat->Q2} (d:DealH cD H q dq sl rl cl as ra ca S r c R C):PrsL K H cl ((List.range c).map C):=prs_mk d.cols d.clen d.ct
theorem mkT_ne {S S':Nat->Nat->Int} {r c:Nat} (h:∃i j,i<r/\j<c/\S' i j≠S i j):¬mkT S' r c=mkT S r c:=fun e=>by
 obtain ⟨i,j,hi,hj,ne⟩:=h
 have e1:=mk_get (T:=S') (c:=c) hi
 rw [e,mk_get hi] at e1
 have e2:=Option.some.inj e1
 have e3:(row c (S i))[j]?=(row c (S' i))[j]?:=by rw [e2]
 rw [row_get hj,row_get hj] at e3
 exact ne (Option.some.inj e3).symm
theorem Tw.fits {a b:Int} {U S S':Nat->Nat->Int} {r c:Nat} {R C:Nat->Q2} (t:Tw a b U S S' r c (lam r c R C)) (a0:0<a) (u0:∀i j,i<r->j<c->0<=U i j) (rb:∀i,i<r->0<(R i).2) (cb:∀j,j<c->0<(C j).2) {i j:Nat} (hi:i<r) (hj:j<c):fitsB (U i j*(R i).1*(C j).1) ((R i).2*(C j).2) a b (S' i j)=true:=by
 by_cases hv:0<U i j
 ·have:=t.cells i j hi hj hv
  rw [lam_row hi,lam_col hj] at this
  exact fits_of_cell this
 ·have v0:U i j=0:=by have:=u0 i j hi hj; omega
  have s0:S' i j=0:=by
   have:=t.s0 i j hi hj
   by_cases z:0<S' i j
   ·exact absurd (this.2.2 z) hv
   ·omega
  unfold fitsB
  rw [v0,s0,Int.zero_mul,Int.zero_mul,Int.zero_mul,Int.add_zero]
  have:0<=(R i).2*(C j).2*a:=Int.mul_nonneg (Int.mul_nonneg (Int.le_of_lt (rb i hi)) (Int.le_of_lt (cb j hj))) (Int.le_of_lt a0)
  rw [decide_eq_false (Int.lt_irrefl 0),decide_eq_true this]
  rfl
end SW
namespace K7
open PySem L2 SW
section
variable {P:Program} {w:World} {K:W.Frag} {mg:Str->Option Value} {base:Heap}
inductive SmOk (T:Txt K mg) (H:Hp):List V->Prop where
 | mk {vt q1 dq1 sl1 rl1 cl1 q2 dq2 sl2 rl2 cl2 part:Addr} {as1 ra1 ca1 as2 ra2 ca2:List Addr} {U S1 S2:Nat->Nat->Int} {r c:Nat} {R C:Nat->Q2} {a b m n:Int} (mv:Mat K H vt (mkT U r c)) (d1:DealH T.c_QC H q1 dq1 sl1 rl1 cl1 as1 ra1 ca1 S1 r c R C) (d2:DealH T.c_QC H q2 dq2 sl2 rl2 cl2 as2 ra2 ca2 S2 r c R C) (hpart:H part=some (.tup [.int m,.int n])) (m0:0<m) (mn:m<=n) (n1:n<=1000) (a0:0<a) (b0:0<b) (eab:a*n=b*m) (r0:0<r) (n40:r+c<=40) (ub:∀i j,i<r->j<c->0<=U i j/\U i j<=10 ^ 15) (sb:∀i j,i<r->j<c->S2 i j<=800) (rb:∀i,i<r->BQ 3000 (R i)) (cb:∀j,j<c->BQ 3000 (C j)) (tw:Tw a b U S1 S2 r c (lam r c R C)):SmOk T H [.ref vt,.ref q1,.ref q2,.ref part]
def spLSame (T:Txt K mg):Sp:=fun vs H Q _=>SmOk T H vs/\∀H',Same H H'->Q (.bl true) H'
theorem ok_QJ (T:Txt K mg):FnOk P w K mg base CX0 2 T.a_QJ T.fd_QJ ["_law_votes","_law_one","_law_two","_law_part"] (spLSame T):=by
 refine T.F_QJ.ok sc_QJ (fun vs H Q E h=>?_) (fun cdv A outer s H vs Q E hr h=>?_)
 ·obtain ⟨⟨_⟩,_⟩:=h
  rfl
 obtain ⟨@⟨vt,q1,dq1,sl1,rl1,cl1,q2,dq2,sl2,rl2,cl2,part,as1,ra1,ca1,as2,ra2,ca2,U,S1,S2,r,c,R,C,a,b,m,n,mv,d1,d2,hpart,m0,mn,n1,a0,b0,eab,r0,n40,ub,sb,rb,cb,tw⟩,k⟩:=h
 refine ⟨_,(pss_cons (ps_if (PW.pt (pw_or (pt_not (pt_val (pe_isC K rfl T.n_isinstance rfl T.m_QC (pv 2)))) (pw_or (pt_cmpR (nePs_Q K hr.units) (ZA K (pv 2) rfl) (ZA K (pv 1) rfl) (nomark _)) (pw_or (pt_cmpR (nePs_Q K hr.units) (ZA K (pv 2) rfl) (ZA K (pv 1) rfl) (nomark _)) (pw_or1 (pt_cmpR (eqM_Q K hr.units) (ZA K (pv 2) rfl) (ZA K (pv 1) rfl) (nomark _)))))))
   (pss_one (ps_ret pe_bl))
   pss_nil)
   (pss_cons (ps_if (pt_cmpR (neLI_Q K hr.units) (ZD [9] rfl (ZK rfl) (ZB K (ZA K (pv 2) rfl)) (fun _=>(pg_name (i:=9) sc_QJ.nd rfl (Or.inl rfl))) (fun _=>ZL) (fun _=>(pe_callB (sum_Q K rfl) (by rfl) T.n_sum PyProof.Rows.boot_sum (pa_cons (pv 9) pa_nil)))) (ZD [9] rfl (ZK rfl) (ZB K (ZA K (pv 1) rfl)) (fun _=>(pg_name (i:=9) sc_QJ.nd rfl (Or.inl rfl))) (fun _=>ZL) (fun _=>(pe_callB (sum_Q K rfl) (by rfl) T.n_sum PyProof.Rows.boot_sum (pa_cons (pv 9) pa_nil)))) (nomark _))
   (pss_one (ps_ret pe_bl))
   pss_nil)
   (pss_cons (ps_for PassesOwn.never rfl (pi_range1 rfl T.n_range (pa_cons (pe_callB (len_Q K) (by rfl) T.n_len PySem.boot_len (pa_cons (pe_ix (ix_Q K) (pv 0) pe_int (fun _ _=>rfl)) pa_nil)) pa_nil)) (pg_name (i:=4) sc_QJ.nd rfl (Or.inr rfl))
   (pss_one (ps_if (pt_cmpR op_neI (pe_callB (sum_Q K rfl) (by rfl) T.n_sum PyProof.Rows.boot_sum (pa_cons (ZD [9] rfl (ZK rfl) (ZB K (ZA K (pv 2) rfl)) (fun _=>(pg_name (i:=9) sc_QJ.nd rfl (Or.inl rfl))) (fun _=>ZL) (fun _=>(pe_ix (ix_Q K) (pv 9) (pv 4) (fun _ _=>rfl)))) pa_nil)) (pe_callB (sum_Q K rfl) (by rfl) T.n_sum PyProof.Rows.boot_sum (pa_cons (ZD [9] rfl (ZK rfl) (ZB K (ZA K (pv 1) rfl)) (fun _=>(pg_name (i:=9) sc_QJ.nd rfl (Or.inl rfl))) (fun _=>ZL) (fun _=>(pe_ix (ix_Q K) (pv 9) (pv 4) (fun _ _=>rfl)))) pa_nil)) (nomark _))
   (pss_one (ps_ret pe_bl))
   pss_nil)))
   (pss_cons (ps_for PassesOwn.never rfl (pi_range1 rfl T.n_range (pa_cons (pe_callB (len_Q K) (by rfl) T.n_len PySem.boot_len (pa_cons (pv 0) pa_nil)) pa_nil)) (pg_name (i:=5) sc_QJ.nd rfl (Or.inl rfl))
   (pss_one (ps_for PassesOwn.never rfl (pi_range1 rfl T.n_range (pa_cons (pe_callB (len_Q K) (by rfl) T.n_len PySem.boot_len (pa_cons (pe_ix (ix_Q K) (pv 0) pe_int (fun _ _=>rfl)) pa_nil)) pa_nil)) (pg_name (i:=4) sc_QJ.nd rfl (Or.inr rfl))
   (pss_cons (ps_set (i:=6) sc_QJ.nd rfl (Or.inl rfl) (pe_op ZC (pe_op ZC (pe_ix (ix_Q K) (pe_ix (ix_Q K) (pv 0) (pv 5) (fun _ _=>rfl)) (pv 4) (fun _ _=>rfl)) (pe_ix (ix_Q K) (pe_ix (ix_Q K) (ZA K (pv 1) rfl) (pv 5) (fun _ _=>rfl)) pe_int (fun _ _=>rfl))) (pe_ix (ix_Q K) (pe_ix (ix_Q K) (ZA K (pv 1) rfl) (pv 4) (fun _ _=>rfl)) pe_int (fun _ _=>rfl))))
   (pss_cons (ps_set (i:=7) sc_QJ.nd rfl (Or.inl rfl) (pe_op ZC (pe_ix (ix_Q K) (pe_ix (ix_Q K) (ZA K (pv 1) rfl) (pv 5) (fun _ _=>rfl)) pe_int (fun _ _=>rfl)) (pe_ix (ix_Q K) (pe_ix (ix_Q K) (ZA K (pv 1) rfl) (pv 4) (fun _ _=>rfl)) pe_int (fun _ _=>rfl))))
   (pss_cons (ps_set (i:=8) sc_QJ.nd rfl (Or.inl rfl) (pe_ix (ix_Q K) (pe_ix (ix_Q K) (ZA K (pv 2) rfl) (pv 5) (fun _ _=>rfl)) (pv 4) (fun _ _=>rfl)))
   (pss_cons (ps_if (PW.pt (pw_or (pt_not (pt_val (pe_isT K rfl T.n_isinstance rfl T.n_int PyProof.Rows.boot_int (pv 8)))) (pw_or (pt_val (pe_isT K rfl T.n_isinstance rfl T.n_bool PyProof.Rows.boot_bool (pv 8))) (pw_or (pt_cmpR op_lt (pv 8) pe_int (nomark _)) (pw_or1 (PW.pt (pw_and (pt_cmpR op_eqI (pe_ix (ix_Q K) (pe_ix (ix_Q K) (pv 0) (pv 5) (fun _ _=>rfl)) (pv 4) (fun _ _=>rfl)) pe_int (nomark _)) (pw_and1 (pt_cmpR op_gt (pv 8) pe_int (nomark _))))))))))
   (pss_one (ps_ret pe_bl))
   pss_nil)
   (pss_one (ps_if (pt_not (pt_val (pe_call (ok_QG T) (hr.mono (by decide)) rfl T.m_QG T.F_QG.kp T.b_QG .nil pass0 (pa_cons (pv 6) (pa_cons (pv 7) (pa_cons (pv 3) (pa_cons (pv 8) pa_nil)))))))
   (pss_one (ps_ret pe_bl))
   pss_nil)))))))))
   (pss_one (ps_ret pe_bl)))))),?_⟩
 have ob1:=d1.ob
 have ob2:=d2.ob
 have ty:TyOf K H (.ref q2) (.ref T.c_QC):=T.ty_QC.of T.cl_QC d2.ob
 refine ⟨_,rfl,?_⟩
 refine ⟨_,_,_,rfl,ty,T.k_QC_QC,?_⟩
 refine ⟨_,rfl,?_⟩
 refine iteF ?_
 refine ⟨_,rfl,_,_,_,_,_,rfl,by assumption,T.cl_QC,T.na_QC_rows,by rfl,_,rfl,_,_,_,_,_,rfl,by assumption,T.cl_QC,T.na_QC_rows,by rfl,?_⟩
 refine ⟨rl2,rl1,_,rfl,rfl,d2.prow,d1.prow,?_⟩
 refine ⟨_,rfl,?_⟩
 refine iteF ?_
 refine ⟨_,rfl,_,_,_,_,_,rfl,by assumption,T.cl_QC,T.na_QC_columns,by rfl,_,rfl,_,_,_,_,_,rfl,by assumption,T.cl_QC,T.na_QC_columns,by rfl,?_⟩
 refine ⟨cl2,cl1,_,rfl,rfl,d2.pcol,d1.pcol,?_⟩
 refine ⟨_,rfl,?_⟩
 refine iteF ?_
 refine ⟨_,rfl,_,_,_,_,_,rfl,by assumption,T.cl_QC,T.na_QC_seats,by rfl,_,rfl,_,_,_,_,_,rfl,by assumption,T.cl_QC,T.na_QC_seats,by rfl,?_⟩
 refine ⟨sl2,sl1,_,_,rfl,rfl,d2.st.mat,d1.st.mat,?_⟩
 refine ⟨_,rfl,?_⟩
 rw [if_neg Bool.false_ne_true,decide_eq_false (mkT_ne tw.ne)]
 refine iteF ?_
 have st1:=d1.st.top
 have st2:=d2.st.top
 have ls1:=d1.st.len
 rw [mk_len] at ls1
 have ls2:=d2.st.len
 rw [mk_len] at ls2
 refine ⟨_,rfl,_,_,_,_,_,rfl,by assumption,T.cl_QC,T.na_QC_seats,by rfl,?_⟩
 refine ⟨sl2,rfl,⟨_,SqL.of st2⟩,comp_rows (SqL.of st2) ls2 (Nat.le_trans (show r<=40 by omega) (by decide)) (fun i x y e1 e2=>SqL.of (d2.st.rows i x y e1 e2)) (fun i=>sumZ c (S2 i)) (fun i b Q' hi hb hQ=>?_) fun l4 H4 N4=>?_⟩
 ·refine ⟨_,rfl,_,_,rfl,by assumption,?_⟩
  rw [row_sum]
  exact hQ
 rw [row_congr (g:=fun i=>sumZ c (S1 i)) fun i hi=>tw.rows i hi] at N4
 have d14:=d1.same N4.same
 have ob14:=d14.ob
 have st14:=d14.st.top
 refine ⟨_,rfl,_,_,_,_,_,rfl,by assumption,T.cl_QC,T.na_QC_seats,by rfl,?_⟩
 refine ⟨sl1,rfl,⟨_,SqL.of st14⟩,comp_rows (SqL.of st14) ls1 (Nat.le_trans (show r<=40 by omega) (by decide)) (fun i x y e1 e2=>SqL.of (d14.st.rows i x y e1 e2)) (fun i=>sumZ c (S1 i)) (fun i b Q' hi hb hQ=>?_) fun l5 H5 N5=>?_⟩
 ·refine ⟨_,rfl,_,_,rfl,by assumption,?_⟩
  rw [row_sum]
  exact hQ
 refine ⟨l4,l5,_,_,rfl,rfl,SqL.of (N5.same _ _ N4.at_),SqL.of N5.at_,?_⟩
 refine ⟨_,rfl,?_⟩
 rw [if_pos rfl,decide_eq_true rfl]
 refine iteF ?_
 have S5:=N4.same.trans N5.same
 obtain ⟨ts,tv,sq1,at1,sq2,_⟩:=(mv.same S5).get r0
 refine ⟨_,rfl,_,_,_,_,rfl,rfl,by assumption,by assumption,_,_,rfl,by assumption,?_⟩
 rw [List.length_map,ZJ]
 refine ⟨_,rfl,by omega,by omega,?_⟩
 rw [Int.toNat_natCast]
 refine for_range (fun j σ H'=>Same H H'/\∃v4,σ=[some (.ref vt),some (.ref q1),some (.ref q2),some (.ref part),v4,none,none,none,none,none]) ⟨S5,_,rfl⟩ ?_ ?_
 ·rintro j σ H6 hj ⟨S6,v4,rfl⟩
  rw [show (0:Int)+(j:Int)=(j:Int) by omega]
  have d26:=d2.same S6
  have ob26:=d26.ob
  have st26:=d26.st.top
  refine ⟨_,rfl,_,_,_,_,_,rfl,by assumption,T.cl_QC,T.na_QC_seats,by rfl,?_⟩
  refine ⟨sl2,rfl,⟨_,SqL.of st26⟩,comp_rows (SqL.of st26) ls2 (Nat.le_trans (show r<=40 by omega) (by decide)) (fun i x y e1 e2=>SqL.of (d26.st.rows i x y e1 e2)) (fun i=>S2 i j) (fun i b Q' hi hb hQ=>?_) fun l7 H7 N7=>?_⟩
  ·have atj:atI ((row c (S2 i)).map V.int) (j:Int)=some (.int (S2 i j)):=at_row hj
   refine ⟨_,rfl,_,rfl,_,_,_,_,rfl,rfl,Or.inl ‹_›,by assumption,?_⟩
   exact hQ
  have hl7:=N7.at_
  have S7:=S6.trans N7.same
  have d17:=d1.same S7
  have ob17:=d17.ob
  have st17:=d17.st.top
  refine ⟨_,_,rfl,SqL.of ‹_›,_,rfl,_,_,_,_,_,rfl,by assumption,T.cl_QC,T.na_QC_seats,by rfl,?_⟩
  refine ⟨sl1,rfl,⟨_,SqL.of st17⟩,comp_rows (SqL.of st17) ls1 (Nat.le_trans (show r<=40 by omega) (by decide)) (fun i x y e1 e2=>SqL.of (d17.st.rows i x y e1 e2)) (fun i=>S1 i j) (fun i b Q' hi hb hQ=>?_) fun l8 H8 N8=>?_⟩
  ·have atj:atI ((row c (S1 i)).map V.int) (j:Int)=some (.int (S1 i j)):=at_row hj
   refine ⟨_,rfl,_,rfl,_,_,_,_,rfl,rfl,Or.inl ‹_›,by assumption,?_⟩
   exact hQ
  have hl8:=N8.at_
  refine ⟨_,_,rfl,SqL.of ‹_›,_,_,rfl,rfl,_,rfl,?_⟩
  rw [row_sum,row_sum]
  refine iteNT (tw.cols j hj) ?_
  exact ⟨S7.trans N8.same,_,rfl⟩
 rintro σ H6 ⟨S6,v4,rfl⟩
 obtain ⟨ts6,sl6,tl6⟩:=(mv.same S6).top
 refine ⟨_,rfl,_,_,rfl,Or.inl ‹_›,?_⟩
 rw [tl6]
 refine ⟨_,rfl,by omega,by omega,?_⟩
 rw [Int.toNat_natCast]
 refine for_range (fun i σ H'=>H'=H6/\∃v4 v5 v6 v7 v8,σ=[some (.ref vt),some (.ref q1),some (.ref q2),some (.ref part),v4,v5,v6,v7,v8,none]) ⟨rfl,_,_,_,_,_,rfl⟩ ?_ ?_
 ·rintro i σ H7 hi ⟨rfl,v4,v5,v6,v7,v8,rfl⟩
  rw [show (0:Int)+(i:Int)=(i:Int) by omega]
  obtain ⟨ts0,tv0,sq10,at10,sq20,_⟩:=(mv.same S6).get r0
  refine ⟨_,rfl,_,_,_,_,rfl,rfl,by assumption,by assumption,_,_,rfl,by assumption,?_⟩
  rw [List.length_map,ZJ]
  refine ⟨_,rfl,by omega,by omega,?_⟩
  rw [Int.toNat_natCast]
  refine for_range (fun j σ H'=>H'=H7/\∃v4 v6 v7 v8,σ=[some (.ref vt),some (.ref q1),some (.ref q2),some (.ref part),v4,some (.int (i:Int)),v6,v7,v8,none]) ⟨rfl,_,_,_,_,rfl⟩ ?_ ?_
  ·rintro j σ H8 hj ⟨rfl,v4,v6,v7,v8,rfl⟩
   rw [show (0:Int)+(j:Int)=(j:Int) by omega]
   clear sq10 at10 sq20
   obtain ⟨ts,tv,sq1,at1,sq2,_⟩:=(mv.same S6).get hi
   have atu:atI ((row c (U i)).map V.int) (j:Int)=some (.int (U i j)):=at_row hj
   have e1:=d1.same S6
   have e2:=d2.same S6
   have oe1:=e1.ob
   have oe2:=e2.ob
   have hr5:=e1.rows
   have hc5:=e1.cols
   have hpart5:=S6 _ _ hpart
   obtain ⟨as',ta,sq3,at3,sq4,_⟩:=(e2.st.mat (K:=K)).get hi
   have ats:atI ((row c (S2 i)).map V.int) (j:Int)=some (.int (S2 i j)):=at_row hj
   have lra:=e1.rlen
   have lca:=e1.clen
   obtain ⟨xr,exr⟩:∃x,ra1[i]?=some x:=⟨ra1[i]'(by omega),by simp⟩
   obtain ⟨xc,exc⟩:∃x,ca1[j]?=some x:=⟨ca1[j]'(by omega),by simp⟩
   have hxr:=e1.rt i xr exr
   have hxc:=e1.ct j xc exc
   have atr:atI (ra1.map V.ref) (i:Int)=some (.ref xr):=at_ref exr
   have atc:atI (ca1.map V.ref) (j:Int)=some (.ref xc):=at_ref exc
   obtain ⟨u0,u1⟩:=ub i j hi hj
   obtain ⟨r1,r2,rb1,rb2⟩:=rb i hi
   obtain ⟨c1,c2,cb1,cb2⟩:=cb j hj
   obtain ⟨s0,s1,sv⟩:=tw.s0 i j hi hj
   have s8:=sb i j hi hj
   have m1:CMulF (U i j) (R i).1:=.inl (.inl ⟨by omega,by omega⟩)
   have f3:Fits (U i j*(R i).1):=by
    refine ZG (k:=50+3000) (Int.mul_nonneg u0 (Int.le_of_lt r1)) ?_ (by omega)
    rw [Int.pow_add]
    refine Int.lt_of_le_of_lt (Int.mul_le_mul_of_nonneg_left (Int.le_of_lt rb1) u0) (Int.mul_lt_mul_of_pos_right (by omega) (Int.pow_pos (by decide)))
   have m2:CMulF (U i j*(R i).1) (C j).1:=.inr ⟨f3,ZG (Int.le_of_lt c1) cb1 (by decide)⟩
   have m3:CMulF (R i).2 (C j).2:=.inr ⟨ZG (Int.le_of_lt r2) rb2 (by decide),ZG (Int.le_of_lt c2) cb2 (by decide)⟩
   refine ⟨_,rfl,_,rfl,_,_,_,_,rfl,rfl,by assumption,by assumption,_,rfl,_,_,_,_,rfl,rfl,by assumption,by assumption,_,rfl,_,_,_,_,_,rfl,by assumption,T.cl_QC,T.na_QC_rows,by rfl,_,rfl,_,_,_,_,rfl,rfl,Or.inl (SqL.of ‹_›),by assumption,_,_,_,_,rfl,rfl,Or.inr (SqT.of ‹_›),rfl,_,_,rfl,rfl,by omega,_,rfl,_,_,_,_,_,rfl,by assumption,T.cl_QC,T.na_QC_columns,by rfl,_,rfl,_,_,_,_,rfl,rfl,Or.inl (SqL.of ‹_›),by assumption,_,_,_,_,rfl,rfl,Or.inr (SqT.of ‹_›),rfl,?_⟩
   refine ⟨_,_,rfl,rfl,by omega,_,rfl,_,_,_,_,_,rfl,by assumption,T.cl_QC,T.na_QC_rows,by rfl,_,rfl,_,_,_,_,rfl,rfl,Or.inl (SqL.of ‹_›),by assumption,_,_,_,_,rfl,rfl,Or.inr (SqT.of ‹_›),rfl,_,rfl,_,_,_,_,_,rfl,by assumption,T.cl_QC,T.na_QC_columns,by rfl,_,rfl,_,_,_,_,rfl,rfl,Or.inl (SqL.of ‹_›),by assumption,_,_,_,_,rfl,rfl,Or.inr (SqT.of ‹_›),rfl,_,_,rfl,rfl,by omega,_,rfl,_,_,_,_,_,rfl,by assumption,T.cl_QC,T.na_QC_seats,by rfl,_,rfl,?_⟩
   refine ⟨_,_,_,_,rfl,rfl,by assumption,by assumption,_,rfl,_,_,_,_,rfl,rfl,by assumption,by assumption,_,rfl,_,_,_,rfl,.int _,kit_int_int _,_,rfl,?_⟩
   refine iteF ?_
   refine ⟨_,rfl,_,_,_,rfl,.int _,kit_int_bool _,_,rfl,?_⟩
   refine iteF ?_
   refine ⟨_,rfl,_,_,rfl,rfl,_,rfl,?_⟩
   refine iteDF (by omega) ?_
   refine ⟨_,rfl,_,rfl,_,_,_,_,rfl,rfl,by assumption,by assumption,_,rfl,_,_,_,_,rfl,rfl,by assumption,by assumption,_,_,rfl,rfl,_,rfl,?_⟩
   refine ite3 (fun cz=>?_) (fun cz=>iteF ?_)
   ·refine ⟨_,rfl,_,_,rfl,rfl,_,rfl,?_⟩
    refine iteDF (fun z=>by have:=sv z; omega) ?_
    refine ⟨_,rfl,_,rfl,_,rfl,_,rfl,?_⟩
    refine ⟨part,_,_,m,n,S2 i j,rfl,hpart5,m0,mn,n1,s0,by omega,?_⟩
    rw [<-fitsB_same b0 (by omega) eab,tw.fits a0 (fun i j hi hj=>(ub i j hi hj).1) (fun i hi=>(rb i hi).2.1) (fun j hj=>(cb j hj).2.1) hi hj]
    refine ⟨_,rfl,?_⟩
    refine iteF ?_
    exact ⟨rfl,_,_,_,_,rfl⟩
   ·refine ⟨_,rfl,_,rfl,_,rfl,_,rfl,?_⟩
    refine ⟨part,_,_,m,n,S2 i j,rfl,hpart5,m0,mn,n1,s0,by omega,?_⟩
    rw [<-fitsB_same b0 (by omega) eab,tw.fits a0 (fun i j hi hj=>(ub i j hi hj).1) (fun i hi=>(rb i hi).2.1) (fun j hj=>(cb j hj).2.1) hi hj]
    refine ⟨_,rfl,?_⟩
    refine iteF ?_
    exact ⟨rfl,_,_,_,_,rfl⟩
  ·rintro σ H8 ⟨rfl,v4,v6,v7,v8,rfl⟩
   exact ⟨rfl,_,_,_,_,_,rfl⟩
 rintro σ H7 ⟨rfl,v4,v5,v6,v7,v8,rfl⟩
 exact k H7 S6
end
end K7
namespace SW
theorem low_bq {x y:Int} {p:Q2} {e:Nat} (L:Low x y p.1 p.2) (x0:0<x) (hx:x<2 ^ e) (hy:y<2 ^ e):BQ e p:=by
 have h:0<p.2*x:=Int.mul_pos L.y0 x0
 rw [<-L.eq] at h
 refine ⟨(by
  rcases Int.lt_or_eq_of_le L.x0 with z | z
  ·exact z
  ·rw [<-z,Int.zero_mul] at h
   exact absurd h (Int.lt_irrefl 0)),L.y0,Int.lt_of_le_of_lt L.lex hx,Int.lt_of_le_of_lt L.ley hy⟩
theorem dbl_lt {x:Int} {e:Nat} (h:x<2 ^ e):2*x<2 ^ (e+1):=by
 rw [Int.pow_succ]
 omega
theorem BQ.up {e f:Nat} {p:Q2} (h:BQ e p) (hf:e<=f):BQ f p:=by
 have:(2:Int) ^ e<=2 ^ f:=by exact_mod_cast Nat.pow_le_pow_right (n:=2) (by decide) hf
 exact ⟨h.1,h.2.1,Int.lt_of_lt_of_le h.2.2.1 this,Int.lt_of_lt_of_le h.2.2.2 this⟩
theorem sameL_of {r c:Nat} {R R' C C':Nat->Q2} (h1:∀i,i<r->Low (2*(R i).1) (R i).2 (R' i).1 (R' i).2) (h2:∀j,j<c->Low (C j).1 (2*(C j).2) (C' j).1 (C' j).2):SameL r c (lam r c R C) (lam r c R' C'):=fun i j hi hj=>by
 rw [lam_row hi,lam_col hj,lam_row hi,lam_col hj]
 exact scaled (h1 i hi).eq (h2 j hj).eq
end SW
namespace K7
open PySem L2 SW
section
variable {P:Program} {w:World} {K:W.Frag} {mg:Str->Option Value} {base:Heap}
inductive ScOk (T:Txt K mg) (H:Hp):List V->Prop where
 | mk {vt kp rl part k0 k1 k2:Addr} {ra ca:List Addr} {U S:Nat->Nat->Int} {r c:Nat} {R C:Nat->Q2} {a b m n:Int} (mv:Mat K H vt (mkT U r c)) (hrl:T.rl H rl a b) (hkp:H kp=some (.lst [.ref k0,.ref k1,.ref k2])) (mk0:Mat K H k0 (mkT S r c)) (hk1:H k1=some (.lst (ra.map V.ref))) (lra:ra.length=r) (rt:∀(i:Nat) (x:Addr),ra[i]?=some x->H x=some (.tup [.int (R i).1,.int (R i).2])) (hk2:H k2=some (.lst (ca.map V.ref))) (lca:ca.length=c) (ct:∀(j:Nat) (x:Addr),ca[j]?=some x->H x=some (.tup [.int (C j).1,.int (C j).2])) (hpart:H part=some (.tup [.int m,.int n])) (m0:0<m) (mn:m<=n) (n1:n<=1000) (eab:a*n=b*m) (r0:0<r) (n40:r+c<=40) (tab:TabOk a b U S r c) (s7:∀i j,i<r->j<c->S i j<=700) (cs:Cells a b U S r c (lam r c R C)) (rb:∀i,i<r->BQ 2999 (R i)) (cb:∀j,j<c->BQ 2999 (C j)) (go:∃v,v<r+c/\Go a b U S r c (lam r c R C) (r+c) v):ScOk T H [.ref vt,.ref kp,.ref rl,.ref part]
def spScaled (T:Txt K mg):Sp:=fun vs H Q _=>ScOk T H vs/\∀H',Same H H'->Q (.bl true) H'
structure TwX where
 ra:List Addr
 ca:List Addr
 U:Nat->Nat->Int
 S:Nat->Nat->Int
 r:Nat
 c:Nat
 R:Nat->Q2
 C:Nat->Q2
 a:Int
 b:Int
inductive TwOk (T:Txt K mg) (H:Hp) (x:TwX):List V->Prop where
 | mk {vt q dq sl0 rl0 cl0 rl:Addr} {as0:List Addr} (mv:Mat K H vt (mkT x.U x.r x.c)) (hrl:T.rl H rl x.a x.b) (d:DealH T.c_QC H q dq sl0 rl0 cl0 as0 x.ra x.ca x.S x.r x.c x.R x.C) (tab:TabOk x.a x.b x.U x.S x.r x.c) (s7:∀i j,i<x.r->j<x.c->x.S i j<=700) (cs:Cells x.a x.b x.U x.S x.r x.c (lam x.r x.c x.R x.C)) (rb:∀i,i<x.r->BQ 3000 (x.R i)) (cb:∀j,j<x.c->BQ 3000 (x.C j)) (n1:x.r+x.c<=40):TwOk T H x [.ref vt,.ref q,.ref rl]
structure TwN (T:Txt K mg) (H:Hp) (x:TwX) (H':Hp) (q' dq' sl' rl' cl':Addr) (as':List Addr) (S':Nat->Nat->Int):Prop where
 same:Same H H'
 d:DealH T.c_QC H' q' dq' sl' rl' cl' as' x.ra x.ca S' x.r x.c x.R x.C
 tw:Tw x.a x.b x.U x.S S' x.r x.c (lam x.r x.c x.R x.C)
 go:∃v,v<x.r+x.c/\Go x.a x.b x.U S' x.r x.c (lam x.r x.c x.R x.C) (x.r+x.c) v
 ns:H sl'=none
 nr:H rl'=none
 nc:H cl'=none
 nas:∀x,x∈as'->H x=none
def spTw (T:Txt K mg):Sp:=fun vs H Q _=>∃x:TwX,TwOk T H x vs/\((∀v,v<x.r+x.c->¬Go x.a x.b x.U x.S x.r x.c (lam x.r x.c x.R x.C) (x.r+x.c) v)->∀H',Same H H'->Q .non H') /\
 ((∃v,v<x.r+x.c/\Go x.a x.b x.U x.S x.r x.c (lam x.r x.c x.R x.C) (x.r+x.c) v)->∀(H':Hp) (q' dq' sl' rl' cl':Addr) (as':List Addr) (S':Nat->Nat->Int),TwN T H x H' q' dq' sl' rl' cl' as' S'->Q (.ref q') H')
namespace B
theorem ok_twin (T:Txt K mg):FnOk P w K mg base CX0 8 T.a_twin T.fd_twin ["votes","dealing","rule"] (spTw T):=(K7.ok_twin T).imp fun vs H Q E h=>by
 obtain ⟨x,⟨mv,hrl,d,tab,s7,cs,rb,cb,n1⟩,k1,k2⟩:=h
 exact ⟨_,_,_,_,_,_,_,_,_,_,x.U,x.S,x.r,x.c,x.R,x.C,x.a,x.b,rfl,mv,hrl,d,tab,s7,cs,rb,cb,n1,k1,fun ex H' q' dq' sl' rl' cl' as' S' S1 nq d' tw go m1 m2 m3 m4=>k2 ex H' q' dq' sl' rl' cl' as' S' ⟨S1,d',tw,go,m1,m2,m3,m4⟩⟩
theorem ok_Qe (T:Txt K mg):FnOk P w K mg base CX0 9 T.a_Qe T.fd_Qe ["_law_votes","_law_kept","_law_rule_here","_law_part"] (spScaled T):=by
 refine T.F_Qe.ok sc_Qe (fun vs H Q E h=>?_) (fun cdv A outer s H vs Q E hr h=>?_)
 ·obtain ⟨⟨_⟩,_⟩:=h
  rfl
 obtain ⟨@⟨vt,kp,rl,part,k0,k1,k2,ra,ca,U,S,r,c,R,C,a,b,m,n,mv,hrl,hkp,mk0,hk1,lra,rt,hk2,lca,ct,hpart,m0,mn,n1,eab,r0,n40,tab,s7,cs,rb,cb,⟨g0,hg0,go⟩⟩,k⟩:=h
 refine ⟨_,(pss_cons (ps_setC (i:=4) [7,8] rfl (ZK rfl) (ZB K (pe_ix (ix_Q K) (pv 1) pe_int (fun _ _=>rfl))) (fun _=>(pg_tupQ (n:=2) K rfl (pgs_cons (pg_name (i:=7) sc_Qe.nd rfl (Or.inl rfl)) (pgs_cons (pg_name (i:=8) sc_Qe.nd rfl (Or.inl rfl)) pgs_nil)))) (fun _=>ZL) (fun _=>(pe_call (ok_QA T) (hr.mono (by decide)) rfl T.m_QA T.F_QA.kp T.b_QA .nil pass0 (pa_cons (pe_op ZC pe_int (pv 7)) (pa_cons (pv 8) pa_nil)))) sc_Qe.nd rfl rfl)
   (pss_cons (ps_setC (i:=5) [7,8] rfl (ZK rfl) (ZB K (pe_ix (ix_Q K) (pv 1) pe_int (fun _ _=>rfl))) (fun _=>(pg_tupQ (n:=2) K rfl (pgs_cons (pg_name (i:=7) sc_Qe.nd rfl (Or.inl rfl)) (pgs_cons (pg_name (i:=8) sc_Qe.nd rfl (Or.inl rfl)) pgs_nil)))) (fun _=>ZL) (fun _=>(pe_call (ok_QA T) (hr.mono (by decide)) rfl T.m_QA T.F_QA.kp T.b_QA .nil pass0 (pa_cons (pv 7) (pa_cons (pe_op ZC pe_int (pv 8)) pa_nil)))) sc_Qe.nd rfl rfl)
   (pss_cons (ps_set (i:=6) sc_Qe.nd rfl (Or.inl rfl) (pe_make T.M_QC (ok_Qi T) (hr.mono (by decide)) rfl T.m_QC T.b_Qi .nil pass0 (pa_cons (ZD [9] rfl (ZK rfl) (ZB K (pe_ix (ix_Q K) (pv 1) pe_int (fun _ _=>rfl))) (fun _=>(pg_name (i:=9) sc_Qe.nd rfl (Or.inl rfl))) (fun _=>ZL) (fun _=>(pe_callTy (list_Q K) (by rfl) T.n_list PyProof.Rows.boot_list (pa_cons (pv 9) pa_nil)))) (pa_cons (pv 4) (pa_cons (pv 5) pa_nil)))))
   (pss_one (ps_ret (pe_call (ok_QJ T) (hr.mono (by decide)) rfl T.m_QJ T.F_QJ.kp T.b_QJ .nil pass0 (pa_cons (pv 0) (pa_cons (pv 6) (pa_cons (pe_call (ok_twin T) (hr.mono (by decide)) rfl T.m_twin T.F_twin.kp T.b_twin .nil pass0 (pa_cons (pv 0) (pa_cons (pv 6) (pa_cons (pv 2) pa_nil)))) (pa_cons (pv 3) pa_nil)))))))))),?_⟩
 have b0:0<b:=by have:=tab.a0; have:=tab.ab; omega
 have pp:∀v,qpos (lam r c R C v):=lam_pos (fun i hi=>⟨(rb i hi).1,(rb i hi).2.1⟩) (fun j hj=>⟨(cb j hj).1,(cb j hj).2.1⟩)
 refine ⟨_,rfl,_,_,_,_,rfl,rfl,Or.inl (SqL.of ‹_›),rfl,?_⟩
 refine comp_pairs (i:=7) (j:=8) (R:=R) (e:=fun k=>(2*(R k).1,(R k).2)) (by decide) (SqL.of hk1) (by rw [lra]; exact Nat.le_trans (show r<=40 by omega) (by decide)) rt (fun i H1 Q' hi S1 hQ=>?_) fun rb' R' H1 S1 lrb hrb hRL=>?_
 ·obtain ⟨h1,h2,h3,h4⟩:=rb i (by omega)
  have m1:CMulF 2 (R i).1:=.inl (.inl ⟨by omega,by omega⟩)
  refine ⟨_,rfl,_,_,rfl,rfl,by omega,_,rfl,?_⟩
  exact ⟨_,_,rfl,by omega,by omega,ZG (Int.le_of_lt h2) h4 (by decide),fun p H' u v L N=>hQ p H' u v L N⟩
 intro x1 H2 N2
 have S2:=S1.trans N2.same
 have hkp2:=S2 _ _ hkp
 have hk22:=S2 _ _ hk2
 refine ⟨_,rfl,_,_,_,_,rfl,rfl,Or.inl (SqL.of ‹_›),rfl,?_⟩
 refine comp_pairs (i:=7) (j:=8) (R:=C) (e:=fun k=>((C k).1,2*(C k).2)) (by decide) (SqL.of hk22) (by rw [lca]; exact Nat.le_trans (show c<=40 by omega) (by decide)) (fun i x e=>S2 _ _ (ct i x e)) (fun i H3 Q' hi S3 hQ=>?_) fun cb' C' H3 S3 lcb hcb hCL=>?_
 ·obtain ⟨h1,h2,h3,h4⟩:=cb i (by omega)
  have m1:CMulF 2 (C i).2:=.inl (.inl ⟨by omega,by omega⟩)
  refine ⟨_,rfl,_,rfl,_,_,rfl,rfl,by omega,?_⟩
  exact ⟨_,_,rfl,by omega,by omega,ZG (by omega) (dbl_lt h4) (by decide),fun p H' u v L N=>hQ p H' u v L N⟩
 intro x2 H4 N4
 have S24:=S3.trans N4.same
 have S4:=S2.trans S24
 have hkp4:=S4 _ _ hkp
 refine ⟨_,rfl,_,_,_,_,rfl,rfl,Or.inl (SqL.of ‹_›),rfl,?_⟩
 refine comp_copy (mk0.same S4) (Nat.le_trans (show r<=40 by omega) (by decide)) (fun b ys H Q hb hQ=>⟨_,rfl,b,ys,rfl,.inl hb,hQ⟩) fun bs H5 S5 lb nd nbs hb=>?_
 intro x0 H6 N6
 have S46:=S5.trans N6.same
 have S6:=S4.trans S46
 have mx0:Mat K H6 x0 (mkT S r c):=by
  refine ⟨bs,SqL.of N6.at_,by rw [mk_len]; exact lb,fun i x y e1 e2=>?_⟩
  have hi:i<r:=by have:=(List.getElem?_eq_some_iff.mp e1).1; omega
  rw [mk_get hi] at e2
  rw [<-Option.some.inj e2]
  exact SqL.of (N6.same _ _ (hb i x e1))
 have hx1:H6 x1=some (.lst (rb'.map V.ref)):=(S24.trans S46) _ _ N2.at_
 have hx2:H6 x2=some (.lst (cb'.map V.ref)):=S46 _ _ N4.at_
 refine ⟨_,rfl,_,rfl,?_⟩
 intro y dy ny ndy neyd
 have up6:∀x o,H6 x=some o->upd (upd H6 dy (.own y)) y (.ins T.c_QC dy []) x=some o:=fun x o e=>by rw [upd_ne (ne_of_none e ny),upd_ne (ne_of_none e ndy)]; exact e
 refine ⟨y,dy,x0,x1,x2,_,r,c,_,_,rfl,upd_same,mx0.same up6,by omega,SqL.of (up6 _ _ hx1),SqL.of (up6 _ _ hx2),fun H7 sl2 rl2 cl2 as2 fr7 hy7 m7 hr7 hc7 n1' n2' n3' n4' sa' ra' ca' ne'=>⟨rfl,?_⟩⟩
 have S67:Same H6 H7:=fun x o e=>fr7 x o (up6 x o e) (ne_of_none e ny)
 have S7:=S6.trans S67
 have dM:DealH T.c_QC H7 y dy sl2 rl2 cl2 as2 rb' cb' S r c R' C':=⟨hy7,m7,hr7,by omega,fun i x e=>(N2.same.trans (S24.trans (S46.trans S67))) _ _ (hrb i x e),hc7,by omega,fun j x e=>(N4.same.trans (S46.trans S67)) _ _ (hcb j x e),sa',ra',ca',ne'⟩
 have rb2:∀i,i<r->BQ 3000 (R' i):=fun i hi=>low_bq (hRL i (by omega)) (by have:=(rb i hi).1; show 0<2*(R i).1; omega) (dbl_lt (rb i hi).2.2.1) ((rb i hi).up (by decide)).2.2.2
 have cb2:∀j,j<c->BQ 3000 (C' j):=fun j hj=>low_bq (hCL j (by omega)) (cb j hj).1 ((cb j hj).up (by decide)).2.2.1 (dbl_lt (cb j hj).2.2.2)
 have sl:SameL r c (lam r c R C) (lam r c R' C'):=sameL_of (fun i hi=>hRL i (by omega)) (fun j hj=>hCL j (by omega))
 have pp':∀v,qpos (lam r c R' C' v):=lam_pos (fun i hi=>⟨(rb2 i hi).1,(rb2 i hi).2.1⟩) (fun j hj=>⟨(cb2 j hj).1,(cb2 j hj).2.1⟩)
 refine ⟨_,rfl,_,rfl,_,rfl,_,rfl,_,rfl,?_⟩
 refine ⟨⟨rb',cb',U,S,r,c,R',C',a,b⟩,.mk (mv.same S7) (hrl.same S7) dM tab s7 (sl.cells pp pp' cs) rb2 cb2 n40,fun none H8 S8=>(none g0 hg0 (sl.go pp pp' _ _ go)).elim,fun ex H8 q' dq' sl' rl' cl' as' S' t=>?_⟩
 have S8:Same H7 H8:=t.same
 have tw:Tw a b U S S' r c (lam r c R' C'):=t.tw
 refine ⟨_,rfl,?_⟩
 exact ⟨.mk (mv.same (S7.trans S8)) (dM.same S8) t.d ((S7.trans S8) _ _ hpart) m0 mn n1 tab.a0 b0 eab r0 n40 tab.v0 (fun i j hi hj=>(by have:=s7 i j hi hj; have:=(tw.s0 i j hi hj).2.1; omega)) rb2 cb2 tw,fun H' S'=>k H' (S7.trans (S8.trans S'))⟩
end B
end
end K7
namespace SW
open PySem L2
theorem comp_tab {K:W.Frag} {te:TE} {σ:St} {j:Nat} {R:List V->Hp->Prop} {H1:Hp} {a:Addr} {f g:Nat->Nat->Int} {r c:Nat} (mt:Mat K H1 a (mkT f r c)) (hz:r<=sizeLine)
  (hs:∀(k:Nat) (b:Addr) (H:Hp) (Q:VK),k<r->SqL K H b ((row c (f k)).map V.int)->(∀l H',New H H' l (.lst ((row c (g k)).map V.int))->Q (.ref l) H')->te (σ.set j (some (.ref b))) H Q)
  (hd:∀(bs:List Addr) (H:Hp),Same H1 H->bs.length=r->(∀(k:Nat) (b:Addr),bs[k]?=some b->H b=some (.lst ((row c (g k)).map V.int)))->R (bs.map V.ref) H):∃a',V.ref a = .ref a'/\(∃xs,SqL K H1 a' xs)/\CompW (Itl K a') (gName j) tYes te (wipe [j] σ) R H1:=by
 obtain ⟨as,ha,la,mrows⟩:=mt
 rw [mk_len] at la
 refine ⟨a,rfl,⟨_,ha⟩,?_⟩
 refine comp_list (xs:=as.map V.ref) (fun i ys H2=>Same H1 H2/\∃bs:List Addr,ys=bs.map V.ref/\bs.length=i/\∀(k:Nat) (b:Addr),bs[k]?=some b->H2 b=some (.lst ((row c (g k)).map V.int))) (by rw [List.length_map,la]; exact hz) ⟨Same.refl _,[],rfl,rfl,fun k b e=>(by simp at e)⟩ (fun i ys H2 _ h=>h.1.seq ha) ?_ ?_
 ·rintro i x ys H2 hx ⟨S2,bs,rfl,lb,hb⟩
  obtain ⟨b,rfl,ea,hi,hrow⟩:=rowAt la mrows hx
  refine yes (hs i b H2 _ hi (S2.seq hrow) fun l H3 N3=>?_)
  refine ⟨S2.trans N3.same,bs++[l],by simp,by simp [lb],fun k d e=>?_⟩
  by_cases hk:k<bs.length
  ·rw [List.getElem?_append_left hk] at e
   exact N3.same _ _ (hb k d e)
  ·rw [List.getElem?_append_right (by omega)] at e
   have hz:k - bs.length=0:=by have:=(List.getElem?_eq_some_iff.mp e).1; simp at this; omega
   rw [hz] at e
   have ed:d=l:=by simpa using e.symm
   have ek:k=i:=by omega
   rw [ed,ek]
   exact N3.at_
 ·rintro ys H2 ⟨S2,bs,rfl,lb,hb⟩
  rw [List.length_map,la] at lb
  exact hd bs H2 S2 lb hb
theorem mat_mk {K:W.Frag} {H:Hp} {l:Addr} {bs:List Addr} {g:Nat->Nat->Int} {r c:Nat} (h:H l=some (.lst (bs.map V.ref))) (lb:bs.length=r) (hb:∀(k:Nat) (b:Addr),bs[k]?=some b->H b=some (.lst ((row c (g k)).map V.int))):Mat K H l (mkT g r c):=by
 refine ⟨bs,SqL.of h,by rw [mk_len]; exact lb,fun i x y e1 e2=>?_⟩
 have hi:i<r:=by have:=(List.getElem?_eq_some_iff.mp e1).1; omega
 rw [mk_get hi] at e2
 rw [<-Option.some.inj e2]
 exact SqL.of (hb i x e1)
def iV:V->Int
 | .int y=>y
 | _=>0
theorem row_mapV (c:Nat) (f:Nat->Int) (F:Int->Int):((row c f).map V.int).map (fun v=>V.int (F (iV v)))=(row c fun j=>F (f j)).map V.int:=by
 unfold row
 rw [List.map_map,List.map_map,List.map_map]
 rfl
def six (v:Int):Int:=(if 6<v then 6 else v) / 6*6
theorem six_bd {v:Int} (h:0<=v):0<=six v/\six v<=10 ^ 9:=by
 unfold six
 by_cases z:6<v
 ·rw [if_pos z]
  decide
 ·rw [if_neg z]
  omega
end SW
namespace K7
open PySem L2 SW
section
variable {P:Program} {w:World} {K:W.Frag} {mg:Str->Option Value} {base:Heap}
theorem tab_of {a b:Int} {U S:Nat->Nat->Int} {r c:Nat} {pe qe:Nat->Int} (a0:0<a) (ab:a<=b) (b1:b<=1000) (ub:∀i j,i<r->j<c->0<=U i j/\U i j<=10 ^ 15) (sm:Sums U S r c pe qe):TabOk a b U S r c:=
 ⟨a0,ab,b1,ub,fun i j hi hj=>⟨(sm.s0 i j hi hj).1,by have:=(sm.s0 i j hi hj).2.1; omega⟩,fun i j hi hj=>(sm.s0 i j hi hj).2.2⟩
theorem cells_of {a b:Int} {U S:Nat->Nat->Int} {r c:Nat} {R C:Nat->Q2} (ok:DealOk a b U S r c R C):Cells a b U S r c (lam r c R C):=fun i j hi hj _=>by
 rw [lam_row hi,lam_col hj]
 exact cell_of_fits (ok.fits i j hi hj)
theorem rat_bq {n:Nat} {p:Q2} (h:RatOk n p) (hn:n<=24):BQ 2999 p:=by
 have:(2:Int) ^ (80*n+1)<=2 ^ 2999:=by
  exact_mod_cast Nat.pow_le_pow_right (n:=2) (by decide) (show 80*n+1<=2999 by omega)
 exact ⟨h.1,h.2.1,Int.lt_of_lt_of_le h.2.2.2.1 this,Int.lt_of_lt_of_le h.2.2.2.2 this⟩
theorem DealH.trip {H H':Hp} {cD q dq sl rl cl l:Addr} {as ra ca:List Addr} {S:Nat->Nat->Int} {r c:Nat} {R C:Nat->Q2} (d:DealH cD H q dq sl rl cl as ra ca S r c R C) (N:New H H' l (.lst [.ref sl,.ref rl,.ref cl])):Trip4 K H' l (mkT S r c) ((List.range r).map R) ((List.range c).map C):=
 ⟨sl,rl,cl,SqL.of N.at_,(d.same N.same).st.mat,(d.same N.same).prow,(d.same N.same).pcol⟩
namespace B
theorem ok_law (T:Txt K mg):FnOk P w K mg base CX0 10 T.a_law T.fd_law ["_law_script"] (spLaw K):=by
 refine T.F_law.ok sc_law (fun vs H Q E h=>?_) (fun cdv A outer s H vs Q E hr h=>?_)
 ·obtain ⟨a,ns,rfl,_⟩:=h
  rfl
 obtain ⟨a,ns,rfl,hS,hN,q⟩:=h
 refine ⟨_,(pss_cons (ps_asg (pe_call (ok_Qz T) (hr.mono (by decide)) rfl T.m_Qz T.F_Qz.kp T.b_Qz .nil pass0 (pa_cons (pv 0) pa_nil)) (pg_tupQ K rfl (pgs_cons (pg_name (i:=1) sc_law.nd rfl (Or.inl rfl)) (pgs_cons (pg_name (i:=2) sc_law.nd rfl (Or.inl rfl)) (pgs_cons (pg_name (i:=3) sc_law.nd rfl (Or.inl rfl)) pgs_nil)))))
   (pss_cons (ps_meet (ps_if (pt_cmpR op_eqI (pe_call (ok_QN T) (hr.mono (by decide)) rfl T.m_QN T.F_QN.kp T.b_QN .nil pass0 (pa_cons (pe_call (ok_Qy T) (hr.mono (by decide)) rfl T.m_Qy T.F_Qy.kp T.b_Qy .nil pass0 (pa_cons (pv 0) (pa_cons pe_int pa_nil))) (pa_cons pe_int (pa_cons pe_int pa_nil)))) pe_int (nomark _))
   (pss_one (ps_setC (i:=1) [12] rfl (ZK rfl) (ZB K (pv 1)) (fun _=>(pg_name (i:=12) sc_law.nd rfl (Or.inl rfl))) (fun _=>ZL) (fun _=>(ZD [13] rfl (ZK rfl) (ZB K (pv 12)) (fun _=>(pg_name (i:=13) sc_law.nd rfl (Or.inl rfl))) (fun _=>ZL) (fun _=>(pe_op ZC (pe_op op_fdivF (pe_callB (call_min2 rfl) (by rfl) T.n_min PyProof.Rows.boot_min (pa_cons (pv 13) (pa_cons pe_int pa_nil))) pe_int) pe_int)))) sc_law.nd rfl rfl))
   pss_nil))
   (pss_cons (ps_asg (pe_call (ok_QK T) (hr.mono (by decide)) rfl T.m_QK T.F_QK.kp T.b_QK .nil pass0 (pa_cons (pe_call (ok_Qy T) (hr.mono (by decide)) rfl T.m_Qy T.F_Qy.kp T.b_Qy .nil pass0 (pa_cons (pv 0) (pa_cons pe_int pa_nil))) pa_nil)) (pg_tupQ K rfl (pgs_cons (pg_name (i:=4) sc_law.nd rfl (Or.inl rfl)) (pgs_cons (pg_name (i:=5) sc_law.nd rfl (Or.inl rfl)) pgs_nil))))
   (pss_cons (ps_set (i:=6) sc_law.nd rfl (Or.inl rfl) (pe_call (ok_woven T) (hr.mono (by decide)) rfl T.m_woven T.F_woven.kp T.b_woven .nil pass0 (pa_cons (pv 1) (pa_cons (pv 2) (pa_cons (pv 3) (pa_cons (pv 4) pa_nil))))))
   (pss_cons (ps_if (pt_not (pt_val (pe_isC K rfl T.n_isinstance rfl T.m_QC (pv 6))))
   (pss_one (ps_ret (pe_and (pe_isC K rfl T.n_isinstance rfl T.m_Bar (pv 6)) (pe_one (pe_call (ok_Qp T) (hr.mono (by decide)) rfl T.m_Qp T.F_Qp.kp T.b_Qp .nil pass0 (pa_cons (pv 1) (pa_cons (pv 2) (pa_cons (pv 3) (pa_cons (ZA K (pv 6) rfl) (pa_cons (ZA K (pv 6) rfl) pa_nil))))))))))
   pss_nil)
   (pss_cons (ps_set (i:=7) sc_law.nd rfl (Or.inl rfl) (ZF (pa_cons (ZD [12] rfl (ZK rfl) (ZB K (ZA K (pv 6) rfl)) (fun _=>(pg_name (i:=12) sc_law.nd rfl (Or.inl rfl))) (fun _=>ZL) (fun _=>(pe_callTy (list_Q K) (by rfl) T.n_list PyProof.Rows.boot_list (pa_cons (pv 12) pa_nil)))) (pa_cons (pe_callTy (list_Q K) (by rfl) T.n_list PyProof.Rows.boot_list (pa_cons (ZA K (pv 6) rfl) pa_nil)) (pa_cons (pe_callTy (list_Q K) (by rfl) T.n_list PyProof.Rows.boot_list (pa_cons (ZA K (pv 6) rfl) pa_nil)) pa_nil)))))
   (pss_cons (ps_set (i:=8) sc_law.nd rfl (Or.inl rfl) (ZF (pa_cons (ZD [12] rfl (ZK rfl) (ZB K (pe_ix (ix_Q K) (pv 7) pe_int (fun _ _=>rfl))) (fun _=>(pg_name (i:=12) sc_law.nd rfl (Or.inl rfl))) (fun _=>ZL) (fun _=>(pe_callTy (list_Q K) (by rfl) T.n_list PyProof.Rows.boot_list (pa_cons (pv 12) pa_nil)))) (pa_cons (pe_callTy (list_Q K) (by rfl) T.n_list PyProof.Rows.boot_list (pa_cons (pe_ix (ix_Q K) (pv 7) pe_int (fun _ _=>rfl)) pa_nil)) (pa_cons (pe_callTy (list_Q K) (by rfl) T.n_list PyProof.Rows.boot_list (pa_cons (pe_ix (ix_Q K) (pv 7) pe_int (fun _ _=>rfl)) pa_nil)) pa_nil)))))
   (pss_cons (ps_set (i:=9) sc_law.nd rfl (Or.inl rfl) (pe_make T.M_QC (ok_Qi T) (hr.mono (by decide)) rfl T.m_QC T.b_Qi .nil pass0 (pa_cons (pe_ix (ix_Q K) (pv 8) pe_int (fun _ _=>rfl)) (pa_cons (pe_ix (ix_Q K) (pv 8) pe_int (fun _ _=>rfl)) (pa_cons (pe_ix (ix_Q K) (pv 8) pe_int (fun _ _=>rfl)) pa_nil)))))
   (pss_cons (ps_expr (pe_bm PySem.F.plainAttrs_list PySem.F.slot_list_append PySem.F.type_list_append mt_append (pe_ix (ix_Q K) (pe_ix (ix_Q K) (pv 8) pe_int (fun _ _=>rfl)) pe_int (fun _ _=>rfl)) (pa_cons pe_int pa_nil)))
   (pss_cons (ps_expr (pe_bm PySem.F.plainAttrs_list PySem.F.slot_list_append PySem.F.type_list_append mt_append (pe_ix (ix_Q K) (pv 8) pe_int (fun _ _=>rfl)) (pa_cons (ZE (pa_cons pe_int (pa_cons pe_int pa_nil))) pa_nil)))
   (pss_cons (ps_expr (pe_bm PySem.F.plainAttrs_list PySem.F.slot_list_append PySem.F.type_list_append mt_append (pe_ix (ix_Q K) (pv 8) pe_int (fun _ _=>rfl)) (pa_cons (ZE (pa_cons pe_int (pa_cons pe_int pa_nil))) pa_nil)))
   (pss_cons (ps_if (pt_cmpR (ne4_Q K hr.units) (ZF (pa_cons (ZA K (pv 9) rfl) (pa_cons (ZA K (pv 9) rfl) (pa_cons (ZA K (pv 9) rfl) pa_nil)))) (pv 7) (nomark _))
   (pss_one (ps_ret pe_bl))
   pss_nil)
   (pss_cons (ps_if (pt_cmpR op_ne (pe_cmpR op_isNR (pe_call (ok_twin T) (hr.mono (by decide)) rfl T.m_twin T.F_twin.kp T.b_twin .nil pass0 (pa_cons (pv 1) (pa_cons (pv 9) (pa_cons (pv 4) pa_nil)))) pe_non (nomark _)) (pe_cmpR op_isNR (pe_call (ok_twin T) (hr.mono (by decide)) rfl T.m_twin T.F_twin.kp T.b_twin .nil pass0 (pa_cons (pv 1) (pa_cons (pv 6) (pa_cons (pv 4) pa_nil)))) pe_non (nomark _)) (nomark _))
   (pss_one (ps_ret pe_bl))
   pss_nil)
   (pss_cons (ps_set (i:=10) sc_law.nd rfl (Or.inl rfl) (pe_call (ok_twin T) (hr.mono (by decide)) rfl T.m_twin T.F_twin.kp T.b_twin .nil pass0 (pa_cons (pv 1) (pa_cons (pv 6) (pa_cons (pv 4) pa_nil)))))
   (pss_cons (ps_if (pt_cmpR (ne4_Q K hr.units) (ZF (pa_cons (ZA K (pv 6) rfl) (pa_cons (ZA K (pv 6) rfl) (pa_cons (ZA K (pv 6) rfl) pa_nil)))) (pv 7) (nomark _))
   (pss_one (ps_ret pe_bl))
   pss_nil)
   (pss_cons (ps_if (pt_cmpR op_isNR (pv 10) pe_non (nomark _))
   (pss_one (ps_ret (pe_not (pe_call (ok_QI T) (hr.mono (by decide)) rfl T.m_QI T.F_QI.kp T.b_QI .nil pass0 (pa_cons (pv 1) (pa_cons (pv 6) (pa_cons (pv 5) pa_nil)))))))
   pss_nil)
   (pss_cons (ps_if (pt_not (pt_val (pe_call (ok_QJ T) (hr.mono (by decide)) rfl T.m_QJ T.F_QJ.kp T.b_QJ .nil pass0 (pa_cons (pv 1) (pa_cons (pv 6) (pa_cons (pv 10) (pa_cons (pv 5) pa_nil)))))))
   (pss_one (ps_ret pe_bl))
   pss_nil)
   (pss_cons (ps_set (i:=11) sc_law.nd rfl (Or.inl rfl) (pe_call (ok_twin T) (hr.mono (by decide)) rfl T.m_twin T.F_twin.kp T.b_twin .nil pass0 (pa_cons (pv 1) (pa_cons (pv 10) (pa_cons (pv 4) pa_nil)))))
   (pss_cons (ps_if (PW.pt (pw_or (pt_cmpR op_isNR (pv 11) pe_non (nomark _)) (pw_or1 (pt_not (pt_val (pe_call (ok_QJ T) (hr.mono (by decide)) rfl T.m_QJ T.F_QJ.kp T.b_QJ .nil pass0 (pa_cons (pv 1) (pa_cons (pv 10) (pa_cons (pv 11) (pa_cons (pv 5) pa_nil))))))))))
   (pss_one (ps_ret pe_bl))
   pss_nil)
   (pss_cons (ps_expr (pe_bm PySem.F.plainAttrs_list PySem.F.slot_list_append PySem.F.type_list_append mt_append (pe_ix (ix_Q K) (ZA K (pv 10) rfl) pe_int (fun _ _=>rfl)) (pa_cons pe_int pa_nil)))
   (pss_cons (ps_expr (pe_bm PySem.F.plainAttrs_list PySem.F.slot_list_append PySem.F.type_list_append mt_append (ZA K (pv 10) rfl) (pa_cons (ZE (pa_cons pe_int (pa_cons pe_int pa_nil))) pa_nil)))
   (pss_cons (ps_expr (pe_bm PySem.F.plainAttrs_list PySem.F.slot_list_append PySem.F.type_list_append mt_append (ZA K (pv 10) rfl) (pa_cons (ZE (pa_cons pe_int (pa_cons pe_int pa_nil))) pa_nil)))
   (pss_cons (ps_if (pt_cmpR (ne4_Q K hr.units) (ZF (pa_cons (ZA K (pv 6) rfl) (pa_cons (ZA K (pv 6) rfl) (pa_cons (ZA K (pv 6) rfl) pa_nil)))) (pv 7) (nomark _))
   (pss_one (ps_ret pe_bl))
   pss_nil)
   (pss_cons (ps_if (pt_not (pt_val (pe_call (ok_QJ T) (hr.mono (by decide)) rfl T.m_QJ T.F_QJ.kp T.b_QJ .nil pass0 (pa_cons (pv 1) (pa_cons (pv 6) (pa_cons (pe_call (ok_twin T) (hr.mono (by decide)) rfl T.m_twin T.F_twin.kp T.b_twin .nil pass0 (pa_cons (pv 1) (pa_cons (pv 6) (pa_cons (pv 4) pa_nil)))) (pa_cons (pv 5) pa_nil)))))))
   (pss_one (ps_ret pe_bl))
   pss_nil)
   (pss_one (ps_ret (pe_and (pe_call (ok_QJ T) (hr.mono (by decide)) rfl T.m_QJ T.F_QJ.kp T.b_QJ .nil pass0 (pa_cons (pv 1) (pa_cons (pv 9) (pa_cons (pe_call (ok_twin T) (hr.mono (by decide)) rfl T.m_twin T.F_twin.kp T.b_twin .nil pass0 (pa_cons (pv 1) (pa_cons (pv 9) (pa_cons (pv 4) pa_nil)))) (pa_cons (pv 5) pa_nil))))) (pe_one (pe_call (ok_Qe T) (hr.mono (by decide)) rfl T.m_Qe T.F_Qe.kp T.b_Qe .nil pass0 (pa_cons (pv 1) (pa_cons (pv 7) (pa_cons (pv 4) (pa_cons (pv 5) pa_nil))))))))))))))))))))))))))))))))),?_⟩
 refine ⟨_,rfl,?_⟩
 refine ⟨a,ns,rfl,hS,fun tt vt pl pt as U r c pe qe H1 S1 et mt hpl hpt r0 r1 c0 c1 ub du nept=>?_⟩
 have hS1:=S1.seq hS
 refine ⟨_,_,rfl,SqT.of ‹_›,rfl,_,_,rfl,_,_,rfl,_,_,rfl,rfl,?_⟩
 refine ⟨fun σ H'=>Same H1 H'/\∃(vt:Addr) (U:Nat->Nat->Int),σ=[some (.ref a),some (.ref vt),some (.ref pl),some (.ref pt),none,none,none,none,none,none,none,none,none,none]/\Mat K H' vt (mkT U r c)/\∀i j,i<r->j<c->0<=U i j/\U i j<=10 ^ 9,?_,?_⟩
 ·refine ⟨_,rfl,?_⟩
  refine ⟨a,ns,_,rfl,hS1,by decide,fun cell=>?_⟩
  refine ⟨_,_,_,rfl,by decide,by decide,by decide,fun d0 H2 d00 d01 S2=>?_⟩
  refine ⟨_,_,rfl,rfl,_,rfl,?_⟩
  refine ite3 (fun cz=>?_) (fun cz=>?_)
  rotate_left
  ·exact ⟨S2,vt,U,rfl,mt.mat.same S2,ub⟩
  refine ⟨_,rfl,?_⟩
  refine comp_tab (g:=fun k j=>six (U k j)) (mt.mat.same S2) (Nat.le_trans r1 (by decide)) (fun k b H3 Q' hk hb hQ=>?_) fun bs H3 S3 lb hb=>?_
  ·refine ⟨_,rfl,?_⟩
   refine ⟨b,rfl,⟨_,hb⟩,?_⟩
   refine comp_mapL (fun v => .int (six (iV v))) hb (by rw [List.length_map,ZJ]; exact Nat.le_trans c1 (by decide)) (fun i x Q2 hx hQ2=>?_) ?_
   ·obtain ⟨m',rfl⟩:∃m':Int,x = .int m':=by
     rw [List.getElem?_map] at hx
     cases e:(row c (U k))[i]? with
     | none=>rw [e] at hx; cases hx
     | some m'=>rw [e] at hx; exact ⟨m',(Option.some.inj hx).symm⟩
    have cd:∀z:Int,CDivF z 6:=fun z=>⟨by decide,ZG (k:=3) (by decide) (by decide) (by decide)⟩
    have cm:∀z:Int,CMulF z 6:=fun z => .inl (.inr ⟨by omega,by omega⟩)
    refine ⟨_,rfl,?_⟩
    refine ⟨_,_,rfl,?_⟩
    refine ⟨_,_,rfl,rfl,⟨by omega,fits_of (by omega) (by omega)⟩,_,_,rfl,rfl,.inl (.inr ⟨by decide,by decide⟩),?_⟩
    exact hQ2
   ·rw [row_mapV]
    exact hQ
  intro l H4 N4
  exact ⟨S2.trans (S3.trans N4.same),l,_,rfl,mat_mk N4.at_ lb fun k b e=>N4.same _ _ (hb k b e),fun i j hi hj=>six_bd (ub i j hi hj).1⟩
 clear mt ub et
 clear U vt as
 rintro σ H1' ⟨S1',vt,U,rfl,mt,ub⟩
 have hS1':=S1'.seq hS1
 refine ⟨_,rfl,?_⟩
 refine ⟨a,ns,_,rfl,hS1',by decide,fun cell=>?_⟩
 refine ⟨_,rfl,fun rr rl part H2 ra rb m n hrr hrl hpart m0 mn n1 eab S2=>?_⟩
 refine ⟨_,_,rfl,SqT.of ‹_›,rfl,_,_,rfl,_,_,rfl,rfl,_,rfl,_,rfl,_,rfl,_,rfl,?_⟩
 have hpl2:=(S1'.trans S2) _ _ hpl
 have hpt2:=(S1'.trans S2) _ _ hpt
 have mt2:=mt.same S2
 have ub15:∀i j,i<r->j<c->0<=U i j/\U i j<=10 ^ 15:=fun i j hi hj=>⟨(ub i j hi hj).1,Int.le_trans (ub i j hi hj).2 (by decide)⟩
 have n40:r+c<=40:=by omega
 have b0':0<rb:=by have:=hrl.a0; have:=hrl.ab; omega
 refine ⟨vt,pl,pt,rl,U,r,c,pe,qe,ra,rb,rfl,mt2,hpl2,hpt2,hrl,n40,ub15,du,fun H3 told S3 nq an=>?_⟩
 cases an with
 | bar dq rl' cl zs ws d ln lm sh m2 m3=>
  have ob:=d.ob
  have ty:TyOf K H3 (.ref told) (.ref T.c_Bar):=T.ty_Bar.of T.cl_Bar d.ob
  refine ⟨_,rfl,?_⟩
  refine ⟨_,_,_,rfl,ty,T.k_Bar_QC,?_⟩
  refine ⟨_,rfl,?_⟩
  refine iteT ?_
  refine ⟨_,rfl,?_⟩
  refine ⟨_,_,_,rfl,ty,T.k_Bar_Bar,?_⟩
  refine ⟨_,rfl,?_⟩
  refine iteT ?_
  refine ⟨_,rfl,_,rfl,_,rfl,_,rfl,_,_,_,_,_,rfl,by assumption,T.cl_Bar,T.na_Bar_rows,by rfl,_,rfl,_,_,_,_,_,rfl,by assumption,T.cl_Bar,T.na_Bar_columns,by rfl,?_⟩
  exact ⟨rl',cl,zs,ws,r,c,vt,pl,pt,U,pe,qe,rfl,d.rows,d.cols,mt2.same S3,S3.seq (SqL.of hpl2),S3.seq (SqL.of hpt2),r1,c1,Nat.le_trans (len_sml ⟨sh.rn.pw,fun x hx=>⟨(sh.rn.mem hx).1,(by have:=(sh.rn.mem hx).2; omega)⟩⟩) (by decide),Nat.le_trans (len_sml ⟨sh.rm.pw,fun x hx=>⟨(sh.rm.mem hx).1,(by have:=(sh.rm.mem hx).2; omega)⟩⟩) (by decide),sh,fun H4 S4=>q H4⟩
 | deal dq sl rl' cl as0 ra0 ca0 S R C d ok sm m1 m2 m3 m4=>
  have tab:=tab_of hrl.a0 hrl.ab hrl.b1 ub15 sm
  have s7:∀i j,i<r->j<c->S i j<=700:=fun x y hx hy=>by have:=(sm.s0 x y hx hy).2.1; omega
  have cs:=cells_of ok
  have rb9:∀i,i<r->BQ 2999 (R i):=fun i hi=>rat_bq (ok.ro i hi) (by omega)
  have cb9:∀j,j<c->BQ 2999 (C j):=fun j hj=>rat_bq (ok.co j hj) (by omega)
  have rb3:∀i,i<r->BQ 3000 (R i):=fun i hi=>(rb9 i hi).up (by decide)
  have cb3:∀j,j<c->BQ 3000 (C j):=fun j hj=>(cb9 j hj).up (by decide)
  have ob:=d.ob
  have hrows:=d.rows
  have hcols:=d.cols
  have ty:TyOf K H3 (.ref told) (.ref T.c_QC):=T.ty_QC.of T.cl_QC d.ob
  refine ⟨_,rfl,?_⟩
  refine ⟨_,_,_,rfl,ty,T.k_QC_QC,?_⟩
  refine ⟨_,rfl,?_⟩
  refine iteF ?_
  refine ⟨_,rfl,_,_,_,_,_,rfl,by assumption,T.cl_QC,T.na_QC_seats,by rfl,?_⟩
  refine comp_copy (K:=K) d.st.mat (Nat.le_trans r1 (by decide)) (fun b ys H Q hb hQ=>⟨_,rfl,b,ys,rfl,.inl hb,hQ⟩) fun bs H4 S4 lb nd nbs hb=>?_
  intro k0 H5 N5
  have S35:=S4.trans N5.same
  have ob5:=S35 _ _ ob
  have hrows5:=S35 _ _ hrows
  refine ⟨_,rfl,_,_,_,_,_,rfl,by assumption,T.cl_QC,T.na_QC_rows,by rfl,?_⟩
  refine ⟨rl',_,rfl,.inl (SqL.of hrows5),fun k1 H6 N6=>?_⟩
  have S36:=S35.trans N6.same
  have ob6:=S36 _ _ ob
  have hcols6:=S36 _ _ hcols
  refine ⟨_,rfl,_,_,_,_,_,rfl,by assumption,T.cl_QC,T.na_QC_columns,by rfl,?_⟩
  refine ⟨cl,_,rfl,.inl (SqL.of hcols6),fun k2 H7 N7=>?_⟩
  refine ⟨(by show 3<=sizeLine; decide),fun kp H8 N8=>?_⟩
  have S38:=S36.trans (N7.same.trans N8.same)
  have hkp8:=N8.at_
  have hk1:H8 k1=some (.lst (ra0.map V.ref)):=(N7.same.trans N8.same) _ _ N6.at_
  have hk2:H8 k2=some (.lst (ca0.map V.ref)):=N8.same _ _ N7.at_
  have mk0:Mat K H8 k0 (mkT S r c):=(mat_mk (K:=K) N5.at_ lb fun k b e=>N5.same _ _ (hb k b e)).same (N6.same.trans (N7.same.trans N8.same))
  have d8:=d.same S38
  have keptT:∀{H:Hp},Same H8 H->Trip4 K H kp (mkT S r c) ((List.range r).map R) ((List.range c).map C):=fun {H} SS=>⟨k0,k1,k2,SS.seq (SqL.of hkp8),mk0.same SS,(prs_mk hk1 d8.rlen d8.rt).same SS,(prs_mk hk2 d8.clen d8.ct).same SS⟩
  refine ⟨_,rfl,_,_,_,_,rfl,rfl,Or.inl (SqL.of ‹_›),rfl,?_⟩
  refine comp_copy mk0 (Nat.le_trans r1 (by decide)) (fun b ys H Q hb hQ=>⟨_,rfl,b,ys,rfl,.inl hb,hQ⟩) fun cs0 H9 S9 lc nd9 ncs hc9=>?_
  intro h0 H10 N10
  have S810:=S9.trans N10.same
  have hkp10:=S810 _ _ hkp8
  have hk110:=S810 _ _ hk1
  refine ⟨_,rfl,_,_,_,_,rfl,rfl,Or.inl (SqL.of ‹_›),rfl,?_⟩
  refine ⟨k1,_,rfl,.inl (SqL.of hk110),fun h1 H11 N11=>?_⟩
  have S811:=S810.trans N11.same
  have hkp11:=S811 _ _ hkp8
  have hk211:=S811 _ _ hk2
  refine ⟨_,rfl,_,_,_,_,rfl,rfl,Or.inl (SqL.of ‹_›),rfl,?_⟩
  refine ⟨k2,_,rfl,.inl (SqL.of hk211),fun h2 H12 N12=>?_⟩
  refine ⟨(by show 3<=sizeLine; decide),fun hd H13 N13=>?_⟩
  have S813:=S811.trans (N12.same.trans N13.same)
  have hhd:=N13.at_
  have hh0:H13 h0=some (.lst (cs0.map V.ref)):=(N11.same.trans (N12.same.trans N13.same)) _ _ N10.at_
  have hh1:H13 h1=some (.lst (ra0.map V.ref)):=(N12.same.trans N13.same) _ _ N11.at_
  have hh2:H13 h2=some (.lst (ca0.map V.ref)):=N13.same _ _ N12.at_
  have hcs:∀(k:Nat) (b:Addr),cs0[k]?=some b->H13 b=some (.lst ((row c (S k)).map V.int)):=fun k b e=>(N10.same.trans (N11.same.trans (N12.same.trans N13.same))) _ _ (hc9 k b e)
  have mh0:Mat K H13 h0 (mkT S r c):=mat_mk hh0 lc hcs
  have nh1:H8 h1=none:=S810.free N11.gone
  have nh2:H8 h2=none:=S811.free N12.gone
  obtain ⟨x0,ex0⟩:∃x,cs0[0]?=some x:=⟨cs0[0]'(by omega),by simp⟩
  have nx0:H8 x0=none:=ncs x0 (List.mem_of_getElem? ex0)
  have hx0:=hcs 0 x0 ex0
  have h9x0:=hc9 0 x0 ex0
  have ne0h:h0≠x0:=fun z=>by rw [<-z,N10.gone] at h9x0; cases h9x0
  have ne01:h1≠x0:=fun z=>by have:=N10.same _ _ h9x0; rw [<-z,N11.gone] at this; cases this
  have ne02:h2≠x0:=fun z=>by have:=(N10.same.trans N11.same) _ _ h9x0; rw [<-z,N12.gone] at this; cases this
  have ne0d:hd≠x0:=fun z=>by have:=(N10.same.trans (N11.same.trans N12.same)) _ _ h9x0; rw [<-z,N13.gone] at this; cases this
  have ne12:h2≠h1:=fun z=>by have:=N11.at_; rw [<-z,N12.gone] at this; cases this
  have ne1d:hd≠h1:=fun z=>by have:=N12.same _ _ N11.at_; rw [<-z,N13.gone] at this; cases this
  have ne2d:hd≠h2:=fun z=>by have:=N12.at_; rw [<-z,N13.gone] at this; cases this
  refine ⟨_,rfl,_,_,_,_,rfl,rfl,Or.inl (SqL.of ‹_›),rfl,_,rfl,_,_,_,_,rfl,rfl,Or.inl (SqL.of ‹_›),rfl,_,rfl,_,_,_,_,rfl,rfl,Or.inl (SqL.of ‹_›),rfl,?_⟩
  intro y dy ny ndy neyd
  have up13:∀x o,H13 x=some o->upd (upd H13 dy (.own y)) y (.ins T.c_QC dy []) x=some o:=fun x o e=>by rw [upd_ne (ne_of_none e ny),upd_ne (ne_of_none e ndy)]; exact e
  refine ⟨y,dy,h0,h1,h2,_,r,c,_,_,rfl,upd_same,mh0.same up13,by omega,SqL.of (up13 _ _ hh1),SqL.of (up13 _ _ hh2),fun H14 slM rlM clM asM fr14 hy14 m14 hr14 hc14 n1' n2' n3' n4' sa' ra' ca' ne'=>⟨rfl,?_⟩⟩
  have S1314:Same H13 H14:=fun x o e=>fr14 x o (up13 x o e) (ne_of_none e ny)
  have S814:=S813.trans S1314
  have fin:∀x,upd (upd H13 dy (.own y)) y (.ins T.c_QC dy []) x=none->H13 x=none:=fun x z=>by
   cases e:H13 x with
   | none=>rfl
   | some o=>have:=up13 _ _ e; rw [z] at this; cases this
  have d14:=d.same (S38.trans S814)
  have dM14:DealH T.c_QC H14 y dy slM rlM clM asM ra0 ca0 S r c R C:=⟨hy14,m14,hr14,d14.rlen,d14.rt,hc14,d14.clen,d14.ct,sa',ra',ca',ne'⟩
  have offM:∀{H:Hp} {x:Addr} {ys:List V} {o:HO},DealH T.c_QC H y dy slM rlM clM asM ra0 ca0 S r c R C->H x=some (.lst ys)->H13 x≠none->DealH T.c_QC (upd H x o) y dy slM rlM clM asM ra0 ca0 S r c R C:=fun {H x ys o} dd hx nn=>dd.off hx (fun z=>nn (by rw [<-z]; exact fin _ n1')) (fun z=>nn (by rw [<-z]; exact fin _ n2')) (fun z=>nn (by rw [<-z]; exact fin _ n3')) fun z=>nn (fin _ (n4' x z))
  have hd14:=S1314 _ _ hhd
  have h014:=S1314 _ _ hh0
  have x014:=S1314 _ _ hx0
  have atx:atI (cs0.map V.ref) 0=some (.ref x0):=at_ref ex0
  refine ⟨_,rfl,_,_,_,_,rfl,rfl,Or.inl (SqL.of ‹_›),rfl,_,_,_,_,rfl,rfl,Or.inl (SqL.of ‹_›),by assumption,?_⟩
  refine ⟨.inl ⟨rfl,_,SqL.of x014⟩,?_⟩
  refine ⟨x0,_,_,rfl,rfl,x014,?_,?_⟩
  ·rw [List.length_map,ZJ]
   exact Nat.lt_of_le_of_lt c1 (by decide)
  have dM15:=offM (o:=.lst ((row c (S 0)).map V.int++[.int 1])) dM14 x014 (fun z=>by rw [hx0] at z; cases z)
  have S815:Same H8 (upd H14 x0 (.lst ((row c (S 0)).map V.int++[.int 1]))):=S814.upd nx0
  have hd15:upd H14 x0 (.lst ((row c (S 0)).map V.int++[.int 1])) hd=_:=(upd_ne ne0d).trans hd14
  have h115:upd H14 x0 (.lst ((row c (S 0)).map V.int++[.int 1])) h1=_:=(upd_ne ne01).trans (S1314 _ _ hh1)
  have h215:upd H14 x0 (.lst ((row c (S 0)).map V.int++[.int 1])) h2=_:=(upd_ne ne02).trans (S1314 _ _ hh2)
  generalize upd H14 x0 (.lst ((row c (S 0)).map V.int++[.int 1]))=H15 at *
  refine ⟨_,rfl,_,_,_,_,rfl,rfl,Or.inl (SqL.of ‹_›),rfl,?_⟩
  refine ⟨.inl ⟨rfl,_,SqL.of h115⟩,?_⟩
  refine ⟨(by show 2<=sizeLine; decide),fun t1 H16 N16=>?_⟩
  have h116:=N16.same _ _ h115
  refine ⟨h1,_,_,rfl,rfl,h116,?_,?_⟩
  ·rw [List.length_map,d.rlen]
   exact Nat.lt_of_le_of_lt r1 (by decide)
  have dM17:=offM (o:=.lst (ra0.map V.ref++[.ref t1])) (dM15.same N16.same) h116 (fun z=>by rw [hh1] at z; cases z)
  have S817:Same H8 (upd H16 h1 (.lst (ra0.map V.ref++[.ref t1]))):=(S815.trans N16.same).upd nh1
  have hd17:upd H16 h1 (.lst (ra0.map V.ref++[.ref t1])) hd=_:=(upd_ne ne1d).trans (N16.same _ _ hd15)
  have h217:upd H16 h1 (.lst (ra0.map V.ref++[.ref t1])) h2=_:=(upd_ne ne12).trans (N16.same _ _ h215)
  generalize upd H16 h1 (.lst (ra0.map V.ref++[.ref t1]))=H17 at *
  refine ⟨_,rfl,_,_,_,_,rfl,rfl,Or.inl (SqL.of ‹_›),rfl,?_⟩
  refine ⟨.inl ⟨rfl,_,SqL.of h217⟩,?_⟩
  refine ⟨(by show 2<=sizeLine; decide),fun t2 H18 N18=>?_⟩
  have h218:=N18.same _ _ h217
  refine ⟨h2,_,_,rfl,rfl,h218,?_,?_⟩
  ·rw [List.length_map,d.clen]
   exact Nat.lt_of_le_of_lt c1 (by decide)
  have dM:=offM (o:=.lst (ca0.map V.ref++[.ref t2])) (dM17.same N18.same) h218 (fun z=>by rw [hh2] at z; cases z)
  have S819:Same H8 (upd H18 h2 (.lst (ca0.map V.ref++[.ref t2]))):=(S817.trans N18.same).upd nh2
  generalize upd H18 h2 (.lst (ca0.map V.ref++[.ref t2]))=H19 at *
  clear dM14 dM15 dM17 S815 S817 hd15 h115 h215 N16 h116 hd17 h217 N18 h218 H15 H16 H17 H18
  have S319:=S38.trans S819
  have S219:=S3.trans S319
  have obM:=dM.ob
  refine ⟨_,rfl,_,_,_,_,_,rfl,by assumption,T.cl_QC,T.na_QC_seats,by rfl,_,rfl,_,_,_,_,_,rfl,by assumption,T.cl_QC,T.na_QC_rows,by rfl,_,rfl,_,_,_,_,_,rfl,by assumption,T.cl_QC,T.na_QC_columns,by rfl,?_⟩
  refine ⟨(by show 3<=sizeLine; decide),fun l20 H20 N20=>?_⟩
  refine ⟨_,rfl,?_⟩
  refine ⟨l20,kp,_,_,_,rfl,rfl,DealH.trip dM N20,keptT (S819.trans N20.same),?_⟩
  refine ⟨_,rfl,?_⟩
  refine iteF ?_
  have dM20:=dM.same N20.same
  have d20:=d.same (S319.trans N20.same)
  have S220:=S219.trans N20.same
  have S820:=S819.trans N20.same
  have hrl20:=hrl.same S220
  have mt20:=mt2.same S220
  have hpart20:=S220 _ _ hpart
  refine ⟨_,rfl,_,rfl,_,rfl,?_⟩
  by_cases go:∃v,v<r+c/\Go ra rb U S r c (lam r c R C) (r+c) v
  rotate_left
  ·have nogo:∀v,v<r+c->¬Go ra rb U S r c (lam r c R C) (r+c) v:=fun v hv g=>go ⟨v,hv,g⟩
   refine ⟨⟨ra0,ca0,U,S,r,c,R,C,ra,rb⟩,.mk mt20 hrl20 dM20 tab s7 cs rb3 cb3 n40,fun none H21 S21=>?_,fun ex=>absurd ex go⟩
   refine ⟨rfl,_,rfl,_,rfl,_,rfl,?_⟩
   refine ⟨⟨ra0,ca0,U,S,r,c,R,C,ra,rb⟩,.mk (mt20.same S21) (hrl20.same S21) (d20.same S21) tab s7 cs rb3 cb3 n40,fun _ H22 S22=>?_,fun ex=>absurd ex go⟩
   refine ⟨rfl,rfl,_,rfl,?_⟩
   refine iteF ?_
   have S2022:=S21.trans S22
   refine ⟨_,rfl,_,rfl,_,rfl,?_⟩
   refine ⟨⟨ra0,ca0,U,S,r,c,R,C,ra,rb⟩,.mk (mt20.same S2022) (hrl20.same S2022) (d20.same S2022) tab s7 cs rb3 cb3 n40,fun _ H23 S23=>?_,fun ex=>absurd ex go⟩
   have S2023:=S2022.trans S23
   have d23:=d20.same S2023
   have ob23:=d23.ob
   refine ⟨_,rfl,_,_,_,_,_,rfl,by assumption,T.cl_QC,T.na_QC_seats,by rfl,_,rfl,_,_,_,_,_,rfl,by assumption,T.cl_QC,T.na_QC_rows,by rfl,_,rfl,_,_,_,_,_,rfl,by assumption,T.cl_QC,T.na_QC_columns,by rfl,?_⟩
   refine ⟨(by show 3<=sizeLine; decide),fun l24 H24 N24=>?_⟩
   refine ⟨_,rfl,?_⟩
   refine ⟨l24,kp,_,_,_,rfl,rfl,DealH.trip d23 N24,keptT (S820.trans (S2023.trans N24.same)),?_⟩
   refine ⟨_,rfl,?_⟩
   refine iteF ?_
   have S2024:=S2023.trans N24.same
   refine ⟨_,rfl,rfl,_,rfl,?_⟩
   refine iteT ?_
   refine ⟨_,rfl,_,rfl,_,rfl,?_⟩
   exact ⟨.mk (mt20.same S2024) (d20.same S2024) (S2024 _ _ hpart20) m0 mn n1 hrl.a0 b0' eab n40 ub15 tab.s0 rb3 cb3 nogo,fun H' S'=>⟨_,rfl,q H'⟩⟩
  ·have yes:∀{A:Prop},(∀v,v<r+c->¬Go ra rb U S r c (lam r c R C) (r+c) v)->A:=fun none=>by
    obtain ⟨v,hv,g⟩:=go
    exact absurd g (none v hv)
   refine ⟨⟨ra0,ca0,U,S,r,c,R,C,ra,rb⟩,.mk mt20 hrl20 dM20 tab s7 cs rb3 cb3 n40,fun none=>yes none,fun _ H21 q1 dq1 sl1 rl1 cl1 as1 Sx tq1=>?_⟩
   have S21:=tq1.same
   refine ⟨rfl,_,rfl,_,rfl,_,rfl,?_⟩
   refine ⟨⟨ra0,ca0,U,S,r,c,R,C,ra,rb⟩,.mk (mt20.same S21) (hrl20.same S21) (d20.same S21) tab s7 cs rb3 cb3 n40,fun none=>yes none,fun _ H22 q2 dq2 sl2 rl2 cl2 as2 Sy tq2=>?_⟩
   have S22:=tq2.same
   refine ⟨rfl,rfl,_,rfl,?_⟩
   refine iteF ?_
   have S2022:=S21.trans S22
   refine ⟨_,rfl,_,rfl,_,rfl,?_⟩
   refine ⟨⟨ra0,ca0,U,S,r,c,R,C,ra,rb⟩,.mk (mt20.same S2022) (hrl20.same S2022) (d20.same S2022) tab s7 cs rb3 cb3 n40,fun none=>yes none,fun _ H23 q3 dq3 sl3 rl3 cl3 as3 S3' tq3=>?_⟩
   have S23:=tq3.same
   have d3:DealH T.c_QC H23 q3 dq3 sl3 rl3 cl3 as3 ra0 ca0 S3' r c R C:=tq3.d
   have tw3:Tw ra rb U S S3' r c (lam r c R C):=tq3.tw
   have go3:∃v,v<r+c/\Go ra rb U S3' r c (lam r c R C) (r+c) v:=tq3.go
   have nr3:=tq3.nr
   have nc3:=tq3.nc
   have nas3:=tq3.nas
   have S2023:=S2022.trans S23
   have d23:=d20.same S2023
   have ob23:=d23.ob
   refine ⟨_,rfl,_,_,_,_,_,rfl,by assumption,T.cl_QC,T.na_QC_seats,by rfl,_,rfl,_,_,_,_,_,rfl,by assumption,T.cl_QC,T.na_QC_rows,by rfl,_,rfl,_,_,_,_,_,rfl,by assumption,T.cl_QC,T.na_QC_columns,by rfl,?_⟩
   refine ⟨(by show 3<=sizeLine; decide),fun l24 H24 N24=>?_⟩
   refine ⟨_,rfl,?_⟩
   refine ⟨l24,kp,_,_,_,rfl,rfl,DealH.trip d23 N24,keptT (S820.trans (S2023.trans N24.same)),?_⟩
   refine ⟨_,rfl,?_⟩
   refine iteF ?_
   have S2024:=S2023.trans N24.same
   have S2224:=S23.trans N24.same
   have s83:∀i j,i<r->j<c->S3' i j<=700:=fun i j hi hj=>by have:=(sm.s0 i j hi hj).2.1; have:=(tw3.s0 i j hi hj).2.1; omega
   have tab3:TabOk ra rb U S3' r c:=⟨tab.a0,tab.ab,tab.b1,tab.v0,fun i j hi hj=>⟨(tw3.s0 i j hi hj).1,by have:=s83 i j hi hj; omega⟩,fun i j hi hj=>(tw3.s0 i j hi hj).2.2⟩
   refine ⟨_,rfl,rfl,_,rfl,?_⟩
   refine iteF ?_
   refine ⟨_,rfl,_,rfl,_,rfl,_,rfl,?_⟩
   refine ⟨.mk (mt20.same S2024) (d20.same S2024) (d3.same N24.same) (S2024 _ _ hpart20) m0 mn n1 hrl.a0 b0' eab r0 n40 ub15 (fun i j hi hj=>(by have:=s83 i j hi hj; omega)) rb3 cb3 tw3,fun H25 S25=>?_⟩
   refine ⟨_,rfl,?_⟩
   refine iteF ?_
   have S2325:=N24.same.trans S25
   have S2025:=S2024.trans S25
   refine ⟨_,rfl,_,rfl,_,rfl,?_⟩
   refine ⟨⟨ra0,ca0,U,S3',r,c,R,C,ra,rb⟩,.mk (mt20.same S2025) (hrl20.same S2025) (d3.same S2325) tab3 s83 tw3.cells rb3 cb3 n40,fun none=>(by obtain ⟨v,hv,g⟩:=go3; exact absurd g (none v hv)),fun _ H26 q4 dq4 sl4 rl4 cl4 as4 S4' tq4=>?_⟩
   have S26:=tq4.same
   have d4:DealH T.c_QC H26 q4 dq4 sl4 rl4 cl4 as4 ra0 ca0 S4' r c R C:=tq4.d
   have tw4:Tw ra rb U S3' S4' r c (lam r c R C):=tq4.tw
   have S2326:=S2325.trans S26
   have S2026:=S2025.trans S26
   refine ⟨_,rfl,rfl,_,rfl,?_⟩
   refine iteF ?_
   refine ⟨_,rfl,_,rfl,_,rfl,_,rfl,?_⟩
   refine ⟨.mk (mt20.same S2026) (d3.same S2326) d4 (S2026 _ _ hpart20) m0 mn n1 hrl.a0 b0' eab r0 n40 ub15 (fun i j hi hj=>(by have:=s83 i j hi hj; have:=(tw4.s0 i j hi hj).2.1; omega)) rb3 cb3 tw4,fun H27 S27=>?_⟩
   refine ⟨_,rfl,?_⟩
   refine iteF ?_
   have S2227:=S2224.trans (S25.trans (S26.trans S27))
   have d27:=d3.same (S2326.trans S27)
   have ob27:=d27.ob
   have st27:=d27.st.top
   have ls27:=d27.st.len
   obtain ⟨z0,ez0,az0⟩:=mat_row (as:=as3) (T:=S3') (r:=r) (c:=c) ls27 r0
   have az0':atI (as3.map V.ref) 0=some (.ref z0):=az0
   have zas:z0∈as3:=List.mem_of_getElem? ez0
   have hz0:=d27.st.rows 0 z0 _ ez0 (mk_get r0)
   have hr27:=d27.rows
   have hc27:=d27.cols
   refine ⟨_,rfl,_,_,_,_,_,rfl,by assumption,T.cl_QC,T.na_QC_seats,by rfl,_,_,_,_,rfl,rfl,Or.inl (SqL.of ‹_›),by assumption,?_⟩
   refine ⟨.inl ⟨rfl,_,SqL.of hz0⟩,?_⟩
   refine ⟨z0,_,_,rfl,rfl,hz0,?_,?_⟩
   ·rw [List.length_map,ZJ]
    exact Nat.lt_of_le_of_lt c1 (by decide)
   have S2228:Same H22 (upd H27 z0 (.lst ((row c (S3' 0)).map V.int++[.int 1]))):=S2227.upd (nas3 z0 zas)
   have ob28:upd H27 z0 (.lst ((row c (S3' 0)).map V.int++[.int 1])) q3=_:=(upd_ne (ne_of ob27 hz0 (by intro z; cases z))).trans ob27
   have hr28:upd H27 z0 (.lst ((row c (S3' 0)).map V.int++[.int 1])) rl3=_:=(upd_ne fun z=>d3.ra' (by rw [z]; exact zas)).trans hr27
   have hc28:upd H27 z0 (.lst ((row c (S3' 0)).map V.int++[.int 1])) cl3=_:=(upd_ne fun z=>d3.ca' (by rw [z]; exact zas)).trans hc27
   generalize upd H27 z0 (.lst ((row c (S3' 0)).map V.int++[.int 1]))=H28 at *
   refine ⟨_,rfl,_,_,_,_,_,rfl,by assumption,T.cl_QC,T.na_QC_rows,by rfl,?_⟩
   refine ⟨.inl ⟨rfl,_,SqL.of hr28⟩,?_⟩
   refine ⟨(by show 2<=sizeLine; decide),fun t3 H29 N29=>?_⟩
   have hr29:=N29.same _ _ hr28
   refine ⟨rl3,_,_,rfl,rfl,hr29,?_,?_⟩
   ·rw [List.length_map,d.rlen]
    exact Nat.lt_of_le_of_lt r1 (by decide)
   have S2230:Same H22 (upd H29 rl3 (.lst (ra0.map V.ref++[.ref t3]))):=(S2228.trans N29.same).upd nr3
   have ob29:=N29.same _ _ ob28
   have ob30:upd H29 rl3 (.lst (ra0.map V.ref++[.ref t3])) q3=_:=(upd_ne (ne_of ob29 hr29 (by intro z; cases z))).trans ob29
   have hc30:upd H29 rl3 (.lst (ra0.map V.ref++[.ref t3])) cl3=_:=(upd_ne d3.ne.symm).trans (N29.same _ _ hc28)
   generalize upd H29 rl3 (.lst (ra0.map V.ref++[.ref t3]))=H30 at *
   refine ⟨_,rfl,_,_,_,_,_,rfl,by assumption,T.cl_QC,T.na_QC_columns,by rfl,?_⟩
   refine ⟨.inl ⟨rfl,_,SqL.of hc30⟩,?_⟩
   refine ⟨(by show 2<=sizeLine; decide),fun t4 H31 N31=>?_⟩
   have hc31:=N31.same _ _ hc30
   refine ⟨cl3,_,_,rfl,rfl,hc31,?_,?_⟩
   ·rw [List.length_map,d.clen]
    exact Nat.lt_of_le_of_lt c1 (by decide)
   have S2232:Same H22 (upd H31 cl3 (.lst (ca0.map V.ref++[.ref t4]))):=(S2230.trans N31.same).upd nc3
   generalize upd H31 cl3 (.lst (ca0.map V.ref++[.ref t4]))=H32 at *
   have S2032:=S2022.trans S2232
   have d32:=d20.same S2032
   have ob32:=d32.ob
   refine ⟨_,rfl,_,_,_,_,_,rfl,by assumption,T.cl_QC,T.na_QC_seats,by rfl,_,rfl,_,_,_,_,_,rfl,by assumption,T.cl_QC,T.na_QC_rows,by rfl,_,rfl,_,_,_,_,_,rfl,by assumption,T.cl_QC,T.na_QC_columns,by rfl,?_⟩
   refine ⟨(by show 3<=sizeLine; decide),fun l33 H33 N33=>?_⟩
   refine ⟨_,rfl,?_⟩
   refine ⟨l33,kp,_,_,_,rfl,rfl,DealH.trip d32 N33,keptT (S820.trans (S2032.trans N33.same)),?_⟩
   refine ⟨_,rfl,?_⟩
   refine iteF ?_
   have S2033:=S2032.trans N33.same
   refine ⟨_,rfl,_,rfl,_,rfl,_,rfl,_,rfl,?_⟩
   refine ⟨⟨ra0,ca0,U,S,r,c,R,C,ra,rb⟩,.mk (mt20.same S2033) (hrl20.same S2033) (d20.same S2033) tab s7 cs rb3 cb3 n40,fun none=>yes none,fun _ H34 q5 dq5 sl5 rl5 cl5 as5 S5' tq5=>?_⟩
   have S34:=tq5.same
   have d5:DealH T.c_QC H34 q5 dq5 sl5 rl5 cl5 as5 ra0 ca0 S5' r c R C:=tq5.d
   have tw5:Tw ra rb U S S5' r c (lam r c R C):=tq5.tw
   have S2034:=S2033.trans S34
   refine ⟨_,rfl,?_⟩
   refine ⟨.mk (mt20.same S2034) (d20.same S2034) d5 (S2034 _ _ hpart20) m0 mn n1 hrl.a0 b0' eab r0 n40 ub15 (fun i j hi hj=>(by have:=s7 i j hi hj; have:=(tw5.s0 i j hi hj).2.1; omega)) rb3 cb3 tw5,fun H35 S35=>?_⟩
   refine ⟨_,rfl,?_⟩
   refine iteF ?_
   have S2035:=S2034.trans S35
   refine ⟨_,rfl,_,rfl,_,rfl,_,rfl,_,rfl,?_⟩
   refine ⟨⟨ra0,ca0,U,S,r,c,R,C,ra,rb⟩,.mk (mt20.same S2035) (hrl20.same S2035) (dM20.same S2035) tab s7 cs rb3 cb3 n40,fun none=>yes none,fun _ H36 q6 dq6 sl6 rl6 cl6 as6 S6' tq6=>?_⟩
   have S36:=tq6.same
   have d6:DealH T.c_QC H36 q6 dq6 sl6 rl6 cl6 as6 ra0 ca0 S6' r c R C:=tq6.d
   have tw6:Tw ra rb U S S6' r c (lam r c R C):=tq6.tw
   have S2036:=S2035.trans S36
   refine ⟨_,rfl,?_⟩
   refine ⟨.mk (mt20.same S2036) (dM20.same S2036) d6 (S2036 _ _ hpart20) m0 mn n1 hrl.a0 b0' eab r0 n40 ub15 (fun i j hi hj=>(by have:=s7 i j hi hj; have:=(tw6.s0 i j hi hj).2.1; omega)) rb3 cb3 tw6,fun H37 S37=>?_⟩
   refine ⟨_,rfl,?_⟩
   refine iteT ?_
   have S2037:=S2036.trans S37
   have S837:=S820.trans S2037
   refine ⟨_,rfl,_,rfl,_,rfl,_,rfl,?_⟩
   exact ⟨.mk (mt20.same S2037) (hrl20.same S2037) (S837 _ _ hkp8) (mk0.same S837) (S837 _ _ hk1) d.rlen (fun i x e=>S837 _ _ (d8.rt i x e)) (S837 _ _ hk2) d.clen (fun j x e=>S837 _ _ (d8.ct j x e)) (S2037 _ _ hpart20) m0 mn n1 eab r0 n40 tab s7 cs rb9 cb9 go,fun H' S'=>q H'⟩
end B
theorem ok_law (T:Txt K mg):FnOk P w K mg base CX0 10 T.a_law T.fd_law ["_law_script"] (spLaw K):=B.ok_law T
end
end K7
namespace K7
open PySem L2 SW
section
variable {α:Type} {P:List α->Prop}
theorem A1 (h:∀a,P [a]) (us:List α) (e:us.length=1):P us:=by
 obtain ⟨a,rfl⟩:=List.length_eq_one_iff.mp e
 exact h a
theorem A0 (k:Nat) (us:List α) (e:us.length=k+1):∃a v,us=a :: v/\v.length=k:=by
 cases us with
 | nil=>cases e
 | cons a v=>exact ⟨a,v,rfl,Nat.succ.inj e⟩
theorem A2 (h:∀a b,P [a,b]) (us:List α) (e:us.length=2):P us:=by
 obtain ⟨a,v,rfl,e2⟩:=A0 _ us e
 exact A1 (P:=fun v=>P (a :: v)) (h a) v e2
theorem A3 (h:∀a b c,P [a,b,c]) (us:List α) (e:us.length=3):P us:=by
 obtain ⟨a,v,rfl,e2⟩:=A0 _ us e
 exact A2 (P:=fun v=>P (a :: v)) (h a) v e2
theorem A4 (h:∀a b c d,P [a,b,c,d]) (us:List α) (e:us.length=4):P us:=by
 obtain ⟨a,v,rfl,e2⟩:=A0 _ us e
 exact A3 (P:=fun v=>P (a :: v)) (h a) v e2
theorem A5 (h:∀a b c d e,P [a,b,c,d,e]) (us:List α) (e:us.length=5):P us:=by
 obtain ⟨a,v,rfl,e2⟩:=A0 _ us e
 exact A4 (P:=fun v=>P (a :: v)) (h a) v e2
theorem A6 (h:∀a b c d e f,P [a,b,c,d,e,f]) (us:List α) (e:us.length=6):P us:=by
 obtain ⟨a,v,rfl,e2⟩:=A0 _ us e
 exact A5 (P:=fun v=>P (a :: v)) (h a) v e2
end
theorem txt_mk {K:W.Frag} {h:Heap} {mg:Str->Option Value} (X:K.In h) (G:h.Ns mainGlobals mg)
  {c_Net c_Reach c_Answer c_QC c_Bar c_Rule c_Down c_Half c_QD c_QF c_QE f_Qa f_ratio f_over f_below f_price f_Qb f_Qn f_Qo f_Qc f_woven f_Qk f_Ql f_Qm f_ring f_twin f_Qd f_Qy f_QN f_QB f_QK f_QL f_QM f_Qz f_QG f_QH f_QI f_QA f_QJ f_Qe f_Qp f_law f_Qq f_Qr f_Qs f_Qh f_Qg f_Qf f_Qi f_Qt f_Qu f_Qv f_Qw f_Qx f_Qj:Addr}
  {p0 q0 p1 q1 p2 q2 p3 q3 p4 q4 p5 q5 p6 q6 p7 q7 p8 q8 p9 q9 p10 q10 p11 q11 p12 q12 p13 q13 p14 q14 p15 q15 p16 q16 p17 q17 p18 q18 p19 q19 p20 q20 p21 q21 p22 q22 p23 q23 p24 q24 p25 q25 p26 q26 p27 q27 p28 q28 p29 q29 p30 q30 p31 q31 p32 q32 p33 q33 p34 q34 p35 q35 p36 q36 p37 q37 p38 q38 p39 q39 p40 q40 p41 q41 p42 q42 p43 q43:Option Addr}
  {r0 r1 r2 r3 r4 r5 r6 r7 r8 r9 r10 r11 r12 r13 r14 r15 r16 r17 r18 r19 r20 r21 r22 r23 r24 r25 r26 r27 r28 r29 r30 r31 r32 r33 r34 r35 r36 r37 r38 r39 r40 r41 r42 r43:Array (Option Value)}
  {u0 v0 w0 x0 y0 z0 u1 v1 w1 x1 y1 z1 u2 v2 w2 x2 y2 z2 u3 v3 w3 x3 y3 z3 u4 v4 w4 x4 y4 z4 u5 v5 w5 x5 y5 z5 u6 v6 w6 x6 y6 z6 u7 v7 w7 x7 y7 z7 u8 v8 w8 x8 y8 z8 u9 v9 w9 x9 y9 z9 u10 v10 w10 x10 y10 z10 u11 v11 w11 x11 y11 z11 u12 v12 w12 x12 y12 z12 u13 v13 w13 x13 y13 z13 u14 v14 w14 x14 y14 z14 u15 v15 w15 x15 y15 z15 u16 v16 w16 x16 y16 z16 u17 v17 w17 x17 y17 z17 u18 v18 w18 x18 y18 z18 u19 v19 w19 x19 y19 z19 u20 v20 w20 x20 y20 z20 u21 v21 w21 x21 y21 z21 u22 v22 w22 x22 y22 z22 u23 v23 w23 x23 y23 z23 u24 v24 w24 x24 y24 z24 u25 v25 w25 x25 y25 z25 u26 v26 w26 x26 y26 z26 u27 v27 w27 x27 y27 z27 u28 v28 w28 x28 y28 z28 u29 v29 w29 x29 y29 z29 u30 v30 w30 x30 y30 z30 u31 v31 w31 x31 y31 z31 u32 v32 w32 x32 y32 z32 u33 v33 w33 x33 y33 z33 u34 v34 w34 x34 y34 z34 u35 v35 w35 x35 y35 z35 u36 v36 w36 x36 y36 z36 u37 v37 w37 x37 y37 z37 u38 v38 w38 x38 y38 z38 u39 v39 w39 x39 y39 z39 u40 v40 w40 x40 y40 z40 u41 v41 w41 x41 y41 z41 u42 v42 w42 x42 y42 z42 u43 v43 w43 x43 y43 z43:Value}
  {tk_GREATEST_Q:Tok}
  (m_Net:W.nsIn K mainGlobals "Net" = some (some (.ref c_Net)))
  (m_Reach:W.nsIn K mainGlobals "Reach" = some (some (.ref c_Reach)))
  (m_Answer:W.nsIn K mainGlobals "Answer" = some (some (.ref c_Answer)))
  (m_QC:W.nsIn K mainGlobals "Dealing" = some (some (.ref c_QC)))
  (m_Bar:W.nsIn K mainGlobals "Bar" = some (some (.ref c_Bar)))
  (m_Rule:W.nsIn K mainGlobals "Rule" = some (some (.ref c_Rule)))
  (m_Down:W.nsIn K mainGlobals "Down" = some (some (.ref c_Down)))
  (m_Half:W.nsIn K mainGlobals "Half" = some (some (.ref c_Half)))
  (m_QD:W.nsIn K mainGlobals "Between" = some (some (.ref c_QD)))
  (m_QF:W.nsIn K mainGlobals "DealError" = some (some (.ref c_QF)))
  (m_QE:W.nsIn K mainGlobals "BadRule" = some (some (.ref c_QE)))
  (a_Qa:W.nsIn K mainGlobals "common_divisor" = some (some (.ref f_Qa)))
  (l0:K.lookup f_Qa=some ⟨u0,p0,.func (W.fnOf "common_divisor" "common_divisor" (defArgs s_Qa) (defBody s_Qa) (defScope s_Qa) .none v0 w0 x0 q0 y0 z0),r0⟩)
  (c0:W.codeIn K y0 "common_divisor" = true)
  (k_Qa':W.keepIn K (.ref f_Qa)=true)
  (a_ratio:W.nsIn K mainGlobals "ratio" = some (some (.ref f_ratio)))
  (l1:K.lookup f_ratio=some ⟨u1,p1,.func (W.fnOf "ratio" "ratio" (defArgs s_ratio) (defBody s_ratio) (defScope s_ratio) .none v1 w1 x1 q1 y1 z1),r1⟩)
  (c1:W.codeIn K y1 "ratio" = true)
  (k_ratio':W.keepIn K (.ref f_ratio)=true)
  (a_over:W.nsIn K mainGlobals "over" = some (some (.ref f_over)))
  (l2:K.lookup f_over=some ⟨u2,p2,.func (W.fnOf "over" "over" (defArgs s_over) (defBody s_over) (defScope s_over) .none v2 w2 x2 q2 y2 z2),r2⟩)
  (c2:W.codeIn K y2 "over" = true)
  (k_over':W.keepIn K (.ref f_over)=true)
  (a_below:W.nsIn K mainGlobals "below" = some (some (.ref f_below)))
  (l3:K.lookup f_below=some ⟨u3,p3,.func (W.fnOf "below" "below" (defArgs s_below) (defBody s_below) (defScope s_below) .none v3 w3 x3 q3 y3 z3),r3⟩)
  (c3:W.codeIn K y3 "below" = true)
  (k_below':W.keepIn K (.ref f_below)=true)
  (a_price:W.nsIn K mainGlobals "price" = some (some (.ref f_price)))
  (l4:K.lookup f_price=some ⟨u4,p4,.func (W.fnOf "price" "price" (defArgs s_price) (defBody s_price) (defScope s_price) .none v4 w4 x4 q4 y4 z4),r4⟩)
  (c4:W.codeIn K y4 "price" = true)
  (k_price':W.keepIn K (.ref f_price)=true)
  (a_Qb:W.nsIn K mainGlobals "cell_between" = some (some (.ref f_Qb)))
  (l5:K.lookup f_Qb=some ⟨u5,p5,.func (W.fnOf "cell_between" "cell_between" (defArgs s_Qb) (defBody s_Qb) (defScope s_Qb) .none v5 w5 x5 q5 y5 z5),r5⟩)
  (c5:W.codeIn K y5 "cell_between" = true)
  (k_Qb':W.keepIn K (.ref f_Qb)=true)
  (a_Qn:W.nsIn K mainGlobals "ends_of" = some (some (.ref f_Qn)))
  (l6:K.lookup f_Qn=some ⟨u6,p6,.func (W.fnOf "ends_of" "ends_of" (defArgs s_Qn) (defBody s_Qn) (defScope s_Qn) .none v6 w6 x6 q6 y6 z6),r6⟩)
  (c6:W.codeIn K y6 "ends_of" = true)
  (k_Qn':W.keepIn K (.ref f_Qn)=true)
  (a_Qo:W.nsIn K mainGlobals "bar_of" = some (some (.ref f_Qo)))
  (l7:K.lookup f_Qo=some ⟨u7,p7,.func (W.fnOf "bar_of" "bar_of" (defArgs s_Qo) (defBody s_Qo) (defScope s_Qo) .none v7 w7 x7 q7 y7 z7),r7⟩)
  (c7:W.codeIn K y7 "bar_of" = true)
  (k_Qo':W.keepIn K (.ref f_Qo)=true)
  (a_Qc:W.nsIn K mainGlobals "dealing_of" = some (some (.ref f_Qc)))
  (l8:K.lookup f_Qc=some ⟨u8,p8,.func (W.fnOf "dealing_of" "dealing_of" (defArgs s_Qc) (defBody s_Qc) (defScope s_Qc) .none v8 w8 x8 q8 y8 z8),r8⟩)
  (c8:W.codeIn K y8 "dealing_of" = true)
  (k_Qc':W.keepIn K (.ref f_Qc)=true)
  (a_woven:W.nsIn K mainGlobals "woven" = some (some (.ref f_woven)))
  (l9:K.lookup f_woven=some ⟨u9,p9,.func (W.fnOf "woven" "woven" (defArgs s_woven) (defBody s_woven) (defScope s_woven) .none v9 w9 x9 q9 y9 z9),r9⟩)
  (c9:W.codeIn K y9 "woven" = true)
  (k_woven':W.keepIn K (.ref f_woven)=true)
  (a_Qk:W.nsIn K mainGlobals "free_ways" = some (some (.ref f_Qk)))
  (l10:K.lookup f_Qk=some ⟨u10,p10,.func (W.fnOf "free_ways" "free_ways" (defArgs s_Qk) (defBody s_Qk) (defScope s_Qk) .none v10 w10 x10 q10 y10 z10),r10⟩)
  (c10:W.codeIn K y10 "free_ways" = true)
  (k_Qk':W.keepIn K (.ref f_Qk)=true)
  (a_Ql:W.nsIn K mainGlobals "free_from" = some (some (.ref f_Ql)))
  (l11:K.lookup f_Ql=some ⟨u11,p11,.func (W.fnOf "free_from" "free_from" (defArgs s_Ql) (defBody s_Ql) (defScope s_Ql) .none v11 w11 x11 q11 y11 z11),r11⟩)
  (c11:W.codeIn K y11 "free_from" = true)
  (k_Ql':W.keepIn K (.ref f_Ql)=true)
  (a_Qm:W.nsIn K mainGlobals "costs_just" = some (some (.ref f_Qm)))
  (l12:K.lookup f_Qm=some ⟨u12,p12,.func (W.fnOf "costs_just" "costs_just" (defArgs s_Qm) (defBody s_Qm) (defScope s_Qm) .none v12 w12 x12 q12 y12 z12),r12⟩)
  (c12:W.codeIn K y12 "costs_just" = true)
  (k_Qm':W.keepIn K (.ref f_Qm)=true)
  (a_ring:W.nsIn K mainGlobals "ring" = some (some (.ref f_ring)))
  (l13:K.lookup f_ring=some ⟨u13,p13,.func (W.fnOf "ring" "ring" (defArgs s_ring) (defBody s_ring) (defScope s_ring) .none v13 w13 x13 q13 y13 z13),r13⟩)
  (c13:W.codeIn K y13 "ring" = true)
  (k_ring':W.keepIn K (.ref f_ring)=true)
  (a_twin:W.nsIn K mainGlobals "twin" = some (some (.ref f_twin)))
  (l14:K.lookup f_twin=some ⟨u14,p14,.func (W.fnOf "twin" "twin" (defArgs s_twin) (defBody s_twin) (defScope s_twin) .none v14 w14 x14 q14 y14 z14),r14⟩)
  (c14:W.codeIn K y14 "twin" = true)
  (k_twin':W.keepIn K (.ref f_twin)=true)
  (a_Qd:W.nsIn K mainGlobals "is_whole_number" = some (some (.ref f_Qd)))
  (l15:K.lookup f_Qd=some ⟨u15,p15,.func (W.fnOf "is_whole_number" "is_whole_number" (defArgs s_Qd) (defBody s_Qd) (defScope s_Qd) .none v15 w15 x15 q15 y15 z15),r15⟩)
  (c15:W.codeIn K y15 "is_whole_number" = true)
  (k_Qd':W.keepIn K (.ref f_Qd)=true)
  (a_Qy:W.nsIn K mainGlobals "_law_cell_at" = some (some (.ref f_Qy)))
  (l16:K.lookup f_Qy=some ⟨u16,p16,.func (W.fnOf "_law_cell_at" "_law_cell_at" (defArgs s_Qy) (defBody s_Qy) (defScope s_Qy) .none v16 w16 x16 q16 y16 z16),r16⟩)
  (c16:W.codeIn K y16 "_law_cell_at" = true)
  (k_Qy':W.keepIn K (.ref f_Qy)=true)
  (a_QN:W.nsIn K mainGlobals "_law_draw" = some (some (.ref f_QN)))
  (l17:K.lookup f_QN=some ⟨u17,p17,.func (W.fnOf "_law_draw" "_law_draw" (defArgs s_QN) (defBody s_QN) (defScope s_QN) .none v17 w17 x17 q17 y17 z17),r17⟩)
  (c17:W.codeIn K y17 "_law_draw" = true)
  (k_QN':W.keepIn K (.ref f_QN)=true)
  (a_QB:W.nsIn K mainGlobals "_law_great" = some (some (.ref f_QB)))
  (l18:K.lookup f_QB=some ⟨u18,p18,.func (W.fnOf "_law_great" "_law_great" (defArgs s_QB) (defBody s_QB) (defScope s_QB) .none v18 w18 x18 q18 y18 z18),r18⟩)
  (c18:W.codeIn K y18 "_law_great" = true)
  (k_QB':W.keepIn K (.ref f_QB)=true)
  (a_QK:W.nsIn K mainGlobals "_law_rule" = some (some (.ref f_QK)))
  (l19:K.lookup f_QK=some ⟨u19,p19,.func (W.fnOf "_law_rule" "_law_rule" (defArgs s_QK) (defBody s_QK) (defScope s_QK) .none v19 w19 x19 q19 y19 z19),r19⟩)
  (c19:W.codeIn K y19 "_law_rule" = true)
  (k_QK':W.keepIn K (.ref f_QK)=true)
  (a_QL:W.nsIn K mainGlobals "_law_vote" = some (some (.ref f_QL)))
  (l20:K.lookup f_QL=some ⟨u20,p20,.func (W.fnOf "_law_vote" "_law_vote" (defArgs s_QL) (defBody s_QL) (defScope s_QL) .none v20 w20 x20 q20 y20 z20),r20⟩)
  (c20:W.codeIn K y20 "_law_vote" = true)
  (k_QL':W.keepIn K (.ref f_QL)=true)
  (a_QM:W.nsIn K mainGlobals "_law_size" = some (some (.ref f_QM)))
  (l21:K.lookup f_QM=some ⟨u21,p21,.func (W.fnOf "_law_size" "_law_size" (defArgs s_QM) (defBody s_QM) (defScope s_QM) .none v21 w21 x21 q21 y21 z21),r21⟩)
  (c21:W.codeIn K y21 "_law_size" = true)
  (k_QM':W.keepIn K (.ref f_QM)=true)
  (a_Qz:W.nsIn K mainGlobals "_law_table" = some (some (.ref f_Qz)))
  (l22:K.lookup f_Qz=some ⟨u22,p22,.func (W.fnOf "_law_table" "_law_table" (defArgs s_Qz) (defBody s_Qz) (defScope s_Qz) .none v22 w22 x22 q22 y22 z22),r22⟩)
  (c22:W.codeIn K y22 "_law_table" = true)
  (k_Qz':W.keepIn K (.ref f_Qz)=true)
  (a_QG:W.nsIn K mainGlobals "_law_fits" = some (some (.ref f_QG)))
  (l23:K.lookup f_QG=some ⟨u23,p23,.func (W.fnOf "_law_fits" "_law_fits" (defArgs s_QG) (defBody s_QG) (defScope s_QG) .none v23 w23 x23 q23 y23 z23),r23⟩)
  (c23:W.codeIn K y23 "_law_fits" = true)
  (k_QG':W.keepIn K (.ref f_QG)=true)
  (a_QH:W.nsIn K mainGlobals "_law_ways" = some (some (.ref f_QH)))
  (l24:K.lookup f_QH=some ⟨u24,p24,.func (W.fnOf "_law_ways" "_law_ways" (defArgs s_QH) (defBody s_QH) (defScope s_QH) .none v24 w24 x24 q24 y24 z24),r24⟩)
  (c24:W.codeIn K y24 "_law_ways" = true)
  (k_QH':W.keepIn K (.ref f_QH)=true)
  (a_QI:W.nsIn K mainGlobals "_law_ring" = some (some (.ref f_QI)))
  (l25:K.lookup f_QI=some ⟨u25,p25,.func (W.fnOf "_law_ring" "_law_ring" (defArgs s_QI) (defBody s_QI) (defScope s_QI) .none v25 w25 x25 q25 y25 z25),r25⟩)
  (c25:W.codeIn K y25 "_law_ring" = true)
  (k_QI':W.keepIn K (.ref f_QI)=true)
  (a_QA:W.nsIn K mainGlobals "_law_least" = some (some (.ref f_QA)))
  (l26:K.lookup f_QA=some ⟨u26,p26,.func (W.fnOf "_law_least" "_law_least" (defArgs s_QA) (defBody s_QA) (defScope s_QA) .none v26 w26 x26 q26 y26 z26),r26⟩)
  (c26:W.codeIn K y26 "_law_least" = true)
  (k_QA':W.keepIn K (.ref f_QA)=true)
  (a_QJ:W.nsIn K mainGlobals "_law_same" = some (some (.ref f_QJ)))
  (l27:K.lookup f_QJ=some ⟨u27,p27,.func (W.fnOf "_law_same" "_law_same" (defArgs s_QJ) (defBody s_QJ) (defScope s_QJ) .none v27 w27 x27 q27 y27 z27),r27⟩)
  (c27:W.codeIn K y27 "_law_same" = true)
  (k_QJ':W.keepIn K (.ref f_QJ)=true)
  (a_Qe:W.nsIn K mainGlobals "_law_scaled_right" = some (some (.ref f_Qe)))
  (l28:K.lookup f_Qe=some ⟨u28,p28,.func (W.fnOf "_law_scaled_right" "_law_scaled_right" (defArgs s_Qe) (defBody s_Qe) (defScope s_Qe) .none v28 w28 x28 q28 y28 z28),r28⟩)
  (c28:W.codeIn K y28 "_law_scaled_right" = true)
  (k_Qe':W.keepIn K (.ref f_Qe)=true)
  (a_Qp:W.nsIn K mainGlobals "_law_barred" = some (some (.ref f_Qp)))
  (l29:K.lookup f_Qp=some ⟨u29,p29,.func (W.fnOf "_law_barred" "_law_barred" (defArgs s_Qp) (defBody s_Qp) (defScope s_Qp) .none v29 w29 x29 q29 y29 z29),r29⟩)
  (c29:W.codeIn K y29 "_law_barred" = true)
  (k_Qp':W.keepIn K (.ref f_Qp)=true)
  (a_law:W.nsIn K mainGlobals "law" = some (some (.ref f_law)))
  (l30:K.lookup f_law=some ⟨u30,p30,.func (W.fnOf "law" "law" (defArgs s_law) (defBody s_law) (defScope s_law) .none v30 w30 x30 q30 y30 z30),r30⟩)
  (c30:W.codeIn K y30 "law" = true)
  (k_law':W.keepIn K (.ref f_law)=true)
  (a_Qq:W.findIn K (.ref c_Net) "__init__" = some (some (.ref f_Qq)))
  (i_Qq:W.isFn K (.ref f_Qq)=true)
  (l31:K.lookup f_Qq=some ⟨u31,p31,.func (W.fnOf "__init__" "Net.__init__" (defArgs s_Qq) (defBody s_Qq) (defScope s_Qq) .none v31 w31 x31 q31 y31 z31),r31⟩)
  (c31:W.codeIn K y31 "Net.__init__" = true)
  (k_Qq':W.keepIn K (.ref f_Qq)=true)
  (a_Qr:W.findIn K (.ref c_Net) "lay" = some (some (.ref f_Qr)))
  (i_Qr:W.isFn K (.ref f_Qr)=true)
  (l32:K.lookup f_Qr=some ⟨u32,p32,.func (W.fnOf "lay" "Net.lay" (defArgs s_Qr) (defBody s_Qr) (defScope s_Qr) .none v32 w32 x32 q32 y32 z32),r32⟩)
  (c32:W.codeIn K y32 "Net.lay" = true)
  (k_Qr':W.keepIn K (.ref f_Qr)=true)
  (a_Qs:W.findIn K (.ref c_Net) "move" = some (some (.ref f_Qs)))
  (i_Qs:W.isFn K (.ref f_Qs)=true)
  (l33:K.lookup f_Qs=some ⟨u33,p33,.func (W.fnOf "move" "Net.move" (defArgs s_Qs) (defBody s_Qs) (defScope s_Qs) .none v33 w33 x33 q33 y33 z33),r33⟩)
  (c33:W.codeIn K y33 "Net.move" = true)
  (k_Qs':W.keepIn K (.ref f_Qs)=true)
  (a_Qh:W.findIn K (.ref c_Reach) "__init__" = some (some (.ref f_Qh)))
  (i_Qh:W.isFn K (.ref f_Qh)=true)
  (l34:K.lookup f_Qh=some ⟨u34,p34,.func (W.fnOf "__init__" "Reach.__init__" (defArgs s_Qh) (defBody s_Qh) (defScope s_Qh) .none v34 w34 x34 q34 y34 z34),r34⟩)
  (c34:W.codeIn K y34 "Reach.__init__" = true)
  (k_Qh':W.keepIn K (.ref f_Qh)=true)
  (a_Qg:W.findIn K (.ref c_Reach) "go_on" = some (some (.ref f_Qg)))
  (i_Qg:W.isFn K (.ref f_Qg)=true)
  (l35:K.lookup f_Qg=some ⟨u35,p35,.func (W.fnOf "go_on" "Reach.go_on" (defArgs s_Qg) (defBody s_Qg) (defScope s_Qg) .none v35 w35 x35 q35 y35 z35),r35⟩)
  (c35:W.codeIn K y35 "Reach.go_on" = true)
  (k_Qg':W.keepIn K (.ref f_Qg)=true)
  (a_Qf:W.findIn K (.ref c_Reach) "path_to" = some (some (.ref f_Qf)))
  (i_Qf:W.isFn K (.ref f_Qf)=true)
  (l36:K.lookup f_Qf=some ⟨u36,p36,.func (W.fnOf "path_to" "Reach.path_to" (defArgs s_Qf) (defBody s_Qf) (defScope s_Qf) .none v36 w36 x36 q36 y36 z36),r36⟩)
  (c36:W.codeIn K y36 "Reach.path_to" = true)
  (k_Qf':W.keepIn K (.ref f_Qf)=true)
  (a_Qi:W.findIn K (.ref c_QC) "__init__" = some (some (.ref f_Qi)))
  (i_Qi:W.isFn K (.ref f_Qi)=true)
  (l37:K.lookup f_Qi=some ⟨u37,p37,.func (W.fnOf "__init__" "Dealing.__init__" (defArgs s_Qi) (defBody s_Qi) (defScope s_Qi) .none v37 w37 x37 q37 y37 z37),r37⟩)
  (c37:W.codeIn K y37 "Dealing.__init__" = true)
  (k_Qi':W.keepIn K (.ref f_Qi)=true)
  (a_Qt:W.findIn K (.ref c_Bar) "__init__" = some (some (.ref f_Qt)))
  (i_Qt:W.isFn K (.ref f_Qt)=true)
  (l38:K.lookup f_Qt=some ⟨u38,p38,.func (W.fnOf "__init__" "Bar.__init__" (defArgs s_Qt) (defBody s_Qt) (defScope s_Qt) .none v38 w38 x38 q38 y38 z38),r38⟩)
  (c38:W.codeIn K y38 "Bar.__init__" = true)
  (k_Qt':W.keepIn K (.ref f_Qt)=true)
  (a_Qu:W.findIn K (.ref c_Rule) "__init__" = some (some (.ref f_Qu)))
  (i_Qu:W.isFn K (.ref f_Qu)=true)
  (l39:K.lookup f_Qu=some ⟨u39,p39,.func (W.fnOf "__init__" "Rule.__init__" (defArgs s_Qu) (defBody s_Qu) (defScope s_Qu) .none v39 w39 x39 q39 y39 z39),r39⟩)
  (c39:W.codeIn K y39 "Rule.__init__" = true)
  (k_Qu':W.keepIn K (.ref f_Qu)=true)
  (a_Qv:W.findIn K (.ref c_Rule) "mark" = some (some (.ref f_Qv)))
  (i_Qv:W.isFn K (.ref f_Qv)=true)
  (l40:K.lookup f_Qv=some ⟨u40,p40,.func (W.fnOf "mark" "Rule.mark" (defArgs s_Qv) (defBody s_Qv) (defScope s_Qv) .none v40 w40 x40 q40 y40 z40),r40⟩)
  (c40:W.codeIn K y40 "Rule.mark" = true)
  (k_Qv':W.keepIn K (.ref f_Qv)=true)
  (a_Qw:W.findIn K (.ref c_Down) "__init__" = some (some (.ref f_Qw)))
  (i_Qw:W.isFn K (.ref f_Qw)=true)
  (l41:K.lookup f_Qw=some ⟨u41,p41,.func (W.fnOf "__init__" "Down.__init__" (defArgs s_Qw) (defBody s_Qw) (defScope s_Qw) .none v41 w41 x41 q41 y41 z41),r41⟩)
  (c41:W.codeIn K y41 "Down.__init__" = true)
  (k_Qw':W.keepIn K (.ref f_Qw)=true)
  (a_Qx:W.findIn K (.ref c_Half) "__init__" = some (some (.ref f_Qx)))
  (i_Qx:W.isFn K (.ref f_Qx)=true)
  (l42:K.lookup f_Qx=some ⟨u42,p42,.func (W.fnOf "__init__" "Half.__init__" (defArgs s_Qx) (defBody s_Qx) (defScope s_Qx) .none v42 w42 x42 q42 y42 z42),r42⟩)
  (c42:W.codeIn K y42 "Half.__init__" = true)
  (k_Qx':W.keepIn K (.ref f_Qx)=true)
  (a_Qj:W.findIn K (.ref c_QD) "__init__" = some (some (.ref f_Qj)))
  (i_Qj:W.isFn K (.ref f_Qj)=true)
  (l43:K.lookup f_Qj=some ⟨u43,p43,.func (W.fnOf "__init__" "Between.__init__" (defArgs s_Qj) (defBody s_Qj) (defScope s_Qj) .none v43 w43 x43 q43 y43 z43),r43⟩)
  (c43:W.codeIn K y43 "Between.__init__" = true)
  (k_Qj':W.keepIn K (.ref f_Qj)=true)
  (z_isinstance:W.nsIn K mainGlobals "isinstance" = some none)
  (z_int:W.nsIn K mainGlobals "int" = some none)
  (z_bool:W.nsIn K mainGlobals "bool" = some none)
  (z_list:W.nsIn K mainGlobals "list" = some none)
  (z_len:W.nsIn K mainGlobals "len" = some none)
  (z_min:W.nsIn K mainGlobals "min" = some none)
  (z_range:W.nsIn K mainGlobals "range" = some none)
  (z_sum:W.nsIn K mainGlobals "sum" = some none)
  (z_any:W.nsIn K mainGlobals "any" = some none)
  (z_sorted:W.nsIn K mainGlobals "sorted" = some none)
  (z_set:W.nsIn K mainGlobals "set" = some none)
  (g_GREATEST_Q:W.nsIn K mainGlobals "GREATEST_Q" = some (some (.int 1000 tk_GREATEST_Q)))
  (ga_Rule:W.specialIn K (.ref c_Rule) "__getattribute__" = some (some (.builtin "type.__getattribute__")))
  (rd_Rule:W.readsIn K c_Rule (.type "type")=true)
  (fn_Qu:W.findCls K (.ref c_Rule) (.type "type") "__init__" = some (.val (.ref f_Qu)))
  (pg_Down:W.plainGet K c_Down Str.empty=true)
  (hd_Down:W.hasDictIn K c_Down=true)
  (po_Down:W.plainOver K c_Down=true)
  (sa_Down:W.findIn K (.ref c_Down) "__setattr__" = some (some (.builtin "object.__setattr__")))
  (mk_Down:W.makesIn K c_Down=true)
  (kc_Down:W.keepIn K (.ref c_Down)=true)
  (hn:W.specialIn K (.builtin "object.__class__") "__get__" = some (some (.builtin "getset_descriptor.__get__")))
  (tk:W.takesIn K (.builtin "object.__class__")=some true)
  (ha_Down:W.findIn K (.ref c_Down) "__class__" = some (some (.builtin "object.__class__")))
  (ob_Down:W.mroIn K c_Down (.type "object")=some true)
  (na_Down_whole:W.findIn K (.ref c_Down) "whole" = some none)
  (mt_Down_mark:W.findIn K (.ref c_Down) "mark" = some (some (.ref f_Qv)))
  (pg_Half:W.plainGet K c_Half Str.empty=true)
  (hd_Half:W.hasDictIn K c_Half=true)
  (po_Half:W.plainOver K c_Half=true)
  (sa_Half:W.findIn K (.ref c_Half) "__setattr__" = some (some (.builtin "object.__setattr__")))
  (mk_Half:W.makesIn K c_Half=true)
  (kc_Half:W.keepIn K (.ref c_Half)=true)
  (ha_Half:W.findIn K (.ref c_Half) "__class__" = some (some (.builtin "object.__class__")))
  (ob_Half:W.mroIn K c_Half (.type "object")=some true)
  (na_Half_whole:W.findIn K (.ref c_Half) "whole" = some none)
  (mt_Half_mark:W.findIn K (.ref c_Half) "mark" = some (some (.ref f_Qv)))
  (pg_QD:W.plainGet K c_QD Str.empty=true)
  (hd_QD:W.hasDictIn K c_QD=true)
  (po_QD:W.plainOver K c_QD=true)
  (sa_QD:W.findIn K (.ref c_QD) "__setattr__" = some (some (.builtin "object.__setattr__")))
  (mk_QD:W.makesIn K c_QD=true)
  (kc_QD:W.keepIn K (.ref c_QD)=true)
  (ha_QD:W.findIn K (.ref c_QD) "__class__" = some (some (.builtin "object.__class__")))
  (ob_QD:W.mroIn K c_QD (.type "object")=some true)
  (na_QD_whole:W.findIn K (.ref c_QD) "whole" = some none)
  (mt_QD_mark:W.findIn K (.ref c_QD) "mark" = some (some (.ref f_Qv)))
  (x_QE:W.excIn K c_QE bmV "ValueError.__new__" = true)
  (pg_Net:W.plainGet K c_Net Str.empty=true)
  (hd_Net:W.hasDictIn K c_Net=true)
  (po_Net:W.plainOver K c_Net=true)
  (sa_Net:W.findIn K (.ref c_Net) "__setattr__" = some (some (.builtin "object.__setattr__")))
  (mk_Net:W.makesIn K c_Net=true)
  (kc_Net:W.keepIn K (.ref c_Net)=true)
  (na_Net_votes:W.findIn K (.ref c_Net) "votes" = some none)
  (na_Net_rule:W.findIn K (.ref c_Net) "rule" = some none)
  (na_Net_height:W.findIn K (.ref c_Net) "height" = some none)
  (na_Net_seats:W.findIn K (.ref c_Net) "seats" = some none)
  (na_Net_ways:W.findIn K (.ref c_Net) "ways" = some none)
  (mt_Qr:W.findIn K (.ref c_Net) "lay" = some (some (.ref f_Qr)))
  (mt_Qs:W.findIn K (.ref c_Net) "move" = some (some (.ref f_Qs)))
  (pg_Reach:W.plainGet K c_Reach Str.empty=true)
  (hd_Reach:W.hasDictIn K c_Reach=true)
  (po_Reach:W.plainOver K c_Reach=true)
  (sa_Reach:W.findIn K (.ref c_Reach) "__setattr__" = some (some (.builtin "object.__setattr__")))
  (mk_Reach:W.makesIn K c_Reach=true)
  (kc_Reach:W.keepIn K (.ref c_Reach)=true)
  (na_Reach_costs:W.findIn K (.ref c_Reach) "costs" = some none)
  (na_Reach_ahead:W.findIn K (.ref c_Reach) "ahead" = some none)
  (mt_Qg:W.findIn K (.ref c_Reach) "go_on" = some (some (.ref f_Qg)))
  (mt_Qf:W.findIn K (.ref c_Reach) "path_to" = some (some (.ref f_Qf)))
  (pg_QC:W.plainGet K c_QC Str.empty=true)
  (hd_QC:W.hasDictIn K c_QC=true)
  (po_QC:W.plainOver K c_QC=true)
  (sa_QC:W.findIn K (.ref c_QC) "__setattr__" = some (some (.builtin "object.__setattr__")))
  (mk_QC:W.makesIn K c_QC=true)
  (kc_QC:W.keepIn K (.ref c_QC)=true)
  (na_QC_seats:W.findIn K (.ref c_QC) "seats" = some none)
  (na_QC_rows:W.findIn K (.ref c_QC) "rows" = some none)
  (na_QC_columns:W.findIn K (.ref c_QC) "columns" = some none)
  (ha_QC:W.findIn K (.ref c_QC) "__class__" = some (some (.builtin "object.__class__")))
  (ob_QC:W.mroIn K c_QC (.type "object")=some true)
  (pg_Bar:W.plainGet K c_Bar Str.empty=true)
  (hd_Bar:W.hasDictIn K c_Bar=true)
  (po_Bar:W.plainOver K c_Bar=true)
  (sa_Bar:W.findIn K (.ref c_Bar) "__setattr__" = some (some (.builtin "object.__setattr__")))
  (mk_Bar:W.makesIn K c_Bar=true)
  (kc_Bar:W.keepIn K (.ref c_Bar)=true)
  (na_Bar_rows:W.findIn K (.ref c_Bar) "rows" = some none)
  (na_Bar_columns:W.findIn K (.ref c_Bar) "columns" = some none)
  (ha_Bar:W.findIn K (.ref c_Bar) "__class__" = some (some (.builtin "object.__class__")))
  (ob_Bar:W.mroIn K c_Bar (.type "object")=some true)
  (k_QC_QC:W.kitOne K (.ref c_QC) (.ref c_QC)=some true)
  (k_Bar_QC:W.kitOne K (.ref c_Bar) (.ref c_QC)=some false)
  (k_Bar_Bar:W.kitOne K (.ref c_Bar) (.ref c_Bar)=some true)
  : ∃T:Txt K mg,mg "law" = some (.ref T.a_law)/\∀(s:Shared) (v:Value),BindsTo s T.fd_law ⟨[v],[]⟩ [("_law_script",v)]:=by
 have F_Qa:=fun_mk (st:=s_Qa) l0 c0 k_Qa'
 have b_Qa:=F_Qa.binds (ps:=["a","b"]) fun _ _ _ _ _ _=>A2 fun _ _=>rfl
 have F_ratio:=fun_mk (st:=s_ratio) l1 c1 k_ratio'
 have b_ratio:=F_ratio.binds (ps:=["a","b"]) fun _ _ _ _ _ _=>A2 fun _ _=>rfl
 have F_over:=fun_mk (st:=s_over) l2 c2 k_over'
 have b_over:=F_over.binds (ps:=["one","other"]) fun _ _ _ _ _ _=>A2 fun _ _=>rfl
 have F_below:=fun_mk (st:=s_below) l3 c3 k_below'
 have b_below:=F_below.binds (ps:=["one","other"]) fun _ _ _ _ _ _=>A2 fun _ _=>rfl
 have F_price:=fun_mk (st:=s_price) l4 c4 k_price'
 have b_price:=F_price.binds (ps:=["number","n","rule"]) fun _ _ _ _ _ _=>A3 fun _ _ _=>rfl
 have F_Qb:=fun_mk (st:=s_Qb) l5 c5 k_Qb'
 have b_Qb:=F_Qb.binds (ps:=["one","other","height"]) fun _ _ _ _ _ _=>A3 fun _ _ _=>rfl
 have F_Qn:=fun_mk (st:=s_Qn) l6 c6 k_Qn'
 have b_Qn:=F_Qn.binds (ps:=["reach","left","height"]) fun _ _ _ _ _ _=>A3 fun _ _ _=>rfl
 have F_Qo:=fun_mk (st:=s_Qo) l7 c7 k_Qo'
 have b_Qo:=F_Qo.binds (ps:=["reach","height"]) fun _ _ _ _ _ _=>A2 fun _ _=>rfl
 have F_Qc:=fun_mk (st:=s_Qc) l8 c8 k_Qc'
 have b_Qc:=F_Qc.binds (ps:=["net"]) fun _ _ _ _ _ _=>A1 fun _=>rfl
 have F_woven:=fun_mk (st:=s_woven) l9 c9 k_woven'
 have b_woven:=F_woven.binds (ps:=["votes","places","parties","rule"]) fun _ _ _ _ _ _=>A4 fun _ _ _ _=>rfl
 have F_Qk:=fun_mk (st:=s_Qk) l10 c10 k_Qk'
 have b_Qk:=F_Qk.binds (ps:=["net","dealing"]) fun _ _ _ _ _ _=>A2 fun _ _=>rfl
 have F_Ql:=fun_mk (st:=s_Ql) l11 c11 k_Ql'
 have b_Ql:=F_Ql.binds (ps:=["node","ways","levels"]) fun _ _ _ _ _ _=>A3 fun _ _ _=>rfl
 have F_Qm:=fun_mk (st:=s_Qm) l12 c12 k_Qm'
 have b_Qm:=F_Qm.binds (ps:=["cost","start","end"]) fun _ _ _ _ _ _=>A3 fun _ _ _=>rfl
 have F_ring:=fun_mk (st:=s_ring) l13 c13 k_ring'
 have b_ring:=F_ring.binds (ps:=["ways"]) fun _ _ _ _ _ _=>A1 fun _=>rfl
 have F_twin:=fun_mk (st:=s_twin) l14 c14 k_twin'
 have b_twin:=F_twin.binds (ps:=["votes","dealing","rule"]) fun _ _ _ _ _ _=>A3 fun _ _ _=>rfl
 have F_Qd:=fun_mk (st:=s_Qd) l15 c15 k_Qd'
 have b_Qd:=F_Qd.binds (ps:=["value"]) fun _ _ _ _ _ _=>A1 fun _=>rfl
 have F_Qy:=fun_mk (st:=s_Qy) l16 c16 k_Qy'
 have b_Qy:=F_Qy.binds (ps:=["_law_script","_law_k"]) fun _ _ _ _ _ _=>A2 fun _ _=>rfl
 have F_QN:=fun_mk (st:=s_QN) l17 c17 k_QN'
 have b_QN:=F_QN.binds (ps:=["_law_cell","_law_k","_law_many"]) fun _ _ _ _ _ _=>A3 fun _ _ _=>rfl
 have F_QB:=fun_mk (st:=s_QB) l18 c18 k_QB'
 have b_QB:=F_QB.binds (ps:=["_law_cell","_law_k","_law_most"]) fun _ _ _ _ _ _=>A3 fun _ _ _=>rfl
 have F_QK:=fun_mk (st:=s_QK) l19 c19 k_QK'
 have b_QK:=F_QK.binds (ps:=["_law_cell"]) fun _ _ _ _ _ _=>A1 fun _=>rfl
 have F_QL:=fun_mk (st:=s_QL) l20 c20 k_QL'
 have b_QL:=F_QL.binds (ps:=["_law_cell"]) fun _ _ _ _ _ _=>A1 fun _=>rfl
 have F_QM:=fun_mk (st:=s_QM) l21 c21 k_QM'
 have b_QM:=F_QM.binds (ps:=["_law_cell","_law_k"]) fun _ _ _ _ _ _=>A2 fun _ _=>rfl
 have F_Qz:=fun_mk (st:=s_Qz) l22 c22 k_Qz'
 have b_Qz:=F_Qz.binds (ps:=["_law_script"]) fun _ _ _ _ _ _=>A1 fun _=>rfl
 have F_QG:=fun_mk (st:=s_QG) l23 c23 k_QG'
 have b_QG:=F_QG.binds (ps:=["_law_top","_law_low","_law_part","_law_n"]) fun _ _ _ _ _ _=>A4 fun _ _ _ _=>rfl
 have F_QH:=fun_mk (st:=s_QH) l24 c24 k_QH'
 have b_QH:=F_QH.binds (ps:=["_law_votes","_law_seats","_law_told","_law_part","_law_i","_law_by"]) fun _ _ _ _ _ _=>A6 fun _ _ _ _ _ _=>rfl
 have F_QI:=fun_mk (st:=s_QI) l25 c25 k_QI'
 have b_QI:=F_QI.binds (ps:=["_law_votes","_law_told","_law_part"]) fun _ _ _ _ _ _=>A3 fun _ _ _=>rfl
 have F_QA:=fun_mk (st:=s_QA) l26 c26 k_QA'
 have b_QA:=F_QA.binds (ps:=["_law_one","_law_other"]) fun _ _ _ _ _ _=>A2 fun _ _=>rfl
 have F_QJ:=fun_mk (st:=s_QJ) l27 c27 k_QJ'
 have b_QJ:=F_QJ.binds (ps:=["_law_votes","_law_one","_law_two","_law_part"]) fun _ _ _ _ _ _=>A4 fun _ _ _ _=>rfl
 have F_Qe:=fun_mk (st:=s_Qe) l28 c28 k_Qe'
 have b_Qe:=F_Qe.binds (ps:=["_law_votes","_law_kept","_law_rule_here","_law_part"]) fun _ _ _ _ _ _=>A4 fun _ _ _ _=>rfl
 have F_Qp:=fun_mk (st:=s_Qp) l29 c29 k_Qp'
 have b_Qp:=F_Qp.binds (ps:=["_law_votes","_law_places","_law_parties","_law_rows","_law_columns"]) fun _ _ _ _ _ _=>A5 fun _ _ _ _ _=>rfl
 have F_law:=fun_mk (st:=s_law) l30 c30 k_law'
 have F_Qq:=fun_mk (st:=s_Qq) l31 c31 k_Qq'
 have b_Qq:=F_Qq.binds (ps:=["self","votes","seats","width","rule"]) fun _ _ _ _ _ _=>A5 fun _ _ _ _ _=>rfl
 have F_Qr:=fun_mk (st:=s_Qr) l32 c32 k_Qr'
 have b_Qr:=F_Qr.binds (ps:=["self","i","j"]) fun _ _ _ _ _ _=>A3 fun _ _ _=>rfl
 have F_Qs:=fun_mk (st:=s_Qs) l33 c33 k_Qs'
 have b_Qs:=F_Qs.binds (ps:=["self","path"]) fun _ _ _ _ _ _=>A2 fun _ _=>rfl
 have F_Qh:=fun_mk (st:=s_Qh) l34 c34 k_Qh'
 have b_Qh:=F_Qh.binds (ps:=["self","starts","ways"]) fun _ _ _ _ _ _=>A3 fun _ _ _=>rfl
 have F_Qg:=fun_mk (st:=s_Qg) l35 c35 k_Qg'
 have b_Qg:=F_Qg.binds (ps:=["self","node","ways"]) fun _ _ _ _ _ _=>A3 fun _ _ _=>rfl
 have F_Qf:=fun_mk (st:=s_Qf) l36 c36 k_Qf'
 have b_Qf:=F_Qf.binds (ps:=["self","node"]) fun _ _ _ _ _ _=>A2 fun _ _=>rfl
 have F_Qi:=fun_mk (st:=s_Qi) l37 c37 k_Qi'
 have b_Qi:=F_Qi.binds (ps:=["self","seats","rows","columns"]) fun _ _ _ _ _ _=>A4 fun _ _ _ _=>rfl
 have F_Qt:=fun_mk (st:=s_Qt) l38 c38 k_Qt'
 have b_Qt:=F_Qt.binds (ps:=["self","rows","columns"]) fun _ _ _ _ _ _=>A3 fun _ _ _=>rfl
 have F_Qu:=fun_mk (st:=s_Qu) l39 c39 k_Qu'
 have b_Qu:=F_Qu.binds (ps:=["self","whole"]) fun _ _ _ _ _ _=>A2 fun _ _=>rfl
 have F_Qv:=fun_mk (st:=s_Qv) l40 c40 k_Qv'
 have b_Qv:=F_Qv.binds (ps:=["self","n"]) fun _ _ _ _ _ _=>A2 fun _ _=>rfl
 have F_Qw:=fun_mk (st:=s_Qw) l41 c41 k_Qw'
 have b_Qw:=F_Qw.binds (ps:=["self"]) fun _ _ _ _ _ _=>A1 fun _=>rfl
 have F_Qx:=fun_mk (st:=s_Qx) l42 c42 k_Qx'
 have b_Qx:=F_Qx.binds (ps:=["self"]) fun _ _ _ _ _ _=>A1 fun _=>rfl
 have F_Qj:=fun_mk (st:=s_Qj) l43 c43 k_Qj'
 have b_Qj:=F_Qj.binds (ps:=["self","p","q"]) fun _ _ _ _ _ _=>A3 fun _ _ _=>rfl
 exact ⟨{ c_Net:=c_Net,m_Net:=W.mg_of X G m_Net,c_Reach:=c_Reach,m_Reach:=W.mg_of X G m_Reach,c_Answer:=c_Answer,m_Answer:=W.mg_of X G m_Answer,c_QC:=c_QC,m_QC:=W.mg_of X G m_QC,c_Bar:=c_Bar,m_Bar:=W.mg_of X G m_Bar,c_Rule:=c_Rule,m_Rule:=W.mg_of X G m_Rule,c_Down:=c_Down,m_Down:=W.mg_of X G m_Down,c_Half:=c_Half,m_Half:=W.mg_of X G m_Half,c_QD:=c_QD,m_QD:=W.mg_of X G m_QD,c_QF:=c_QF,m_QF:=W.mg_of X G m_QF,c_QE:=c_QE,m_QE:=W.mg_of X G m_QE,a_Qa:=f_Qa,fd_Qa:=_,F_Qa:=F_Qa,b_Qa:=b_Qa,m_Qa:=W.mg_of X G a_Qa,a_ratio:=f_ratio,fd_ratio:=_,F_ratio:=F_ratio,b_ratio:=b_ratio,m_ratio:=W.mg_of X G a_ratio,a_over:=f_over,fd_over:=_,F_over:=F_over,b_over:=b_over,m_over:=W.mg_of X G a_over,a_below:=f_below,fd_below:=_,F_below:=F_below,b_below:=b_below,m_below:=W.mg_of X G a_below,a_price:=f_price,fd_price:=_,F_price:=F_price,b_price:=b_price,m_price:=W.mg_of X G a_price,a_Qb:=f_Qb,fd_Qb:=_,F_Qb:=F_Qb,b_Qb:=b_Qb,m_Qb:=W.mg_of X G a_Qb,a_Qn:=f_Qn,fd_Qn:=_,F_Qn:=F_Qn,b_Qn:=b_Qn,m_Qn:=W.mg_of X G a_Qn,a_Qo:=f_Qo,fd_Qo:=_,F_Qo:=F_Qo,b_Qo:=b_Qo,m_Qo:=W.mg_of X G a_Qo,a_Qc:=f_Qc,fd_Qc:=_,F_Qc:=F_Qc,b_Qc:=b_Qc,m_Qc:=W.mg_of X G a_Qc,a_woven:=f_woven,fd_woven:=_,F_woven:=F_woven,b_woven:=b_woven,m_woven:=W.mg_of X G a_woven,a_Qk:=f_Qk,fd_Qk:=_,F_Qk:=F_Qk,b_Qk:=b_Qk,m_Qk:=W.mg_of X G a_Qk,a_Ql:=f_Ql,fd_Ql:=_,F_Ql:=F_Ql,b_Ql:=b_Ql,m_Ql:=W.mg_of X G a_Ql,a_Qm:=f_Qm,fd_Qm:=_,F_Qm:=F_Qm,b_Qm:=b_Qm,m_Qm:=W.mg_of X G a_Qm,a_ring:=f_ring,fd_ring:=_,F_ring:=F_ring,b_ring:=b_ring,m_ring:=W.mg_of X G a_ring,a_twin:=f_twin,fd_twin:=_,F_twin:=F_twin,b_twin:=b_twin,m_twin:=W.mg_of X G a_twin,a_Qd:=f_Qd,fd_Qd:=_,F_Qd:=F_Qd,b_Qd:=b_Qd,m_Qd:=W.mg_of X G a_Qd,a_Qy:=f_Qy,fd_Qy:=_,F_Qy:=F_Qy,b_Qy:=b_Qy,m_Qy:=W.mg_of X G a_Qy,a_QN:=f_QN,fd_QN:=_,F_QN:=F_QN,b_QN:=b_QN,m_QN:=W.mg_of X G a_QN,a_QB:=f_QB,fd_QB:=_,F_QB:=F_QB,b_QB:=b_QB,m_QB:=W.mg_of X G a_QB,a_QK:=f_QK,fd_QK:=_,F_QK:=F_QK,b_QK:=b_QK,m_QK:=W.mg_of X G a_QK,a_QL:=f_QL,fd_QL:=_,F_QL:=F_QL,b_QL:=b_QL,m_QL:=W.mg_of X G a_QL,a_QM:=f_QM,fd_QM:=_,F_QM:=F_QM,b_QM:=b_QM,m_QM:=W.mg_of X G a_QM,a_Qz:=f_Qz,fd_Qz:=_,F_Qz:=F_Qz,b_Qz:=b_Qz,m_Qz:=W.mg_of X G a_Qz,a_QG:=f_QG,fd_QG:=_,F_QG:=F_QG,b_QG:=b_QG,m_QG:=W.mg_of X G a_QG,a_QH:=f_QH,fd_QH:=_,F_QH:=F_QH,b_QH:=b_QH,m_QH:=W.mg_of X G a_QH,a_QI:=f_QI,fd_QI:=_,F_QI:=F_QI,b_QI:=b_QI,m_QI:=W.mg_of X G a_QI,a_QA:=f_QA,fd_QA:=_,F_QA:=F_QA,b_QA:=b_QA,m_QA:=W.mg_of X G a_QA,a_QJ:=f_QJ,fd_QJ:=_,F_QJ:=F_QJ,b_QJ:=b_QJ,m_QJ:=W.mg_of X G a_QJ,a_Qe:=f_Qe,fd_Qe:=_,F_Qe:=F_Qe,b_Qe:=b_Qe,m_Qe:=W.mg_of X G a_Qe,a_Qp:=f_Qp,fd_Qp:=_,F_Qp:=F_Qp,b_Qp:=b_Qp,m_Qp:=W.mg_of X G a_Qp,a_law:=f_law,fd_law:=_,F_law:=F_law,a_Qq:=f_Qq,fd_Qq:=_,F_Qq:=F_Qq,b_Qq:=b_Qq,a_Qr:=f_Qr,fd_Qr:=_,F_Qr:=F_Qr,b_Qr:=b_Qr,a_Qs:=f_Qs,fd_Qs:=_,F_Qs:=F_Qs,b_Qs:=b_Qs,a_Qh:=f_Qh,fd_Qh:=_,F_Qh:=F_Qh,b_Qh:=b_Qh,a_Qg:=f_Qg,fd_Qg:=_,F_Qg:=F_Qg,b_Qg:=b_Qg,a_Qf:=f_Qf,fd_Qf:=_,F_Qf:=F_Qf,b_Qf:=b_Qf,a_Qi:=f_Qi,fd_Qi:=_,F_Qi:=F_Qi,b_Qi:=b_Qi,a_Qt:=f_Qt,fd_Qt:=_,F_Qt:=F_Qt,b_Qt:=b_Qt,a_Qu:=f_Qu,fd_Qu:=_,F_Qu:=F_Qu,b_Qu:=b_Qu,a_Qv:=f_Qv,fd_Qv:=_,F_Qv:=F_Qv,b_Qv:=b_Qv,a_Qw:=f_Qw,fd_Qw:=_,F_Qw:=F_Qw,b_Qw:=b_Qw,a_Qx:=f_Qx,fd_Qx:=_,F_Qx:=F_Qx,b_Qx:=b_Qx,a_Qj:=f_Qj,fd_Qj:=_,F_Qj:=F_Qj,b_Qj:=b_Qj,n_isinstance:=W.mg_none_of X G z_isinstance,n_int:=W.mg_none_of X G z_int,n_bool:=W.mg_none_of X G z_bool,n_list:=W.mg_none_of X G z_list,n_len:=W.mg_none_of X G z_len,n_min:=W.mg_none_of X G z_min,n_range:=W.mg_none_of X G z_range,n_sum:=W.mg_none_of X G z_sum,n_any:=W.mg_none_of X G z_any,n_sorted:=W.mg_none_of X G z_sorted,n_set:=W.mg_none_of X G z_set,tk_GREATEST_Q:=tk_GREATEST_Q,m_GREATEST_Q:=W.mg_of X G g_GREATEST_Q,cf_Qu:=⟨ga_Rule,rd_Rule,fn_Qu,k_Qu'⟩,cl_Down:=⟨pg_Down,hd_Down,po_Down,sa_Down⟩,M_Down:=⟨mk_Down,a_Qw,i_Qw,kc_Down⟩,ty_Down:=⟨ha_Down,hn,tk,ob_Down⟩,na_Down_whole:=na_Down_whole,mt_Down_mark:=⟨mt_Down_mark,i_Qv,k_Qv'⟩,cl_Half:=⟨pg_Half,hd_Half,po_Half,sa_Half⟩,M_Half:=⟨mk_Half,a_Qx,i_Qx,kc_Half⟩,ty_Half:=⟨ha_Half,hn,tk,ob_Half⟩,na_Half_whole:=na_Half_whole,mt_Half_mark:=⟨mt_Half_mark,i_Qv,k_Qv'⟩,cl_QD:=⟨pg_QD,hd_QD,po_QD,sa_QD⟩,M_QD:=⟨mk_QD,a_Qj,i_Qj,kc_QD⟩,ty_QD:=⟨ha_QD,hn,tk,ob_QD⟩,na_QD_whole:=na_QD_whole,mt_QD_mark:=⟨mt_QD_mark,i_Qv,k_Qv'⟩,x_QE:=x_QE,cl_Net:=⟨pg_Net,hd_Net,po_Net,sa_Net⟩,M_Net:=⟨mk_Net,a_Qq,i_Qq,kc_Net⟩,na_Net_votes:=na_Net_votes,na_Net_rule:=na_Net_rule,na_Net_height:=na_Net_height,na_Net_seats:=na_Net_seats,na_Net_ways:=na_Net_ways,mt_Qr:=⟨mt_Qr,i_Qr,k_Qr'⟩,mt_Qs:=⟨mt_Qs,i_Qs,k_Qs'⟩,cl_Reach:=⟨pg_Reach,hd_Reach,po_Reach,sa_Reach⟩,M_Reach:=⟨mk_Reach,a_Qh,i_Qh,kc_Reach⟩,na_Reach_costs:=na_Reach_costs,na_Reach_ahead:=na_Reach_ahead,mt_Qg:=⟨mt_Qg,i_Qg,k_Qg'⟩,mt_Qf:=⟨mt_Qf,i_Qf,k_Qf'⟩,cl_QC:=⟨pg_QC,hd_QC,po_QC,sa_QC⟩,M_QC:=⟨mk_QC,a_Qi,i_Qi,kc_QC⟩,na_QC_seats:=na_QC_seats,na_QC_rows:=na_QC_rows,na_QC_columns:=na_QC_columns,ty_QC:=⟨ha_QC,hn,tk,ob_QC⟩,cl_Bar:=⟨pg_Bar,hd_Bar,po_Bar,sa_Bar⟩,M_Bar:=⟨mk_Bar,a_Qt,i_Qt,kc_Bar⟩,na_Bar_rows:=na_Bar_rows,na_Bar_columns:=na_Bar_columns,ty_Bar:=⟨ha_Bar,hn,tk,ob_Bar⟩,k_QC_QC:=k_QC_QC,k_Bar_QC:=k_Bar_QC,k_Bar_Bar:=k_Bar_Bar },W.mg_of X G a_law,fun s v => .of_eq rfl⟩
end K7
namespace PySem.W.Fast
def tw1510112258874405642:=()
def tw11496032189858684172:=()
def tw12427016741375470230:=()
def tw2868041436712641510:=()
def tw2462944168756798287:=()
def tw13988041837959952559:=()
def tw12553119578297346770:=()
def tw1776203971720836545:=()
def tw6555365876918848754:=()
def tw6495212962121500093:=()
def tw3404403936956716880:=()
def tw12530346277703900365:=()
def tw10801789835728454619:=()
def tw15940198457812434940:=()
def tw7249863218580445365:=()
def tw14425759375631155632:=()
def tw18074403439070622209:=()
def tw12754229439129282468:=()
def tw11593558428002867434:=()
def tw1292630048200562802:=()
def tw11029319661399302178:=()
def tw6674851275540205069:=()
def tw7547418206718506620:=()
def tw10620366273984888840:=()
def tw6035493912942851005:=()
def tw15896420253808966164:=()
def tw6727744088811216845:=()
def tw8459944855904413324:=()
def tw3957245406754860201:=()
def tw9258656723379899239:=()
def tw11876728243585140408:=()
def tw7961425434574801573:=()
def tw12249085775361762997:=()
def tw8386794992031227387:=()
def tw2960370763947043449:=()
def tw4883211379396180396:=()
def tw16203838976301684558:=()
def tw3698114567059205645:=()
def tw2508284504471694289:=()
def tw4219305570476764820:=()
def tw4161731793096015457:=()
def tw13112459404220378509:=()
def tw13098738418902775698:=()
def tw3800417286965326739:=()
def tw11756124254099048923:=()
def tw13595111831727921848:=()
def tw11504950112452598759:=()
def tw9354373652265148229:=()
def tw3949012320443368021:=()
def tw10523396954648386526:=()
def tw1723885108660554939:=()
def tw3544152654002476269:=()
def tw8350344821131491114:=()
def tw2186334022910551096:=()
def tw12420062723261156381:=()
def tw8984763730508600734:=()
def tw16327268360812240236:=()
def tw14565830557206833324:=()
def tw353797757128313699:=()
def tw12799483708165617222:=()
def tw3607288221945421444:=()
def tw1803527063597516238:=()
def tw16610687687767756727:=()
def tw8098670880491565058:=()
def tw485445940383934696:=()
def tw14027423751184818502:=()
def tw13515463456925430803:=()
def tw4656500720900415:=()
def tw16803737268767531125:=()
def tw10454771917663356973:=()
def tw18211299743722954804:=()
def tw17746007642308728252:=()
def tw3316795424462515922:=()
def tw11638513699529572906:=()
def tw8988905083593500256:=()
def tw8545383085446620309:=()
def tw17805658261736683902:=()
def tw2359863992168215225:=()
def tw17500837800647939643:=()
def tw6840633974069936725:=()
def tw1308864159351519368:=()
def tw7442737539706544859:=()
def tw9069659774476847944:=()
def tw12227712586567150642:=()
def tw9544978235426421849:=()
def tw3127082543144843295:=()
def tw15190155766409073624:=()
def tw13753645781744908314:=()
def tw15347246772116786375:=()
def tw8990505009914319557:=()
def tw2770393123016163881:=()
def tw8538716311307290378:=()
def tw2362951255111690939:=()
def tw1897058445677050902:=()
def tw8304941467579170281:=()
def tw2222929670907821925:=()
def tw5029042194809191348:=()
def tw5202819277516394165:=()
def tw6405352243373358246:=()
def tw15167304443884420159:=()
def tw11717227646319215216:=()
def tw13347727994033943249:=()
def tw1712937093221858381:=()
def tw18246268571903221743:=()
def tw9302142401570027515:=()
def tw1468108132819486162:=()
def tw533849877575642720:=()
def tw2236700139030507766:=()
def tw698542828726938036:=()
def tw6708983020269098618:=()
def tw4080319500889712463:=()
def tw111402532763782508:=()
def tw5909331098587815554:=()
def tw3948273144464987947:=()
def tw17461287878785568852:=()
def tw13755569142621261094:=()
def tw18233298821773173612:=()
def tw2719049199292389177:=()
def tw11400358028413418405:=()
def tw13205691923695958799:=()
def tw11621367031741922547:=()
def tw6066842962620697769:=()
def tw5678549711763471112:=()
def tw5510737932783498592:=()
def tw7978574946294007123:=()
def tw5360929576948828994:=()
def tw10154855735712742999:=()
def tw18295590647449733727:=()
def tw12543787650234060426:=()
def tw14649491690257059797:=()
def tw8024942491694545547:=()
def tw13041081366658056129:=()
def tw11516177385003128884:=()
def tw8354336003317876765:=()
def tw15777033673249848685:=()
def tw11752731278467013282:=()
def tw5042342435677544404:=()
def tw3724520282753808179:=()
def tw1216743957170185403:=()
def tw3703865728907608490:=()
def tw9891812263954788874:=()
def tw5768077435041162745:=()
def tw4830462410989676080:=()
def tw3382149997662037328:=()
def tw9156592865842958029:=()
def tw977406705696830416:=()
def tw6668819239376984533:=()
def tw17854685114289318294:=()
def tw14279738265464268235:=()
def tw7932483196435926490:=()
def tw4635840678819567585:=()
def tw4585936895788591877:=()
def tw5727477263481512341:=()
def tw9156419799392572188:=()
def tw12147698652545784777:=()
def tw196534396854646657:=()
def tw9404755978584446431:=()
def tw10805970312625611324:=()
def tw14069857922998455325:=()
def tw11490285599641630014:=()
def tw7866396868875800188:=()
def tw16336937778556761472:=()
def tw11789762975254376865:=()
def tw1936581831359371008:=()
def tw2820245337517882582:=()
def tw8764544960014652049:=()
def tw9359022321348588836:=()
def tw13675195650872266372:=()
def tw5938751309687163252:=()
def tw16196841184643861612:=()
def tw1812795176156557092:=()
def tw6889341263804950662:=()
def tw6312988898975127853:=()
def tw15098504009539346846:=()
def tw16190568107011273496:=()
def tw17986274583796424090:=()
def tw9343437831296996893:=()
def tw14731065034903332611:=()
def tw3502599785048848410:=()
def tw137654200779472864:=()
def tw13763670368737849610:=()
def tw12454771437185446302:=()
def tw9594069757523734795:=()
def tw16651837829116587617:=()
def tw14484170272867748217:=()
def tw12709068022517077127:=()
def tw1133270650668194040:=()
def tw782406147828991242:=()
def tw5007576443165873499:=()
def tw11014575714381824203:=()
def tw2653638693152031050:=()
def tw892960767705687421:=()
def tw11875003775356975093:=()
def tw9066925644873945851:=()
def tw13884141243746839409:=()
def tw9377484912849385639:=()
def tw13055994005504116598:=()
def tw9292006348738622797:=()
def tw4971030989161673505:=()
def tw648881126626256077:=()
def tw7771530126751172984:=()
def tw955203881220798807:=()
def tw4719262810445154742:=()
def tw2908213066180078463:=()
def tw10508629910016662691:=()
def tw16522909539296463032:=()
def tw7460369984960392141:=()
def tw8385369177875752866:=()
def tw1225970286593018155:=()
def tw13775364619767957400:=()
def tw633552841620355960:=()
def tw9008623692871937818:=()
def tw6185970368392717810:=()
def tw13738147951843073877:=()
def tw16169205714985748818:=()
def tw11985117158538232506:=()
def tw16164558822437203109:=()
def tw7393898588418673601:=()
def tw11542108922470541923:=()
def tw4848199495696748151:=()
def tw8708948032327765681:=()
def tw2051055730903625422:=()
def tw14849772785215331300:=()
def tw15400396070362597963:=()
def tw1560921408288459134:=()
def tw8477923328505530989:=()
def tw13413365448616288662:=()
def tw9112501681261669153:=()
def tw16377419051715281454:=()
def tw17644595953041836248:=()
def tw155390515338712509:=()
def tw17380612716684057887:=()
def tw12618524029258229815:=()
def tw5336915134928364042:=()
def tw2060238634849919336:=()
def tw4462103944725489576:=()
def tw17344531950312598612:=()
def tw6810472320198645304:=()
def tw1173303708169776865:=()
def tw14933664468577969825:=()
def tw17090587435678272310:=()
def tw5351019428433593392:=()
def tw5116023391099195698:=()
def tw10098384832941361021:=()
def tw176566366852913361:=()
def tw6959799570596325786:=()
def tw13507974363401085707:=()
def tw14653021783618417368:=()
def tw12636120499075460364:=()
def tw9259872851969684250:=()
def tw8120678848400265114:=()
def tw16967473590100562872:=()
def tw6236693695419763315:=()
def tw1935705648307860291:=()
def tw8011101931038669671:=()
def tw6425008826484185949:=()
def tw9067289626324951642:=()
def tw10051214174394873948:=()
def tw17800055554073786344:=()
def tw230792528768265643:=()
def tw596102647774814828:=()
def tw4352733142511492376:=()
def tw10079045101501333040:=()
def tw449179597023914091:=()
def tw3409918712446842821:=()
def tw11718449405747832085:=()
def tw6479445080144247291:=()
def tw446136134335316904:=()
def tw11572228168870282487:=()
def tw2927703338564489484:=()
def tw3532538530695605437:=()
def tw8334288917128420016:=()
def tw16562928510634450459:=()
def tw8635445337384206190:=()
def tw13978229115167146552:=()
def tw4884378905563659004:=()
def tw17563877064298176026:=()
def tw10947340141388787664:=()
def tw7371640728078035685:=()
def tw16043656587802485365:=()
def tw138431290142514718:=()
def tw4206915530749082728:=()
def tw6297585411346323587:=()
def tw3903258981587879871:=()
def tw16063240296553965621:=()
def tw13901393627869191218:=()
def tw10113456325388893092:=()
def tw15986798872478554359:=()
def tw3103334670823516389:=()
def tw8919783931517495391:=()
def tw2998259197427640339:=()
def tw8995929723760846615:=()
def tw15000870038596152295:=()
def tw7690180433143559753:=()
def tw2386209469733611864:=()
def tw7170350144019595964:=()
def tw6909849616979906942:=()
def tw15977696581000767142:=()
def tw15767950288704906501:=()
def tw3376619061160510482:=()
def tw7026671088214477855:=()
def tw11393226172130354635:=()
def tw7230435842853592031:=()
def tw1182084402465271742:=()
def tw250400947766448205:=()
def tw2813725347272462279:=()
end PySem.W.Fast
open PySem PySem.W PyProof.Rows
set_option maxRecDepth 100000 in
set_option maxHeartbeats 0 in
theorem PySem.Challenge.cw_seatweave_k07_whole_only_one_holds : PySem.Challenge.rw_seatweave_k07_whole_only_one.Holds := by
 w_on; o_law; k_head; (case hw=>w_witness2)
 k_fill
 refine L2.walk_ofK (l:=PySem.Challenge.rw_seatweave_k07_whole_only_one) (n:=63) (k:=10) (x := "_law_script") (CX:=L2.CX0) (sp:=SW.spLaw) rfl (by decide) rfl ⟨rfl,by decide,by decide⟩ (fun w h Y=>W.kIn_of Y) ?F (fun K H a ns hl _ hS=>⟨a,ns,rfl,hS,hl,fun _=>rfl⟩) fun _ _ _ _ z=>z
 case F=>
  intro w mg fa h KX G hmg
  have T:∃T:K7.Txt (L2.KOf KX) mg,mg "law" = some (.ref T.a_law)/\∀(s:Shared) (v:Value),BindsTo s T.fd_law ⟨[v],[]⟩ [("_law_script",v)]:=by
   dsimp only [L2.KOf]
   refine' K7.txt_mk KX G ?_ ?_ ?_ ?_ ?_ ?_ ?_ ?_ ?_ ?_ ?_ ?_ ?_ ?_ ?_ ?_ ?_ ?_ ?_ ?_ ?_ ?_ ?_ ?_ ?_ ?_ ?_ ?_ ?_ ?_ ?_ ?_ ?_ ?_ ?_ ?_ ?_ ?_ ?_ ?_ ?_ ?_ ?_ ?_ ?_ ?_ ?_ ?_ ?_ ?_ ?_ ?_ ?_ ?_ ?_ ?_ ?_ ?_ ?_ ?_ ?_ ?_ ?_ ?_ ?_ ?_ ?_ ?_ ?_ ?_ ?_ ?_ ?_ ?_ ?_ ?_ ?_ ?_ ?_ ?_ ?_ ?_ ?_ ?_ ?_ ?_ ?_ ?_ ?_ ?_ ?_ ?_ ?_ ?_ ?_ ?_ ?_ ?_ ?_ ?_ ?_ ?_ ?_ ?_ ?_ ?_ ?_ ?_ ?_ ?_ ?_ ?_ ?_ ?_ ?_ ?_ ?_ ?_ ?_ ?_ ?_ ?_ ?_ ?_ ?_ ?_ ?_ ?_ ?_ ?_ ?_ ?_ ?_ ?_ ?_ ?_ ?_ ?_ ?_ ?_ ?_ ?_ ?_ ?_ ?_ ?_ ?_ ?_ ?_ ?_ ?_ ?_ ?_ ?_ ?_ ?_ ?_ ?_ ?_ ?_ ?_ ?_ ?_ ?_ ?_ ?_ ?_ ?_ ?_ ?_ ?_ ?_ ?_ ?_ ?_ ?_ ?_ ?_ ?_ ?_ ?_ ?_ ?_ ?_ ?_ ?_ ?_ ?_ ?_ ?_ ?_ ?_ ?_ ?_ ?_ ?_ ?_ ?_ ?_ ?_ ?_ ?_ ?_ ?_ ?_ ?_ ?_ ?_ ?_ ?_ ?_ ?_ ?_ ?_ ?_ ?_ ?_ ?_ ?_ ?_ ?_ ?_ ?_ ?_ ?_ ?_ ?_ ?_ ?_ ?_ ?_ ?_ ?_ ?_ ?_ ?_ ?_ ?_ ?_ ?_ ?_ ?_ ?_ ?_ ?_ ?_ ?_ ?_ ?_ ?_ ?_ ?_ ?_ ?_ ?_ ?_ ?_ ?_ ?_ ?_ ?_ ?_ ?_ ?_ ?_ ?_ ?_ ?_ ?_ ?_ ?_ ?_ ?_ ?_ ?_ ?_ ?_ ?_ ?_ ?_ ?_ ?_ ?_ ?_ ?_ ?_ ?_ ?_ ?_ ?_ ?_ ?_ ?_ ?_ ?_ <;> try first | k_is | kit_is | kts_exm | k_exc
  obtain ⟨T,e1,hb⟩:=T
  have e:=hmg.symm.trans e1
  cases e
  exact ⟨T.fd_law,hb,fun base _ _=>K7.ok_law T⟩
