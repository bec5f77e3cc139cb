import PyProof.Rows.All
import Wide.All
import OpenK.AllK
import Wide.FinOn
import Lean
import PyProof.EqAt
import PyProof.EqKinds
import PyProof.TupleCall
import PyProof.ExcArgsOwn
import KE.KIntText
import PyProof.StrLawsRepr
import PyProof.StrLawsOcc
import PyProof.SliceStr2
import PyProof.FString
import PyProof.StrOps2
import PyProof.AutoIntG2
import PyProof.ConsumeWalk
import PyProof.MinMaxWalk
import PyProof.WalkInts
import PyProof.SumWalk
import PyProof.SeqI3
import PyProof.CompUse
import PyProof.Rows.SortWalk
import KE.KSortTup
import KE.KRevIter
import PyProof.ListRange
import PyProof.JoinWalk
import PyProof.Rows.SetFrom
import PyProof.TupleKey
import PyProof.SetRoads
import PySem.SetTable
import PyProof.DictFindH
import KE.KDictList
import PyProof.Rows.TupTab
import PyProof.Rows.TupDisplay
import PyProof.DictRoadsH
import PyProof.MaxThree
import PyProof.P3In
import PySem.Challenge.RW_primetree_k91_deeds_at_the_desk
set_option Elab.async false
set_option linter.all false
set_option maxRecDepth 100000
namespace L2
open PySem PySem.Spec PyProof.Rows
abbrev Key:=Sum Int Str
def keyIs:Key->Value->Bool
 | .inl k,v=>Value.isInt k v
 | .inr x,v=>Value.isStrOf x v
def keyH (w:World):Key->Int
 | .inl k=>hashInt k
 | .inr x=>hashStr w x
theorem yj:∀{k:Key} {v:Value},keyIs k v=true->(∃i t,k=Sum.inl i/\v=Value.int i t)∨(∃x t,k=Sum.inr x/\v=Value.str x t)
 | .inl i,v,h=>by
  obtain ⟨t,e⟩:=Value.isInt_shape (k:=i) (v:=v) h
  exact .inl ⟨i,t,rfl,e⟩
 | .inr x,v,h=>by
  obtain ⟨t,e⟩:=Value.isStrOf_shape (x:=x) (v:=v) h
  exact .inr ⟨x,t,rfl,e⟩
theorem xbo (a b:Int):decide ((Sum.inl a:Key)=Sum.inl b)=(a==b):=by
 by_cases e:a=b
 ·subst e;simp
 ·have h:¬(Sum.inl a:Key)=Sum.inl b:=fun q=>e (Sum.inl.inj q)
  rw [decide_eq_false h]
  exact (beq_eq_false_iff_ne.mpr e).symm
theorem xbl (a b:Str):decide ((Sum.inr a:Key)=Sum.inr b)=decide (a=b):=by
 by_cases e:a=b
 ·subst e;simp
 ·have h:¬(Sum.inr a:Key)=Sum.inr b:=fun q=>e (Sum.inr.inj q)
  rw [decide_eq_false h,decide_eq_false e]
theorem xbn (a:Int) (b:Str):decide ((Sum.inl a:Key)=Sum.inr b)=false:=decide_eq_false (fun q=>nomatch q)
theorem xbm (a:Str) (b:Int):decide ((Sum.inr a:Key)=Sum.inl b)=false:=decide_eq_false (fun q=>nomatch q)
def mixKind (prog:Program) (w:World):PySem.KeyKind prog w Key where
 is:=keyIs
 hash:=keyH w
 inj:=fun v a b ha hb=>by
  rcases yj ha with ⟨i,t,rfl,rfl⟩ | ⟨x,t,rfl,rfl⟩
  ·rcases yj hb with ⟨j,u,rfl,e⟩ | ⟨y,u,rfl,e⟩
   ·injection e with e1 _;rw [e1]
   ·exact nomatch e
  ·rcases yj hb with ⟨j,u,rfl,e⟩ | ⟨y,u,rfl,e⟩
   ·exact nomatch e
   ·injection e with e1 _;rw [e1]
 byValue:=fun k v h=>by
  rcases yj h with ⟨i,t,rfl,rfl⟩ | ⟨x,t,rfl,rfl⟩<;>rfl
 pyHash:=fun hv h=>by
  rcases yj hv with ⟨i,t,rfl,rfl⟩ | ⟨x,t,rfl,rfl⟩
  ·exact wpAny_pyHash_int h
  ·exact wpAny_pyHash_str h
 eqBool:=fun hu hv h=>by
  rcases yj hu with ⟨i,t,rfl,rfl⟩ | ⟨x,t,rfl,rfl⟩
  ·rcases yj hv with ⟨j,u,rfl,rfl⟩ | ⟨y,u,rfl,rfl⟩
   ·rw [xbo] at h;exact wpAny_eqBool_int h
   ·rw [xbn] at h;exact SeqAt.EqAt.int_str i t y u _ _ _ _ h
  ·rcases yj hv with ⟨j,u,rfl,rfl⟩ | ⟨y,u,rfl,rfl⟩
   ·rw [xbm] at h;exact SeqAt.EqAt.str_int x t j u _ _ _ _ h
   ·rw [xbl] at h;exact wpAny_eqBool_str h
 «strs» :=fun k x t v h=>by
  rcases yj h with ⟨i,u,rfl,e⟩ | ⟨y,u,rfl,e⟩
  ·exact nomatch e
  ·injection e with e1 _
   subst e1
   cases v<;>rfl
inductive V where
 | non | bl (b:Bool) | int (i:Int) | str (x:Str) | byt (b:Array UInt8) | flt (b:UInt64) | ref (a:Addr) | ty (n:String)
 deriving DecidableEq
def RelV:V->Value->Prop
 | .non,u=>u=Value.none
 | .bl b,u=>u=Value.bool b
 | .int i,u=>∃t,u=Value.int i t
 | .str x,u=>∃t,u=Value.str x t
 | .byt b,u=>∃t,u=Value.bytes b t
 | .flt b,u=>∃t,u=Value.float b t
 | .ref a,u=>u=Value.ref a
 | .ty n,u=>u=Value.type n
abbrev Vals:List V->List Value->Prop:=Paired RelV
theorem Vals.length {xs:List V} {us:List Value} (r:Vals xs us):xs.length=us.length:=Paired.length r
theorem Vals.get:∀{xs:List V} {us:List Value} {i:Nat} {x:V},Vals xs us->xs[i]? =some x->∃u,us[i]? =some u/\RelV x u
 | _,_,_,_,.nil,e=>by simp at e
 | _,_,0,_,.cons r _,e=>by simp at e;subst e;exact ⟨_,rfl,r⟩
 | _,_,i+1,x,.cons _ t,e=>by
  obtain ⟨u,h1,h2⟩:=Vals.get (i:=i) (x:=x) t (by simpa using e)
  exact ⟨u,by simpa using h1,h2⟩
theorem Vals.append:∀{xs ys:List V} {us ws:List Value},Vals xs us->Vals ys ws->Vals (xs++ys) (us++ws)
 | _,_,_,_,.nil,s=>s
 | _,_,_,_,.cons r t,s=> .cons r (Vals.append t s)
def RelO:Option V->Option Value->Prop
 | some v,some u=>RelV v u
 | none,none=>True
 | _,_=>False
def KV {κ:Type}:List (κ×V)->List (κ×Value)->Prop:=Paired fun (p:κ×V) (q:κ×Value)=>p.1=q.1/\RelV p.2 q.2
def kV:Key->V
 | .inl i=> .int i
 | .inr x=> .str x
inductive HO where
 | lst (xs:List V)
 | tup (xs:List V)
 | dK (kvs:List (Key×V)) | dT (kvs:List (List Key×V))
 | set (S:Int->Bool) (n:Nat)
 | ins (C dx:Addr) (fs:List (Str×V))
 | own (x:Addr)
 | xd (fs:List (Str×V))
 | met (f x:Addr)
 | rng (lo hi:Int)
 | frz (o:Obj) (u:HO)
 | tbl (ps:Array Value)
 | ext (φ:Heap->Prop)
abbrev Hp:=Addr->Option HO
def upd (H:Hp) (a:Addr) (o:HO):Hp:=fun b=>if b=a then some o else H b
theorem xp {H:Hp} {a:Addr} {o:HO}:upd H a o a=some o:=by unfold upd;rw [if_pos rfl]
theorem xh {H:Hp} {a b:Addr} {o:HO} (h:b≠a):upd H a o b=H b:=by unfold upd;rw [if_neg h]
theorem xk {H:Hp} {a b:Addr} {o:HO} (h:H a=some o) (h':H b=none):a≠b:=by
 intro e;subst e;rw [h] at h';cases h'
section
variable (P:Program) (w:World)
def ObjOk (H:Hp) (h:Heap) (a:Addr):HO->Prop
 | .lst xs=>xs.length<=sizeLine/\∃(its:List Value) (n:Nat),Vals xs its/\h.get? a=some { cls:= .type "list",data:= .seq its.toArray n }
 | .tup xs=>xs.length<=sizeLine/\∃its:List Value,Vals xs its/\IsTup h a its.toArray
 | .dK kvs=>kvs.length<=sizeLine/\(a==sysModules)=false/\∃vs,KV kvs vs/\h.DictOf (mixKind P w) a vs
 | .dT kvs=>kvs.length<=sizeLine/\(a==sysModules)=false/\∃xs:List (List Key×Addr×Value),
   Paired (fun (p:List Key×V) (q:List Key×Addr×Value)=>p.1=q.1/\H q.2.1=some (.tup (p.1.map kV))/\RelV p.2 q.2.2) kvs xs/\
   ∃o es ep,h.get? a=some o/\o.ExactDict/\o.data= .dict es ep/\es.toList=xs.map (entryOfKey (tupleKind (mixKind P w)))/\(xs.map (·.1)).Nodup
 | .set S n=>h.SetOf (intKind P w) a S n
 | .ins C dx fs=>H dx=some (.own a)/\fs.length<=1000/\dx≠a/\h.get? a=some (PySem.W.instObj C dx)/\
   ∃mA,h.Ns1 dx mA/\(∀f,RelO (fs.lookup f) (mA f))/\PySem.Within mA (fs.map (·.1))
 | .own _=>∃o,h.get? a=some o
 | .xd fs=>∃mA,h.Ns1 a mA/\∀f,RelO (fs.lookup f) (mA f)
 | .rng lo hi=>∃t u v,h.get? a=some { cls:= .type "range",data:= .fields #[.int lo t,.int hi u,.int 1 v] }
 | .frz o u=>h.get? a=some o/\ObjOk H h a u
 | .tbl ps=>h.get? a=some { cls:= .none,data:= .fields ps }
 | .met f x=>h.get? a=some (PySem.W.methodObj (.ref f) (.ref x))
 | .ext φ=>φ h/\(∃o,h.get? a=some o)/\∀h1 h2:Heap,φ h1->(∀o,h1.get? a=some o->h2.get? a=some o)->φ h2
def HOk (H:Hp) (h:Heap):Prop:=∀a o,H a=some o->ObjOk P w H h a o
end
section
variable {P:Program} {w:World} {H H':Hp} {h h':Heap} {a:Addr} {o:HO}
theorem ObjOk.lt (x:ObjOk P w H h a o):a<h.objs.size:=by
 cases o with
 | lst xs=>obtain ⟨_,_,_,_,e⟩:=x;exact Heap.lt_size e
 | tup xs=>obtain ⟨_,_,_,p⟩:=x;exact p.lt
 | dK kvs=>obtain ⟨_,_,_,_,o,_,_,e,_⟩:=x;exact Heap.lt_size e
 | dT kvs=>obtain ⟨_,_,_,_,o,_,_,e,_⟩:=x;exact Heap.lt_size e
 | set S n=>obtain ⟨o,_,_,_,e,_⟩:=x;exact Heap.lt_size e
 | ins C dx fs=>obtain ⟨_,_,_,e,_⟩:=x;exact Heap.lt_size e
 | own y=>obtain ⟨_,e⟩:=x;exact Heap.lt_size e
 | xd fs=>obtain ⟨_,⟨_,_,_,e,_⟩,_⟩:=x;exact Heap.lt_size e
 | rng lo hi=>obtain ⟨_,_,_,e⟩:=x;exact Heap.lt_size e
 | frz ob u=>obtain ⟨e,_⟩:=x;exact Heap.lt_size e
 | tbl ps=>exact Heap.lt_size (show h.get? a=some _ from x)
 | met f y=>exact Heap.lt_size (show h.get? a=some _ from x)
 | ext φ=>obtain ⟨_,⟨_,e⟩,_⟩:=x;exact Heap.lt_size e
theorem Paired.mapP {α β:Type} {F G:α->β->Prop}:∀{l₁:List α} {l₂:List β},Paired F l₁ l₂->(∀a b,F a b->G a b)->Paired G l₁ l₂
 | _,_,.nil,_=> .nil
 | _,_,.cons r t,f=> .cons (f _ _ r) (Paired.mapP t f)
theorem ObjOk.stay (x:ObjOk P w H h a o) (k:∀b u,(b=a∨H b=some (.own a))->h.get? b=some u->h'.get? b=some u)
  (ho:∀b,H b=some (.own a)->H' b=some (.own a)) (ht:∀b xs,H b=some (.tup xs)->H' b=some (.tup xs)):ObjOk P w H' h' a o:=by
 induction o with
 | lst xs=>obtain ⟨z,its,n,r,e⟩:=x;exact ⟨z,its,n,r,k _ _ (.inl rfl) e⟩
 | tup xs=>obtain ⟨z,its,r,ob,e,c⟩:=x;exact ⟨z,its,r,ob,k _ _ (.inl rfl) e,c⟩
 | dK kvs=>obtain ⟨z,y,vs,r,ob,es,ep,e,c⟩:=x;exact ⟨z,y,vs,r,ob,es,ep,k _ _ (.inl rfl) e,c⟩
 | dT kvs=>
  obtain ⟨z,y,xs,r,ob,es,ep,e,c⟩:=x
  exact ⟨z,y,xs,Paired.mapP r fun p q z=>⟨z.1,ht _ _ z.2.1,z.2.2⟩,ob,es,ep,k _ _ (.inl rfl) e,c⟩
 | set S n=>obtain ⟨ob,es,ep,t,e,c⟩:=x;exact ⟨ob,es,ep,t,k _ _ (.inl rfl) e,c⟩
 | ins C dx fs=>
  obtain ⟨d,z,ne,e,mA,⟨od,es,ep,e2,c⟩,r⟩:=x
  exact ⟨ho _ d,z,ne,k _ _ (.inl rfl) e,mA,⟨od,es,ep,k _ _ (.inr d) e2,c⟩,r⟩
 | own y=>obtain ⟨ob,e⟩:=x;exact ⟨ob,k _ _ (.inl rfl) e⟩
 | xd fs=>obtain ⟨mA,⟨od,es,ep,e,c⟩,r⟩:=x;exact ⟨mA,⟨od,es,ep,k _ _ (.inl rfl) e,c⟩,r⟩
 | rng lo hi=>obtain ⟨t,u,v,e⟩:=x;exact ⟨t,u,v,k _ _ (.inl rfl) e⟩
 | frz ob u ih=>obtain ⟨e,q⟩:=x;exact ⟨k _ _ (.inl rfl) e,ih q⟩
 | tbl ps=>
  have e:h.get? a=some { cls:= .none,data:= .fields ps }:=x
  show h'.get? a=some { cls:= .none,data:= .fields ps }
  exact k a _ (.inl rfl) e
 | met f y=>
  have e:h.get? a=some (PySem.W.methodObj (.ref f) (.ref y)):=x
  show h'.get? a=some (PySem.W.methodObj (.ref f) (.ref y))
  exact k a _ (.inl rfl) e
 | ext φ=>obtain ⟨p,⟨o,e⟩,st⟩:=x;exact ⟨st _ _ p fun o q=>k _ _ (.inl rfl) q,⟨o,k _ _ (.inl rfl) e⟩,st⟩
theorem HOk.lt (x:HOk P w H h) (e:H a=some o):a<h.objs.size:=(x a o e).lt
theorem HOk.fresh (x:HOk P w H h) (e:h.objs.size<=a):H a=none:=by
 cases q:H a with
 | none=>rfl
 | some u=>exact absurd (Nat.lt_of_lt_of_le (x.lt q) e) (Nat.lt_irrefl _)
theorem HOk.kept (x:HOk P w H h) (k:∀b u,h.get? b=some u->h'.get? b=some u):HOk P w H h':=fun a o e=>
 (x a o e).stay (fun b u _ q=>k b u q) (fun _ q=>q) fun _ _ q=>q
theorem HOk.laid (x:HOk P w H h) (k:∀b u,h.get? b=some u->h'.get? b=some u) (hp:h.objs.size<=a) (new:ObjOk P w (upd H a o) h' a o):HOk P w (upd H a o) h':=fun b u e=>by
 have hn:=x.fresh hp
 by_cases hb:b=a
 ·subst hb;rw [xp] at e;cases e;exact new
 ·rw [xh hb] at e
  exact (x b u e).stay (fun c v _ q=>k c v q) (fun c q=>by rw [xh (xk q hn)];exact q) fun c xs q=>by rw [xh (xk q hn)];exact q
end
def Rd (H:Hp) (a:Addr) (u:HO):Prop:=H a=some u∨∃o,H a=some (.frz o u)
theorem Rd.ok {P:Program} {w:World} {H:Hp} {h:Heap} {a:Addr} {u:HO} (r:Rd H a u) (x:HOk P w H h):ObjOk P w H h a u:=by
 rcases r with r | ⟨o,r⟩
 ·exact x a u r
 ·obtain ⟨_,q⟩:=x a _ r
  exact q
def Mut:Option HO->Prop
 | some (.lst _)=>True
 | some (.dK _)=>True
 | some (.dT _)=>True
 | some (.set _ _)=>True
 | some (.ins _ _ _)=>True
 | some (.ext _)=>True
 | _=>False
section
variable {P:Program} {w:World} {H:Hp} {h h':Heap} {x e:Addr} {o':HO}
theorem HOk.write (ok:HOk P w H h) (mu:Mut (H x)) (he:e=x∨H e=some (.own x)) (k:∀b u,b≠e->h.get? b=some u->h'.get? b=some u) (heo:∃u,h'.get? e=some u)
  (new:ObjOk P w (upd H x o') h' x o'):HOk P w (upd H x o') h':=fun b u q=>by
 have nown:∀c y,H c=some (.own y)->c≠x:=fun c y r z=>by subst z;rw [r] at mu;exact mu
 have ntup:∀c xs,H c=some (.tup xs)->c≠x:=fun c xs r z=>by subst z;rw [r] at mu;exact mu
 by_cases hb:b=x
 ·subst hb;rw [xp] at q;cases q;exact new
 ·rw [xh hb] at q
  by_cases hbe:b=e
  ·have q':H b=some (.own x):=by
    rcases he with z | z
    ·exact absurd (hbe.trans z) hb
    ·rw [hbe];exact z
   rw [q] at q';cases q'
   obtain ⟨v,hv⟩:=heo
   exact ⟨v,by rw [hbe];exact hv⟩
  ·refine (ok b u q).stay (fun c v hc r=>k c v ?_ r) (fun c r=>by rw [xh (nown c b r)];exact r) fun c xs r=>by rw [xh (ntup c xs r)];exact r
   rcases hc with rfl | hc
   ·exact hbe
   ·rintro rfl
    rcases he with z | z
    ·exact nown c b hc z
    ·rw [hc] at z;cases z;exact hb rfl
end
structure Un (fs ex:List Addr) (H H':Hp) (h h':Heap):Prop where
 keep:∀b o,h.get? b=some o->H b=none->b∉fs->b∉ex->h'.get? b=some o
 slot:∀b o,h.get? b=some o->H b=none->b∈fs->b∉ex->∃sl,h'.get? b=some { o with slots:=sl }
 free:∀b o,h.get? b=some o->H b=none->b∉ex->H' b=none
 there:∀b o,h.get? b=some o->b∉ex->∃o',h'.get? b=some o'
 tups:∀b xs,H b=some (.tup xs)->H' b=some (.tup xs)
 frzs:∀b o u,H b=some (.frz o u)->H' b=some (.frz o u)
 tbls:∀b ps,H b=some (.tbl ps)->∃more,H' b=some (.tbl (ps++more))
section
variable {fs fs' ex ex':List Addr} {H H1 H2:Hp} {h h1 h2 h':Heap} {a x e:Addr} {o:HO}
theorem Un.any (u:Un fs ex H H1 h h1) {b:Addr} {ob:Obj} (q:h.get? b=some ob) (n:H b=none) (hx:b∉ex):∃sl,h1.get? b=some { ob with slots:=sl }:=by
 by_cases hb:b∈fs
 ·exact u.slot b ob q n hb hx
 ·exact ⟨ob.slots,u.keep b ob q n hb hx⟩
theorem Un.kept (k:∀b u,h.get? b=some u->h'.get? b=some u):Un fs ex H H h h':=
 ⟨fun b ob q _ _ _=>k b ob q,fun b ob q _ _ _=>⟨ob.slots,k b ob q⟩,fun _ _ _ n _=>n,fun b ob q _=>⟨ob,k b ob q⟩,fun _ _ q=>q,fun _ _ _ q=>q,fun _ ps q=>⟨#[],by rw [q];simp⟩⟩
theorem Un.refl:Un fs ex H H h h:=Un.kept fun _ _ q=>q
theorem Un.laid (k:∀b u,h.get? b=some u->h'.get? b=some u) (hp:h.objs.size<=a) (hn:H a=none):Un fs ex H (upd H a o) h h' where
 keep:=fun b u q _ _ _=>k b u q
 slot:=fun b u q _ _ _=>⟨u.slots,k b u q⟩
 free:=fun b u q n _=>by rw [xh (Nat.ne_of_lt (Nat.lt_of_lt_of_le (Heap.lt_size q) hp))];exact n
 there:=fun b u q _=>⟨u,k b u q⟩
 tups:=fun b xs q=>by rw [xh (xk q hn)];exact q
 frzs:=fun b u xs q=>by rw [xh (xk q hn)];exact q
 tbls:=fun b ps q=>⟨#[],by rw [xh (xk q hn),q];simp⟩
theorem Un.write (mu:Mut (H x)) (he:e=x∨H e=some (.own x)) (k:∀b u,b≠e->h.get? b=some u->h'.get? b=some u) (heo:∃u,h'.get? e=some u):Un fs ex H (upd H x o) h h':=by
 have hx:∀b,H b=none->b≠x:=fun b n z=>by subst z;rw [n] at mu;exact mu
 have hb:∀b,H b=none->b≠e:=fun b n z=>by
  subst z
  rcases he with r | r
  ·exact hx b n r
  ·rw [n] at r;cases r
 have hm:∀b u,H b=some u->¬Mut (some u)->b≠x:=fun b u q nm z=>by subst z;rw [q] at mu;exact nm mu
 refine ⟨fun b u q n _ _=>k b u (hb b n) q,fun b u q n _ _=>⟨u.slots,k b u (hb b n) q⟩,fun b u q n _=>by rw [xh (hx b n)];exact n,fun b u q _=>?_,
  fun b xs q=>by rw [xh (hm b _ q fun z=>z)];exact q,fun b u xs q=>by rw [xh (hm b _ q fun z=>z)];exact q,fun b ps q=>⟨#[],by rw [xh (hm b _ q fun z=>z),q];simp⟩⟩
 by_cases hbe:b=e
 ·subst hbe;exact heo
 ·exact ⟨u,k b u hbe q⟩
end
def trk (h:Heap) (H:Hp):List Addr:=(List.range h.objs.size).filter fun a=>(H a).isSome
def hidT (h:Heap) (H:Hp):Heap:=PySem.W.hideAll h (trk h H)
theorem U9 (h:Heap) (H:Hp):(hidT h H).objs.size=h.objs.size:=PySem.W.hideAll_size _ _
theorem Jh {h:Heap} {H:Hp} {b:Addr} {o:Obj} (e:h.get? b=some o) (n:H b=none):(hidT h H).get? b=some o:=
 PySem.W.hideAll_get _ e fun hm=>by
  have q:(H b).isSome=true:=(List.mem_filter.mp hm).2
  rw [n] at q;simp at q
theorem KG {h:Heap} {H:Hp} {b:Addr} {o:Obj} (e:(hidT h H).get? b=some o):h.get? b=some o/\H b=none:=by
 have e':h.get? b=some o:=PySem.W.of_hideAll (trk h H) e
 refine ⟨e',?_⟩
 cases q:H b with
 | none=>rfl
 | some x=>
  have hm:b∈trk h H:=List.mem_filter.mpr ⟨List.mem_range.mpr (Heap.lt_size e'),by simp [q]⟩
  have z:(hidT h H).get? b=none:=PySem.W.hideAll_none (trk h H) hm
  rw [z] at e;cases e
def allNews (g h:Heap) (L:Addr):List (Addr×Obj):=(List.range h.objs.size).filterMap fun a=>if a=L∨(g.get? a).isSome=true then none else (h.get? a).map fun o=>(a,o)
def rest (g h:Heap) (L d:Addr):List (Addr×Obj):=(allNews g h L).filter fun p=>decide (p.1≠d)
structure Mod (K:PySem.W.Frag) (mg:Str->Option Value) (base:Heap):Prop where
 kin:K.In base
 glob:base.Ns mainGlobals mg
 blt:∃mb,base.Ns builtinsNs mb/\∀x:Str,x≠ "__name__" ->mb x=bootBuiltins x
 nolimit:base.NoLimit
structure Cx where
 prog:Program
 w:World
 K:PySem.W.Frag
 mg:Str->Option Value
 base:Heap
 A:Around
 N:List Str
 s₀:Shared
 H₀:Hp
 env:Env
 outer:List Env
 stack:List Env
 ex:List Addr
 fn:Str->Bool
 calm:Bool
 pn:List (Addr×Obj)
 xe:Value->Shared->Prop
def frs (l:List Env):List Addr:=l.filterMap (·.frame)
abbrev Cx.fs (X:Cx):List Addr:=frs X.outer
def Vis (sc:Scope) (x:Str):Prop:=sc.names.lookup x=some .local∨sc.names.lookup x=some .cell∨sc.names.lookup x=some .free
def Loc (sc:Scope) (x:Str):Prop:=sc.names.lookup x=some .local∨sc.names.lookup x=some .cell
def Look (env:Env) (h:Heap) (m:Str->Option Value) (x:Str) (u:Value):Prop:=
 (env.kindOf x=some .local/\m x=some u)∨((env.kindOf x=some .cell∨env.kindOf x=some .free)/\∃c,env.cells.lookup x=some c/\h.IsCell c (some u))
structure Cx.Ok (X:Cx):Prop where
 mod:Mod X.K X.mg X.base
 kind:X.env.scope.kind= .function
 glob:X.env.globals=mainGlobals
 blt:X.env.builtins=builtinsNs
 above:X.s₀.heap.objs.size<=X.env.locals
 inj:∀x y c,X.env.cells.lookup x=some c->X.env.cells.lookup y=some c->x=y
 has:∀x,(X.env.kindOf x=some .cell∨X.env.kindOf x=some .free)->∃c,X.env.cells.lookup x=some c
 cab:∀x c,X.fn x=true->X.env.cells.lookup x=some c->X.s₀.heap.objs.size<=c
 hd:X.calm=true->X.A.handled=none
 frames:X.A.frames=some X.stack
 stk:X.stack=X.outer∨(X.stack=X.env::X.outer/\X.env.frame=some X.env.locals)
 exf:∀b∈X.ex,b≠X.env.locals/\∀x c,X.env.cells.lookup x=some c->c≠b
 bs:∀b o,X.base.get? b=some o->X.s₀.heap.get? b=some o/\X.H₀ b=none
 bsz:X.base.objs.size<=X.s₀.heap.objs.size
 noex:∀b o,X.base.get? b=some o->b∉X.ex
 exfs:∀b∈X.ex,b∉X.fs
 funs:X.s₀.heap.FunFrames X.base X.outer
 frf:∀b∈X.fs,X.H₀ b=none
structure Inv (X:Cx) (pins:List (Addr×Obj)) (σ:List (Option V)) (H:Hp) (s:Shared):Prop where
 ok:X.Ok
 os:s.os=X.s₀.os
 bare:AllBare s.gens
 base:Un X.fs X.ex X.H₀ H X.s₀.heap s.heap
 loc:∃m,s.heap.Ns X.env.locals m/\∀(i:Nat) (x:Str) (v:V),X.N[i]? =some x->σ[i]? =some (some v)->Vis X.env.scope x->∃u,RelV v u/\Look X.env s.heap m x u
 cell:∀x c,X.env.cells.lookup x=some c->∃v,s.heap.IsCell c v
 free:H X.env.locals=none
 freeC:∀x c,X.env.cells.lookup x=some c->H c=none
 pin:∀p∈X.pn++pins,s.heap.get? p.1=some p.2/\H p.1=none/\p.1≠X.env.locals/\p.1∉X.fs/\∀v,p.2.data≠ .cell v
 hok:HOk X.prog X.w H s.heap
 len:σ.length=X.N.length
section
variable {X:Cx} {pins:List (Addr×Obj)} {σ:List (Option V)} {H H':Hp} {s:Shared} {h':Heap}
theorem Cx.Ok.nofr (ok:X.Ok) {b:Addr} {o:Obj} (e:X.base.get? b=some o):b∉X.fs:=fun hb=>by
 have:=(ok.funs.mem hb).1
 rw [e] at this;cases this
theorem Inv.bs (I:Inv X pins σ H s):∀b o,X.base.get? b=some o->s.heap.get? b=some o/\H b=none:=fun b o e=>
 ⟨I.base.keep b o (I.ok.bs b o e).1 (I.ok.bs b o e).2 (I.ok.nofr e) (I.ok.noex b o e),I.base.free b o (I.ok.bs b o e).1 (I.ok.bs b o e).2 (I.ok.noex b o e)⟩
theorem Inv.bk (I:Inv X pins σ H s):∀b o,X.base.get? b=some o->s.heap.get? b=some o:=fun b o e=>(I.bs b o e).1
theorem Inv.mod (I:Inv X pins σ H s):Mod X.K X.mg X.base:=I.ok.mod
theorem Inv.kIn (I:Inv X pins σ H s):X.K.In s.heap:=I.ok.mod.kin.keeps I.bk
theorem Inv.lt (I:Inv X pins σ H s):X.env.locals<s.heap.objs.size:=let ⟨_,hn,_⟩:=I.loc;hn.lt
theorem Inv.sz (I:Inv X pins σ H s):X.s₀.heap.objs.size<=s.heap.objs.size:=Nat.le_trans I.ok.above (Nat.le_of_lt I.lt)
theorem Inv.nofs (I:Inv X pins σ H s) {a:Addr} (h:s.heap.objs.size<=a):a∉X.fs:=fun hb=>by
 obtain ⟨_,o,ho,_⟩:=I.ok.funs.mem hb
 exact absurd (Nat.lt_of_lt_of_le (Heap.lt_size ho) (Nat.le_trans I.sz h)) (Nat.lt_irrefl _)
theorem Inv.cne (I:Inv X pins σ H s):∀x c,X.env.cells.lookup x=some c->c≠X.env.locals:=fun x c e z=>by
 obtain ⟨v,o,ho,hd⟩:=I.cell x c e
 obtain ⟨m,⟨o',es,ep,ho',hd',_⟩,_⟩:=I.loc
 rw [z,ho'] at ho;cases ho;rw [hd'] at hd;cases hd
theorem Inv.funs (I:Inv X pins σ H s):s.heap.FunFrames X.base X.outer:=by
 have all:∀(l:List Env),(∀b∈frs l,b∈X.fs)->X.s₀.heap.FunFrames X.base l->s.heap.FunFrames X.base l:=by
  intro l
  induction l with
  | nil=>intro _ _;trivial
  | cons env r ih=>
   intro hs hl
   obtain ⟨hk,⟨L,o,hf,hn,ho,hd⟩,hr⟩:=hl
   have hL:L∈X.fs:=hs L (by unfold frs;rw [List.filterMap_cons,hf];exact List.mem_cons_self)
   obtain ⟨sl,e⟩:=I.base.slot L o ho (I.ok.frf L hL) hL fun z=>I.ok.exfs L z hL
   exact ⟨hk,⟨L,_,hf,hn,e,hd⟩,ih (fun b hb=>hs b (by unfold frs;rw [List.filterMap_cons,hf];exact List.mem_cons_of_mem _ hb)) hr⟩
 exact all X.outer (fun _ hb=>hb) I.ok.funs
theorem Inv.stack (I:Inv X pins σ H s):s.heap.FunFrames X.base X.stack:=by
 rcases I.ok.stk with e | ⟨e,hf⟩
 ·rw [e];exact I.funs
 ·rw [e]
  obtain ⟨m,hn,_⟩:=I.loc
  refine .cons (by rw [I.ok.kind];decide) hf hn ?_ I.funs
  exact Heap.get?_none_of_le (Nat.le_trans I.ok.bsz I.ok.above)
theorem Inv.stkSub (I:Inv X pins σ H s):∀b∈frs X.stack,b∈X.env.locals::X.fs:=fun b hb=>by
 rcases I.ok.stk with e | ⟨e,hf⟩
 ·rw [e] at hb;exact List.mem_cons_of_mem _ hb
 ·rw [e] at hb
  unfold frs at hb
  rw [List.filterMap_cons,hf] at hb
  exact hb
theorem Inv.stkFree (I:Inv X pins σ H s):∀b∈frs X.stack,H b=none:=fun b hb=>by
 rcases List.mem_cons.mp (I.stkSub b hb) with e | hb
 ·rw [e];exact I.free
 ·obtain ⟨_,o,ho,_⟩:=I.ok.funs.mem hb
  exact I.base.free b o ho (I.ok.frf b hb) fun z=>I.ok.exfs b z hb
theorem Inv.step {g':Array GenState} {t':Nat} {d':Drawn} {ch:List Addr} (I:Inv X pins σ H s)
  (hch:∀b∈ch,(b∈X.ex∨X.s₀.heap.objs.size<=b)/\b≠X.env.locals/\(∀x c,X.env.cells.lookup x=some c->c≠b)/\∀p∈X.pn++pins,p.1≠b)
  (keep:∀b o,b≠X.env.locals->b∉X.fs->b∉ch->s.heap.get? b=some o->H b=none->h'.get? b=some o)
  (slot:∀b o,b≠X.env.locals->b∈X.fs->b∉ch->s.heap.get? b=some o->H b=none->∃sl,h'.get? b=some { o with slots:=sl }) (free:∀b o,b∉ch->s.heap.get? b=some o->H b=none->H' b=none)
  (there:∀b o,b∉ch->s.heap.get? b=some o->∃o',h'.get? b=some o')
  (tups:∀b xs,H b=some (.tup xs)->H' b=some (.tup xs)) (frzs:∀b o u,H b=some (.frz o u)->H' b=some (.frz o u)) (tbls:∀b ps,H b=some (.tbl ps)->∃more,H' b=some (.tbl (ps++more)))
  (ns:∀m,s.heap.Ns X.env.locals m->h'.Ns X.env.locals m) (hok:HOk X.prog X.w H' h') (hg:AllBare g'):
  Inv X pins σ H' { s with heap:=h',gens:=g',drawn:=d',toks:=t' }:=by
 have neL:∀b o,X.s₀.heap.get? b=some o->b≠X.env.locals:=fun b o e=>Nat.ne_of_lt (Nat.lt_of_lt_of_le (Heap.lt_size e) I.ok.above)
 have neC:∀b o,X.s₀.heap.get? b=some o->b∉X.ex->b∉ch:=fun b o e hx hb=>by
  rcases (hch b hb).1 with z | z
  ·exact hx z
  ·exact absurd (Nat.lt_of_lt_of_le (Heap.lt_size e) z) (Nat.lt_irrefl _)
 have cellK:∀x c,X.env.cells.lookup x=some c->∀v,s.heap.IsCell c v->h'.IsCell c v:=fun x c e v ⟨o,ho,hd⟩=>by
  have nch:c∉ch:=fun z=>(hch c z).2.2.1 x c e rfl
  by_cases hc:c∈X.fs
  ·obtain ⟨sl,q⟩:=slot c o (I.cne x c e) hc nch ho (I.freeC x c e)
   exact ⟨_,q,hd⟩
  ·exact ⟨o,keep c o (I.cne x c e) hc nch ho (I.freeC x c e),hd⟩
 refine ⟨I.ok,I.os,hg,⟨fun b o e n hb hx=>?_,fun b o e n hb hx=>?_,fun b o e n hx=>?_,fun b o e hx=>?_,fun b xs e=>tups b xs (I.base.tups b xs e),fun b o xs e=>frzs b o xs (I.base.frzs b o xs e),fun b ps e=>?_⟩,?_,fun x c e=>?_,?_,fun x c e=>?_,fun p hp=>?_,hok,I.len⟩
 ·exact keep b o (neL b o e) hb (neC b o e hx) (I.base.keep b o e n hb hx) (I.base.free b o e n hx)
 ·obtain ⟨sl,e1⟩:=I.base.slot b o e n hb hx
  obtain ⟨sl',e2⟩:=slot b _ (neL b o e) hb (neC b o e hx) e1 (I.base.free b o e n hx)
  exact ⟨sl',e2⟩
 ·obtain ⟨o',e1⟩:=I.base.there b o e hx
  exact free b o' (neC b o e hx) e1 (I.base.free b o e n hx)
 ·obtain ⟨o',e1⟩:=I.base.there b o e hx
  exact there b o' (neC b o e hx) e1
 ·obtain ⟨m1,e1⟩:=I.base.tbls b ps e
  obtain ⟨m2,e2⟩:=tbls b _ e1
  exact ⟨m1++m2,by rw [e2,Array.append_assoc]⟩
 ·obtain ⟨m,hn,hl⟩:=I.loc
  refine ⟨m,ns m hn,fun i x v e1 e2 e3=>?_⟩
  obtain ⟨u,r,l⟩:=hl i x v e1 e2 e3
  refine ⟨u,r,?_⟩
  rcases l with l | ⟨k,c,e,z⟩
  ·exact .inl l
  ·exact .inr ⟨k,c,e,cellK x c e _ z⟩
 ·obtain ⟨v,z⟩:=I.cell x c e
  exact ⟨v,cellK x c e v z⟩
 ·obtain ⟨m,⟨o,_,_,ho,_⟩,_⟩:=I.loc
  exact free _ o (fun z=>(hch _ z).2.1 rfl) ho I.free
 ·obtain ⟨v,o,ho,hd⟩:=I.cell x c e
  exact free c o (fun z=>(hch c z).2.2.1 x c e rfl) ho (I.freeC x c e)
 ·obtain ⟨e,n,ne,nf,d⟩:=I.pin p hp
  have nch:p.1∉ch:=fun z=>(hch p.1 z).2.2.2 p hp rfl
  exact ⟨keep p.1 p.2 ne nf nch e n,free p.1 p.2 nch e n,ne,nf,d⟩
theorem Inv.un {t':Nat} (I:Inv X pins σ H s) (u:Un X.fs [] H H' s.heap h') (hok:HOk X.prog X.w H' h'):Inv X pins σ H' { s with heap:=h',toks:=t' }:=by
 obtain ⟨m,⟨o,es,ep,ho,r⟩,_⟩:=id I.loc
 obtain ⟨sl,hL⟩:=u.any ho I.free (by simp)
 exact I.step (g':=s.gens) (d':=s.drawn) (ch:=[]) (fun _ z=>nomatch z) (fun b o _ hb _ e n=>u.keep b o e n hb (by simp)) (fun b o _ hb _ e n=>u.slot b o e n hb (by simp)) (fun b o _ e n=>u.free b o e n (by simp)) (fun b o _ e=>u.there b o e (by simp)) u.tups u.frzs u.tbls (fun m' hm=>by
  obtain ⟨o',es',ep',ho',r'⟩:=hm
  rw [ho] at ho';cases ho'
  exact ⟨_,es',ep',hL,r'⟩) hok I.bare
theorem Inv.call {g':Array GenState} {t':Nat} {d':Drawn} {ch:List Addr} (I:Inv X pins σ H s) (u:Un (frs X.stack) ch H H' s.heap h') (hok:HOk X.prog X.w H' h') (hg:AllBare g')
  (hch:∀b∈ch,(b∈X.ex∨X.s₀.heap.objs.size<=b)/\b≠X.env.locals/\(∀x c,X.env.cells.lookup x=some c->c≠b)/\∀p∈X.pn++pins,p.1≠b):
  Inv X pins σ H' { s with heap:=h',gens:=g',drawn:=d',toks:=t' }:=by
 obtain ⟨m,⟨o,es,ep,ho,r⟩,_⟩:=id I.loc
 obtain ⟨sl,hL⟩:=u.any ho I.free fun z=>(hch _ z).2.1 rfl
 exact I.step (ch:=ch) hch (fun b o hL hb hc e n=>u.keep b o e n (fun z=>(List.mem_cons.mp (I.stkSub b z)).elim hL hb) hc) (fun b o _ _ hc e n=>u.any e n hc) (fun b o hc e n=>u.free b o e n hc) (fun b o hc e=>u.there b o e hc) u.tups u.frzs u.tbls (fun m' hm=>by
  obtain ⟨o',es',ep',ho',r'⟩:=hm
  rw [ho] at ho';cases ho'
  exact ⟨_,es',ep',hL,r'⟩) hok hg
theorem Inv.turned {t':Nat} {it:Addr} (I:Inv X pins σ H s) (k:∀b o,b≠it->s.heap.get? b=some o->h'.get? b=some o) (hn:H it=none) (hL:it≠X.env.locals)
  (h1:it∈X.ex∨X.s₀.heap.objs.size<=it) (h2:∀x c,X.env.cells.lookup x=some c->c≠it) (h3:∀p∈X.pn++pins,p.1≠it):Inv X pins σ H { s with heap:=h',toks:=t' }:=by
 have nit:∀b u,H b=some u->b≠it:=fun b u e z=>by rw [z,hn] at e;cases e
 refine I.step (g':=s.gens) (d':=s.drawn) (ch:=[it]) (fun b hb=>?_) (fun b o _ _ hc e _=>k b o (fun z=>hc (by simp [z])) e) (fun b o _ _ hc e _=>⟨o.slots,k b o (fun z=>hc (by simp [z])) e⟩) (fun _ _ _ _ n=>n)
  (fun b o hc e=>⟨o,k b o (fun z=>hc (by simp [z])) e⟩) (fun _ _ e=>e) (fun _ _ _ e=>e) (fun b ps e=>⟨#[],by rw [e];simp⟩) (fun m hm=>?_) (fun b u e=>?_) I.bare
 ·have e:b=it:=by simpa using hb
  subst e
  exact ⟨h1,hL,h2,h3⟩
 ·obtain ⟨o,es,ep,ho,r⟩:=hm
  exact ⟨o,es,ep,k _ o (Ne.symm hL) ho,r⟩
 ·refine (I.hok b u e).stay (fun c v hc q=>k c v ?_ q) (fun _ q=>q) fun _ _ q=>q
  rcases hc with z | z
  ·rw [z];exact nit b u e
  ·exact nit c _ z
theorem Inv.tok (I:Inv X pins σ H s) (t:Nat):Inv X pins σ H { s with toks:=t }:=I.un (h':=s.heap) (t':=t) Un.refl I.hok
theorem Inv.kept {t':Nat} (I:Inv X pins σ H s) (k:∀b u,s.heap.get? b=some u->h'.get? b=some u):Inv X pins σ H { s with heap:=h',toks:=t' }:=I.un (Un.kept k) (I.hok.kept k)
theorem Inv.laid {a:Addr} {o:HO} {t':Nat} (I:Inv X pins σ H s) (k:∀b u,s.heap.get? b=some u->h'.get? b=some u) (hp:s.heap.objs.size<=a) (new:ObjOk X.prog X.w (upd H a o) h' a o):
  Inv X pins σ (upd H a o) { s with heap:=h',toks:=t' }:=I.un (Un.laid k hp (I.hok.fresh hp)) (I.hok.laid k hp new)
theorem Inv.write {x e:Addr} {o:HO} {t':Nat} (I:Inv X pins σ H s) (mu:Mut (H x)) (he:e=x∨H e=some (.own x)) (k:∀b u,b≠e->s.heap.get? b=some u->h'.get? b=some u) (heo:∃u,h'.get? e=some u)
  (new:ObjOk X.prog X.w (upd H x o) h' x o):Inv X pins σ (upd H x o) { s with heap:=h',toks:=t' }:=I.un (Un.write mu he k heo) (I.hok.write mu he k heo new)
theorem Inv.pins_of {pins':List (Addr×Obj)} (I:Inv X pins σ H s) (h:∀p∈pins',s.heap.get? p.1=some p.2/\H p.1=none/\p.1≠X.env.locals/\p.1∉X.fs/\∀v,p.2.data≠ .cell v):Inv X pins' σ H s:=
 ⟨I.ok,I.os,I.bare,I.base,I.loc,I.cell,I.free,I.freeC,fun p hp=>(List.mem_append.mp hp).elim (fun z=>I.pin p (List.mem_append_left _ z)) (h p),I.hok,I.len⟩
theorem Xz {N:List Str} (hN:N.Nodup) {i j:Nat} {x:Str} (a:N[i]? =some x) (b:N[j]? =some x):i=j:=by
 obtain ⟨h1,e1⟩:=List.getElem?_eq_some_iff.mp a
 obtain ⟨h2,e2⟩:=List.getElem?_eq_some_iff.mp b
 exact (List.getElem_inj hN).mp (e1.trans e2.symm)
theorem Ur {M:Model} {A:Around} {E:Value->Shared->Prop} {i:Nat} {x:Str} {v:V} {u:Value} {Q:Unit->Shared->Prop} (I:Inv X pins σ H s) (hN:X.N.Nodup) (hi:X.N[i]? =some x) (hx:Loc X.env.scope x) (r:RelV v u)
  (h:∀s',Inv X pins (σ.set i (some v)) H s'->(∃a,Heap.SameBut a s.heap s'.heap/\(a=X.env.locals∨X.env.cells.lookup x=some a))->Q () s') (hf:X.fn x=true∨X.env.scope.names.lookup x=some .local:=by first | exact .inl rfl | exact .inr rfl | assumption):wpAny M A (storeName X.env x u) Q E s:=by
 obtain ⟨m,hn,hl⟩:=id I.loc
 have hcls:(X.env.scope.kind== .class || (X.env.scope.kind== .module && X.env.locals !=X.env.globals))=false:=by rw [I.ok.kind];rfl
 have hiσ:i<σ.length:=by rw [I.len];exact (List.getElem?_eq_some_iff.mp hi).1
 have cne:=I.cne
 have tracked:∀{a:Addr} {h':Heap},(∃o,s.heap.get? a=some o/\H a=none)->Heap.SameBut a s.heap h'->HOk X.prog X.w H h':=fun {a h'} ha hs b ob e=>by
  obtain ⟨_,_,hfree⟩:=ha
  refine (I.hok b ob e).stay (fun c w' hc q=>(hs.2 c ?_).trans q) (fun _ q=>q) fun _ _ q=>q
  rintro rfl
  rcases hc with rfl | hc
  ·rw [hfree] at e;cases e
  ·rw [hfree] at hc;cases hc
 rcases hx with hk | hk
 ·refine wpAny_storeName_local hk hn (fun h' hn' hs=>?_) hcls
  obtain ⟨oL,_,_,hoL,_⟩:=id hn
  refine h _ ⟨I.ok,I.os,I.bare,⟨fun b o e n hb hx=>?_,fun b o e n hb hx=>?_,I.base.free,fun b o e hx=>?_,I.base.tups,I.base.frzs,I.base.tbls⟩,⟨_,hn',fun j y v' e1 e2 e3=>?_⟩,fun y c e=>?_,I.free,I.freeC,fun p hp=>?_,tracked ⟨oL,hoL,I.free⟩ hs,by simpa using I.len⟩ ⟨_,hs,.inl rfl⟩
  ·exact (hs.2 b (Nat.ne_of_lt (Nat.lt_of_lt_of_le (Heap.lt_size e) I.ok.above))).trans (I.base.keep b o e n hb hx)
  ·obtain ⟨sl,e1⟩:=I.base.slot b o e n hb hx
   exact ⟨sl,(hs.2 b (Nat.ne_of_lt (Nat.lt_of_lt_of_le (Heap.lt_size e) I.ok.above))).trans e1⟩
  ·obtain ⟨o',e1⟩:=I.base.there b o e hx
   exact ⟨o',(hs.2 b (Nat.ne_of_lt (Nat.lt_of_lt_of_le (Heap.lt_size e) I.ok.above))).trans e1⟩
  ·by_cases hj:j=i
   ·subst hj
    rw [hi] at e1;cases e1
    rw [List.getElem?_set_self hiσ] at e2
    cases e2
    exact ⟨u,r,.inl ⟨hk,by simp⟩⟩
   ·rw [List.getElem?_set_ne (Ne.symm hj)] at e2
    obtain ⟨u',r',q⟩:=hl j y v' e1 e2 e3
    refine ⟨u',r',?_⟩
    rcases q with ⟨k,e⟩ | ⟨k,c,e,z⟩
    ·refine .inl ⟨k,?_⟩
     have:y≠x:=fun e=>hj (Xz hN e1 (e▸hi))
     simp [this,e]
    ·exact .inr ⟨k,c,e,z.sameBut hs (cne y c e)⟩
  ·obtain ⟨w',z⟩:=I.cell y c e
   exact ⟨w',z.sameBut hs (cne y c e)⟩
  ·obtain ⟨e,n,ne,nf,d⟩:=I.pin p hp
   exact ⟨(hs.2 p.1 ne).trans e,n,ne,nf,d⟩
 ·have hfn:X.fn x=true:=by
   rcases hf with z | z
   ·exact z
   ·rw [z] at hk;cases hk
  obtain ⟨c,hc⟩:=I.ok.has x (.inl hk)
  obtain ⟨w',z⟩:=I.cell x c hc
  refine wpAny_storeName_cell I.ok.kind hk hc z (fun h' hc' hs=>?_)
  obtain ⟨oc,hoc,hocd⟩:=id z
  refine h { s with heap:=h' } ⟨I.ok,I.os,I.bare,⟨fun b o e n hb hx=>?_,fun b o e n hb hx=>?_,I.base.free,fun b o e hx=>?_,I.base.tups,I.base.frzs,I.base.tbls⟩,⟨m,hn.sameBut hs (Ne.symm (cne x c hc)),fun j y v' e1 e2 e3=>?_⟩,fun y c' e=>?_,I.free,I.freeC,fun p hp=>?_,tracked ⟨oc,hoc,I.freeC x c hc⟩ hs,by simpa using I.len⟩ ⟨c,hs,.inr hc⟩
  ·exact (hs.2 b (Nat.ne_of_lt (Nat.lt_of_lt_of_le (Heap.lt_size e) (I.ok.cab x c hfn hc)))).trans (I.base.keep b o e n hb hx)
  ·obtain ⟨sl,e1⟩:=I.base.slot b o e n hb hx
   exact ⟨sl,(hs.2 b (Nat.ne_of_lt (Nat.lt_of_lt_of_le (Heap.lt_size e) (I.ok.cab x c hfn hc)))).trans e1⟩
  ·obtain ⟨o',e1⟩:=I.base.there b o e hx
   exact ⟨o',(hs.2 b (Nat.ne_of_lt (Nat.lt_of_lt_of_le (Heap.lt_size e) (I.ok.cab x c hfn hc)))).trans e1⟩
  ·by_cases hj:j=i
   ·subst hj
    rw [hi] at e1;cases e1
    rw [List.getElem?_set_self hiσ] at e2
    cases e2
    exact ⟨u,r,.inr ⟨.inl hk,c,hc,hc'⟩⟩
   ·rw [List.getElem?_set_ne (Ne.symm hj)] at e2
    obtain ⟨u',r',q⟩:=hl j y v' e1 e2 e3
    refine ⟨u',r',?_⟩
    rcases q with q | ⟨k,c',e,z'⟩
    ·exact .inl q
    ·refine .inr ⟨k,c',e,z'.sameBut hs ?_⟩
     rintro rfl
     exact hj (Xz hN e1 (I.ok.inj _ _ _ e hc▸hi))
  ·by_cases hcc:c'=c
   ·subst hcc;exact ⟨_,hc'⟩
   ·obtain ⟨w2,z2⟩:=I.cell y c' e
    exact ⟨w2,z2.sameBut hs hcc⟩
  ·obtain ⟨e,n,ne,nf,d⟩:=I.pin p hp
   refine ⟨(hs.2 p.1 ?_).trans e,n,ne,nf,d⟩
   intro q
   rw [q,hoc] at e
   have q':oc=p.2:=Option.some.inj e
   exact d w' (by rw [<-q'];exact hocd)
theorem zI {M:Model} {A:Around} {E:Value->Shared->Prop} {i:Nat} {x:Str} {v:V} {u:Value} {Q:Unit->Shared->Prop} (I:Inv X pins σ H s) (hN:X.N.Nodup) (hi:X.N[i]? =some x) (hx:Loc X.env.scope x) (r:RelV v u)
  (h:∀s',Inv X pins (σ.set i (some v)) H s'->Q () s') (hf:X.fn x=true∨X.env.scope.names.lookup x=some .local:=by first | exact .inl rfl | exact .inr rfl | assumption):wpAny M A (storeName X.env x u) Q E s:=
 Ur I hN hi hx r (fun s' I' _=>h s' I') hf
theorem Inv.call' {s':Shared} {ch:List Addr} (I:Inv X pins σ H s) (ho:s'.os=s.os) (u:Un (frs X.stack) ch H H' s.heap s'.heap) (hok:HOk X.prog X.w H' s'.heap) (hg:AllBare s'.gens)
  (hch:∀b∈ch,(b∈X.ex∨X.s₀.heap.objs.size<=b)/\b≠X.env.locals/\(∀x c,X.env.cells.lookup x=some c->c≠b)/\∀p∈X.pn++pins,p.1≠b):Inv X pins σ H' s':=by
 obtain ⟨h',g',d',t',o'⟩:=s'
 have e:o'=s.os:=ho
 subst e
 exact I.call (g':=g') (t':=t') (d':=d') u hok hg hch
end
abbrev XK:=Value->Option Addr->Hp->Prop
abbrev St:=List (Option V)
abbrev VK:=V->Hp->Prop
abbrev TE:=St->Hp->VK->Prop
abbrev TT:=St->Hp->(Bool->Hp->Prop)->Prop
abbrev TA:=St->Hp->(List V->Hp->Prop)->Prop
structure Ends where
 nx:St->Hp->Prop
 rt:VK
 bk:St->Hp->Prop:=fun _ _=>False
 ct:St->Hp->Prop:=fun _ _=>False
abbrev TS:=Ends->St->Hp->Prop
def EP (X:Cx) (pins:List (Addr×Obj)) (σ:St) (Q:VK) (u:Value) (s':Shared):Prop:=∃v H',Inv X pins σ H' s'/\RelV v u/\Q v H'
def TP (X:Cx) (pins:List (Addr×Obj)) (σ:St) (Q:Bool->Hp->Prop) (b:Bool) (s':Shared):Prop:=∃H',Inv X pins σ H' s'/\Q b H'
def AP (X:Cx) (pins:List (Addr×Obj)) (σ:St) (Q:List V->Hp->Prop) (us:List Value) (s':Shared):Prop:=∃vs H',Inv X pins σ H' s'/\Vals vs us/\Q vs H'
def SP (X:Cx) (pins:List (Addr×Obj)) (D:Ends) (f:Flow) (s':Shared):Prop:=
 match f with
 | .next=>∃σ' H',Inv X pins σ' H' s'/\D.nx σ' H'
 | .brk=>∃σ' H',Inv X pins σ' H' s'/\D.bk σ' H'
 | .cont=>∃σ' H',Inv X pins σ' H' s'/\D.ct σ' H'
 | .ret u=>∃v σ' H',Inv X pins σ' H' s'/\RelV v u/\D.rt v H'
def PE (X:Cx) (e:Expr) (t:TE):Prop:=
 ∀(pins:List (Addr×Obj)) (s:Shared) (σ:St) (H:Hp) (Q:VK),Inv X pins σ H s->t σ H Q->wpAny (model X.prog X.w) X.A (eval e X.env) (EP X pins σ Q) X.xe s
def PT (X:Cx) (e:Expr) (t:TT):Prop:=
 ∀(pins:List (Addr×Obj)) (s:Shared) (σ:St) (H:Hp) (Q:Bool->Hp->Prop),Inv X pins σ H s->t σ H Q->wpAny (model X.prog X.w) X.A (isTrue e X.env (eval e X.env)) (TP X pins σ Q) X.xe s
def PW (X:Cx) (e:Expr) (t:TT):Prop:=
 ∀(whole:Sem Value) (pins:List (Addr×Obj)) (s:Shared) (σ:St) (H:Hp) (Q:Bool->Hp->Prop),Inv X pins σ H s->t σ H Q->wpAny (model X.prog X.w) X.A (isTrue e X.env whole) (TP X pins σ Q) X.xe s
theorem PW.pt {X:Cx} {e:Expr} {t:TT} (h:PW X e t):PT X e t:=h _
def PA (X:Cx) (es:List Expr) (t:TA):Prop:=
 ∀(pos:Pos) (pins:List (Addr×Obj)) (s:Shared) (σ:St) (H:Hp) (Q:List V->Hp->Prop),Inv X pins σ H s->t σ H Q->wpAny (model X.prog X.w) X.A (spliced (backTo pos (starEach es X.env))) (AP X pins σ Q) X.xe s
def PS (X:Cx) (st:Stmt) (t:TS):Prop:=
 ∀(pins:List (Addr×Obj)) (s:Shared) (σ:St) (H:Hp) (D:Ends),Inv X pins σ H s->t D σ H->wpAny (model X.prog X.w) X.A (exec st X.env) (SP X pins D) X.xe s
def PSs (X:Cx) (st:List Stmt) (t:TS):Prop:=
 ∀(pins:List (Addr×Obj)) (s:Shared) (σ:St) (H:Hp) (D:Ends),Inv X pins σ H s->t D σ H->wpAny (model X.prog X.w) X.A (execs st X.env) (SP X pins D) X.xe s
theorem thn {α:Type} {t:Sem α} {Q Q':α->Shared->Prop} {M:Model} {A:Around} {E:Value->Shared->Prop} {s:Shared} (h:wpAny M A t Q E s) (hQ:∀a s,Q a s->Q' a s):wpAny M A t Q' E s:=wpAny_mono h hQ fun _ _ x=>x
section
variable {X:Cx}
def tVar (i:Nat):TE:=fun σ H Q=>∃v,σ[i]? =some (some v)/\Q v H
def tC (v:V):TE:=fun _ H Q=>Q v H
theorem xU {i:Nat} {x:Str} {pos:Pos} (hN:X.N[i]? =some x) (hv:Vis X.env.scope x) (hd:(x==("__debug__" :Str))=false:=by decide) (hcd:(x==("__classdict__" :Str))=false:=by decide):PE X (.Name x pos) (tVar i):=by
 intro pins s σ H Q I h
 obtain ⟨v,e,h⟩:=h
 obtain ⟨m,hn,hl⟩:=I.loc
 obtain ⟨u,r,l⟩:=hl i x v hN e hv
 have fin:EP X pins σ Q u s:=⟨v,H,I,r,h⟩
 rcases l with ⟨hk,hm⟩ | ⟨hk,c,hc,hcell⟩
 ·exact wpAny_Name (wpAny_loadName_local I.ok.kind hk hn hm fin) hd
 ·rcases hk with hk | hk
  ·exact wpAny_Name (wpAny_loadName_cell I.ok.kind hk hc hcell fin) hd
  ·exact wpAny_Name (wpAny_loadName_free I.ok.kind hk hc hcell fin hcd) hd
theorem xa8 {i j pos}:PE X (.Constant (.int i) j pos) (tC (.int i)):=fun _ _ _ H _ I h=>wpAny_Constant_int ⟨.int i,H,I.tok _,⟨_,rfl⟩,h⟩
theorem xb3 {b j pos}:PE X (.Constant (.bool b) j pos) (tC (.bl b)):=fun _ _ _ H _ I h=>Constant_bool ⟨.bl b,H,I,rfl,h⟩
theorem xa7 {j pos}:PE X (.Constant .none j pos) (tC .non):=fun _ _ _ H _ I h=>Constant_none ⟨.non,H,I,rfl,h⟩
theorem xa5 {x j pos}:PE X (.Constant (.str x) j pos) (tC (.str x)):=fun _ _ _ H _ I h=>Calls.Constant_str ⟨.str x,H,I.tok _,⟨_,rfl⟩,h⟩
def Gl (X:Cx) (x:Str):Prop:=X.env.kindOf x=some .globalImplicit
theorem yG {E:Value->Shared->Prop} {pins:List (Addr×Obj)} {s:Shared} {σ:St} {H:Hp} {x:Str} {u:Value} {pos:Pos} {Q:Value->Shared->Prop} (I:Inv X pins σ H s) (hg:Gl X x) (hm:X.mg x=some u) (h:Q u s)
  (hd:(x==("__debug__" :Str))=false:=by decide):wpAny (model X.prog X.w) X.A (eval (.Name x pos) X.env) Q E s:=
 Calls.Name_function_global I.ok.kind hg (Calls.loadGlobal_global (by rw [I.ok.glob];exact I.mod.glob.keeps I.bk) hm h) hd
theorem wG {E:Value->Shared->Prop} {pins:List (Addr×Obj)} {s:Shared} {σ:St} {H:Hp} {x:Str} {u:Value} {pos:Pos} {Q:Value->Shared->Prop} (I:Inv X pins σ H s) (hg:Gl X x) (hm:X.mg x=none) (hv:bootBuiltins x=some u) (h:Q u s)
  (hn:x≠ "__name__" :=by decide) (hd:(x==("__debug__" :Str))=false:=by decide):wpAny (model X.prog X.w) X.A (eval (.Name x pos) X.env) Q E s:=by
 obtain ⟨mb,h1,h2⟩:=I.mod.blt
 exact Calls.Name_function_global I.ok.kind hg (Calls.loadGlobal_builtin (by rw [I.ok.glob];exact I.mod.glob.keeps I.bk) hm (by rw [I.ok.blt];exact h1.keeps I.bk) ((h2 x hn).trans hv) h) hd
theorem vS {x:Str} {v:V} {u:Value} {pos:Pos} (hg:Gl X x) (hm:X.mg x=some u) (r:RelV v u) (hd:(x==("__debug__" :Str))=false:=by decide):PE X (.Name x pos) (tC v):=
 fun _ _ _ H _ I h=>yG I hg hm ⟨v,H,I,r,h⟩ hd
theorem WV {x:Str} {v:V} {u:Value} {pos:Pos} (hg:Gl X x) (hm:X.mg x=none) (hv:bootBuiltins x=some u) (r:RelV v u) (hn:x≠ "__name__" :=by decide) (hd:(x==("__debug__" :Str))=false:=by decide):PE X (.Name x pos) (tC v):=
 fun _ _ _ H _ I h=>wG I hg hm hv ⟨v,H,I,r,h⟩ hn hd
variable {a b:Expr} {ta tb:TE} {pos:Pos}
def PC (X:Cx) (op:CmpOp) (a b:Expr) (t:TE):Prop:=
 ∀(pins:List (Addr×Obj)) (s:Shared) (σ:St) (H:Hp) (Q:VK),Inv X pins σ H s->t σ H Q->
  wpAny (model X.prog X.w) X.A (eval a X.env) (fun v s₁=>wpAny (model X.prog X.w) X.A (eval b X.env) (fun u s₂=>wpAny (model X.prog X.w) X.A (compareOp op v u) (EP X pins σ Q) X.xe s₂) X.xe s₁) X.xe s
theorem nobehind (b:Expr) {op:CmpOp} (h:op≠ .In) (h2:op≠ .NotIn):behindInMarks op b=false:=by
 have e1:(op==CmpOp.In)=false:=by cases op<;>first | rfl | exact absurd rfl h
 have e2:(op==CmpOp.NotIn)=false:=by cases op<;>first | rfl | exact absurd rfl h2
 cases b<;>simp [behindInMarks,e1,e2]
def tNotN (ta:TE):TE:=fun σ H Q=>ta σ H fun x H1=>Q (.bl (!decide (x= .non))) H1
theorem RelV.none_iff {x:V} {v:Value} (r:RelV x v):(v==Value.none)=decide (x= .non):=by
 cases x with
 | non=>cases r;rfl
 | bl _=>cases r;rfl
 | int _=>obtain ⟨t,rfl⟩:=r;rfl
 | str _=>obtain ⟨t,rfl⟩:=r;rfl
 | byt _=>obtain ⟨t,rfl⟩:=r;rfl
 | flt _=>obtain ⟨t,rfl⟩:=r;rfl
 | ref _=>cases r;rfl
 | ty _=>cases r;rfl
theorem Kx {j pos'} (ha:PE X a ta):PC X .IsNot a (.Constant .none j pos') (tNotN ta):=by
 intro pins s σ H Q I h
 refine thn (ha pins s σ H _ I h) fun v s1 ⟨x,H1,I1,r1,q1⟩=>?_
 exact Constant_none (isnot_none_gen ⟨.bl _,H1,I1,by rw [r1.none_iff];rfl,q1⟩)
def tB (t:TE):TT:=fun σ H Q=>t σ H fun x H1=>∃c,x= .bl c/\Q c H1
theorem VO {op:CmpOp} {t:TE} (h:PC X op a b t) (h1:behindInMarks op b=false:=by first | exact nobehind _ (by decide) (by decide) | rfl):PT X (.Compare a [op] [b] pos) (tB t):=by
 intro pins s σ H Q I hw
 refine wpAny_isTrue_Compare1 (thn (h pins s σ H _ I hw) fun v s1 h1=>thn h1 fun u s2 h2=>thn h2 fun c s3 ⟨x,H1,I1,r1,q1⟩=>?_) h1
 obtain ⟨d,rfl,q⟩:=q1
 cases r1
 exact wpAny_truthy_bool ⟨H1,I1,q⟩
theorem ku {e:Expr} {t:TE} (h:PE X e t) (he:∀whole,isTrue e X.env whole=(do let v <-whole;standAt e.pos;holding [v] (truthy v)):=by intro _;rfl):PT X e (tB t):=by
 intro pins s σ H Q I hw
 refine isTrue_plain (thn (h pins s σ H _ I hw) fun v s1 ⟨x,H1,I1,r1,q1⟩=>?_) (he _)
 obtain ⟨d,rfl,q⟩:=q1
 cases r1
 exact wpAny_truthy_bool ⟨H1,I1,q⟩
variable {tA tB':TT} {rest:List Expr}
def tAnd (t u:TT):TT:=fun σ H Q=>t σ H fun c H1=>if c=true then u σ H1 Q else Q false H1
def tOr (t u:TT):TT:=fun σ H Q=>t σ H fun c H1=>if c=true then Q true H1 else u σ H1 Q
def tNot (t:TT):TT:=fun σ H Q=>t σ H fun c H1=>Q (!c) H1
theorem Kq (ha:PT X a tA):PW X (.BoolOp .And [a] pos) tA:=by
 intro wh pins s σ H Q I h
 refine isTrue_and (thn (ha pins s σ H Q I h) fun c s1 e=>?_)
 cases c with
 | true=>exact isTrue_and_nil e
 | false=>exact e
theorem kn (ha:PT X a tA):PW X (.BoolOp .Or [a] pos) tA:=by
 intro wh pins s σ H Q I h
 refine isTrue_or (thn (ha pins s σ H Q I h) fun c s1 e=>?_)
 cases c with
 | false=>exact isTrue_or_nil e
 | true=>exact e
theorem kq (ha:PT X a tA) (hb:PW X (.BoolOp .And (b::rest) pos) tB'):PW X (.BoolOp .And (a::b::rest) pos) (tAnd tA tB'):=by
 intro wh pins s σ H Q I h
 refine isTrue_and (thn (ha pins s σ H _ I h) fun c s1 ⟨H1,I1,q1⟩=>?_)
 cases c with
 | true=>exact hb wh pins s1 σ H1 Q I1 q1
 | false=>exact ⟨H1,I1,q1⟩
theorem ko (ha:PT X a tA) (hb:PW X (.BoolOp .Or (b::rest) pos) tB'):PW X (.BoolOp .Or (a::b::rest) pos) (tOr tA tB'):=by
 intro wh pins s σ H Q I h
 refine isTrue_or (thn (ha pins s σ H _ I h) fun c s1 ⟨H1,I1,q1⟩=>?_)
 cases c with
 | true=>exact ⟨H1,I1,q1⟩
 | false=>exact hb wh pins s1 σ H1 Q I1 q1
theorem kx (ha:PT X a tA):PT X (.UnaryOp .Not a pos) (tNot tA):=by
 intro pins s σ H Q I h
 exact isTrue_not (ha pins s σ H (fun c H1=>Q (!c) H1) I h)
def tAndV (ta tb:TE):TE:=fun σ H Q=>ta σ H fun x H1=>∃c,x= .bl c/\if c=true then tb σ H1 Q else Q (.bl false) H1
def tNotV (ta:TE):TE:=fun σ H Q=>ta σ H fun x H1=>∃c,x= .bl c/\Q (.bl (!c)) H1
theorem kF {op} {t:TE} (h:PE X a t):PE X (.BoolOp op [a] pos) t:=fun pins s σ H Q I hw=>BoolOp_one (h pins s σ H Q I hw)
theorem VQ (ha:PE X a ta) (hb:PE X (.BoolOp .And (b::rest) pos) tb):PE X (.BoolOp .And (a::b::rest) pos) (tAndV ta tb):=by
 intro pins s σ H Q I h
 refine BoolOp_and (thn (ha pins s σ H _ I h) fun v s1 ⟨x,H1,I1,r1,q1⟩=>?_)
 obtain ⟨c,rfl,q1⟩:=q1
 cases r1
 refine wpAny_truthy_bool ?_
 cases c with
 | true=>exact hb pins s1 σ H1 Q I1 q1
 | false=>exact ⟨.bl false,H1,I1,rfl,q1⟩
theorem xa6 (ha:PE X a ta):PE X (.UnaryOp .Not a pos) (tNotV ta):=by
 intro pins s σ H Q I h
 refine UnaryOp_ (thn (ha pins s σ H _ I h) fun v s1 ⟨x,H1,I1,r1,q1⟩=>?_)
 obtain ⟨c,rfl,q1⟩:=q1
 cases r1
 exact not_of (wpAny_truthy_bool ⟨.bl (!c),H1,I1,rfl,q1⟩)
end
def SqL (K:PySem.W.Frag) (H:Hp) (a:Addr) (xs:List V):Prop:=
 Rd H a (.lst xs)∨
  ∃(o:Obj) (its:Array Value) (n:Nat),K.lookup a=some o/\o.cls= .type "list" /\o.dict=none/\o.data= .seq its n/\its.size<=sizeLine/\Vals xs its.toList
def SqT (K:PySem.W.Frag) (H:Hp) (a:Addr) (xs:List V):Prop:=
 Rd H a (.tup xs)∨
  ∃(o:Obj) (its:Array Value) (n:Nat),K.lookup a=some o/\o.cls= .type "tuple" /\o.data= .seq its n/\its.size<=sizeLine/\Vals xs its.toList
def absV:Value->Option V
 | .none=>some .non
 | .bool b=>some (.bl b)
 | .int i _=>some (.int i)
 | .str x _=>some (.str x)
 | .bytes b _=>some (.byt b)
 | .float b _=>some (.flt b)
 | .ref a=>some (.ref a)
 | .type n=>some (.ty n)
 | _=>none
theorem RelV.abs {x:V} {u:Value} (r:RelV x u):absV u=some x:=by
 cases x with
 | non=>cases r;rfl
 | bl _=>cases r;rfl
 | int _=>obtain ⟨t,rfl⟩:=r;rfl
 | str _=>obtain ⟨t,rfl⟩:=r;rfl
 | byt _=>obtain ⟨t,rfl⟩:=r;rfl
 | flt _=>obtain ⟨t,rfl⟩:=r;rfl
 | ref _=>cases r;rfl
 | ty _=>cases r;rfl
theorem RelV.inj {x y:V} {u:Value} (r:RelV x u) (q:RelV y u):x=y:=Option.some.inj (r.abs.symm.trans q.abs)
theorem Vals.inj:∀{xs ys:List V} {us:List Value},Vals xs us->Vals ys us->xs=ys
 | _,_,_,.nil,.nil=>rfl
 | _,_,_,.cons r t,.cons r' t'=>by rw [r.inj r',Vals.inj t t']
section
variable {X:Cx} {pins:List (Addr×Obj)} {σ:St} {H:Hp} {s:Shared} {a:Addr} {xs ys:List V}
theorem SqL.of {K:PySem.W.Frag} (h:H a=some (.lst xs)):SqL K H a xs:= .inl (.inl h)
theorem SqT.of {K:PySem.W.Frag} (h:H a=some (.tup xs)):SqT K H a xs:= .inl (.inl h)
theorem Inv.list (I:Inv X pins σ H s) (h:SqL X.K H a xs):∃its:List Value,Vals xs its/\PlainL s.heap a its.toArray/\xs.length<=sizeLine:=by
 rcases h with h | ⟨o,its,n,hk,hc,hd,hs,hz,r⟩
 ·obtain ⟨z,its,n,r,e⟩:=h.ok I.hok
  exact ⟨its,r,⟨_,n,e,rfl,rfl,rfl⟩,z⟩
 ·refine ⟨its.toList,r,⟨o,n,I.kIn a o hk,hc,hd,by simpa using hs⟩,?_⟩
  have e:=r.length
  simp only [Array.length_toList] at e
  omega
theorem Inv.tuple (I:Inv X pins σ H s) (h:SqT X.K H a xs):∃its:List Value,Vals xs its/\IsTup s.heap a its.toArray/\xs.length<=sizeLine:=by
 rcases h with h | ⟨o,its,n,hk,hc,hs,hz,r⟩
 ·obtain ⟨z,its,r,p⟩:=h.ok I.hok
  exact ⟨its,r,p,z⟩
 ·refine ⟨its.toList,r,⟨o,I.kIn a o hk,hc,n,by simpa using hs⟩,?_⟩
  have e:=r.length
  simp only [Array.length_toList] at e
  omega
theorem Inv.list_inj (I:Inv X pins σ H s) (h:SqL X.K H a xs) (h':SqL X.K H a ys):xs=ys:=by
 obtain ⟨its,r,⟨o,n,e,_,_,d⟩,_⟩:=I.list h
 obtain ⟨its',r',⟨o',n',e',_,_,d'⟩,_⟩:=I.list h'
 rw [e] at e';cases e'
 rw [d] at d'
 injection d' with d1 _
 have:its=its':=by simpa using congrArg Array.toList d1
 subst this
 exact r.inj r'
theorem Inv.tuple_inj (I:Inv X pins σ H s) (h:SqT X.K H a xs) (h':SqT X.K H a ys):xs=ys:=by
 obtain ⟨its,r,⟨o,e,_,n,d⟩,_⟩:=I.tuple h
 obtain ⟨its',r',⟨o',e',_,n',d'⟩,_⟩:=I.tuple h'
 rw [e] at e';cases e'
 rw [d] at d'
 injection d' with d1 _
 have:its=its':=by simpa using congrArg Array.toList d1
 subst this
 exact r.inj r'
end
abbrev Cx.wish (X:Cx) (E:Value->Shared->Prop):Cx:={ X with xe:=E }
abbrev Cx.nox (X:Cx):Cx:=X.wish fun _ _=>False
theorem Cx.Ok.wish {X:Cx} (ok:X.Ok) (E:Value->Shared->Prop):(X.wish E).Ok:=
 ⟨ok.mod,ok.kind,ok.glob,ok.blt,ok.above,ok.inj,ok.has,ok.cab,ok.hd,ok.frames,ok.stk,ok.exf,ok.bs,ok.bsz,ok.noex,ok.exfs,ok.funs,ok.frf⟩
theorem Cx.Ok.unwish {X:Cx} {E:Value->Shared->Prop} (ok:(X.wish E).Ok):X.Ok:=
 ⟨ok.mod,ok.kind,ok.glob,ok.blt,ok.above,ok.inj,ok.has,ok.cab,ok.hd,ok.frames,ok.stk,ok.exf,ok.bs,ok.bsz,ok.noex,ok.exfs,ok.funs,ok.frf⟩
section
variable {X:Cx} {pins:List (Addr×Obj)} {σ:St} {H:Hp} {s:Shared} {E:Value->Shared->Prop}
theorem Inv.wish (I:Inv X pins σ H s) (E:Value->Shared->Prop):Inv (X.wish E) pins σ H s:=⟨I.ok.wish E,I.os,I.bare,I.base,I.loc,I.cell,I.free,I.freeC,I.pin,I.hok,I.len⟩
theorem Inv.unwish (I:Inv (X.wish E) pins σ H s):Inv X pins σ H s:=⟨I.ok.unwish,I.os,I.bare,I.base,I.loc,I.cell,I.free,I.freeC,I.pin,I.hok,I.len⟩
theorem SP.unwish {D:Ends} {f:Flow} {s':Shared} (h:SP (X.wish E) pins D f s'):SP X pins D f s':=by
 cases f with
 | next=>obtain ⟨σ',H',I,q⟩:=h;exact ⟨σ',H',I.unwish,q⟩
 | brk=>obtain ⟨σ',H',I,q⟩:=h;exact ⟨σ',H',I.unwish,q⟩
 | cont=>obtain ⟨σ',H',I,q⟩:=h;exact ⟨σ',H',I.unwish,q⟩
 | ret u=>obtain ⟨v,σ',H',I,r,q⟩:=h;exact ⟨v,σ',H',I.unwish,r,q⟩
theorem PSs.nox {st:List Stmt} {t:TS} (h:PSs X.nox st t):PSs X st t:=fun pins s σ H D I hw=>
 wpAny_mono (h pins s σ H D (I.wish _) hw) (fun _ _ q=>q.unwish) fun _ _ z=>False.elim z
end
section
variable {X:Cx} {st:Stmt} {rest:List Stmt} {t u:TS} {e:Expr} {te:TE} {pos:Pos}
def tNext:TS:=fun D σ H=>D.nx σ H
def tSeq (t u:TS):TS:=fun D σ H=>t { D with nx:=u D } σ H
theorem WQ:PSs X [] tNext:=fun _ _ σ H _ I h=>wpAny_execs_nil ⟨σ,H,I,h⟩
theorem vQ (h1:PS X st t) (h2:PSs X rest u):PSs X (st::rest) (tSeq t u):=by
 intro pins s σ H D I h
 refine wpAny_execs_cons (thn (h1 pins s σ H { D with nx:=u D } I h) fun f s1 q=>?_)
 cases f with
 | next=>
  obtain ⟨σ',H',I',q⟩:=q
  exact h2 pins s1 σ' H' D I' q
 | ret v=>exact q
 | brk=>exact q
 | cont=>exact q
theorem Zh (h1:PS X st t):PSs X [st] t:=by
 intro pins s σ H D I h
 refine wpAny_execs_cons (thn (h1 pins s σ H D I h) fun f s1 q=>?_)
 cases f with
 | next=>exact wpAny_execs_nil q
 | ret v=>exact q
 | brk=>exact q
 | cont=>exact q
theorem Inv.quiet {pins:List (Addr×Obj)} {σ:St} {H:Hp} {s:Shared} (I:Inv X pins σ H s):interactive X.env=false:=by simp [interactive,I.ok.kind]
def tDrop (te:TE):TS:=fun D σ H=>te σ H fun _ H1=>D.nx σ H1
theorem WR (he:PE X e te) (hs:swapsWith e none pos.line X.env=pure false:=by rfl):PS X (.Expr e pos) (tDrop te):=by
 intro pins s σ H D I h
 exact wpAny_Expr_any (thn (he pins s σ H _ I h) fun v s1 ⟨x,H1,I1,r1,q1⟩=>⟨σ,H1,I1,q1⟩) I.quiet hs
def tRet (te:TE):TS:=fun D σ H=>te σ H D.rt
theorem Zj (he:PE X e te):PS X (.Return (some e) pos) (tRet te):=by
 intro pins s σ H D I h
 exact wpAny_Return_some (thn (he pins s σ H _ I h) fun v s1 ⟨x,H1,I1,r1,q1⟩=>⟨x,σ,H1,I1,r1,q1⟩)
def tIfS (c:TT) (t u:TS):TS:=fun D σ H=>c σ H fun b H1=>if b=true then t D σ H1 else u D σ H1
theorem Qz {c:Expr} {a b:List Stmt} {tc:TT} (hc:PT X c tc) (ha:PSs X a t) (hb:PSs X b u):PS X (.If c a b pos) (tIfS tc t u):=by
 intro pins s σ H D I h
 refine wpAny_If (thn (hc pins s σ H _ I h) fun d s1 ⟨H1,I1,q1⟩=>?_)
 cases d with
 | true=>exact ha pins s1 σ H1 D I1 q1
 | false=>exact hb pins s1 σ H1 D I1 q1
def tNever:TS:=fun _ _ _=>False
theorem zM {sts:List Stmt}:PSs X sts tNever:=fun _ _ _ _ _ _ h=>h.elim
end
abbrev TG:=V->St->Hp->(St->Hp->Prop)->Prop
abbrev TGs:=List V->St->Hp->(St->Hp->Prop)->Prop
def PG (X:Cx) (target:Expr) (t:TG):Prop:=
 ∀(pins:List (Addr×Obj)) (s:Shared) (σ:St) (H:Hp) (v:V) (u:Value) (Q:St->Hp->Prop),Inv X pins σ H s->RelV v u->t v σ H Q->
  wpAny (model X.prog X.w) X.A (assign target X.env u) (fun _ s'=>∃σ' H',Inv X pins σ' H' s'/\Q σ' H') X.xe s
def PGs (X:Cx) (ts:List Expr) (t:TGs):Prop:=
 ∀(pins:List (Addr×Obj)) (s:Shared) (σ:St) (H:Hp) (vs:List V) (us:List Value) (Q:St->Hp->Prop),Inv X pins σ H s->Vals vs us->t vs σ H Q->
  wpAny (model X.prog X.w) X.A (assignInOrder ((assignEach ts X.env).map (·.2)) us) (fun _ s'=>∃σ' H',Inv X pins σ' H' s'/\Q σ' H') X.xe s
section
variable {X:Cx} {pos:Pos}
def gName (i:Nat):TG:=fun v σ H Q=>Q (σ.set i (some v)) H
theorem WT {i:Nat} {x:Str} (hN:X.N.Nodup) (hi:X.N[i]? =some x) (hx:Loc X.env.scope x) (hf:X.fn x=true∨X.env.scope.names.lookup x=some .local:=by first | exact .inl rfl | exact .inr rfl | assumption):PG X (.Name x pos) (gName i):=by
 intro pins s σ H v u Q I r h
 exact wpAny_assign_Name (zI I hN hi hx r (fun s' I'=>⟨_,H,I',h⟩) hf)
def gNil:TGs:=fun vs σ H Q=>vs=[]/\Q σ H
def gCons (t:TG) (u:TGs):TGs:=fun vs σ H Q=>∃v r,vs=v::r/\t v σ H fun σ' H'=>u r σ' H' Q
theorem Kw:PGs X [] gNil:=by
 intro pins s σ H vs us Q I r h
 obtain ⟨e,h⟩:=h
 subst e
 cases r
 exact assignInOrder_nil ⟨σ,H,I,h⟩
theorem kC {e:Expr} {es:List Expr} {t:TG} {u:TGs} (h1:PG X e t) (h2:PGs X es u)
  (hs:(assignEach (e::es) X.env).map (·.2)=assign e X.env::(assignEach es X.env).map (·.2):=by rfl):PGs X (e::es) (gCons t u):=by
 intro pins s σ H vs us Q I r h
 obtain ⟨v,vr,e1,h⟩:=h
 subst e1
 cases r with
 | cons r rr=>
  rw [hs]
  refine assignInOrder_cons (thn (h1 pins s σ H _ _ _ I r h) fun _ s1 ⟨σ1,H1,I1,q1⟩=>?_)
  exact h2 pins s1 σ1 H1 _ _ Q I1 rr q1
def gTup (K:PySem.W.Frag) (n:Nat) (t:TGs):TG:=fun v σ H Q=>∃a xs,v= .ref a/\SqT K H a xs/\xs.length=n/\t xs σ H Q
theorem xa3 {es:List Expr} {k:Nat} {t:TGs} {n:Nat} (hc:X.calm=true) (h:PGs X es t)
  (hn:(assignEach es X.env).length=n:=by rfl) (hst:(assignEach es X.env).findIdx? (·.1)=none:=by rfl):PG X (.Tuple es k pos) (gTup X.K n t):=by
 intro pins s σ H v u Q I r hw
 obtain ⟨a,xs,e1,hq,hl,hw⟩:=hw
 subst e1
 cases r
 obtain ⟨its,rv,ht,hz⟩:=I.tuple hq
 refine assign_Tuple_tuple (I.ok.hd hc) ht (by simp [hn,<-hl,rv.length]) hst fun h' hx=>?_
 have I1:Inv X pins σ H { s with heap:=h' }:=I.kept (t':=s.toks) fun b o e=>hx b o (Nat.ne_of_lt (Heap.lt_size e)) e
 exact h pins _ σ H xs _ Q I1 (by simpa using rv) hw
def tAsg (te:TE) (g:TG):TS:=fun D σ H=>te σ H fun x H1=>g x σ H1 D.nx
theorem xa0 {tg e:Expr} {te:TE} {g:TG} (he:PE X e te) (hg:PG X tg g) (hs:swapsWithSole [tg] e pos.line X.env=pure false:=by rfl) (hw:swappedStores [tg] e X.env=pure none:=by rfl)
  (h1:(assignEach [tg] X.env).map (·.2)=[assign tg X.env]:=by rfl):PS X (.Assign [tg] e pos) (tAsg te g):=by
 intro pins s σ H D I h
 refine wpAny_Assign_stores (thn (he pins s σ H _ I h) fun v s1 ⟨x,H1,I1,r1,q1⟩=>?_) hs hw
 rw [h1]
 exact thn (hg pins s1 σ H1 x v _ I1 r1 q1) fun _ s2 q=>q
theorem qy {i:Nat} {x:Str} {e:Expr} {te:TE} {pos':Pos} (hN:X.N.Nodup) (hi:X.N[i]? =some x) (hx:Loc X.env.scope x) (he:PE X e te) (hs:swapsWith e (some (.Name x pos')) pos.line X.env=pure false:=by rfl) (hf:X.fn x=true∨X.env.scope.names.lookup x=some .local:=by first | exact .inl rfl | exact .inr rfl | assumption):
  PS X (.Assign [.Name x pos'] e pos) (tAsg te (gName i)):=by
 intro pins s σ H D I h
 refine wpAny_Assign_Name (thn (he pins s σ H _ I h) fun v s1 ⟨y,H1,I1,r1,q1⟩=>?_) hs
 exact zI I1 hN hi hx r1 (fun s2 I2=>⟨_,H1,I2,q1⟩) hf
def tPar (i j:Nat) (ta:TA):TS:=fun D σ H=>ta σ H fun vs H1=>∃v w,vs=[v,w]/\D.nx ((σ.set i (some v)).set j (some w)) H1
theorem xaY {i j:Nat} {x y:Str} {a b:Expr} {ta:TA} {px py pt:Pos} {kt k2 pt2} (hc:X.calm=true) (hN:X.N.Nodup) (hi:X.N[i]? =some x) (hj:X.N[j]? =some y) (hij:i≠j)
  (hx:X.env.scope.names.lookup x=some .local) (hy:X.env.scope.names.lookup y=some .local) (ha:PA X [a,b] ta)
  (hw:swappedStores [.Tuple [.Name x px,.Name y py] kt pt] (.Tuple [a,b] k2 pt2) X.env=pure (some [x,y]))
  (hs:swapsWithSole [.Tuple [.Name x px,.Name y py] kt pt] (.Tuple [a,b] k2 pt2) pos.line X.env=pure false:=by rfl):
  PS X (.Assign [.Tuple [.Name x px,.Name y py] kt pt] (.Tuple [a,b] k2 pt2) pos) (tPar i j ta):=by
 intro pins s σ H D I h
 rw [exec_Assign_arm]
 refine wpAny_bind (wpAny_standAt ?_)
 rw [hs]
 refine wpAny_bind (wpAny_pure ?_)
 rw [if_neg (by decide)]
 refine wpAny_bind (Tuple_ (thn (ha _ pins s σ H _ I h) fun us s1 ⟨vs,H1,I1,r1,q1⟩=>?_))
 obtain ⟨v,w,e1,q1⟩:=q1
 subst e1
 obtain ⟨u1,u2,rfl,rv,rw'⟩:∃u1 u2,us=[u1,u2]/\RelV v u1/\RelV w u2:=by
  cases r1 with
  | cons p q=>
   cases q with
   | cons p' q'=>
    cases q'
    exact ⟨_,_,rfl,p,p'⟩
 refine wpAny_newObj_type ?_ (by show 2<=sizeLine;decide)
 have I2:Inv X pins σ H1 { s1 with heap:=s1.heap.push { cls:= .type "tuple",data:= .seq [u1,u2].toArray } }:=I1.kept (t':=s1.toks) fun b o e=>Heap.get?_push_of_some _ e
 rw [hw]
 refine wpAny_bind (wpAny_pure ?_)
 show wpAny (model X.prog X.w) X.A (do rule "assign.swapped-stores";let items <-unpackItems (.ref s1.heap.objs.size) 2 none;assignInOrder [fun v=>bindName X.env y v,fun v=>bindName X.env x v] items.reverse;pure Flow.next) _ _ _
 refine wpAny_bind (wpAny_rule (wpAny_bind (unpackItems_tuple (items:= #[u1,u2]) (I.ok.hd hc) (IsTup.new s1.heap _) fun h' hx'=>?_)))
 have I3:=I2.kept (h':=h') (t':=s1.toks) fun b o e=>hx' b o (Nat.ne_of_lt (Heap.lt_size e)) e
 show wpAny _ _ (assignInOrder [fun v=>bindName X.env y v,fun v=>bindName X.env x v] [u2,u1]>>=fun _=>pure Flow.next) _ _ _
 refine wpAny_bind (assignInOrder_cons (wpAny_bindName (zI I3 hN hj (.inl hy) rw' (fun s2 I4=>?_) (.inr hy))))
 refine assignInOrder_cons (wpAny_bindName (zI I4 hN hi (.inl hx) rv (fun s3 I5=>assignInOrder_nil (wpAny_pure ?_)) (.inr hx)))
 rw [List.set_comm _ _ (Ne.symm hij)] at I5
 exact ⟨_,H1,I5,q1⟩
end
section
variable {X:Cx} {pos:Pos}
def tWhile (c:TT) (tb:TS):TS:=fun D σ H=>∃W:Nat->St->Hp->Prop,(∃m,W m σ H)/\∀m σ H,W m σ H->
 c σ H fun b H1=>if b=true then ∃N:St->Hp->Prop,(∀σ' H',N σ' H'->∃m',m'<m/\W m' σ' H')/\tb { D with nx:=N,ct:=N,bk:=D.nx } σ H1 else D.nx σ H1
theorem kz {c:Expr} {body:List Stmt} {tc:TT} {tb:TS} (hp:PassesOwn (model X.prog X.w) X.A X.env X.xe) (hc:PT X c tc) (hb:PSs X body tb):PS X (.While c body [] pos) (tWhile tc tb):=by
 intro pins s σ H D I h
 obtain ⟨W,⟨m0,w0⟩,turn⟩:=h
 refine wpAny_While (codeAny_whileLoop (fun n s'=>∃σ' H',Inv X pins σ' H' s'/\W n σ' H') ?_ m0 ⟨σ,H,I,w0⟩)
 rintro n s1 ⟨σ1,H1,I1,w1⟩
 refine wpAny_passesOwn hp (thn (hc pins s1 σ1 H1 _ I1 (turn n σ1 H1 w1)) fun b s2 ⟨H2,I2,q2⟩=>?_)
 cases b with
 | true=>
  obtain ⟨N,hN,q2⟩:=q2
  rw [if_pos rfl]
  refine wpAny_passesOwn hp (thn (hb pins s2 σ1 H2 _ I2 q2) fun f s3 q3=>?_)
  cases f with
  | next=>
   obtain ⟨σ3,H3,I3,n3⟩:=q3
   obtain ⟨m',hm,w3⟩:=hN σ3 H3 n3
   exact ⟨m',hm,σ3,H3,I3,w3⟩
  | cont=>
   obtain ⟨σ3,H3,I3,n3⟩:=q3
   obtain ⟨m',hm,w3⟩:=hN σ3 H3 n3
   exact ⟨m',hm,σ3,H3,I3,w3⟩
  | brk=>exact q3
  | ret v=>exact q3
 | false=>
  rw [if_neg Bool.false_ne_true]
  exact wpAny_execs_nil ⟨σ1,H2,I2,q2⟩
end
structure It where
 go:Nat->Hp->Prop
 yld:Nat->Hp->V->Hp->Prop
 stop:Nat->Hp->Prop
def FpOk (X:Cx) (pins:List (Addr×Obj)) (H:Hp) (b:Addr):Prop:=
 H b=none/\b≠X.env.locals/\b∉X.fs/\(b∈X.ex∨X.s₀.heap.objs.size<=b)/\(∀x c,X.env.cells.lookup x=some c->c≠b)/\∀p∈X.pn++pins,p.1≠b
theorem Inv.fpOk {X:Cx} {pins:List (Addr×Obj)} {σ:St} {H H':Hp} {s:Shared} {b:Addr} (I:Inv X pins σ H s) (hb:s.heap.objs.size<=b) (hn:H' b=none):FpOk X pins H' b:=by
 refine ⟨hn,Nat.ne_of_gt (Nat.lt_of_lt_of_le I.lt hb),I.nofs hb,.inr (Nat.le_trans I.sz hb),fun x c e z=>?_,fun p hp z=>?_⟩
 ·obtain ⟨v,q⟩:=I.cell x c e
  exact absurd (Nat.lt_of_lt_of_le q.lt (by rw [z];exact hb)) (Nat.lt_irrefl _)
 ·exact absurd (Nat.lt_of_lt_of_le (Heap.lt_size (I.pin p hp).1) (by rw [z];exact hb)) (Nat.lt_irrefl _)
structure Turn (P:Program) (w:World) (K:PySem.W.Frag) (tg:Expr) (J:It) (fp:List Addr) (it:Addr) (tn:Nat->Heap->Prop):Prop where
 mem:it∈fp
 obj:∀i h,tn i h->∀b∈fp,∃o,h.get? b=some o/\∀v,o.data≠ .cell v
 keep:∀i h h',tn i h->(∀b∈fp,∀o,h.get? b=some o->h'.get? b=some o)->tn i h'
 item:∀(X:Cx),X.prog=P->X.w=w->X.K=K->X.calm=true->∀(i:Nat) (pins:List (Addr×Obj)) (s:Shared) (σ:St) (H:Hp) (E:Value->Shared->Prop),Inv X pins σ H s->(∀b∈fp,FpOk X pins H b)->tn i s.heap->J.go i H->
  wpAny (model P w) X.A (pyNext (.ref it)) (fun r s1=>∃u,r=some u/\
   wpAny (model P w) X.A (letOwnedTupleGo tg (.ref it) u) (fun _ s2=>∃x H',Inv X pins σ H' s2/\RelV x u/\J.yld i H x H'/\tn (i+1) s2.heap/\∀b∈fp,H' b=none) E s1) E s
 done:∀(X:Cx),X.prog=P->X.w=w->X.K=K->X.calm=true->∀(i:Nat) (pins:List (Addr×Obj)) (s:Shared) (σ:St) (H:Hp) (E:Value->Shared->Prop),Inv X pins σ H s->(∀b∈fp,FpOk X pins H b)->tn i s.heap->J.stop i H->
  wpAny (model P w) X.A (pyNext (.ref it)) (fun r s1=>r=none/\Inv X pins σ H s1) E s
 self:∀(A:Around) (i:Nat) (s:Shared) (Q:Value->Shared->Prop) (E:Value->Shared->Prop),tn i s.heap->Q (.ref it) s->wpAny (model P w) A (pyIter (.ref it)) Q E s
abbrev TI:=St->Hp->(It->Hp->Prop)->Prop
def PIE (X:Cx) (pins:List (Addr×Obj)) (σ:St) (tg:Expr) (R:It->Hp->Prop) (itv:Value) (s2:Shared):Prop:=
 ∃(it:Addr) (fp:List Addr) (tn:Nat->Heap->Prop) (J:It) (H':Hp),itv= .ref it/\Inv X pins σ H' s2/\Turn X.prog X.w X.K tg J fp it tn/\tn 0 s2.heap/\(∀b∈fp,FpOk X pins H' b)/\R J H'
def PI (X:Cx) (tg iter:Expr) (wi:TI):Prop:=
 ∀(pins:List (Addr×Obj)) (s:Shared) (σ:St) (H:Hp) (R:It->Hp->Prop),Inv X pins σ H s->wi σ H R->
  wpAny (model X.prog X.w) X.A (eval iter X.env) (fun v s1=>wpAny (model X.prog X.w) X.A (pyIter v) (PIE X pins σ tg R) X.xe s1) X.xe s
theorem W5 {M:Model} {A:Around} {E:Value->Shared->Prop} {s:Shared} {tg:Expr} {it:Addr} {u:Value} {o:Obj} {n:String} {vs:Array Value} {Q:Unit->Shared->Prop} (ho:s.heap.get? it=some o) (hc:o.cls= .type n) (hd:o.data= .fields vs)
    (hn:["enumerate","zip","dict_itemiterator","dict_reverseitemiterator","odict_iterator","itertools.zip_longest","itertools.pairwise"].contains n=false) (hQ:Q () s):wpAny M A (letOwnedTupleGo tg (.ref it) u) Q E s:=by
  unfold letOwnedTupleGo
  cases tg<;>first
    | exact wpAny_pure hQ
    | (cases u<;>first
        | exact wpAny_pure hQ
        | (refine wpAny_bind (wpAny_load ho ?_)
           rw [hc,hd]
           show wpAny M A (if (["enumerate","zip","dict_itemiterator","dict_reverseitemiterator","odict_iterator","itertools.zip_longest","itertools.pairwise"].contains n && vs[0]? ==some (rawInt _))=true then _ else _) Q E s
           rw [if_neg (by intro h;rw [hn,Bool.false_and] at h;cases h)]
           exact wpAny_pure hQ))
def Itl (K:PySem.W.Frag) (a:Addr):It:=
 ⟨fun i H=>∃xs x,SqL K H a xs/\xs[i]? =some x,fun i H x H'=>H'=H/\∀xs,SqL K H a xs->xs[i]? =some x,fun i H=>∃xs,SqL K H a xs/\xs.length<=i⟩
def Itt (K:PySem.W.Frag) (a:Addr):It:=
 ⟨fun i H=>∃xs x,SqT K H a xs/\xs[i]? =some x,fun i H x H'=>H'=H/\∀xs,SqT K H a xs->xs[i]? =some x,fun i H=>∃xs,SqT K H a xs/\xs.length<=i⟩
def Itr (lo:Int) (n:Nat):It:=⟨fun i _=>i<n,fun i H x H'=>H'=H/\x= .int (lo+i),fun i _=>n<=i⟩
theorem Ul {P:Program} {w:World} {K:PySem.W.Frag} {tg:Expr} (a it:Addr):Turn P w K tg (Itl K a) [it] it (fun i h=>h.IsListIter it a i) where
 mem:=by simp
 obj:=fun i h st b hb=>by
  have e:b=it:=by simpa using hb
  subst e
  obtain ⟨o,e,c,d⟩:=st
  exact ⟨o,e,fun v z=>by rw [d] at z;cases z⟩
 keep:=fun i h h' st k=>st.at fun o e=>k it (by simp) o e
 item:=by
  intro X hP hw hK hc i pins s σ H E I hf st hg
  subst hP hw hK
  obtain ⟨xs,x,hq,hx⟩:=hg
  obtain ⟨its,rv,p,hz⟩:=I.list hq
  obtain ⟨u,hu,ru⟩:=rv.get hx
  obtain ⟨f0,f1,f2,f3,f4,f5⟩:=hf it (by simp)
  refine wpAny_pyNext_list_item st p.isList (x:=u) (by simpa using hu) fun h' st' sb=>?_
  have I1:Inv X pins σ H { s with heap:=h' }:=I.turned (t':=s.toks) (fun b o hb e=>(sb.2 b hb).trans e) f0 f1 f3 f4 f5
  obtain ⟨o,e,c,d⟩:=id st'
  exact ⟨u,rfl,W5 (s:={ s with heap:=h' }) e c d (by decide) ⟨x,H,I1,ru,⟨rfl,fun ys hy=>by rw [I.list_inj hy hq];exact hx⟩,st',fun b hb=>(hf b hb).1⟩⟩
 done:=by
  intro X hP hw hK hc i pins s σ H E I hf st hg
  subst hP hw hK
  obtain ⟨xs,hq,hx⟩:=hg
  obtain ⟨its,rv,p,hz⟩:=I.list hq
  obtain ⟨f0,f1,f2,f3,f4,f5⟩:=hf it (by simp)
  have hl:=rv.length
  exact wpAny_pyNext_list_end (I.ok.hd hc) st p.isList (by simp;omega) fun h' eb=>⟨rfl,I.turned (t':=s.toks) (fun b o hb e=>eb b o hb e) f0 f1 f3 f4 f5⟩
 self:=fun _ _ _ _ _ st h=>wpAny_pyIter_listiter st h
theorem Vi {P:Program} {w:World} {K:PySem.W.Frag} {tg:Expr} (a it:Addr):Turn P w K tg (Itt K a) [it] it (fun i h=>h.IsTupleIter it a i) where
 mem:=by simp
 obj:=fun i h st b hb=>by
  have e:b=it:=by simpa using hb
  subst e
  obtain ⟨o,e,c,d⟩:=st
  exact ⟨o,e,fun v z=>by rw [d] at z;cases z⟩
 keep:=fun i h h' st k=>st.at fun o e=>k it (by simp) o e
 item:=by
  intro X hP hw hK hc i pins s σ H E I hf st hg
  subst hP hw hK
  obtain ⟨xs,x,hq,hx⟩:=hg
  obtain ⟨its,rv,p,hz⟩:=I.tuple hq
  obtain ⟨u,hu,ru⟩:=rv.get hx
  obtain ⟨f0,f1,f2,f3,f4,f5⟩:=hf it (by simp)
  refine wpAny_pyNext_tuple_item st (show s.heap.IsTuple a its.toArray from p) (x:=u) (by simpa using hu) fun h' st' sb=>?_
  have I1:Inv X pins σ H { s with heap:=h' }:=I.turned (t':=s.toks) (fun b o hb e=>(sb.2 b hb).trans e) f0 f1 f3 f4 f5
  obtain ⟨o,e,c,d⟩:=id st'
  exact ⟨u,rfl,W5 (s:={ s with heap:=h' }) e c d (by decide) ⟨x,H,I1,ru,⟨rfl,fun ys hy=>by rw [I.tuple_inj hy hq];exact hx⟩,st',fun b hb=>(hf b hb).1⟩⟩
 done:=by
  intro X hP hw hK hc i pins s σ H E I hf st hg
  subst hP hw hK
  obtain ⟨xs,hq,hx⟩:=hg
  obtain ⟨its,rv,p,hz⟩:=I.tuple hq
  obtain ⟨f0,f1,f2,f3,f4,f5⟩:=hf it (by simp)
  have hl:=rv.length
  exact wpAny_pyNext_tuple_end (I.ok.hd hc) st (show s.heap.IsTuple a its.toArray from p) (by simp;omega) fun h' eb=>⟨rfl,I.turned (t':=s.toks) (fun b o hb e=>eb b o hb e) f0 f1 f3 f4 f5⟩
 self:=fun _ _ _ _ _ st h=>wpAny_pyIter_tupleiter st h
theorem Vj {P:Program} {w:World} {K:PySem.W.Frag} {tg:Expr} (it:Addr) (lo:Int) (n:Nat):Turn P w K tg (Itr lo n) [it] it (fun i h=>IsRangeIter h it (lo+(i:Nat)*1) ((n:Int) - (i:Nat)) 1) where
 mem:=by simp
 obj:=fun i h st b hb=>by
  have e:b=it:=by simpa using hb
  subst e
  exact ⟨_,st,fun v z=>by
   have z':Data.fields _=Data.cell v:=z
   cases z'⟩
 keep:=fun i h h' st k=>k it (by simp) _ st
 item:=by
  intro X hP hw hK hc i pins s σ H E I hf st hg
  subst hP hw hK
  obtain ⟨f0,f1,f2,f3,f4,f5⟩:=hf it (by simp)
  have W:=Walks.range (prog:=X.prog) (w:=X.w) (I.ok.hd hc) it lo 1 n
  refine W.item i s _ _ hg st fun v h' tk hv st' kk=>?_
  obtain ⟨t,rfl⟩:=hv
  have I1:Inv X pins σ H { s with heap:=h',toks:=tk }:=I.turned (fun b o hb e=>kk b o (by simpa using hb) e) f0 f1 f3 f4 f5
  refine ⟨_,rfl,W5 (s:={ s with heap:=h',toks:=tk }) (n:= "range_iterator") st' rfl rfl (by decide) ⟨.int (lo+i),H,I1,⟨t,?_⟩,⟨rfl,rfl⟩,st',fun b hb=>(hf b hb).1⟩⟩
  rw [Int.mul_one]
 done:=by
  intro X hP hw hK hc i pins s σ H E I hf st hg
  subst hP hw hK
  obtain ⟨f0,f1,f2,f3,f4,f5⟩:=hf it (by simp)
  exact wpAny_pyNext_range_end (I.ok.hd hc) st (by have:n<=i:=hg;omega) fun h' eb=>⟨rfl,I.turned (t':=s.toks) (fun b o hb e=>eb b o hb e) f0 f1 f3 f4 f5⟩
 self:=fun _ _ _ _ _ st h=>wpAny_pyIter_rangeiter st h
section
variable {X:Cx} {tg:Expr}
def iList (K:PySem.W.Frag) (tl:TE):TI:=fun σ H R=>tl σ H fun x H1=>∃a,x= .ref a/\(∃xs,SqL K H1 a xs)/\R (Itl K a) H1
def iTup (K:PySem.W.Frag) (tl:TE):TI:=fun σ H R=>tl σ H fun x H1=>∃a,x= .ref a/\(∃xs,SqT K H1 a xs)/\R (Itt K a) H1
theorem Kv {l:Expr} {tl:TE} (hl:PE X l tl):PI X tg l (iList X.K tl):=by
 intro pins s σ H R I h
 refine thn (hl pins s σ H _ I h) fun v s1 ⟨x,H1,I1,r1,q1⟩=>?_
 obtain ⟨a,e,⟨xs,hq⟩,q⟩:=q1
 subst e
 cases r1
 obtain ⟨its,rv,p,hz⟩:=I1.list hq
 refine wpAny_pyIter_list p.isList ?_
 refine ⟨s1.heap.objs.size,[s1.heap.objs.size],_,_,H1,rfl,I1.kept (t':=s1.toks) fun b o e=>Heap.get?_push_of_some _ e,Ul a _,⟨_,Heap.get?_push_size _ rfl,rfl,rfl⟩,fun b hb=>?_,q⟩
 have e:b=s1.heap.objs.size:=by simpa using hb
 subst e
 exact I1.fpOk (Nat.le_refl _) (I1.hok.fresh (Nat.le_refl _))
theorem xa2 {l:Expr} {tl:TE} (hl:PE X l tl):PI X tg l (iTup X.K tl):=by
 intro pins s σ H R I h
 refine thn (hl pins s σ H _ I h) fun v s1 ⟨x,H1,I1,r1,q1⟩=>?_
 obtain ⟨a,e,⟨xs,hq⟩,q⟩:=q1
 subst e
 cases r1
 obtain ⟨its,rv,p,hz⟩:=I1.tuple hq
 refine wpAny_pyIter_tuple (show s1.heap.IsTuple a its.toArray from p) ?_
 refine ⟨s1.heap.objs.size,[s1.heap.objs.size],_,_,H1,rfl,I1.kept (t':=s1.toks) fun b o e=>Heap.get?_push_of_some _ e,Vi a _,⟨_,Heap.get?_push_size _ rfl,rfl,rfl⟩,fun b hb=>?_,q⟩
 have e:b=s1.heap.objs.size:=by simpa using hb
 subst e
 exact I1.fpOk (Nat.le_refl _) (I1.hok.fresh (Nat.le_refl _))
theorem Qy {pins:List (Addr×Obj)} {σ:St} {H:Hp} {s:Shared} {R:It->Hp->Prop} {E:Value->Shared->Prop} {lo hi:Int} {t u v:Tok} {tk:Nat} (I:Inv X pins σ H s) (h1: -(2^62)<=lo) (h2:lo<2^62) (h3: -(2^62)<=hi) (h4:hi<2^62)
  (q:R (Itr lo (hi - lo).toNat) H):wpAny (model X.prog X.w) X.A (pyIter (.ref s.heap.objs.size)) (PIE X pins σ tg R) E { s with heap:=s.heap.push { cls:= .type "range",data:= .fields #[.int lo t,.int hi u,.int 1 v] },toks:=tk }:=by
 refine wpAny_pyIter_range (IsRange.new ..) (small_one h1 h2 h3 h4) ?_
 have I1:Inv X pins σ H { s with heap:=s.heap.push { cls:= .type "range",data:= .fields #[.int lo t,.int hi u,.int 1 v] },toks:=tk }:=I.kept fun b o e=>Heap.get?_push_of_some _ e
 refine ⟨(s.heap.push { cls:= .type "range",data:= .fields #[.int lo t,.int hi u,.int 1 v] }).objs.size,[(s.heap.push { cls:= .type "range",data:= .fields #[.int lo t,.int hi u,.int 1 v] }).objs.size],_,_,H,rfl,
  I1.kept (t':=tk) fun b o e=>Heap.get?_push_of_some _ e,Vj _ lo (hi - lo).toNat,?_,fun b hb=>?_,q⟩
 ·have e1:lo+((0:Nat):Int)*1=lo:=by simp
  have e2:(((hi - lo).toNat:Nat):Int) - ((0:Nat):Int)=Builtin.Range.rangeSize lo hi 1:=by rw [rangeSize_one];split<;>omega
  show IsRangeIter _ _ (lo+((0:Nat):Int)*1) ((((hi - lo).toNat:Nat):Int) - ((0:Nat):Int)) 1
  rw [e1,e2]
  exact Heap.get?_push_size _ rfl
 ·have e:b=(s.heap.push { cls:= .type "range",data:= .fields #[.int lo t,.int hi u,.int 1 v] }).objs.size:=by simpa using hb
  subst e
  exact I1.fpOk (Nat.le_refl _) (I1.hok.fresh (Nat.le_refl _))
def iRng1 (ta:TA):TI:=fun σ H R=>ta σ H fun vs H1=>∃j:Int,vs=[.int j]/\ -(2^62)<=j/\j<2^62/\R (Itr 0 j.toNat) H1
def iRng2 (ta:TA):TI:=fun σ H R=>ta σ H fun vs H1=>∃i j:Int,vs=[.int i,.int j]/\(-(2^62)<=i/\i<2^62/\ -(2^62)<=j/\j<2^62)/\R (Itr i (j - i).toNat) H1
theorem UN {a:Expr} {ta:TA} {p pos:Pos} (hg:Gl X "range") (hm:X.mg "range" =none) (ha:PA X [a] ta) (hs:starEach [a] X.env=[(false,eval a X.env)]:=by rfl):PI X tg (.Call (.Name "range" p) [a] [] pos) (iRng1 ta):=by
 intro pins s σ H R I h
 refine Call_ (wG I hg hm boot_range (PyProof.Rows.callWith_type1 (thn (ha pos pins s σ H _ I h) fun us s1 ⟨vs,H1,I1,r1,q1⟩=>?_) hs rfl))
 obtain ⟨j,e,q1,q2,q⟩:=q1
 subst e
 cases r1 with
 | cons r rr=>
  cases rr
  obtain ⟨t,rfl⟩:=r
  exact call_range_1 (Qy I1 (by omega) (by omega) q1 q2 (by simpa using q))
theorem UM {a b:Expr} {ta:TA} {p pos:Pos} (hg:Gl X "range") (hm:X.mg "range" =none) (ha:PA X [a,b] ta) (hs:starEach [a,b] X.env=[(false,eval a X.env),(false,eval b X.env)]:=by rfl) (hs2:starEach [b] X.env=[(false,eval b X.env)]:=by rfl):
  PI X tg (.Call (.Name "range" p) [a,b] [] pos) (iRng2 ta):=by
 intro pins s σ H R I h
 refine Call_ (wG I hg hm boot_range (PyProof.Rows.callWith_type1 (thn (ha pos pins s σ H _ I h) fun us s1 ⟨vs,H1,I1,r1,q1⟩=>?_) (by rw [hs,hs2]) (by rw [hs2];rfl)))
 obtain ⟨i,j,e,⟨q1,q2,q3,q4⟩,q⟩:=q1
 subst e
 cases r1 with
 | cons r rr=>
  cases rr with
  | cons r' rr=>
   cases rr
   obtain ⟨t,rfl⟩:=r
   obtain ⟨t',rfl⟩:=r'
   exact call_range_2 (Qy I1 q1 q2 q3 q4 q)
def tFor (wi:TI) (g:TG) (tb:TS):TS:=fun D σ H=>wi σ H fun J H1=>∃W:Nat->Nat->St->Hp->Prop,(∃m,W 0 m σ H1)/\∀i m σ H,W i m σ H->
 (J.stop i H/\D.nx σ H)∨(J.go i H/\∃N:St->Hp->Prop,(∀σ' H',N σ' H'->∃m',m'<m/\W (i+1) m' σ' H')/\∀x H',J.yld i H x H'->g x σ H' fun σ2 H2=>tb { D with nx:=N,ct:=N,bk:=D.nx } σ2 H2)
def pinsAt (fp:List Addr) (h:Heap):List (Addr×Obj):=fp.filterMap fun b=>(h.get? b).map fun o=>(b,o)
theorem z9 {fp:List Addr} {h:Heap} {b:Addr} {o:Obj} (hb:b∈fp) (e:h.get? b=some o):(b,o)∈pinsAt fp h:=List.mem_filterMap.mpr ⟨b,hb,by rw [e];rfl⟩
theorem UX {fp:List Addr} {h:Heap} {p:Addr×Obj} (hp:p∈pinsAt fp h):p.1∈fp/\h.get? p.1=some p.2:=by
 obtain ⟨b,hb,e⟩:=List.mem_filterMap.mp hp
 cases q:h.get? b with
 | none=>rw [q] at e;cases e
 | some o=>
  rw [q] at e
  have e':(b,o)=p:=Option.some.inj e
  subst e'
  exact ⟨hb,q⟩
theorem Inv.pinned {pins:List (Addr×Obj)} {σ:St} {H:Hp} {s:Shared} {fp:List Addr} (I:Inv X pins σ H s) (hf:∀b∈fp,FpOk X pins H b) (ho:∀b∈fp,∃o,s.heap.get? b=some o/\∀v,o.data≠ .cell v):Inv X (pins++pinsAt fp s.heap) σ H s:=
 I.pins_of fun p hp=>(List.mem_append.mp hp).elim (fun z=>I.pin p (List.mem_append_right _ z)) fun z=>by
  obtain ⟨hb,e⟩:=UX z
  obtain ⟨f0,f1,f2,_⟩:=hf p.1 hb
  obtain ⟨o,e',d⟩:=ho p.1 hb
  rw [e] at e';cases e'
  exact ⟨e,f0,f1,f2,d⟩
theorem Inv.unpinned {pins pl:List (Addr×Obj)} {σ:St} {H:Hp} {s:Shared} (I:Inv X (pins++pl) σ H s):Inv X pins σ H s:=I.pins_of fun p hp=>I.pin p (List.mem_append_right _ (List.mem_append_left _ hp))
theorem xaZ {iter:Expr} {body:List Stmt} {wi:TI} {g:TG} {tb:TS} {pos:Pos} (hp:PassesOwn (model X.prog X.w) X.A X.env X.xe) (hc:X.calm=true) (hi:PI X tg iter wi) (hg:PG X tg g) (hb:PSs X body tb)
  (hs:∀x,foldedSetIterable iter X.env x=pure x:=by intro _;rfl):PS X (.For tg iter body [] pos) (tFor wi g tb):=by
 intro pins s σ H D I h
 refine wpAny_For (thn (hi pins s σ H _ I h) fun v s1 h1=>thn h1 fun itv s2 h2=>?_) hs
 obtain ⟨it,fp,tn,J,H2,e,I2,T,st2,f2,W,⟨m0,w0⟩,turn⟩:=h2
 subst e
 have stat:∀{H':Hp},(∀b∈fp,H' b=none)->∀b∈fp,FpOk X pins H' b:=fun hn b hb=>⟨hn b hb,(f2 b hb).2⟩
 refine codeAny_forLoop_any (fun n s'=>∃i σ' H',Inv X pins σ' H' s'/\tn i s'.heap/\(∀b∈fp,H' b=none)/\W i n σ' H') ?_ m0 ⟨0,σ,H2,I2,st2,fun b hb=>(f2 b hb).1,w0⟩
 rintro n s3 ⟨i,σ3,H3,I3,st3,fr3,w3⟩
 rcases turn i n σ3 H3 w3 with ⟨stop,qn⟩ | ⟨go,N,hN,step⟩
 ·refine wpAny_passesOwn hp (thn (T.done X rfl rfl rfl hc i pins s3 σ3 H3 X.xe I3 (stat fr3) st3 stop) fun r s4 ⟨hr,I4⟩=>?_)
  subst hr
  exact wpAny_execs_nil ⟨σ3,H3,I4,qn⟩
 ·refine wpAny_passesOwn hp (thn (T.item X rfl rfl rfl hc i pins s3 σ3 H3 X.xe I3 (stat fr3) st3 go) fun r s4 ⟨u,hr,h4⟩=>?_)
  subst hr
  refine wpAny_passesOwn hp (thn h4 fun _ s5 ⟨x,H5,I5,r5,y5,st5,fr5⟩=>?_)
  have I5':=I5.pinned (stat fr5) (T.obj _ _ st5)
  refine wpAny_passesOwn hp (thn (hg _ s5 σ3 H5 x u _ I5' r5 (step x H5 y5)) fun _ s6 ⟨σ6,H6,I6,q6⟩=>?_)
  refine wpAny_passesOwn hp (thn (hb _ s6 σ6 H6 _ I6 q6) fun f s7 q7=>?_)
  have again:∀{σ7:St} {H7:Hp},Inv X (pins++pinsAt fp s5.heap) σ7 H7 s7->N σ7 H7->∃m,m<n/\∃i σ' H',Inv X pins σ' H' s7/\tn i s7.heap/\(∀b∈fp,H' b=none)/\W i m σ' H':=fun {σ7 H7} I7 n7=>by
   obtain ⟨m',hm,w7⟩:=hN σ7 H7 n7
   refine ⟨m',hm,i+1,σ7,H7,I7.unpinned,T.keep _ _ _ st5 fun b hb o e=>(I7.pin (b,o) (List.mem_append_right _ (List.mem_append_right _ (z9 hb e)))).1,fun b hb=>?_,w7⟩
   obtain ⟨o,e,d⟩:=T.obj _ _ st5 b hb
   exact (I7.pin (b,o) (List.mem_append_right _ (List.mem_append_right _ (z9 hb e)))).2.1
  cases f with
  | next=>obtain ⟨σ7,H7,I7,n7⟩:=q7;exact again I7 n7
  | cont=>obtain ⟨σ7,H7,I7,n7⟩:=q7;exact again I7 n7
  | brk=>obtain ⟨σ7,H7,I7,q7⟩:=q7;exact ⟨σ7,H7,I7.unpinned,q7⟩
  | ret v=>obtain ⟨x7,σ7,H7,I7,r7,q7⟩:=q7;exact ⟨x7,σ7,H7,I7.unpinned,r7,q7⟩
end
abbrev R2:=V->V->Hp->VK->Prop
def OpR (X:Cx) (f:Value->Value->Sem Value) (r:R2):Prop:=
 ∀(pins:List (Addr×Obj)) (s:Shared) (σ:St) (H:Hp) (x y:V) (v u:Value) (Q:VK),Inv X pins σ H s->RelV x v->RelV y u->r x y H Q->
  wpAny (model X.prog X.w) X.A (f v u) (EP X pins σ Q) X.xe s
def UnR (X:Cx) (f:Value->Sem Value) (r:V->Hp->VK->Prop):Prop:=
 ∀(pins:List (Addr×Obj)) (s:Shared) (σ:St) (H:Hp) (x:V) (v:Value) (Q:VK),Inv X pins σ H s->RelV x v->r x H Q->
  wpAny (model X.prog X.w) X.A (f v) (EP X pins σ Q) X.xe s
def CallR (X:Cx) (f:Value) (r:List V->Hp->VK->Prop):Prop:=
 ∀(pins:List (Addr×Obj)) (s:Shared) (σ:St) (H:Hp) (xs:List V) (us:List Value) (Q:VK),Inv X pins σ H s->Vals xs us->r xs H Q->
  wpAny (model X.prog X.w) X.A (call f us) (EP X pins σ Q) X.xe s
def tOp (r:R2) (ta tb:TE):TE:=fun σ H Q=>ta σ H fun x H1=>tb σ H1 fun y H2=>r x y H2 Q
def tUn (r:V->Hp->VK->Prop) (ta:TE):TE:=fun σ H Q=>ta σ H fun x H1=>r x H1 Q
def rI (C:Int->Int->Prop) (g:Int->Int->V):R2:=fun x y H Q=>∃i j,x= .int i/\y= .int j/\C i j/\Q (g i j) H
def rI0 (g:Int->Int->V):R2:=fun x y H Q=>∃i j,x= .int i/\y= .int j/\Q (g i j) H
def rU (g:Int->V):V->Hp->VK->Prop:=fun x H Q=>∃i,x= .int i/\Q (g i) H
section
variable {X:Cx} {a b c:Expr} {ta tb tc:TE} {pos:Pos}
theorem binT (ha:PE X a ta) (hb:PE X b tb) {pins:List (Addr×Obj)} {s:Shared} {σ:St} {H:Hp} {R:V->V->Hp->Prop} (I:Inv X pins σ H s)
  (h:ta σ H fun x H1=>tb σ H1 fun y H2=>R x y H2) {Q:Value->Shared->Prop} {f:Value->Value->Sem Value}
  (hf:∀v u s2 x y H2,Inv X pins σ H2 s2->RelV x v->RelV y u->R x y H2->wpAny (model X.prog X.w) X.A (f v u) Q X.xe s2):
  wpAny (model X.prog X.w) X.A (eval a X.env) (fun v s₁=>wpAny (model X.prog X.w) X.A (eval b X.env) (fun u s₂=>wpAny (model X.prog X.w) X.A (f v u) Q X.xe s₂) X.xe s₁) X.xe s:=by
 refine thn (ha pins s σ H _ I h) fun v s1 ⟨x,H1,I1,r1,q1⟩=>?_
 refine thn (hb pins s1 σ H1 _ I1 q1) fun u s2 ⟨y,H2,I2,r2,q2⟩=>?_
 exact hf v u s2 x y H2 I2 r1 r2 q2
theorem WU {op:Operator} {r:R2} (ho:OpR X (binaryOp op) r) (ha:PE X a ta) (hb:PE X b tb):PE X (.BinOp a op b pos) (tOp r ta tb):=by
 intro pins s σ H Q I h
 exact wpAny_BinOp (binT ha hb I h fun v u s2 x y H2 I2 rx ry q=>ho pins s2 σ H2 x y v u Q I2 rx ry q)
theorem xb2 {op:UnaryOp} {r:V->Hp->VK->Prop} (ho:UnR X (unaryOp op) r) (ha:PE X a ta):PE X (.UnaryOp op a pos) (tUn r ta):=by
 intro pins s σ H Q I h
 exact UnaryOp_ (thn (ha pins s σ H _ I h) fun v s1 ⟨x,H1,I1,r1,q1⟩=>ho pins s1 σ H1 x v Q I1 r1 q1)
theorem opI {f:Value->Value->Sem Value} {C:Int->Int->Prop} {g:Int->Int->Int}
  (rule:∀(i j:Int) (t u:Tok) (s:Shared) (Q:Value->Shared->Prop) (E:Value->Shared->Prop),C i j->Q (.int (g i j) s.toks) { s with toks:=s.toks+1 }->wpAny (model X.prog X.w) X.A (f (.int i t) (.int j u)) Q E s):
  OpR X f (rI C fun i j=> .int (g i j)):=by
 intro pins s σ H x y v u Q I rx ry h
 obtain ⟨i,j,rfl,rfl,hc,q⟩:=h
 obtain ⟨t,rfl⟩:=rx
 obtain ⟨t',rfl⟩:=ry
 exact rule i j t t' s _ _ hc ⟨.int (g i j),H,I.tok _,⟨_,rfl⟩,q⟩
theorem opI0 {f:Value->Value->Sem Value} {g:Int->Int->Int}
  (rule:∀(i j:Int) (t u:Tok) (s:Shared) (Q:Value->Shared->Prop) (E:Value->Shared->Prop),Q (.int (g i j) s.toks) { s with toks:=s.toks+1 }->wpAny (model X.prog X.w) X.A (f (.int i t) (.int j u)) Q E s):
  OpR X f (rI0 fun i j=> .int (g i j)):=by
 intro pins s σ H x y v u Q I rx ry h
 obtain ⟨i,j,rfl,rfl,q⟩:=h
 obtain ⟨t,rfl⟩:=rx
 obtain ⟨t',rfl⟩:=ry
 exact rule i j t t' s _ _ ⟨.int (g i j),H,I.tok _,⟨_,rfl⟩,q⟩
theorem opB0 {f:Value->Value->Sem Value} {g:Int->Int->Bool}
  (rule:∀(i j:Int) (t u:Tok) (s:Shared) (Q:Value->Shared->Prop) (E:Value->Shared->Prop),Q (.bool (g i j)) s->wpAny (model X.prog X.w) X.A (f (.int i t) (.int j u)) Q E s):
  OpR X f (rI0 fun i j=> .bl (g i j)):=by
 intro pins s σ H x y v u Q I rx ry h
 obtain ⟨i,j,rfl,rfl,q⟩:=h
 obtain ⟨t,rfl⟩:=rx
 obtain ⟨t',rfl⟩:=ry
 exact rule i j t t' s _ _ ⟨.bl (g i j),H,I,rfl,q⟩
def CPow (i j:Int):Prop:=0<=j/\j<=1000000/\i.natAbs<2^64
theorem xbd:OpR X (binaryOp .Add) (rI0 fun i j=> .int (i+j)):=opI0 fun _ _ _ _ _ _ _ q=>add_int q
theorem xa9:OpR X (binaryOp .Sub) (rI0 fun i j=> .int (i - j)):=opI0 fun _ _ _ _ _ _ _ q=>sub_int q
theorem xbb:OpR X (binaryOp .Mod) (rI (fun _ j=>0<j) fun i j=> .int (i%j)):=opI fun i j _ _ _ _ _ hc q=>by
 have h1:(0:Int)<j:=hc
 exact mod_int' (by omega) (by rw [Int.fmod_eq_emod_of_nonneg i (by omega)];exact q)
theorem KB:OpR X (binaryOp .Mod) (rI (fun _ j=>j≠0) fun i j=> .int (i.fmod j)):=opI fun _ _ _ _ _ _ _ hc q=>mod_int' hc q
theorem xba:OpR X (binaryOp .Pow) (rI CPow fun i j=> .int (i^j.toNat)):=opI fun _ _ _ _ _ _ _ hc q=>pow_int_small hc.1 hc.2.1 hc.2.2 q
theorem unI {f:Value->Sem Value} {g:Int->Int}
  (rule:∀(i:Int) (t:Tok) (s:Shared) (Q:Value->Shared->Prop) (E:Value->Shared->Prop),Q (.int (g i) s.toks) { s with toks:=s.toks+1 }->wpAny (model X.prog X.w) X.A (f (.int i t)) Q E s):
  UnR X f (rU fun i=> .int (g i)):=by
 intro pins s σ H x v Q I rx h
 obtain ⟨i,rfl,q⟩:=h
 obtain ⟨t,rfl⟩:=rx
 exact rule i t s _ _ ⟨.int (g i),H,I.tok _,⟨_,rfl⟩,q⟩
theorem xaI:UnR X (unaryOp .USub) (rU fun i=> .int (-i)):=unI fun _ _ _ _ _ q=>neg_int q
end
def scal:V->V->Bool
 | .non,.non=>true | .non,.int _=>true | .int _,.non=>true | .non,.bl _=>true | .bl _,.non=>true | .non,.str _=>true | .str _,.non=>true
 | .int _,.int _=>true | .bl _,.bl _=>true | .str _,.str _=>true | .byt _,.byt _=>true
 | .int _,.str _=>true | .str _,.int _=>true | .bl _,.str _=>true | .str _,.bl _=>true
 | _,_=>false
def rEq:R2:=fun x y H Q=>scal x y=true/\Q (.bl (decide (x=y))) H
def rNe:R2:=fun x y H Q=>scal x y=true/\Q (.bl (!decide (x=y))) H
theorem wg {i j:Int}:decide (V.int i=V.int j)=(i==j):=by
 rw [Bool.eq_iff_iff]
 simp
theorem JE {i j:Bool}:decide (V.bl i=V.bl j)=(i==j):=by
 rw [Bool.eq_iff_iff]
 simp
theorem uI {i j:Str}:decide (V.str i=V.str j)=(i==j):=by
 rw [Bool.eq_iff_iff]
 simp
theorem Uf {i j:Array UInt8}:decide (V.byt i=V.byt j)=(i.toList==j.toList):=by
 rw [Bool.eq_iff_iff]
 cases i
 cases j
 simp
section
variable {X:Cx} {a b c:Expr} {ta tb tc:TE} {pos:Pos}
theorem xL {pins:List (Addr×Obj)} {σ:St} {H:Hp} {s:Shared} {Q:VK} {k k':Bool} (I:Inv X pins σ H s) (q:Q (.bl k) H) (e:k=k'):EP X pins σ Q (.bool k') s:=by
 subst e
 exact ⟨.bl k,H,I,rfl,q⟩
theorem kO:OpR X (compareOp .Eq) rEq:=by
 intro pins s σ H x y v u Q I rx ry h
 obtain ⟨hs,q⟩:=h
 cases x with
 | non=>
  cases rx
  cases y with
  | non=>cases ry;exact PySem.EqNone.eq_none_none (xL I q (by simp))
  | bl j=>cases ry;exact PySem.EqNone.eq_none_bool (xL I q (by simp))
  | int j=>obtain ⟨t',rfl⟩:=ry;exact PySem.EqNone.eq_none_int (xL I q (by simp))
  | str j=>obtain ⟨t',rfl⟩:=ry;exact PySem.EqNone.eq_none_str (xL I q (by simp))
  | _=>exact absurd (show false=true from hs) Bool.false_ne_true
 | bl i=>
  cases rx
  cases y with
  | non=>cases ry;exact PySem.EqNone.eq_bool_none (xL I q (by simp))
  | bl j=>cases ry;exact eq_bool (xL I q JE)
  | str j=>obtain ⟨t',rfl⟩:=ry;exact PySem.EqMixed.eq_bool_str (xL I q (by simp))
  | _=>exact absurd (show false=true from hs) Bool.false_ne_true
 | int i=>
  obtain ⟨t,rfl⟩:=rx
  cases y with
  | non=>cases ry;exact PySem.EqNone.eq_int_none (xL I q (by simp))
  | int j=>obtain ⟨t',rfl⟩:=ry;exact eq_int (xL I q wg)
  | str j=>obtain ⟨t',rfl⟩:=ry;exact PySem.EqMixed.eq_int_str (xL I q (by simp))
  | _=>exact absurd (show false=true from hs) Bool.false_ne_true
 | str i=>
  obtain ⟨t,rfl⟩:=rx
  cases y with
  | non=>cases ry;exact PySem.EqNone.eq_str_none (xL I q (by simp))
  | bl j=>cases ry;exact PySem.EqMixed.eq_str_bool (xL I q (by simp))
  | int j=>obtain ⟨t',rfl⟩:=ry;exact PySem.EqMixed.eq_str_int (xL I q (by simp))
  | str j=>obtain ⟨t',rfl⟩:=ry;exact eq_str (xL I q uI)
  | _=>exact absurd (show false=true from hs) Bool.false_ne_true
 | byt i=>
  obtain ⟨t,rfl⟩:=rx
  cases y with
  | byt j=>obtain ⟨t',rfl⟩:=ry;exact PySem.W.eq_bytes (xL I q Uf)
  | _=>exact absurd (show false=true from hs) Bool.false_ne_true
 | _=>cases y<;>exact absurd (show false=true from hs) Bool.false_ne_true
theorem xav:OpR X (compareOp .NotEq) rNe:=by
 intro pins s σ H x y v u Q I rx ry h
 obtain ⟨hs,q⟩:=h
 cases x with
 | non=>
  cases rx
  cases y with
  | non=>cases ry;exact PySem.EqNone.ne_none_none (xL I q (by simp))
  | bl j=>cases ry;exact PySem.EqNone.ne_none_bool (xL I q (by simp))
  | int j=>obtain ⟨t',rfl⟩:=ry;exact PySem.EqNone.ne_none_int (xL I q (by simp))
  | str j=>obtain ⟨t',rfl⟩:=ry;exact PySem.EqNone.ne_none_str (xL I q (by simp))
  | _=>exact absurd (show false=true from hs) Bool.false_ne_true
 | bl i=>
  cases rx
  cases y with
  | non=>cases ry;exact PySem.EqNone.ne_bool_none (xL I q (by simp))
  | bl j=>cases ry;exact ne_bool (xL I q (congrArg not JE))
  | str j=>obtain ⟨t',rfl⟩:=ry;exact PySem.EqMixed.ne_bool_str (xL I q (by simp))
  | _=>exact absurd (show false=true from hs) Bool.false_ne_true
 | int i=>
  obtain ⟨t,rfl⟩:=rx
  cases y with
  | non=>cases ry;exact PySem.EqNone.ne_int_none (xL I q (by simp))
  | int j=>obtain ⟨t',rfl⟩:=ry;exact ne_int (xL I q (congrArg not wg))
  | str j=>obtain ⟨t',rfl⟩:=ry;exact PySem.EqMixed.ne_int_str (xL I q (by simp))
  | _=>exact absurd (show false=true from hs) Bool.false_ne_true
 | str i=>
  obtain ⟨t,rfl⟩:=rx
  cases y with
  | non=>cases ry;exact PySem.EqNone.ne_str_none (xL I q (by simp))
  | bl j=>cases ry;exact PySem.EqMixed.ne_str_bool (xL I q (by simp))
  | int j=>obtain ⟨t',rfl⟩:=ry;exact PySem.EqMixed.ne_str_int (xL I q (by simp))
  | str j=>obtain ⟨t',rfl⟩:=ry;exact ne_str (xL I q (congrArg not uI))
  | _=>exact absurd (show false=true from hs) Bool.false_ne_true
 | byt i=>
  obtain ⟨t,rfl⟩:=rx
  cases y with
  | byt j=>obtain ⟨t',rfl⟩:=ry;exact PySem.W.ne_bytes (xL I q (congrArg not Uf))
  | _=>exact absurd (show false=true from hs) Bool.false_ne_true
 | _=>cases y<;>exact absurd (show false=true from hs) Bool.false_ne_true
theorem xb4:OpR X (compareOp .Lt) (rI0 fun i j=> .bl (decide (i<j))):=opB0 fun _ _ _ _ _ _ _ q=>lt_int q
theorem xaw:OpR X (compareOp .LtE) (rI0 fun i j=> .bl (decide (i<=j))):=opB0 fun _ _ _ _ _ _ _ q=>le_int q
theorem xax:OpR X (compareOp .Gt) (rI0 fun i j=> .bl (decide (j<i))):=opB0 fun _ _ _ _ _ _ _ q=>gt_int q
theorem xay:OpR X (compareOp .GtE) (rI0 fun i j=> .bl (decide (j<=i))):=opB0 fun _ _ _ _ _ _ _ q=>ge_int q
theorem UP:OpR X (compareOp .In) (fun x y H Q=>∃i j,x= .str i/\y= .str j/\Q (.bl (!(Builtin.Str.occurrences j i 0 j.length 1).isEmpty)) H):=by
 intro pins s σ H x y v u Q I rx ry h
 obtain ⟨i,j,rfl,rfl,q⟩:=h
 obtain ⟨t,rfl⟩:=rx
 obtain ⟨t',rfl⟩:=ry
 exact in_str (xL I q rfl)
theorem nomark (b:Expr) {op:CmpOp} (h:op≠ .In:=by decide) (h2:op≠ .NotIn:=by decide):behindInMarks op b=false:=by
 have e1:(op==CmpOp.In)=false:=by cases op<;>first | rfl | exact absurd rfl h
 have e2:(op==CmpOp.NotIn)=false:=by cases op<;>first | rfl | exact absurd rfl h2
 cases b<;>simp [behindInMarks,e1,e2]
theorem vT {op:CmpOp} {r:R2} (ho:OpR X (compareOp op) r) (ha:PE X a ta) (hb:PE X b tb) (hm:behindInMarks op b=false):PE X (.Compare a [op] [b] pos) (tOp r ta tb):=by
 intro pins s σ H Q I h
 exact wpAny_Compare1 (binT ha hb I h fun v u s2 x y H2 I2 rx ry q=>ho pins s2 σ H2 x y v u Q I2 rx ry q) hm
def tTest (t:TE):TT:=fun σ H Q=>t σ H fun x H'=>∃k,x= .bl k/\Q k H'
theorem Zg {op:CmpOp} {r:R2} (ho:OpR X (compareOp op) r) (ha:PE X a ta) (hb:PE X b tb) (hm:behindInMarks op b=false):PT X (.Compare a [op] [b] pos) (tTest (tOp r ta tb)):=by
 intro pins s σ H Q I h
 refine wpAny_isTrue_Compare1 (thn (ha pins s σ H _ I h) fun v s1 ⟨x,H1,I1,r1,q1⟩=>thn (hb pins s1 σ H1 _ I1 q1) fun u s2 ⟨y,H2,I2,r2,q2⟩=>
  thn (ho pins s2 σ H2 x y v u _ I2 r1 r2 q2) fun c s3 ⟨z,H3,I3,r3,k,e,q3⟩=>?_) hm
 subst e
 cases r3
 exact wpAny_truthy_bool ⟨H3,I3,q3⟩
theorem line63:(sizeLine:Nat)<2^63:=by rw [sizeLine_eq];decide
theorem VS:OpR X (binaryOp .Add) (fun x y H Q=>∃i j,x= .str i/\y= .str j/\i.length+j.length<=sizeLine/\Q (.str (i++j)) H):=by
 intro pins s σ H x y v u Q I rx ry h
 obtain ⟨i,j,rfl,rfl,hz,q⟩:=h
 obtain ⟨t,rfl⟩:=rx
 obtain ⟨t',rfl⟩:=ry
 exact add_str (fun t' tk=>⟨.str (i++j),H,I.tok _,⟨_,rfl⟩,q⟩) hz
theorem vals1 {x:V} {us:List Value} (r:Vals [x] us):∃u,us=[u]/\RelV x u:=by
 cases r with
 | cons r1 r2=>cases r2;exact ⟨_,rfl,r1⟩
theorem vals2 {x y:V} {us:List Value} (r:Vals [x,y] us):∃u w',us=[u,w']/\RelV x u/\RelV y w':=by
 cases r with
 | cons r1 r2=>
  cases r2 with
  | cons r3 r4=>cases r4;exact ⟨_,_,rfl,r1,r3⟩
theorem JH:CallR X (.builtin "abs") (fun xs H Q=>∃i,xs=[.int i]/\Q (.int (if i<0 then -i else i)) H):=by
 intro pins s σ H xs us Q I r h
 obtain ⟨i,rfl,q⟩:=h
 obtain ⟨u,rfl,t,rfl⟩:=vals1 r
 exact call_abs_int fun u tk=>⟨.int (if i<0 then -i else i),H,I.tok _,⟨_,rfl⟩,q⟩
theorem ju (hc:X.calm=true):CallR X (.builtin "max") (fun xs H Q=>∃i j,xs=[.int i,.int j]/\Q (.int (if j>i then j else i)) H):=by
 intro pins s σ H xs us Q I r h
 obtain ⟨i,j,rfl,q⟩:=h
 obtain ⟨u,w',rfl,⟨t,rfl⟩,⟨t',rfl⟩⟩:=vals2 r
 refine max_two_ints (I.ok.hd hc) fun h' tk k=>⟨_,H,I.kept k,?_,q⟩
 by_cases hj:j>i
 ·rw [if_pos hj,if_pos hj];exact ⟨_,rfl⟩
 ·rw [if_neg hj,if_neg hj];exact ⟨_,rfl⟩
theorem jt (hc:X.calm=true):CallR X (.builtin "min") (fun xs H Q=>∃i j,xs=[.int i,.int j]/\Q (.int (if j<i then j else i)) H):=by
 intro pins s σ H xs us Q I r h
 obtain ⟨i,j,rfl,q⟩:=h
 obtain ⟨u,w',rfl,⟨t,rfl⟩,⟨t',rfl⟩⟩:=vals2 r
 refine min_two_ints (I.ok.hd hc) fun h' tk k=>⟨_,H,I.kept k,?_,q⟩
 by_cases hj:j<i
 ·rw [if_pos hj,if_pos hj];exact ⟨_,rfl⟩
 ·rw [if_neg hj,if_neg hj];exact ⟨_,rfl⟩
theorem jv:CallR X (.type "int") (fun xs H Q=>(∃i,xs=[.int i]/\Q (.int i) H)∨∃k,xs=[.bl k]/\Q (.int (if k then 1 else 0)) H):=by
 intro pins s σ H xs us Q I r h
 rcases h with ⟨i,rfl,q⟩ | ⟨k,rfl,q⟩
 ·obtain ⟨u,rfl,t,rfl⟩:=vals1 r
  exact call_int_int ⟨.int i,H,I,⟨_,rfl⟩,q⟩
 ·obtain ⟨u,rfl,r1⟩:=vals1 r
  cases r1
  exact call_int_bool ⟨.int (if k then 1 else 0),H,I.tok _,⟨_,rfl⟩,q⟩
theorem ZR:CallR X (.type "str") (fun xs H Q=>∃i,xs=[.int i]/\i.natAbs.log2<1920/\Q (.str (toString i)) H):=by
 intro pins s σ H xs us Q I r h
 obtain ⟨i,rfl,hz,q⟩:=h
 obtain ⟨u,rfl,t,rfl⟩:=vals1 r
 exact PySem.P.str_of_int hz ⟨.str _,H,I.tok _,⟨_,rfl⟩,q⟩
def LenV (K:PySem.W.Frag) (x:V) (H:Hp) (n:Nat):Prop:=
 match x with
 | .str y=>y.length<=sizeLine/\n=y.length
 | .byt y=>y.size<=sizeLine/\n=y.size
 | .ref p=>(∃xs,SqL K H p xs/\n=xs.length)∨∃xs,SqT K H p xs/\n=xs.length
 | _=>False
theorem XQ:CallR X (.builtin "len") (fun xs H Q=>∃x n,xs=[x]/\LenV X.K x H n/\Q (.int n) H):=by
 intro pins s σ H xs us Q I r h
 obtain ⟨x,n,rfl,e,q⟩:=h
 obtain ⟨u,rfl,rx⟩:=vals1 r
 have hl:=line63
 have hs:sizeLine=16777216:=sizeLine_eq
 cases x with
 | str y=>
  obtain ⟨t,rfl⟩:=rx
  obtain ⟨hy,e'⟩:y.length<=sizeLine/\n=y.length:=e
  subst e'
  exact len_str (by omega) ⟨.int _,H,I.tok _,⟨_,rfl⟩,q⟩
 | byt y=>
  obtain ⟨t,rfl⟩:=rx
  obtain ⟨hy,e'⟩:y.size<=sizeLine/\n=y.size:=e
  subst e'
  exact PySem.W.len_bytes (by omega) ⟨.int _,H,I.tok _,⟨_,rfl⟩,q⟩
 | ref p=>
  cases rx
  have e':(∃xs,SqL X.K H p xs/\n=xs.length)∨∃xs,SqT X.K H p xs/\n=xs.length:=e
  rcases e' with ⟨xs,hx,e'⟩ | ⟨xs,hx,e'⟩
  ·subst e'
   obtain ⟨its,r',pl,hz⟩:=I.list hx
   have hlen:=r'.length
   exact Calls.call_len_list pl.isList (by simp only [List.size_toArray];omega) ⟨.int xs.length,H,I.tok _,⟨_,by simp only [List.size_toArray];rw [hlen]⟩,q⟩
  ·subst e'
   obtain ⟨its,r',pl,hz⟩:=I.tuple hx
   have hlen:=r'.length
   exact len_tuple pl (by simp only [List.size_toArray];omega) ⟨.int xs.length,H,I.tok _,⟨_,by simp only [List.size_toArray];rw [hlen]⟩,q⟩
 | _=>exact (show False from e).elim
end
structure ObjM (h:Heap) (x dx C:Addr) (mA:Str->Option Value):Prop where
 obj:h.get? x=some (PySem.W.instObj C dx)
 ns:h.Ns1 dx mA
 ne:dx≠x
theorem U4 {h:Heap} {dx:Addr} {mA:Str->Option Value} (n:h.Ns1 dx mA):∃od,h.get? dx=some od/\∀name,PySem.W.lookIn name od=some (mA name):=by
 obtain ⟨o,es,ep,ho,hd,hk,_,hm⟩:=n
 refine ⟨o,ho,fun name=>?_⟩
 have e:=hm name
 unfold nsFind findBy at e
 rw [<-Array.find?_toList] at e
 unfold PySem.W.lookIn
 rw [hd]
 dsimp only
 split
 ·rename_i y q
  rw [q] at e
  exact congrArg some e
 ·rename_i q
  rw [q] at e
  have a:es.toList.any (·.refKey)=false:=by
   rw [List.any_eq_false]
   intro y hy
   obtain ⟨z,t,hkey⟩:=hk y (Array.mem_toList_iff.mp hy)
   simp [DictEntry.refKey,hkey]
  have a':¬es.toList.any (·.refKey)=true:=by rw [a];exact Bool.false_ne_true
  rw [if_neg a']
  exact congrArg some e
theorem ObjM.look {h:Heap} {x dx C:Addr} {mA:Str->Option Value} (I:ObjM h x dx C mA):∃od,PySem.W.InstAt h x (PySem.W.instObj C dx) C (some od)/\∀name,PySem.W.lookIn name od=some (mA name):=
 let ⟨od,ho,hl⟩:=U4 I.ns
 ⟨od,⟨I.obj,rfl,rfl,ho⟩,hl⟩
section
variable {prog:Program} {w:World} {A:Around} {E:Value->Shared->Prop} {s:Shared} {K:PySem.W.Frag} {x dx C f:Addr} {mA:Str->Option Value} {name:Str} {v:Value}
theorem KS {expr:Bool} {Q:Value->Shared->Prop} (X:K.In s.heap) (I:ObjM s.heap x dx C mA) (hg:PySem.W.plainGet K C name=true) (hh:PySem.W.hasDictIn K C=true)
  (ha:PySem.W.findIn K (.ref C) name=some none) (hv:mA name=some v) (hv':PySem.W.handedIn v=true) (h:Q v { s with toks:=s.toks+1 }):
  wpAny (model prog w) A (getAttr (.ref x) name expr) Q E s:=by
 obtain ⟨od,J,hl⟩:=I.look
 exact PySem.W.get_value X J (PySem.W.plainGet_of hg).1 (PySem.W.findObj_own hh ha rfl (by rw [hl,hv])) hv' h
theorem Ji {pl:Sem Bool} {Q:Value×List Value->Shared->Prop} (X:K.In s.heap) (I:ObjM s.heap x dx C mA) (hg:PySem.W.plainGet K C name=true)
  (hf:PySem.W.findIn K (.ref C) name=some (some (.ref f))) (ht:PySem.W.isFn K (.ref f)=true) (hv:mA name=none) (h:Q (.ref f,[.ref x]) s):
  wpAny (model prog w) A (getMethod (.ref x) name pl) Q E s:=by
 obtain ⟨od,J,hl⟩:=I.look
 exact PySem.W.method_fn X J (PySem.W.plainGet_of hg).1 (PySem.W.plainGet_of hg).2 hf (beq_iff_eq.mp ht) (by show (PySem.W.lookIn name od).map (·.isSome)=some false;rw [hl,hv];rfl) h
theorem Kk {ns:List Str} {Q:Unit->Shared->Prop} (X:K.In s.heap) (I:ObjM s.heap x dx C mA)
  (hs:PySem.W.findIn K (.ref C) "__setattr__" =some (some (.builtin "object.__setattr__"))) (hp:PySem.W.plainOver K C=true) (ht:PySem.W.takerIn K C name=some none) (hh:PySem.W.hasDictIn K C=true)
  (hw:PySem.Within mA ns) (hsz:ns.length<=sizeLine)
  (h:∀h',ObjM h' x dx C (fun y=>if y=name then some v else mA y)->Heap.SameBut dx s.heap h'->Q () { s with heap:=h',toks:=s.toks+2 }):
  wpAny (model prog w) A (setAttr (.ref x) name v) Q E s:=by
 obtain ⟨od,J,hl⟩:=I.look
 refine PySem.W.set_plain X J hs (PySem.W.osa_open (s:={ s with toks:=s.toks+1 }) (r:=none) X J hp ht fun b=>?_)
 obtain ⟨cd,hc,hd'⟩:=PySem.W.any_some hh
 have hx:s.heap.get? x=some ⟨.ref C,some dx,.plain,#[]⟩:=I.obj
 refine wpAny_bind (wpAny_pure (wpAny_bind (wpAny_bind (wpAny_loadPart hx (wpAny_bind (PySem.W.Looks.here (s:={ s with toks:=s.toks+1 }) (PySem.W.looks_clsIn X hc) ?_))))))
 rw [hd']
 refine wpAny_pure (a:=some dx) (wpAny_bind (wpAny_pure (wpAny_bind ?_)))
 refine wpAny_nsSet1 (s:={ s with toks:=s.toks+1 }) I.ns fun h' hn2 hs2=>?_
 obtain ⟨oD,esD,epD,hoD,hdD,hcD⟩:=hn2.count (PySem.Within.cons name v hw)
 refine wpAny_bind (wpAny_lookBehind hoD (by rw [hdD];exact pastItsLine_dict (Nat.le_trans hcD (by rw [List.length_cons];omega))) ?_)
 exact wpAny_pure (h _ ⟨(hs2.2 _ (Ne.symm I.ne)).trans I.obj,hn2,I.ne⟩ hs2)
theorem QJ {R:Result->Shared->Prop} {vs:List Value} {kw:List (Str×Value)} (X:K.In s.heap) (hm:PySem.W.makesIn K C=true)
  (hi:PySem.W.findIn K (.ref C) "__init__" =some (some (.ref f))) (hf:PySem.W.typeIn K (.ref f)=some (.type "function"))
  (h:codeAny (model prog w) (A.under (.builtin "type.__call__" ⟨.ref C::vs,kw⟩)) (.call (.ref f) ⟨.ref (s.heap.objs.size+1)::vs,kw⟩) (PySem.W.InitBack (s.heap.objs.size+1) R)
   { s with heap:=(s.heap.push PySem.W.emptyDict).push (PySem.W.instObj C s.heap.objs.size) }):
  codeAny (model prog w) A (.call (.ref C) ⟨vs,kw⟩) R s:=by
 obtain ⟨hh,g,d,t,os⟩:=s
 exact PySem.W.make_core (PySem.W.makes_of X hm) (PySem.W.looks_findIn X hi) (fun self=>PySem.W.bind_fn X self hf) (.inl rfl) h
theorem U3 {R:Result->Shared->Prop} (X:K.In s.heap) (hm:PySem.W.makesIn K C=true)
  (hi:PySem.W.findIn K (.ref C) "__init__" =some (some (.builtin "object.__init__")))
  (hb:∀self,PySem.W.Looks (model prog w) s.heap (bindSpecial (.builtin "object.__init__") self) (.builtin "object.__init__",[self]))
  (h:codeAny (model prog w) (A.under (.builtin "type.__call__" ⟨[.ref C],[]⟩)) (.call (.builtin "object.__init__") ⟨[.ref (s.heap.objs.size+1)],[]⟩) (PySem.W.InitBack (s.heap.objs.size+1) R)
   { s with heap:=(s.heap.push PySem.W.emptyDict).push (PySem.W.instObj C s.heap.objs.size) }):
  codeAny (model prog w) A (.call (.ref C) ⟨[],[]⟩) R s:=by
 obtain ⟨hh,g,d,t,os⟩:=s
 exact PySem.W.make_core (PySem.W.makes_of X hm) (PySem.W.looks_findIn X hi) hb (.inr ⟨rfl,rfl⟩) h
end
def putF (f:Str) (v:V):List (Str×V)->List (Str×V)
 | []=>[(f,v)]
 | (g,x)::r=>if g=f then (g,v)::r else (g,x)::putF f v r
theorem uh (f g:Str) (v:V):∀fs:List (Str×V),(putF f v fs).lookup g=if g=f then some v else fs.lookup g
 | []=>by
  show List.lookup g [(f,v)]=_
  by_cases h:g=f
  ·have hb:(g==f)=true:=beq_iff_eq.mpr h
   simp only [List.lookup,hb,if_pos h]
  ·have hb:(g==f)=false:=beq_eq_false_iff_ne.mpr h
   simp only [List.lookup,hb,if_neg h]
 | (k,x)::r=>by
  have ih:=uh f g v r
  rw [show putF f v ((k,x)::r)=(if k=f then (k,v)::r else (k,x)::putF f v r) from rfl]
  by_cases hk:k=f
  ·rw [if_pos hk]
   by_cases h:g=k
   ·have hb:(g==k)=true:=beq_iff_eq.mpr h
    simp only [List.lookup,hb,if_pos (h.trans hk)]
   ·have hb:(g==k)=false:=beq_eq_false_iff_ne.mpr h
    simp only [List.lookup,hb,if_neg (fun e:g=f=>h (e.trans hk.symm))]
  ·rw [if_neg hk]
   by_cases h:g=k
   ·have hb:(g==k)=true:=beq_iff_eq.mpr h
    simp only [List.lookup,hb,if_neg (fun e:g=f=>hk (h.symm.trans e))]
   ·have hb:(g==k)=false:=beq_eq_false_iff_ne.mpr h
    simp only [List.lookup,hb]
    exact ih
theorem wH (f:Str) (v:V):∀fs:List (Str×V),f∈(putF f v fs).map (·.1)/\∀g,g∈fs.map (·.1)->g∈(putF f v fs).map (·.1)
 | []=>⟨by simp [putF],fun g h=>by simp at h⟩
 | (k,x)::r=>by
  obtain ⟨i1,i2⟩:=wH f v r
  rw [show putF f v ((k,x)::r)=(if k=f then (k,v)::r else (k,x)::putF f v r) from rfl]
  by_cases hk:k=f
  ·rw [if_pos hk]
   subst hk
   exact ⟨by simp,fun g h=>by simpa using h⟩
  ·rw [if_neg hk]
   refine ⟨?_,fun g h=>?_⟩
   ·rw [List.map_cons]
    exact List.mem_cons_of_mem _ i1
   ·rw [List.map_cons] at h ⊢
    rcases List.mem_cons.mp h with e | e
    ·exact List.mem_cons.mpr (.inl e)
    ·exact List.mem_cons_of_mem _ (i2 g e)
theorem ui (f:Str) (v:V):∀fs:List (Str×V),(putF f v fs).length<=fs.length+1
 | []=>by simp [putF]
 | (k,x)::r=>by
  have ih:=ui f v r
  rw [show putF f v ((k,x)::r)=(if k=f then (k,v)::r else (k,x)::putF f v r) from rfl]
  by_cases hk:k=f
  ·rw [if_pos hk,List.length_cons,List.length_cons];omega
  ·rw [if_neg hk,List.length_cons,List.length_cons];omega
theorem RelO.some_of {v:V} {o:Option Value} (r:RelO (some v) o):∃u,o=some u/\RelV v u:=by
 cases o with
 | none=>exact (show False from r).elim
 | some u=>exact ⟨u,rfl,r⟩
theorem RelO.none_of {o:Option Value} (r:RelO none o):o=none:=by
 cases o with
 | none=>rfl
 | some u=>exact (show False from r).elim
theorem ja {v:V} {u:Value} (r:RelV v u):PySem.W.handedIn u=true:=by
 cases v with
 | non=>cases (show u=Value.none from r);rfl
 | bl b=>cases (show u=Value.bool b from r);rfl
 | int i=>obtain ⟨t,e⟩:=(show ∃t,u=Value.int i t from r);cases e;rfl
 | str x=>obtain ⟨t,e⟩:=(show ∃t,u=Value.str x t from r);cases e;rfl
 | byt b=>obtain ⟨t,e⟩:=(show ∃t,u=Value.bytes b t from r);cases e;rfl
 | flt b=>obtain ⟨t,e⟩:=(show ∃t,u=Value.float b t from r);cases e;rfl
 | ref a=>cases (show u=Value.ref a from r);rfl
 | ty n=>cases (show u=Value.type n from r);rfl
section
variable {P:Program} {w:World} {H H':Hp} {h h':Heap} {a C dx:Addr} {fs fs':List (Str×V)}
theorem uF (hok:HOk P w H h) (e:H a=some (.ins C dx fs)):∃mA,ObjM h a dx C mA/\(∀f,RelO (fs.lookup f) (mA f))/\PySem.Within mA (fs.map (·.1))/\fs.length<=1000/\H dx=some (.own a):=by
 obtain ⟨d,z,ne,ob,mA,n,r,q⟩:=(show ObjOk P w H h a (.ins C dx fs) from hok a _ e)
 exact ⟨mA,⟨ob,n,ne⟩,r,q,z,d⟩
end
structure Cls (K:PySem.W.Frag) (C:Addr):Prop where
 pg:PySem.W.plainGet K C Str.empty=true
 hd:PySem.W.hasDictIn K C=true
 po:PySem.W.plainOver K C=true
 sa:PySem.W.findIn K (.ref C) "__setattr__" =some (some (.builtin "object.__setattr__"))
theorem Cls.get {K:PySem.W.Frag} {C:Addr} (c:Cls K C) (f:Str):PySem.W.plainGet K C f=true:=c.pg
def NoAttr (K:PySem.W.Frag) (C:Addr) (f:Str):Prop:=PySem.W.findIn K (.ref C) f=some none
theorem NoAttr.taker {K:PySem.W.Frag} {C:Addr} {f:Str} (n:NoAttr K C f):PySem.W.takerIn K C f=some none:=by
 unfold PySem.W.takerIn
 rw [show PySem.W.findIn K (.ref C) f=some none from n]
 rfl
structure Con (K:PySem.W.Frag) (C:Addr) (f:Str) (v:V) (u:Value):Prop where
 at_:PySem.W.findIn K (.ref C) f=some (some u)
 rel:RelV v u
 get:PySem.W.specialIn K u "__get__" =some none
 cp:PySem.W.copiedNames.contains f=false
structure Meth (K:PySem.W.Frag) (C:Addr) (m:Str) (f:Addr):Prop where
 at_:PySem.W.findIn K (.ref C) m=some (some (.ref f))
 fn:PySem.W.isFn K (.ref f)=true
 kp:PySem.W.keepIn K (.ref f)=true
section
variable {X:Cx} {pins:List (Addr×Obj)} {σ:St} {H:Hp} {s:Shared} {a C dx:Addr} {fs:List (Str×V)} {f:Str} {v:V} {A:Around} {E:Value->Shared->Prop}
theorem Wb {b:Bool} {Q:Value->Shared->Prop} (I:Inv X pins σ H s) (e:H a=some (.ins C dx fs)) (c:Cls X.K C) (n:NoAttr X.K C f) (l:fs.lookup f=some v)
  (h:∀u s',Inv X pins σ H s'->RelV v u->Q u s'):wpAny (model X.prog X.w) A (getAttr (.ref a) f b) Q E s:=by
 obtain ⟨mA,O,r,_,_,_⟩:=uF I.hok e
 obtain ⟨u,hu,ru⟩:=RelO.some_of (v:=v) (o:=mA f) (by rw [<-l];exact r f)
 exact KS I.kIn O (c.get f) c.hd n hu (ja ru) (h u _ (I.tok _) ru)
theorem vy {m:Str} {g:Addr} {pl:Sem Bool} {Q:Value×List Value->Shared->Prop} (I:Inv X pins σ H s) (e:H a=some (.ins C dx fs)) (c:Cls X.K C) (k:Meth X.K C m g) (l:fs.lookup m=none)
  (h:Q (.ref g,[.ref a]) s):wpAny (model X.prog X.w) A (getMethod (.ref a) m pl) Q E s:=by
 obtain ⟨mA,O,r,_,_,_⟩:=uF I.hok e
 have hn:mA m=none:=RelO.none_of (by rw [<-l];exact r m)
 exact Ji I.kIn O (c.get m) k.at_ k.fn hn h
theorem Vu {y:V} {u:Value} {Q:Unit->Shared->Prop} (I:Inv X pins σ H s) (e:H a=some (.ins C dx fs)) (c:Cls X.K C) (n:NoAttr X.K C f) (hl:fs.length<1000) (ry:RelV y u)
  (h:∀s',Inv X pins σ (upd H a (.ins C dx (putF f y fs))) s'->Q () s'):wpAny (model X.prog X.w) A (setAttr (.ref a) f u) Q E s:=by
 obtain ⟨mA,O,r,wi,_,ho⟩:=uF I.hok e
 have hz:(fs.map (·.1)).length<=sizeLine:=by rw [List.length_map,sizeLine_eq];omega
 refine Kk I.kIn O c.sa c.po n.taker c.hd wi hz fun h' O' sb=>h _ ?_
 have hd:∃o,h'.get? dx=some o:=let ⟨o,_,_,e',_⟩:=O'.ns;⟨o,e'⟩
 refine I.write (x:=a) (e:=dx) (by rw [e];exact True.intro) (.inr ho) (fun b q hb z=>(sb.2 b hb).trans z) hd ?_
 refine ⟨by rw [xh O.ne];exact ho,?_,O.ne,O'.obj,_,O'.ns,fun g=>?_,fun g hg=>?_⟩
 ·have:=ui f y fs;omega
 ·show RelO ((putF f y fs).lookup g) (if g=f then some u else mA g)
  rw [uh]
  by_cases q:g=f
  ·rw [if_pos q,if_pos q];exact ry
  ·rw [if_neg q,if_neg q];exact r g
 ·by_cases q:g=f
  ·rw [q];exact (wH f y fs).1
  ·refine (wH f y fs).2 g (wi g fun z=>hg ?_)
   show (if g=f then some u else mA g)=none
   rw [if_neg q];exact z
theorem Inv.made (I:Inv X pins σ H s):Inv X pins σ (upd (upd H s.heap.objs.size (.own (s.heap.objs.size+1))) (s.heap.objs.size+1) (.ins C s.heap.objs.size []))
  { s with heap:=(s.heap.push PySem.W.emptyDict).push (PySem.W.instObj C s.heap.objs.size) }:=by
 have e1:(s.heap.push PySem.W.emptyDict).get? s.heap.objs.size=some PySem.W.emptyDict:=Heap.get?_push_size s.heap rfl
 have e2:((s.heap.push PySem.W.emptyDict).push (PySem.W.instObj C s.heap.objs.size)).get? (s.heap.objs.size+1)=some (PySem.W.instObj C s.heap.objs.size):=by
  have:=Heap.get?_push_size (s.heap.push PySem.W.emptyDict) (o:=PySem.W.instObj C s.heap.objs.size) rfl
  rwa [Heap.size_push] at this
 have e3:(s.heap.push PySem.W.emptyDict).Ns s.heap.objs.size (fun _=>none):=⟨PySem.W.emptyDict,#[],_,e1,rfl,(fun e he=>absurd he (by simp)),fun _=>rfl⟩
 have I1:=I.laid (a:=s.heap.objs.size) (o:= .own (s.heap.objs.size+1)) (h':=s.heap.push PySem.W.emptyDict) (t':=s.toks) (fun b u q=>Heap.get?_push_of_some _ q) (Nat.le_refl _) ⟨_,e1⟩
 refine I1.laid (a:=s.heap.objs.size+1) (o:= .ins C s.heap.objs.size []) (t':=s.toks) (fun b u q=>Heap.get?_push_of_some _ q) (Nat.le_of_eq (Heap.size_push _ _)) ?_
 have ne:s.heap.objs.size≠s.heap.objs.size+1:=Nat.ne_of_lt (Nat.lt_succ_self _)
 refine ⟨by rw [xh ne,xp],Nat.zero_le _,ne,e2,fun _=>none,(Heap.Ns1.of_empty e3).at fun o q=>Heap.get?_push_of_some _ q,fun _=>True.intro,fun y hy=>absurd rfl hy⟩
theorem xae {prog:Program} {w:World} {env:Env} {e:Expr} {f:Str} {pos:Pos} {s:Shared} {Q:Value->Shared->Prop} (hb:attributeBase e f env (eval e env)=eval e env)
  (h:wpAny (model prog w) A (eval e env) (fun o s₁=>wpAny (model prog w) A (getAttr o f true) Q E s₁) E s):wpAny (model prog w) A (eval (.Attribute e f pos) env) Q E s:=
 Attribute_any_ h (by rw [arm_eval_Attribute,hb])
end
def tFld (K:PySem.W.Frag) (ta:TE) (f:Str):TE:=fun σ H Q=>ta σ H fun x H1=>∃a C dx fs v,x= .ref a/\H1 a=some (.ins C dx fs)/\Cls K C/\NoAttr K C f/\fs.lookup f=some v/\Q v H1
def sFld (K:PySem.W.Frag) (ta tv:TE) (f:Str):TS:=fun D σ H=>tv σ H fun y H1=>ta σ H1 fun x H2=>∃a C dx fs,x= .ref a/\H2 a=some (.ins C dx fs)/\Cls K C/\NoAttr K C f/\fs.length<1000/\
 D.nx σ (upd H2 a (.ins C dx (putF f y fs)))
section
variable {X:Cx} {o e value:Expr} {f:Str} {pos pos' tpos:Pos} {ta tv:TE}
theorem z7 (he:PE X e ta) (hb:attributeBase e f X.env (eval e X.env)=eval e X.env):PE X (.Attribute e f pos) (tFld X.K ta f):=by
 intro pins s σ H Q I h
 refine xae hb (thn (he pins s σ H _ I h) fun u s1 ⟨x,H1,I1,rx,a,C,dx,fs,v,ex,ea,c,n,l,q⟩=>?_)
 subst ex
 obtain rfl:u=Value.ref a:=rx
 exact Wb I1 ea c n l fun u' s2 I2 ru=>⟨v,H1,I2,ru,q⟩
theorem wA (ha:PE X o ta) (hv:PE X value tv) (hs:swapsWith value (some (.Attribute o f pos')) pos.line X.env=pure false):PS X (.Assign [.Attribute o f pos'] value pos) (sFld X.K ta tv f):=by
 intro pins s σ H D I h
 refine plainObj_wpAny_Assign_Attribute (thn (hv pins s σ H _ I h) fun u s1 ⟨y,H1,I1,ry,q⟩=>thn (ha pins s1 σ H1 _ I1 q) fun ov s2 ⟨x,H2,I2,rx,a,C,dx,fs,ex,ea,c,n,l,q2⟩=>?_) hs
 subst ex
 obtain rfl:ov=Value.ref a:=rx
 exact Vu I2 ea c n l ry fun s3 I3=>⟨σ,_,I3,q2⟩
theorem ug {pl:Sem Bool} {m:Str} {apos:Pos} {args:List Expr} {pins:List (Addr×Obj)} {s:Shared} {σ:St} {H:Hp} {Q:Value->Shared->Prop} {te:TE} (he:PE X e te) (I:Inv X pins σ H s)
  (h:te σ H fun x H1=>∃a C dx fs g,x= .ref a/\H1 a=some (.ins C dx fs)/\Cls X.K C/\Meth X.K C m g/\fs.lookup m=none/\
   ∀s1,Inv X pins σ H1 s1->wpAny (model X.prog X.w) X.A (callWith pos (.ref g) [.ref a] (backTo pos (starEach args X.env)) (backToKw pos (keywordEach [] X.env))) Q X.xe s1)
  (ht:eval (.Call (.Attribute e m apos) args [] pos) X.env=(do
   let ov <-eval e X.env
   standAt apos.atName
   let (f,first) <-holding [ov] (getMethod ov m pl)
   callWith pos f first (backTo pos (starEach args X.env)) (backToKw pos (keywordEach [] X.env)))):
  wpAny (model X.prog X.w) X.A (eval (.Call (.Attribute e m apos) args [] pos) X.env) Q X.xe s:=by
 refine PySem.W.methodCall_KW (pl:=pl) (thn (he pins s σ H _ I h) fun u s1 ⟨x,H1,I1,rx,a,C,dx,fs,g,ex,ea,c,k,l,q⟩=>?_) ht
 subst ex
 obtain rfl:u=Value.ref a:=rx
 exact vy I1 ea c k l (q s1 I1)
end
section
variable {X:Cx} {pins:List (Addr×Obj)} {σ:St} {H:Hp} {s:Shared} {A:Around} {E:Value->Shared->Prop} {Q:Value->Shared->Prop} {c:Value} {b:Bool}
inductive TyOf (K:PySem.W.Frag) (H:Hp):V->Value->Prop where
 | non:TyOf K H .non (.type "NoneType")
 | bl (x:Bool):TyOf K H (.bl x) (.type "bool")
 | int (i:Int):TyOf K H (.int i) (.type "int")
 | str (x:Str):TyOf K H (.str x) (.type "str")
 | flt (x:UInt64):TyOf K H (.flt x) (.type "float")
 | lst {a:Addr} {xs:List V} (e:H a=some (.lst xs)):TyOf K H (.ref a) (.type "list")
 | frz {a:Addr} {o:Obj} {xs:List V} (e:H a=some (.frz o (.lst xs))):TyOf K H (.ref a) (.type "list")
 | tup {a:Addr} {xs:List V} (e:H a=some (.tup xs)):TyOf K H (.ref a) (.type "tuple")
 | dK {a:Addr} {kvs:List (Key×V)} (e:H a=some (.dK kvs)):TyOf K H (.ref a) (.type "dict")
 | dT {a:Addr} {kvs:List (List Key×V)} (e:H a=some (.dT kvs)):TyOf K H (.ref a) (.type "dict")
 | ins {a C dx:Addr} {fs:List (Str×V)} (e:H a=some (.ins C dx fs)) (cl:Cls K C) (ha:PySem.W.findIn K (.ref C) "__class__" =some (some (.builtin "object.__class__")))
   (hn:PySem.W.specialIn K (.builtin "object.__class__") "__get__" =some (some (.builtin "getset_descriptor.__get__"))) (htk:PySem.W.takesIn K (.builtin "object.__class__")=some true)
   (hm:PySem.W.mroIn K C (.type "object")=some true):TyOf K H (.ref a) (.ref C)
theorem qS {x:V} {u t:Value} (I:Inv X pins σ H s) (rx:RelV x u) (ty:TyOf X.K H x t) (e:PySem.W.kitOne X.K t c=some b) (h:∀tk,Q (.bool b) { s with toks:=tk }):
  wpAny (model X.prog X.w) A (call (.builtin "isinstance") [u,c]) Q E s:=by
 cases ty with
 | non=>cases (show u=Value.none from rx);exact PySem.W.kia_one PySem.W.kitx_none I.kIn True.intro e (fun z=>nomatch z) h
 | bl y=>cases (show u=Value.bool y from rx);exact PySem.W.kia_one PySem.W.kitx_bool I.kIn True.intro e (fun z=>nomatch z) h
 | int i=>obtain ⟨t,q⟩:=(show ∃t,u=Value.int i t from rx);cases q;exact PySem.W.kia_one PySem.W.kitx_int I.kIn True.intro e (fun z=>nomatch z) h
 | str y=>obtain ⟨t,q⟩:=(show ∃t,u=Value.str y t from rx);cases q;exact PySem.W.kia_one PySem.W.kitx_str I.kIn True.intro e (fun z=>nomatch z) h
 | flt y=>obtain ⟨t,q⟩:=(show ∃t,u=Value.float y t from rx);cases q;exact PySem.W.kia_one PySem.W.kitx_float I.kIn True.intro e (fun z=>nomatch z) h
 | @lst a xs ea=>
  cases (show u=Value.ref a from rx)
  obtain ⟨_,_,n,_,h1⟩:=(show ObjOk X.prog X.w H s.heap a (.lst xs) from I.hok a _ ea)
  exact PySem.W.kia_one PySem.W.kitx_list I.kIn ⟨_,h1,rfl⟩ e (fun z=>nomatch z) h
 | @frz a ob xs ea=>
  cases (show u=Value.ref a from rx)
  obtain ⟨_,_,_,n,_,h1⟩:=(show ObjOk X.prog X.w H s.heap a (.frz ob (.lst xs)) from I.hok a _ ea)
  exact PySem.W.kia_one PySem.W.kitx_list I.kIn ⟨_,h1,rfl⟩ e (fun z=>nomatch z) h
 | @tup a xs ea=>
  cases (show u=Value.ref a from rx)
  obtain ⟨_,_,_,p⟩:=(show ObjOk X.prog X.w H s.heap a (.tup xs) from I.hok a _ ea)
  obtain ⟨o,h1,h2,_⟩:=p
  exact PySem.W.kia_one PySem.W.kitx_tuple I.kIn ⟨o,h1,h2⟩ e (fun z=>nomatch z) h
 | @dK a kvs ea=>
  cases (show u=Value.ref a from rx)
  obtain ⟨_,_,vs,_,p⟩:=(show ObjOk X.prog X.w H s.heap a (.dK kvs) from I.hok a _ ea)
  obtain ⟨o,es,ep,h1,h2,_⟩:=p
  exact PySem.W.kia_one PySem.W.kitx_dict I.kIn ⟨o,h1,h2.1⟩ e (fun z=>nomatch z) h
 | @dT a kvs ea=>
  cases (show u=Value.ref a from rx)
  obtain ⟨_,_,xs,_,o,es,ep,h1,h2,_⟩:=(show ObjOk X.prog X.w H s.heap a (.dT kvs) from I.hok a _ ea)
  exact PySem.W.kia_one PySem.W.kitx_dict I.kIn ⟨o,h1,h2.1⟩ e (fun z=>nomatch z) h
 | @ins a C dx fs ea cl ha hn htk hm=>
  cases (show u=Value.ref a from rx)
  obtain ⟨mA,O,_⟩:=uF I.hok ea
  obtain ⟨od,J,_⟩:=O.look
  exact PySem.W.kia_one (PySem.W.kitx_own (cl.get _) cl.hd ha hn htk hm) I.kIn J e (fun z=>nomatch z) h
end
structure Room (k:Nat) (A:Around):Prop where
 hd:A.handled=none
 dp:A.depth+3*k+5<recursionLimit
 un:A.units+16*k+200<cLine
theorem Room.mono {j k:Nat} {A:Around} (r:Room k A) (h:j<=k):Room j A:=⟨r.hd,by have:=r.dp;omega,by have:=r.un;omega⟩
theorem Room.deeper {k:Nat} {A:Around} (r:Room (k+1) A) (env:Env):Room k (A.deeper env):=
 ⟨r.hd,by have:=r.dp;show A.depth+1+3*k+5<_;omega,by have:=r.un;show A.units+3+16*k+200<_;omega⟩
theorem V3 {A:Around} {C:Addr} {us:List Value} {kw:List (Str×Value)}:(A.under (.builtin "type.__call__" ⟨.ref C::us,kw⟩)).depth=A.depth+1:=by
 first | rfl | simp [Around.under,Code.weight,Code.isCreation,Code.isGuard,Code.isCaller,Code.frames,Code.isFrame,guardIds]
theorem V2 {A:Around} {C:Addr} {us:List Value} {kw:List (Str×Value)}:(A.under (.builtin "type.__call__" ⟨.ref C::us,kw⟩)).units=A.units+1:=by
 first | rfl | simp [Around.under,Code.cUnits,Code.frames,Code.isFrame]
theorem Room.make {k:Nat} {A:Around} (r:Room (k+1) A) (C:Addr) (us:List Value) (kw:List (Str×Value)):Room k (A.under (.builtin "type.__call__" ⟨.ref C::us,kw⟩)):=
 ⟨r.hd,by have:=r.dp;rw [V3];omega,by have:=r.un;rw [V2];omega⟩
theorem Room.depth {k:Nat} {A:Around} (r:Room k A):A.depth<recursionLimit:=by have:=r.dp;omega
theorem Room.units {k:Nat} {A:Around} (r:Room k A):A.units+64<cLine:=by have:=r.un;omega
def tNil:TA:=fun _ H Q=>Q [] H
def tCons (ta:TE) (tr:TA):TA:=fun σ H Q=>ta σ H fun x H1=>tr σ H1 fun xs H2=>Q (x::xs) H2
section
variable {X:Cx} {e:Expr} {es:List Expr} {te:TE} {t:TA} {pos:Pos}
theorem yu:PA X [] tNil:=fun _ _ _ _ H Q I h=>Calls.spliced_nil ⟨[],H,I,.nil,h⟩
theorem xJ (ha:PE X e te) (hr:PA X es t) (hs:starEach (e::es) X.env=(false,eval e X.env)::starEach es X.env:=by rfl):PA X (e::es) (tCons te t):=by
 intro pos pins s σ H Q I h
 rw [hs]
 show wpAny _ _ (spliced ((false,eval e X.env)::backTo pos (starEach es X.env))) _ _ s
 refine Calls.spliced_cons (thn (ha pins s σ H _ I h) fun u s1 ⟨x,H1,I1,r1,q1⟩=>?_)
 exact thn (hr pos pins s1 σ H1 _ I1 q1) fun us s2 ⟨xs,H2,I2,r2,q2⟩=>⟨x::xs,H2,I2,.cons r1 r2,q2⟩
def tTup (t:TA):TE:=fun σ H Q=>t σ H fun xs H1=>xs.length<=sizeLine/\∀p,H1 p=none->Q (.ref p) (upd H1 p (.tup xs))
def tLst (t:TA):TE:=fun σ H Q=>t σ H fun xs H1=>xs.length<=sizeLine/\∀p,H1 p=none->Q (.ref p) (upd H1 p (.lst xs))
theorem kD {x1} (h:PA X es t):PE X (.Tuple es x1 pos) (tTup t):=by
 intro pins s σ H Q I hq
 refine wpAny_Tuple_spliced (thn (h pos pins s σ H _ I hq) fun us s1 ⟨xs,H1,I1,r,z,q⟩=>⟨by rw [<-r.length];exact z,?_⟩)
 have hf:H1 s1.heap.objs.size=none:=I1.hok.fresh (Nat.le_refl _)
 refine ⟨.ref s1.heap.objs.size,upd H1 s1.heap.objs.size (.tup xs),I1.laid (t':=s1.toks) (fun b u e=>Heap.get?_push_of_some _ e) (Nat.le_refl _) ?_,rfl,q _ hf⟩
 exact ⟨z,us,r,⟨_,Heap.get?_push_size _ rfl,rfl,_,rfl⟩⟩
theorem Zl (h:PA X es t):PE X (.List es pos) (tLst t):=by
 intro pins s σ H Q I hq
 refine wpAny_List_spliced (thn (h pos pins s σ H _ I hq) fun us s1 ⟨xs,H1,I1,r,z,q⟩=>⟨by rw [<-r.length];exact z,?_⟩)
 have hf:H1 s1.heap.objs.size=none:=I1.hok.fresh (Nat.le_refl _)
 refine ⟨.ref s1.heap.objs.size,upd H1 s1.heap.objs.size (.lst xs),I1.laid (t':=s1.toks) (fun b u e=>Heap.get?_push_of_some _ e) (Nat.le_refl _) ?_,rfl,q _ hf⟩
 exact ⟨z,us,0,r,Heap.get?_push_size _ rfl⟩
end
abbrev Sp:=List V->Hp->VK->XK->Prop
abbrev CXT:=List Env->Hp->Shared->XK->Value->Shared->Prop
structure Env0 (P:Program) (w:World) (K:PySem.W.Frag) (mg:Str->Option Value) (base:Heap) (A:Around) (outer:List Env) (s:Shared) (H:Hp):Prop where
 frames:A.frames=some outer
 mod:Mod K mg base
 bs:∀b o,base.get? b=some o->s.heap.get? b=some o/\H b=none
 bsz:base.objs.size<=s.heap.objs.size
 funs:s.heap.FunFrames base outer
 frf:∀b∈frs outer,H b=none
 hok:HOk P w H s.heap
 bare:AllBare s.gens
def CE (outer:List Env) (P:Program) (w:World) (H:Hp) (s:Shared) (Q:VK) (u:Value) (s':Shared):Prop:=
 ∃v H',s'.os=s.os/\AllBare s'.gens/\Un (frs outer) [] H H' s.heap s'.heap/\HOk P w H' s'.heap/\RelV v u/\Q v H'
def CR (CX:CXT) (outer:List Env) (P:Program) (w:World) (H:Hp) (s:Shared) (Q:VK) (E:XK) (r:Result) (s':Shared):Prop:=
 match r with
 | .ok (.ret u)=>CE outer P w H s Q u s'
 | .ok _=>False
 | .error e=>CX outer H s E e s'
structure FnOk (P:Program) (w:World) (K:PySem.W.Frag) (mg:Str->Option Value) (base:Heap) (CX:CXT) (k:Nat) (f:Addr) (fd:FuncData) (ps:List Str) (sp:Sp):Prop where
 len:∀vs H Q E,sp vs H Q E->vs.length=ps.length
 run:∀(A:Around) (outer:List Env) (s:Shared) (H:Hp) (args:Args) (us:List Value) (vs:List V) (Q:VK) (E:XK),Room k A->Env0 P w K mg base A outer s H->BindsTo s fd args (ps.zip us)->Vals vs us->sp vs H Q E->
  codeAny (model P w) A (.call (.ref f) args) (CR CX outer P w H s Q E) s
theorem Env0.make {P:Program} {w:World} {K:PySem.W.Frag} {mg:Str->Option Value} {base:Heap} {A:Around} {outer:List Env} {s:Shared} {H:Hp} (e:Env0 P w K mg base A outer s H) (C:Addr) (us:List Value) (kw:List (Str×Value)):
  Env0 P w K mg base (A.under (.builtin "type.__call__" ⟨.ref C::us,kw⟩)) outer s H:=⟨by first | exact e.frames | (simpa [Around.under,Code.envs,Code.isFrame,pushEnvs] using e.frames),e.mod,e.bs,e.bsz,e.funs,e.frf,e.hok,e.bare⟩
section
variable {X:Cx} {pins:List (Addr×Obj)} {σ:St} {H:Hp} {s s':Shared}
theorem Inv.env0 (I:Inv X pins σ H s):Env0 X.prog X.w X.K X.mg X.base X.A X.stack s H:=
 ⟨I.ok.frames,I.ok.mod,I.bs,Nat.le_trans I.ok.bsz I.sz,I.stack,I.stkFree,I.hok,I.bare⟩
theorem Inv.after {Q:VK} {u:Value} (I:Inv X pins σ H s) (h:CE X.stack X.prog X.w H s Q u s'):EP X pins σ Q u s':=by
 obtain ⟨v,H',os,bare,un,hok,r,q⟩:=h
 obtain ⟨hh,g,d,t,os'⟩:=s'
 obtain rfl:os'=s.os:=os
 exact ⟨v,H',I.call (h':=hh) (g':=g) (d':=d) (t':=t) (ch:=[]) un hok bare (fun b z=>absurd z (by simp)),r,q⟩
end
def tCall (sp:Sp) (dvs:List V) (E:XK) (t:TA):TE:=fun σ H Q=>t σ H fun vs H1=>sp (vs++dvs) H1 Q E
def tMeth (C:Addr) (m:Str) (sp:Sp) (dvs:List V) (E:XK) (ta:TE) (t:TA):TE:=fun σ H Q=>ta σ H fun x H1=>∃a dx fs,x= .ref a/\H1 a=some (.ins C dx fs)/\fs.lookup m=none/\
 t σ H1 fun vs H2=>sp (x::(vs++dvs)) H2 Q E
def tMake (C:Addr) (sp:Sp) (dvs:List V) (E:XK) (t:TA):TE:=fun σ H Q=>t σ H fun vs H1=>∀x dx,H1 x=none->H1 dx=none->dx≠x->
 sp (.ref x::(vs++dvs)) (upd (upd H1 dx (.own x)) x (.ins C dx [])) (fun v H2=>v= .non/\Q (.ref x) H2) E
def Binds (K:PySem.W.Frag) (fd:FuncData) (ps:List Str) (ds:List Value):Prop:=
 ∀(s:Shared) (us:List Value),K.In s.heap->(us++ds).length=ps.length->BindsTo s fd ⟨us,[]⟩ (ps.zip (us++ds))
theorem Binds.all {K:PySem.W.Frag} {fd:FuncData} {ps:List Str} (h:∀us:List Value,us.length=ps.length->bindArgs fd ⟨us,[]⟩=pure (ps.zip us)):Binds K fd ps []:=fun s us _ hl=>by
 rw [List.append_nil] at hl ⊢
 exact .of_eq (h us hl)
def Passes (CX:CXT) (X:Cx) (E:XK):Prop:=∀(pins:List (Addr×Obj)) (σ:St) (H:Hp) (s:Shared) (e:Value) (s':Shared),Inv X pins σ H s->CX X.stack H s E e s'->X.xe e s'
section
variable {X:Cx} {CX:CXT} {k:Nat} {f C:Addr} {fd:FuncData} {ps:List Str} {sp:Sp} {dvs:List V} {ds:List Value} {E:XK} {x m:Str} {p pos apos:Pos} {e o:Expr} {es:List Expr} {ta:TE} {t:TA}
theorem Xl {pins:List (Addr×Obj)} {σ:St} {H:Hp} {s:Shared} {Q:VK} {us:List Value} {vs:List V} (F:FnOk X.prog X.w X.K X.mg X.base CX k f fd ps sp) (hr:Room k X.A) (hb:Binds X.K fd ps ds) (hd:Vals dvs ds) (hx:Passes CX X E)
  (I:Inv X pins σ H s) (r:Vals vs us) (h:sp (vs++dvs) H Q E):wpAny (model X.prog X.w) X.A (call (.ref f) us) (EP X pins σ Q) X.xe s:=by
 have r2:Vals (vs++dvs) (us++ds):=r.append hd
 have hl:(us++ds).length=ps.length:=by rw [<-r2.length];exact F.len _ _ _ _ h
 refine wpAny_call (codeAny_mono (F.run X.A X.stack s H ⟨us,[]⟩ (us++ds) (vs++dvs) Q E hr I.env0 (hb s us I.kIn hl) r2 h) fun r s' hq=>?_)
 cases r with
 | error e=>exact hx pins σ H s e s' I hq
 | ok fl=>
  cases fl with
  | ret u=>exact I.after hq
  | next=>exact False.elim hq
  | brk=>exact False.elim hq
  | cont=>exact False.elim hq
theorem qO (F:FnOk X.prog X.w X.K X.mg X.base CX k f fd ps sp) (hr:Room k X.A) (hg:Gl X x) (hm:X.mg x=some (.ref f)) (hk:PySem.W.keepIn X.K (.ref f)=true) (hb:Binds X.K fd ps ds) (hd:Vals dvs ds) (hx:Passes CX X E)
  (ha:PA X (e::es) t) (hdb:(x==("__debug__" :Str))=false:=by decide) (he:starEach (e::es) X.env=(false,eval e X.env)::starEach es X.env:=by rfl) (hpl:(backTo pos (starEach es X.env)).any (·.1)=false:=by rfl):
  PE X (.Call (.Name x p) (e::es) [] pos) (tCall sp dvs E t):=by
 intro pins s σ H Q I h
 refine wpAny_Call_Name_kw (yG I hg hm ?_ hdb)
 refine PySem.W.callWith_K (h₀:=X.base) I.ok.mod.kin hk (thn (ha pos pins s σ H _ I h) fun us s1 ⟨vs,H1,I1,r,q⟩=>⟨I1.kIn,?_⟩) he hpl
 exact Xl F hr hb hd hx I1 r q
theorem qN {pl:Sem Bool} (he:PE X o ta) (c:Cls X.K C) (hm:Meth X.K C m f) (F:FnOk X.prog X.w X.K X.mg X.base CX k f fd ps sp) (hr:Room k X.A) (hb:Binds X.K fd ps ds) (hd:Vals dvs ds) (hx:Passes CX X E) (ha:PA X (e::es) t)
  (hst:starEach (e::es) X.env=(false,eval e X.env)::starEach es X.env:=by rfl) (hpl:(backTo pos (starEach es X.env)).any (·.1)=false:=by rfl)
  (ht:eval (.Call (.Attribute o m apos) (e::es) [] pos) X.env=(do
   let ov <-eval o X.env
   standAt apos.atName
   let (f,first) <-holding [ov] (getMethod ov m pl)
   callWith pos f first (backTo pos (starEach (e::es) X.env)) (backToKw pos (keywordEach [] X.env))):=by rfl):
  PE X (.Call (.Attribute o m apos) (e::es) [] pos) (tMeth C m sp dvs E ta t):=by
 intro pins s σ H Q I h
 refine PySem.W.methodCall_KW (pl:=pl) (thn (he pins s σ H _ I h) fun u s1 ⟨x,H1,I1,rx,a,dx,fs,ex,ea,l,q⟩=>?_) ht
 subst ex
 obtain rfl:u=Value.ref a:=rx
 refine vy I1 ea c hm l ?_
 refine PySem.W.callWith_K (first:=[.ref a]) (h₀:=X.base) I.ok.mod.kin hm.kp (thn (ha pos pins s1 σ H1 _ I1 q) fun us s2 ⟨vs,H2,I2,r,q2⟩=>⟨I2.kIn,?_⟩) hst hpl
 exact Xl (us:= .ref a::us) (vs:= .ref a::vs) F hr hb hd hx I2 (.cons rfl r) q2
theorem QA {pl:Sem Bool} (he:PE X o ta) (c:Cls X.K C) (hm:Meth X.K C m f) (F:FnOk X.prog X.w X.K X.mg X.base CX k f fd ps sp) (hr:Room k X.A) (hb:Binds X.K fd ps ds) (hd:Vals dvs ds) (hx:Passes CX X E)
  (ht:eval (.Call (.Attribute o m apos) [] [] pos) X.env=(do
   let ov <-eval o X.env
   standAt apos.atName
   let (f,first) <-holding [ov] (getMethod ov m pl)
   callWith pos f first (backTo pos (starEach [] X.env)) (backToKw pos (keywordEach [] X.env))):=by rfl):
  PE X (.Call (.Attribute o m apos) [] [] pos) (tMeth C m sp dvs E ta tNil):=by
 intro pins s σ H Q I h
 refine PySem.W.methodCall_KW (pl:=pl) (thn (he pins s σ H _ I h) fun u s1 ⟨x,H1,I1,rx,a,dx,fs,ex,ea,l,q⟩=>?_) ht
 subst ex
 obtain rfl:u=Value.ref a:=rx
 refine vy I1 ea c hm l ?_
 exact PySem.W.callWith_K0 (first:=[.ref a]) I1.kIn hm.kp (Xl (us:=[.ref a]) (vs:=[.ref a]) F hr hb hd hx I1 (.cons rfl .nil) q)
structure Mk (K:PySem.W.Frag) (C f:Addr):Prop where
 makes:PySem.W.makesIn K C=true
 init:PySem.W.findIn K (.ref C) "__init__" =some (some (.ref f))
 fn:PySem.W.isFn K (.ref f)=true
 kp:PySem.W.keepIn K (.ref C)=true
theorem ki {pins:List (Addr×Obj)} {σ:St} {H:Hp} {s:Shared} {Q:VK} {us:List Value} {vs:List V} (M:Mk X.K C f) (F:FnOk X.prog X.w X.K X.mg X.base CX k f fd ps sp) (hr:Room (k+1) X.A) (hb:Binds X.K fd ps ds) (hd:Vals dvs ds)
  (hx:Passes CX X E) (I:Inv X pins σ H s) (r:Vals vs us)
  (h:∀x dx,H x=none->H dx=none->dx≠x->sp (.ref x::(vs++dvs)) (upd (upd H dx (.own x)) x (.ins C dx [])) (fun v H2=>v= .non/\Q (.ref x) H2) E):
  wpAny (model X.prog X.w) X.A (call (.ref C) us) (EP X pins σ Q) X.xe s:=by
 have hq:=h (s.heap.objs.size+1) s.heap.objs.size (I.hok.fresh (Nat.le_succ _)) (I.hok.fresh (Nat.le_refl _)) (Nat.ne_of_lt (Nat.lt_succ_self _))
 have I2:=Inv.made (C:=C) I
 have r2:Vals (V.ref (s.heap.objs.size+1)::(vs++dvs)) (Value.ref (s.heap.objs.size+1)::(us++ds)):= .cons rfl (r.append hd)
 have hl:(Value.ref (s.heap.objs.size+1)::us++ds).length=ps.length:=by
  have e:=r2.length
  rw [F.len _ _ _ _ hq] at e
  exact e.symm
 refine wpAny_call (QJ (f:=f) I.kIn M.makes M.init (beq_iff_eq.mp M.fn) (codeAny_mono (F.run _ X.stack _ _ ⟨Value.ref (s.heap.objs.size+1)::us,[]⟩ (Value.ref (s.heap.objs.size+1)::(us++ds)) _ _ E (hr.make C us [])
  (I2.env0.make C us []) (hb _ (Value.ref (s.heap.objs.size+1)::us) I2.kIn hl) r2 hq) fun r s' hq'=>?_))
 cases r with
 | error e=>exact hx pins σ _ _ e s' I2 hq'
 | ok fl=>
  cases fl with
  | ret u=>
   obtain ⟨v,H',I3,rv,ev,q3⟩:=I2.after hq'
   subst ev
   exact ⟨rv,⟨V.ref (s.heap.objs.size+1),H',I3,rfl,q3⟩⟩
  | next=>exact False.elim hq'
  | brk=>exact False.elim hq'
  | cont=>exact False.elim hq'
theorem Zk (M:Mk X.K C f) (F:FnOk X.prog X.w X.K X.mg X.base CX k f fd ps sp) (hr:Room (k+1) X.A) (hg:Gl X x) (hm:X.mg x=some (.ref C)) (hb:Binds X.K fd ps ds) (hd:Vals dvs ds) (hx:Passes CX X E)
  (ha:PA X (e::es) t) (hdb:(x==("__debug__" :Str))=false:=by decide) (he:starEach (e::es) X.env=(false,eval e X.env)::starEach es X.env:=by rfl) (hpl:(backTo pos (starEach es X.env)).any (·.1)=false:=by rfl):
  PE X (.Call (.Name x p) (e::es) [] pos) (tMake C sp dvs E t):=by
 intro pins s σ H Q I h
 refine wpAny_Call_Name_kw (yG I hg hm ?_ hdb)
 refine PySem.W.callWith_K (h₀:=X.base) I.ok.mod.kin M.kp (thn (ha pos pins s σ H _ I h) fun us s1 ⟨vs,H1,I1,r,q⟩=>⟨I1.kIn,?_⟩) he hpl
 exact ki M F hr hb hd hx I1 r q
end
section
variable {X:Cx} {CX:CXT} {k:Nat} {f C:Addr} {fd:FuncData} {ps ks:List Str} {sp:Sp} {E:XK} {x m:Str} {p pos apos kpos:Pos} {e o:Expr} {es:List Expr} {kws:List Keyword} {te ta:TE} {t tk:TA} {nm:Option Str}
structure KBinds (K:PySem.W.Frag) (fd:FuncData) (ps ks:List Str) (g:List Value->List Value->List Value) (gV:List V->List V->List V):Prop where
 to:∀(s:Shared) (us ws:List Value),K.In s.heap->(g us ws).length=ps.length->BindsTo s fd ⟨us,ks.zip ws⟩ (ps.zip (g us ws))
 rel:∀{vs:List V} {us:List Value} {zs:List V} {ws:List Value},Vals vs us->Vals zs ws->Vals (gV vs zs) (g us ws)
variable {g:List Value->List Value->List Value} {gV:List V->List V->List V}
end
structure FnScope (N P:List Str) (sc:Scope):Prop where
 kind:sc.kind= .function
 co:sc.isCoroutine=false
 gen:sc.isGenerator=false
 nd:N.Nodup
 pre:N.take P.length=P
 par:∀x∈P,sc.names.lookup x=some .local∨sc.names.lookup x=some .cell
 nofree:∀y∈sc.names,y.2≠ .free
theorem YJ {kindOf:Str->Option NameKind} {x:Str}:∀{binds:List (Str×Value)} {m:Str->Option Value},(∀v,(x,v)∉binds)->bindL kindOf binds m x=m x
 | [],_,_=>rfl
 | (n,v)::r,m,h=>by
  unfold bindL
  rw [YJ fun w hw=>h w (List.mem_cons_of_mem _ hw)]
  split
  ·have:x≠n:=by rintro rfl;exact h v List.mem_cons_self
   simp [this]
  ·rfl
theorem YK {kindOf:Str->Option NameKind} {x:Str}:∀{binds:List (Str×Value)} {m:Str->Option Value},(∀v,(x,v)∉binds)->bindC kindOf binds m x=m x
 | [],_,_=>rfl
 | (n,v)::r,m,h=>by
  unfold bindC
  rw [YK fun w hw=>h w (List.mem_cons_of_mem _ hw)]
  split
  ·rfl
  ·have:x≠n:=by rintro rfl;exact h v List.mem_cons_self
   simp [this]
theorem wU {kindOf:Str->Option NameKind} {x:Str} {v:Value}:∀{P:List Str} {vs:List Value} {i:Nat} {m:Str->Option Value},P.Nodup->P[i]? =some x->vs[i]? =some v->kindOf x=some .local->
  bindL kindOf (P.zip vs) m x=some v
 | [],_,_,_,_,h,_,_=>by simp at h
 | _::_,[],_,_,_,_,h,_=>by simp at h
 | p::P,w::vs,0,m,nd,h1,h2,hk=>by
  simp at h1 h2;subst h1;subst h2
  show bindL kindOf ((p,w)::P.zip vs) m p=_
  unfold bindL
  rw [YJ fun v hv=>(List.nodup_cons.mp nd).1 (List.of_mem_zip hv).1,if_pos hk]
  simp
 | p::P,w::vs,i+1,m,nd,h1,h2,hk=>by
  show bindL kindOf ((p,w)::P.zip vs) m x=_
  unfold bindL
  exact wU (i:=i) (List.nodup_cons.mp nd).2 (by simpa using h1) (by simpa using h2) hk
theorem wV {kindOf:Str->Option NameKind} {x:Str} {v:Value}:∀{P:List Str} {vs:List Value} {i:Nat} {m:Str->Option Value},P.Nodup->P[i]? =some x->vs[i]? =some v->kindOf x≠some .local->
  bindC kindOf (P.zip vs) m x=some v
 | [],_,_,_,_,h,_,_=>by simp at h
 | _::_,[],_,_,_,_,h,_=>by simp at h
 | p::P,w::vs,0,m,nd,h1,h2,hk=>by
  simp at h1 h2;subst h1;subst h2
  show bindC kindOf ((p,w)::P.zip vs) m p=_
  unfold bindC
  rw [YK fun v hv=>(List.nodup_cons.mp nd).1 (List.of_mem_zip hv).1,if_neg hk]
  simp
 | p::P,w::vs,i+1,m,nd,h1,h2,hk=>by
  show bindC kindOf ((p,w)::P.zip vs) m x=_
  unfold bindC
  exact wV (i:=i) (List.nodup_cons.mp nd).2 (by simpa using h1) (by simpa using h2) hk
def start (N:List Str) (vs:List V):St:=vs.map some++List.replicate (N.length - vs.length) none
def cxOf (CX:CXT) (P:Program) (w:World) (K:PySem.W.Frag) (mg:Str->Option Value) (base:Heap) (N:List Str) (qual:Str) (scope:Scope) (f:Addr) (cd:Value) (A:Around) (outer:List Env) (s:Shared) (H:Hp) (E:XK):Cx where
 prog:=P
 w:=w
 K:=K
 mg:=mg
 base:=base
 A:=A.deeper (envOfC qual scope s.heap.objs.size f cd)
 N:=N
 s₀:=s
 H₀:=H
 env:=envOfC qual scope s.heap.objs.size f cd
 outer:=outer
 stack:=envOfC qual scope s.heap.objs.size f cd::outer
 ex:=[]
 calm:=true
 fn:=fun _=>true
 pn:=[]
 xe:=fun e s'=>wpAny (model P w) (A.deeper (envOfC qual scope s.heap.objs.size f cd)) (leaving (envOfC qual scope s.heap.objs.size f cd) e) (fun _ s''=>CX outer H s E e s'') (fun e' s''=>CX outer H s E e' s'') s'
theorem wj {sc:Scope} {n:Nat} {x:Str} (h:sc.names.lookup x=some .cell):∃c,(cellsFrom n sc.names []).lookup x=some c:=by
 have q:=PySem.W.cellsFrom_some sc.names n [] (.inl h)
 exact Option.isSome_iff_exists.mp q
theorem U7 {CX:CXT} {P:Program} {w:World} {K:PySem.W.Frag} {mg:Str->Option Value} {base:Heap} {N ps:List Str} {qual:Str} {scope:Scope} {f:Addr} {cd:Value} {A:Around} {outer:List Env} {s s1:Shared} {H:Hp} {E:XK} {us:List Value} {vs:List V}
  (S:FnScope N ps scope) (hd:A.handled=none) (e0:Env0 P w K mg base A outer s H) (hl:vs.length=ps.length) (r:Vals vs us)
  (x:InCallC s s.heap.objs.size (bindL (envOfC qual scope s.heap.objs.size f cd).kindOf (ps.zip us) fun _=>none) (cellsFrom (s.heap.objs.size+1) scope.names []) (bindC (envOfC qual scope s.heap.objs.size f cd).kindOf (ps.zip us) fun _=>none) s1):
  Inv (cxOf CX P w K mg base N qual scope f cd A outer s H E) [] (start N vs) H s1:=by
 have hpl:ps.length<=N.length:=by have:=congrArg List.length S.pre;rw [List.length_take] at this;omega
 obtain ⟨h1,tk,rfl,hk⟩:=x.done
 have noA:∀b:Addr,b∉(cxOf CX P w K mg base N qual scope f cd A outer s H E).ex:=fun b z=>absurd (show b∈([]:List Addr) from z) (by simp)
 refine ⟨⟨e0.mod,S.kind,rfl,rfl,Nat.le_refl _,fun y z c h1 h2=>?_,fun y hy=>?_,fun y c _ h=>?_,fun _=>hd,Around.frames_deeper e0.frames,.inr ⟨rfl,rfl⟩,fun b z=>absurd z (noA b),e0.bs,e0.bsz,fun b _ _=>noA b,fun b z=>absurd z (noA b),e0.funs,e0.frf⟩,
  rfl,e0.bare,Un.kept hk,⟨_,x.toInCall.ns,fun i y v h1 h2 h3=>?_⟩,fun y c h=>⟨_,x.cell y c h⟩,e0.hok.fresh (Nat.le_refl _),fun y c h=>?_,fun p hp=>absurd (show p∈([]:List (Addr×Obj)) from hp) (by simp),e0.hok.kept hk,?_⟩
 ·exact name_of_addr x.apart (PySem.mem_of_lookup h1) (PySem.mem_of_lookup h2)
 ·have hy:scope.names.lookup y=some .cell∨scope.names.lookup y=some .free:=hy
  rcases hy with hy | hy
  ·exact wj hy
  ·exact absurd rfl (S.nofree _ (PySem.mem_of_lookup hy))
 ·exact Nat.le_of_lt (x.above y c (PySem.mem_of_lookup h))
 ·have hi:i<vs.length:=by
   unfold start at h2
   by_cases hi:i<vs.length
   ·exact hi
   ·rw [List.getElem?_append_right (by simpa using hi)] at h2
    rw [List.getElem?_replicate] at h2
    split at h2<;>cases h2
  have ha:vs[i]? =some v:=by
   unfold start at h2
   rw [List.getElem?_append_left (by simpa using hi),List.getElem?_map] at h2
   cases e:vs[i]? with
   | none=>rw [e] at h2;cases h2
   | some a=>rw [e] at h2;cases h2;rfl
  obtain ⟨u,hu,rv⟩:=r.get ha
  have hp:ps[i]? =some y:=by
   rw [<-S.pre,List.getElem?_take_of_lt (by omega)];exact h1
  have ndP:ps.Nodup:=by rw [<-S.pre];exact S.nd.sublist (List.take_sublist _ _)
  refine ⟨u,rv,?_⟩
  rcases S.par y (List.mem_of_getElem? hp) with k | k
  ·exact .inl ⟨k,wU ndP hp hu k⟩
  ·obtain ⟨c,e⟩:=wj (n:=s.heap.objs.size+1) k
   refine .inr ⟨.inl k,c,e,?_⟩
   have q:=x.cell y c e
   rw [wV ndP hp hu (by show scope.names.lookup y≠_;rw [k];decide)] at q
   exact q
 ·exact e0.hok.fresh (Nat.le_of_lt (x.above y c (PySem.mem_of_lookup h)))
 ·unfold start
  show _=N.length
  rw [List.length_append,List.length_map,List.length_replicate]
  omega
theorem QQ {CX:CXT} {P:Program} {w:World} {K:PySem.W.Frag} {mg:Str->Option Value} {base:Heap} {k:Nat} {f:Addr} {name qual:Str} {params:Arguments} {body:List Stmt} {scope:Scope} {dV kV doc pm cdv ct oc:Value} {an od:Option Addr}
  {osl:Array (Option Value)} {N ps:List Str} {sp:Sp} (lk:K.lookup f=some ⟨oc,od,.func (PySem.W.fnOf name qual params body scope dV kV doc pm an cdv ct),osl⟩) (hcd:PySem.W.codeIn K cdv qual=true) (S:FnScope N ps scope)
  (len:∀vs H Q E,sp vs H Q E->vs.length=ps.length)
  (hbody:∀(A:Around) (outer:List Env) (s:Shared) (H:Hp) (vs:List V) (Q:VK) (E:XK),Room k (A.deeper (envOfC qual scope s.heap.objs.size f cdv))->sp vs H Q E->
   ∃t,PSs (cxOf CX P w K mg base N qual scope f cdv A outer s H E) body t/\t { nx:=fun _ H'=>Q .non H',rt:=Q } (start N vs) H):
  FnOk P w K mg base CX (k+1) f (PySem.W.fnOf name qual params body scope dV kV doc pm an cdv ct) ps sp:=by
 refine ⟨len,fun A outer s H args us vs Q E hr e0 hb r hsp=>?_⟩
 have hl:=len _ _ _ _ hsp
 have KX:K.In s.heap:=e0.mod.kin.keeps fun b o e=>(e0.bs b o e).1
 have lim:s.heap.NoLimit:=e0.mod.nolimit.keeps fun b o e=>(e0.bs b o e).1
 have hkind:∀y∈ps.zip us,scope.names.lookup y.1=some .local∨(scope.names.lookup y.1=some .cell/\((cellsFrom (s.heap.objs.size+1) scope.names []).lookup y.1).isSome=true):=fun ⟨n,v⟩ hy=>by
  rcases S.par n (List.of_mem_zip hy).1 with q | q
  ·exact .inl q
  ·exact .inr ⟨q,PySem.W.cellsFrom_some _ _ _ (.inl q)⟩
 refine codeAny_call_function hr.depth (KX _ _ lk) rfl S.co S.gen rfl (PySem.W.codeRec_of KX hcd) (hb _ _ _ _ ?_)
 refine wpAny_newFunctionEnv_cells S.kind hkind fun env he s1 x=>?_
 subst he
 refine ⟨lim.keeps x.toInCall.keep,codeAny_func ?_⟩
 obtain ⟨t,ht,hq⟩:=hbody A outer s H vs Q E (hr.deeper _) hsp
 have I:Inv (cxOf CX P w K mg base N qual scope f cdv A outer s H E) [] (start N vs) H s1:=U7 S hr.hd e0 hl r x
 refine wpAny_mono (ht [] s1 (start N vs) H _ I hq) (fun fl s' hs=>?_) fun e s' hs=>hs
 have fin:∀{σ':St} {H':Hp} {v:V} {u:Value},Inv (cxOf CX P w K mg base N qual scope f cdv A outer s H E) [] σ' H' s'->RelV v u->Q v H'->CE outer P w H s Q u s':=
  fun {σ' H' v u} J rv q=>⟨v,H',J.os,J.bare,J.base,J.hok,rv,q⟩
 cases fl with
 | ret u=>
  obtain ⟨v,σ',H',J,rv,q⟩:=hs
  exact fin J rv q
 | next=>
  obtain ⟨σ',H',J,q⟩:=hs
  exact fin (v:=V.non) (u:=Value.none) J rfl q
 | brk=>
  obtain ⟨_,_,_,q⟩:=hs
  exact False.elim q
 | cont=>
  obtain ⟨_,_,_,q⟩:=hs
  exact False.elim q
section
variable {X:Cx} {x:Str} {p pos:Pos} {e:Expr} {es:List Expr} {t:TA} {id T:String} {r:List V->Hp->VK->Prop}
def tCB (r:List V->Hp->VK->Prop) (t:TA):TE:=fun σ H Q=>t σ H fun vs H1=>r vs H1 Q
theorem zN (hc:CallR X (.builtin id) r) (hg:Gl X x) (hm:X.mg x=none) (hv:bootBuiltins x=some (.builtin id)) (ha:PA X (e::es) t) (hn:x≠ "__name__" :=by decide) (hdb:(x==("__debug__" :Str))=false:=by decide)
  (he:starEach (e::es) X.env=(false,eval e X.env)::starEach es X.env:=by rfl) (hpl:(backTo pos (starEach es X.env)).any (·.1)=false:=by rfl):PE X (.Call (.Name x p) (e::es) [] pos) (tCB r t):=by
 intro pins s σ H Q I h
 refine wpAny_Call_Name_kw (wG I hg hm hv ?_ hn hdb)
 exact PyProof.Rows.callWith_builtin1 (thn (ha pos pins s σ H _ I h) fun us s1 ⟨vs,H1,I1,r1,q1⟩=>hc pins s1 σ H1 vs us Q I1 r1 q1) he hpl
theorem UO (hc:CallR X (.type T) r) (hg:Gl X x) (hm:X.mg x=none) (hv:bootBuiltins x=some (.type T)) (ha:PA X (e::es) t) (hn:x≠ "__name__" :=by decide) (hdb:(x==("__debug__" :Str))=false:=by decide)
  (he:starEach (e::es) X.env=(false,eval e X.env)::starEach es X.env:=by rfl) (hpl:(backTo pos (starEach es X.env)).any (·.1)=false:=by rfl):PE X (.Call (.Name x p) (e::es) [] pos) (tCB r t):=by
 intro pins s σ H Q I h
 refine wpAny_Call_Name_kw (wG I hg hm hv ?_ hn hdb)
 exact PyProof.Rows.callWith_type1 (thn (ha pos pins s σ H _ I h) fun us s1 ⟨vs,H1,I1,r1,q1⟩=>hc pins s1 σ H1 vs us Q I1 r1 q1) he hpl
end
end L2
namespace HT
open PySem PyProof.Rows
section
open PySem.SeqAt
open PySem.AutoSeq1 (wpAny_loadPart')
open PySem.MeetsSeq PySem.MeetsSeq2 PySem.MeetsSeq3
end
section
variable {prog:Program} {w:World} {A:Around} {E:Value->Shared->Prop} {s:Shared}
def sIx (n d:Nat):Option Int->Nat
 | none=>d
 | some v=>if v<0 then (v+(n:Int)).toNat else min v.toNat n
theorem sIx_none (n d:Nat):sIx n d none=d:=rfl
theorem sIx_nat (n d k:Nat):sIx n d (some (k:Int))=min k n:=by
 show (if (k:Int)<0 then ((k:Int)+(n:Int)).toNat else min (k:Int).toNat n)=min k n
 rw [if_neg (by omega),Int.toNat_natCast]
theorem sIx_le (n d:Nat) (hd:d<=n) (o:Option Int):sIx n d o<=n:=by
 cases o with
 | none=>exact hd
 | some v=>
  show (if v<0 then (v+(n:Int)).toNat else min v.toNat n)<=n
  by_cases hv:v<0
  ·rw [if_pos hv];omega
  ·rw [if_neg hv];exact Nat.min_le_right _ _
end
end HT
namespace L2
open PySem PySem.Spec PyProof.Rows
abbrev TO:=St->Hp->(Option Int->Hp->Prop)->Prop
def PO (X:Cx) (e:Option Expr) (t:TO):Prop:=
 ∀(pins:List (Addr×Obj)) (s:Shared) (σ:St) (H:Hp) (Q:Option Int->Hp->Prop),Inv X pins σ H s->t σ H Q->
  wpAny (model X.prog X.w) X.A (evalPart e X.env) (fun u s'=>∃o H',Inv X pins σ H' s'/\IsPart u o/\Q o H') X.xe s
def tNoPart:TO:=fun _ H Q=>Q none H
def tPart (t:TE):TO:=fun σ H Q=>t σ H fun x H1=>∃i,x= .int i/\Q (some i) H1
section
variable {X:Cx} {e:Expr} {te:TE} {lo hi:Option Expr} {tl th:TO} {pos p2:Pos}
theorem Ku:PO X none tNoPart:=by
 intro pins s σ H Q I h
 rw [evalPart_none]
 exact wpAny_pure ⟨none,H,I,.none,h⟩
theorem Kt (h:PE X e te):PO X (some e) (tPart te):=by
 intro pins s σ H Q I hw
 rw [evalPart_some]
 refine thn (h pins s σ H _ I hw) fun u s1 ⟨x,H1,I1,r1,q1⟩=>?_
 obtain ⟨i,rfl,q⟩:=q1
 obtain ⟨t,rfl⟩:=r1
 exact ⟨some i,H1,I1,.int i t,q⟩
def SlR (X:Cx) (r:V->Option Int->Option Int->Hp->VK->Prop):Prop:=
 ∀(pins:List (Addr×Obj)) (s:Shared) (σ:St) (H:Hp) (x:V) (v vl vu:Value) (lo hi:Option Int) (sl:Addr) (Q:VK),Inv X pins σ H s->RelV x v->s.heap.IsSliceOf sl vl vu .none->IsPart vl lo->IsPart vu hi->r x lo hi H Q->
  ∃T id,typeLookup (.type T) "__getitem__" =pure (some (.builtin id))/\s.TypeIs v T/\wpAny (model X.prog X.w) X.A (getItem v (.ref sl)) (EP X pins σ Q) X.xe s
def tSl (r:V->Option Int->Option Int->Hp->VK->Prop) (te:TE) (tl th:TO):TE:=fun σ H Q=>te σ H fun x H1=>tl σ H1 fun l H2=>th σ H2 fun u H3=>r x l u H3 Q
theorem kE {r:V->Option Int->Option Int->Hp->VK->Prop} (hr:SlR X r) (he:PE X e te) (hl:PO X lo tl) (hu:PO X hi th):PE X (.Subscript e (.Slice lo hi none p2) pos) (tSl r te tl th):=by
 intro pins s σ H Q I h
 refine Subscript_ (thn (he pins s σ H _ I h) fun v s1 ⟨x,H1,I1,r1,q1⟩=>?_)
 refine wpAny_Slice (thn (hl pins s1 σ H1 _ I1 q1) fun vl s2 ⟨l,H2,I2,pl,q2⟩=>thn (hu pins s2 σ H2 _ I2 q2) fun vu s3 ⟨u,H3,I3,pu,q3⟩=>?_)
 rw [evalPart_none]
 refine wpAny_pure ?_
 have I4:Inv X pins σ H3 { s3 with heap:=s3.heap.push { cls:= .type "slice",data:= .fields #[vl,vu,.none] } }:=I3.kept (t':=s3.toks) fun b ob q=>Heap.get?_push_of_some _ q
 obtain ⟨T,id,hT,ht,hg⟩:=hr pins { s3 with heap:=s3.heap.push { cls:= .type "slice",data:= .fields #[vl,vu,.none] } } σ H3 x v vl vu l u s3.heap.objs.size Q I4 r1 (Heap.IsSliceOf.new ..) pl pu q3
 show wpAny (model X.prog X.w) X.A (subscriptTail e (.Slice lo hi none p2) v (.ref s3.heap.objs.size)) (EP X pins σ Q) X.xe { s3 with heap:=s3.heap.push { cls:= .type "slice",data:= .fields #[vl,vu,.none] } }
 exact tail_any (ops:=[.ref s3.heap.objs.size,v]) ht hT hg (by with_unfolding_all rfl)
end
def ixN (n:Nat) (i:Int):Option Nat:=if 0<=i then (if i<n then some i.toNat else none) else if -(n:Int)<=i then some (i+n).toNat else none
def atI {α:Type} (xs:List α) (i:Int):Option α:=(ixN xs.length i).bind fun j=>xs[j]?
theorem KN {n:Nat} {i:Int} {j:Nat} (h:ixN n i=some j):seqIndex? i n=some j/\j<n/\ -(n:Int)<=i/\i<n:=by
 unfold ixN at h
 by_cases h0:0<=i
 ·rw [if_pos h0] at h
  by_cases h1:i<n
  ·rw [if_pos h1] at h
   have e:i.toNat=j:=Option.some.inj h
   exact ⟨by rw [seqIndex_of h0 h1,e],by omega,by omega,h1⟩
  ·rw [if_neg h1] at h;cases h
 ·rw [if_neg h0] at h
  by_cases h1: -(n:Int)<=i
  ·rw [if_pos h1] at h
   have e:(i+n).toNat=j:=Option.some.inj h
   exact ⟨by rw [seqIndex_neg (by omega) h1,e],by omega,h1,by omega⟩
  ·rw [if_neg h1] at h;cases h
theorem ZU {α:Type} {xs:List α} {i:Int} {v:α} (h:atI xs i=some v):∃j,seqIndex? i xs.length=some j/\xs[j]? =some v/\j<xs.length/\ -(xs.length:Int)<=i/\i<xs.length:=by
 unfold atI at h
 cases e:ixN xs.length i with
 | none=>rw [e] at h;cases h
 | some j=>
  rw [e] at h
  obtain ⟨h1,h2,h3,h4⟩:=KN e
  exact ⟨j,h1,h,h2,h3,h4⟩
theorem Ui {α:Type} {xs:List α} {j:Nat} {v:α} (h:xs[j]? =some v):atI xs (j:Int)=some v:=by
 have hj:j<xs.length:=(List.getElem?_eq_some_iff.mp h).1
 have e:ixN xs.length (j:Int)=some j:=by
  unfold ixN
  rw [if_pos (by omega),if_pos (by omega)];simp
 unfold atI;rw [e];exact h
def PlainIx (b:Expr):Prop:=∀o i,subscripted b false o i=operate [o,i] (getItem o i)
def IxR (X:Cx) (r:R2):Prop:=
 ∀(value slice:Expr) (pins:List (Addr×Obj)) (s:Shared) (σ:St) (H:Hp) (x y:V) (v u:Value) (Q:VK),Inv X pins σ H s->RelV x v->RelV y u->r x y H Q->
  subscripted slice false v u=operate [v,u] (getItem v u)->wpAny (model X.prog X.w) X.A (subscriptTail value slice v u) (EP X pins σ Q) X.xe s
def MtR (X:Cx) (id:String) (r:V->List V->Hp->VK->Prop):Prop:=
 ∀(pins:List (Addr×Obj)) (s:Shared) (σ:St) (H:Hp) (x:V) (xs:List V) (v:Value) (us:List Value) (Q:VK),Inv X pins σ H s->RelV x v->Vals xs us->r x xs H Q->
  wpAny (model X.prog X.w) X.A (call (.builtin id) (v::us)) (EP X pins σ Q) X.xe s
section
variable {X:Cx} {a b:Expr} {ta tb:TE} {pos:Pos}
theorem kG {r:R2} (hr:IxR X r) (ha:PE X a ta) (hb:PE X b tb) (hs:PlainIx b):PE X (.Subscript a b pos) (tOp r ta tb):=by
 intro pins s σ H Q I h
 exact Subscript_ (binT ha hb I h fun v u s2 x y H2 I2 rx ry q=>hr a b pins s2 σ H2 x y v u Q I2 rx ry q (hs _ _))
def rIxL (K:PySem.W.Frag):R2:=fun x y H Q=>∃p xs i v,x= .ref p/\y= .int i/\SqL K H p xs/\atI xs i=some v/\Q v H
def rIxT (K:PySem.W.Frag):R2:=fun x y H Q=>∃p xs i v,x= .ref p/\y= .int i/\SqT K H p xs/\atI xs i=some v/\Q v H
def rIxS:R2:=fun x y H Q=>∃z i c,x= .str z/\y= .int i/\z.length<=sizeLine/\atI z.cps.toList i=some c/\Q (.str ⟨#[c]⟩) H
theorem KM:IxR X (rIxL X.K):=by
 intro value slice pins s σ H x y v u Q I rx ry h hs
 obtain ⟨p,xs,i,z,rfl,rfl,hq,he,q⟩:=h
 cases rx
 obtain ⟨t,rfl⟩:=ry
 obtain ⟨its,r,pl,hz⟩:=I.list hq
 obtain ⟨j,h1,h2,h3,h4,h5⟩:=ZU he
 obtain ⟨w,ew,rw'⟩:=r.get h2
 have hl:=r.length
 have hn:=line63
 have fin:EP X pins σ Q w s:=⟨z,H,I,rw',q⟩
 by_cases h0:0<=i
 ·have hj:i.toNat=j:=by
   rw [seqIndex_of h0 h5] at h1
   exact Option.some.inj h1
  exact item_listR pl.isList h0 (by omega) (by rw [hj];simpa using ew) fin hs
 ·have hj:(i+(its.toArray.size:Int)).toNat=j:=by
   rw [seqIndex_neg (by omega) h4] at h1
   rw [List.size_toArray,<-hl]
   exact Option.some.inj h1
  exact subscriptTail_builtinR (x:=w) pl.isList.typeIs slot_list_getitem.lookup
   (wpAny_getItem_list_neg (Q:=fun r s'=>r=w/\EP X pins σ Q r s') pl.isList (by omega) (by rw [List.size_toArray]<;>omega) (by omega) (by rw [hj];simpa using ew) ⟨rfl,fin⟩) hs
theorem xbp:IxR X (rIxT X.K):=by
 intro value slice pins s σ H x y v u Q I rx ry h hs
 obtain ⟨p,xs,i,z,rfl,rfl,hq,he,q⟩:=h
 cases rx
 obtain ⟨t,rfl⟩:=ry
 obtain ⟨its,r,pl,hz⟩:=I.tuple hq
 obtain ⟨j,h1,h2,h3,h4,h5⟩:=ZU he
 obtain ⟨w,ew,rw'⟩:=r.get h2
 have hl:=r.length
 have hn:=line63
 have fin:EP X pins σ Q w s:=⟨z,H,I,rw',q⟩
 exact subscriptTail_builtinR (x:=w) pl.typeIs slot_tuple_getitem.lookup
  (getItem_tuple (j:=j) (Q:=fun r s'=>r=w/\EP X pins σ Q r s') pl (by omega) (by omega) (by rw [List.size_toArray,<-hl];exact h1) (by simpa using ew) ⟨rfl,fin⟩) hs
theorem xbq:IxR X rIxS:=by
 intro value slice pins s σ H x y v u Q I rx ry h hs
 obtain ⟨z,i,c,rfl,rfl,hz,he,q⟩:=h
 obtain ⟨t,rfl⟩:=rx
 obtain ⟨t',rfl⟩:=ry
 obtain ⟨j,h1,h2,h3,h4,h5⟩:=ZU he
 have hl:z.cps.toList.length=z.length:=by simp [Str.length]
 rw [hl] at h1 h4 h5
 have hn:=line63
 exact tail_any (typeIs_str s z t) slot_str_getitem.lookup (getItem_str (c:=c) (by
  have e1:decide (i< -(2^63:Int))=false:=decide_eq_false (by omega)
  have e2:decide (i≥2^63)=false:=decide_eq_false (by omega)
  rw [e1,e2,Bool.or_false]) (by rw [h1];simpa using h2) ⟨.str ⟨#[c]⟩,H,I.tok _,⟨_,rfl⟩,q⟩) hs
def flatV:V->Bool
 | .non=>true
 | .bl _=>true
 | .int _=>true
 | .str _=>true
 | _=>false
def eqV:V->V->Bool
 | .non,.non=>true
 | .bl a,.bl b=>a==b
 | .bl a,.int b=>(if a then 1 else 0)==b
 | .int a,.bl b=>a==(if b then 1 else 0)
 | .int a,.int b=>a==b
 | .str a,.str b=>a==b
 | _,_=>false
theorem xbI {A:Around} {s:Shared} {y x:V} {u v:Value} (ry:RelV y u) (rx:RelV x v) (fy:flatV y=true) (fx:flatV x=true):SeqAt.EqAt A s u v (eqV y x):=by
 cases y with
 | non=>
  cases ry
  cases x with
  | non=>cases rx;exact SeqAt.EqAt.same _
  | bl b=>cases rx;exact SeqAt.EqAt.none_bool b
  | int b=>obtain ⟨t,rfl⟩:=rx;exact SeqAt.EqAt.none_int b t
  | str b=>obtain ⟨t,rfl⟩:=rx;exact SeqAt.EqAt.none_str b t
  | _=>exact absurd (show false=true from fx) Bool.false_ne_true
 | bl a=>
  cases ry
  cases x with
  | non=>cases rx;exact SeqAt.EqAt.bool_none a
  | bl b=>cases rx;exact SeqAt.EqAt.bool_bool a b
  | int b=>obtain ⟨t,rfl⟩:=rx;exact SeqAt.EqAt.bool_int a b t
  | str b=>obtain ⟨t,rfl⟩:=rx;exact SeqAt.EqAt.bool_str a b t
  | _=>exact absurd (show false=true from fx) Bool.false_ne_true
 | int a=>
  obtain ⟨t',rfl⟩:=ry
  cases x with
  | non=>cases rx;exact SeqAt.EqAt.int_none a t'
  | bl b=>cases rx;exact SeqAt.EqAt.int_bool a t' b
  | int b=>obtain ⟨t,rfl⟩:=rx;exact SeqAt.EqAt.int_int a t' b t
  | str b=>obtain ⟨t,rfl⟩:=rx;exact SeqAt.EqAt.int_str a t' b t
  | _=>exact absurd (show false=true from fx) Bool.false_ne_true
 | str a=>
  obtain ⟨t',rfl⟩:=ry
  cases x with
  | non=>cases rx;exact SeqAt.EqAt.str_none a t'
  | bl b=>cases rx;exact SeqAt.EqAt.str_bool a t' b
  | int b=>obtain ⟨t,rfl⟩:=rx;exact SeqAt.EqAt.str_int a t' b t
  | str b=>obtain ⟨t,rfl⟩:=rx;exact SeqAt.EqAt.str_str a t' b t
  | _=>exact absurd (show false=true from fx) Bool.false_ne_true
 | _=>exact absurd (show false=true from fy) Bool.false_ne_true
def eqU (x:V) (u:Value):Bool:=match u with
 | .none=>eqV .non x
 | .bool b=>eqV (.bl b) x
 | .int i _=>eqV (.int i) x
 | .str z _=>eqV (.str z) x
 | _=>false
theorem Jx {x y:V} {u:Value} (r:RelV y u) (f:flatV y=true):eqU x u=eqV y x:=by
 cases y with
 | non=>cases r;rfl
 | bl b=>cases r;rfl
 | int i=>obtain ⟨t,rfl⟩:=r;rfl
 | str z=>obtain ⟨t,rfl⟩:=r;rfl
 | _=>exact absurd (show false=true from f) Bool.false_ne_true
theorem ZV {x:V}:∀{xs:List V} {us:List Value},Vals xs us->xs.all flatV=true->us.any (eqU x)=xs.any fun y=>eqV y x
 | _,_,.nil,_=>rfl
 | y::xs,u::us,.cons r t,f=>by
  rw [List.all_cons,Bool.and_eq_true] at f
  rw [List.any_cons,List.any_cons,Jx r f.1,ZV t f.2]
theorem XD {A:Around} {s:Shared} {x:V} {v:Value} (rx:RelV x v) (fx:flatV x=true):∀{xs:List V} {us:List Value},Vals xs us->xs.all flatV=true->∀u∈us,SeqAt.EqAt A s u v (eqU x u)
 | _,_,.nil,_=>fun u hu=>by cases hu
 | y::xs,u::us,.cons r t,f=>fun u' hu=>by
  rw [List.all_cons,Bool.and_eq_true] at f
  rcases List.mem_cons.mp hu with rfl | hu
  ·rw [Jx r f.1];exact xbI r rx f.1 fx
  ·exact XD rx fx t f.2 u' hu
def inV (x:V) (xs:List V):Bool:=xs.any fun y=>eqV y x
def rIn (K:PySem.W.Frag) (neg:Bool):R2:=fun x y H Q=>∃p xs,y= .ref p/\(SqL K H p xs∨SqT K H p xs)/\flatV x=true/\xs.all flatV=true/\Q (.bl (if neg then !inV x xs else inV x xs)) H
theorem UQ:OpR X (compareOp .In) (rIn X.K false):=by
 intro pins s σ H x y v u Q I rx ry h
 obtain ⟨p,xs,rfl,hq,fx,fs,q⟩:=h
 cases ry
 rcases hq with hq | hq
 ·obtain ⟨its,r,pl,hz⟩:=I.list hq
  refine SeqAt.in_listAt (eqU x) pl.isList (fun w hw=>XD rx fx r fs w (by simpa using hw)) ⟨.bl _,H,I,rfl,?_⟩
  rw [show its.toArray.any (eqU x)=its.any (eqU x) by simp,ZV r fs]
  exact q
 ·obtain ⟨its,r,pl,hz⟩:=I.tuple hq
  refine SeqAt.in_tupleAt (eqU x) pl (fun w hw=>XD rx fx r fs w (by simpa using hw)) ⟨.bl _,H,I,rfl,?_⟩
  rw [show its.toArray.any (eqU x)=its.any (eqU x) by simp,ZV r fs]
  exact q
def tyV (K:PySem.W.Frag) (T:String) (x:V) (H:Hp):Prop:=match x with
 | .str _=>T= "str"
 | .int _=>T= "int"
 | .ref p=>(T= "list" /\∃xs,SqL K H p xs)∨(T= "tuple" /\∃o,K.lookup p=some o/\o.cls= .type "tuple" /\o.dict=none)∨
   (T= "dict" /\((∃kvs,H p=some (.dK kvs))∨∃kvs,H p=some (.dT kvs)))∨(T= "set" /\∃S n,H p=some (.set S n))
 | _=>False
theorem jJ {pins:List (Addr×Obj)} {σ:St} {H:Hp} {s:Shared} {T:String} {x:V} {v:Value} (I:Inv X pins σ H s) (r:RelV x v) (ty:tyV X.K T x H):
  s.TypeIs v T/\∀a,v= .ref a->∃ob,s.heap.get? a=some ob/\ob.dict=none:=by
 cases x with
 | str z=>
  obtain ⟨t,rfl⟩:=r
  cases (show T= "str" from ty)
  exact ⟨typeIs_str s z t,fun _ e=>nomatch e⟩
 | int i=>
  obtain ⟨t,rfl⟩:=r
  cases (show T= "int" from ty)
  exact ⟨typeIs_int s i t,fun _ e=>nomatch e⟩
 | ref p=>
  cases r
  rcases ty with ⟨rfl,xs,hq⟩ | ⟨rfl,o,hk,hc,hd⟩ | ⟨rfl,hk⟩ | ⟨rfl,S,n,hk⟩
  ·obtain ⟨its,_,pl,_⟩:=I.list hq
   refine ⟨pl.isList.typeIs,fun a e=>?_⟩
   cases e
   obtain ⟨o,n,e,c,hd,_⟩:=pl
   exact ⟨o,e,hd⟩
  ·refine ⟨⟨o,I.kIn p o hk,hc⟩,fun a e=>?_⟩
   cases e
   exact ⟨o,I.kIn _ o hk,hd⟩
  ·have z:∃o,s.heap.get? p=some o/\o.ExactDict:=by
    rcases hk with ⟨kvs,hk⟩ | ⟨kvs,hk⟩
    ·obtain ⟨_,_,_,_,o,_,_,e,ex,_⟩:=I.hok p _ hk
     exact ⟨o,e,ex⟩
    ·obtain ⟨_,_,_,_,o,_,_,e,ex,_⟩:=I.hok p _ hk
     exact ⟨o,e,ex⟩
   obtain ⟨o,e,ex⟩:=z
   refine ⟨⟨o,e,ex.1⟩,fun a e2=>?_⟩
   cases e2
   exact ⟨o,e,ex.2.1⟩
  ·obtain ⟨o,_,_,_,e,ex,_⟩:=I.hok p _ hk
   refine ⟨⟨o,e,ex.1⟩,fun a e2=>?_⟩
   cases e2
   exact ⟨o,e,ex.2.1⟩
 | _=>exact False.elim ty
def tBM0 (K:PySem.W.Frag) (T:String) (r:V->List V->Hp->VK->Prop) (to:TE):TE:=fun σ H Q=>to σ H fun x H1=>tyV K T x H1/\r x [] H1 Q
def tBM (K:PySem.W.Frag) (T:String) (r:V->List V->Hp->VK->Prop) (to:TE) (t:TA):TE:=fun σ H Q=>to σ H fun x H1=>tyV K T x H1/\t σ H1 fun xs H2=>r x xs H2 Q
variable {o e:Expr} {es:List Expr} {to:TE} {t:TA} {name:Str} {apos cpos:Pos} {T id:String} {r:V->List V->Hp->VK->Prop}
theorem Zm (pa:PlainAttrs T) (slot:Slot T name id) (hty:typeOf (.builtin id)=pure (.type "method_descriptor")) (hm:MtR X id r) (ho:PE X o to)
  (hbase:attributeBase o name X.env (eval o X.env)=eval o X.env:=by rfl) (hline:(apos.endLine==cpos.line)=true:=by rfl):PE X (.Call (.Attribute o name apos) [] [] cpos) (tBM0 X.K T r to):=by
 intro pins s σ H Q I h
 refine wpAny_Call_method0_late hbase hline (thn (ho pins s σ H _ I h) fun v s1 ⟨x,H1,I1,r1,ty,q1⟩=>?_)
 obtain ⟨h1,h2⟩:=jJ I1 r1 ty
 exact ⟨T,id,pa,slot,hty,h1,h2,Calls.callWith_builtin rfl (PySem.evalArgs_none (hm pins s1 σ H1 x [] v [] Q I1 r1 .nil q1))⟩
theorem Yu (pa:PlainAttrs T) (slot:Slot T name id) (hty:typeOf (.builtin id)=pure (.type "method_descriptor")) (hm:MtR X id r) (ho:PE X o to) (ha:PA X (e::es) t)
  (hbase:attributeBase o name X.env (eval o X.env)=eval o X.env:=by rfl)
  (hfew:((backTo cpos (starEach (e::es) X.env)).all (fun x=> !x.1) && (backToKw cpos (keywordEach [] X.env)).all (fun x=>x.1.isSome)
   && decide ((e::es).length+([]:List Keyword).length+(if ([]:List Keyword).isEmpty then 0 else 1)<30))=true:=by rfl)
  (hline:(apos.endLine==cpos.line)=true:=by rfl) (hs:starEach (e::es) X.env=(false,eval e X.env)::starEach es X.env:=by rfl) (hplain:(backTo cpos (starEach es X.env)).any (·.1)=false:=by rfl):
  PE X (.Call (.Attribute o name apos) (e::es) [] cpos) (tBM X.K T r to t):=by
 intro pins s σ H Q I h
 refine wpAny_Call_method_late hbase hfew hline rfl (thn (ho pins s σ H _ I h) fun v s1 ⟨x,H1,I1,r1,ty,q1⟩=>?_)
 obtain ⟨h1,h2⟩:=jJ I1 r1 ty
 refine ⟨T,id,pa,slot,hty,h1,h2,?_⟩
 have hA:=ha cpos pins s1 σ H1 _ I1 q1
 rw [hs] at hA ⊢
 refine Calls.callWith_builtin (by show (false || (backTo cpos (starEach es X.env)).any (·.1))=false;rw [hplain]<;>rfl) (Calls.evalArgs_plain ?_)
 exact thn hA fun us s2 ⟨vs,H2,I2,r2,q2⟩=>hm pins s2 σ H2 x vs v us Q I2 r1 r2 q2
end
def MtM (X:Cx) (id:String) (r:V->List V->Hp->VK->Prop):Prop:=
 ∀(pins:List (Addr×Obj)) (s:Shared) (σ:St) (H:Hp) (x:V) (xs:List V) (v:Value) (us:List Value) (Q:VK),Inv X pins σ H s->RelV x v->Vals xs us->r x xs H Q->
  wpAny (model X.prog X.w) X.A (call (.builtin id) (v::us)) (EP X pins σ Q) X.xe s
theorem Vals.one:∀{x:V} {us:List Value},Vals [x] us->∃u,us=[u]/\RelV x u
 | _,_,.cons r .nil=>⟨_,rfl,r⟩
theorem Vals.zero:∀{us:List Value},Vals [] us->us=[]
 | _,.nil=>rfl
theorem Vals.dropLast {xs:List V} {us:List Value} (h:Vals xs us):Vals xs.dropLast us.dropLast:=by
 induction h with
 | nil=>exact .nil
 | cons r t ih=>
  cases t with
  | nil=>exact .nil
  | cons q t'=>exact .cons r ih
theorem Wk {α:Type} (l:List α):l.eraseIdx (l.length - 1)=l.dropLast:=by
 induction l with
 | nil=>rfl
 | cons a r ih=>
  cases r with
  | nil=>rfl
  | cons b r=>
   have e:(a::b::r).length - 1=((b::r).length - 1)+1:=by
    have h1:(a::b::r).length=r.length+2:=rfl
    have h2:(b::r).length=r.length+1:=rfl
    omega
   rw [e,List.eraseIdx_cons_succ,ih]
   all_goals rfl
section
variable {X:Cx} {pins:List (Addr×Obj)} {σ:St} {H:Hp} {s:Shared} {l b:Addr} {xs ys zs:List V}
theorem Inv.lset {its its':List Value} {n:Nat} {f:Array Value->Array Value} {t':Nat} (I:Inv X pins σ H s) (hH:H l=some (.lst xs))
  (e:s.heap.get? l=some { cls:= .type "list",data:= .seq its.toArray n }) (hf:f its.toArray=its'.toArray) (hv:Vals ys its') (hz:ys.length<=sizeLine):
  Inv X pins σ (upd H l (.lst ys)) { s with heap:=s.heap.update l (Obj.mapSeq f),toks:=t' }:=by
 have q:=PySem.IsL.update e f
 rw [hf] at q
 refine I.write (x:=l) (e:=l) (by rw [hH];exact trivial) (.inl rfl) (fun b' u hb hu=>(Heap.get?_update_other s.heap (Obj.mapSeq f) (Ne.symm hb)).trans hu) ⟨_,q⟩ ?_
 exact ⟨hz,its',_,hv,q⟩
theorem Inv.lnew {its:List Value} {t':Nat} (I:Inv X pins σ H s) (hv:Vals ys its) (hz:ys.length<=sizeLine):
  Inv X pins σ (upd H s.heap.objs.size (.lst ys)) { s with heap:=s.heap.push { cls:= .type "list",data:= .seq its.toArray },toks:=t' }:=
 I.laid (fun _ _ q=>Heap.get?_push_of_some _ q) (Nat.le_refl _) ⟨hz,its,0,hv,Heap.get?_push_size _ rfl⟩
theorem Inv.fresh (I:Inv X pins σ H s):H s.heap.objs.size=none:=I.hok.fresh (Nat.le_refl _)
theorem Inv.lstM (I:Inv X pins σ H s) (hH:H l=some (.lst xs)):xs.length<=sizeLine/\∃(its:List Value) (n:Nat),Vals xs its/\xs.length=its.length/\s.heap.get? l=some { cls:= .type "list",data:= .seq its.toArray n }:=by
 obtain ⟨z,its,n,r,e⟩:=I.hok l _ hH
 exact ⟨z,its,n,r,r.length,e⟩
end
section
variable {X:Cx}
def rAppend:V->List V->Hp->VK->Prop:=fun x vs H Q=>∃l xs y,x= .ref l/\vs=[y]/\H l=some (.lst xs)/\xs.length<sizeLine/\Q .non (upd H l (.lst (xs++ [y])))
theorem wE:MtM X "list.append" rAppend:=by
 intro pins s σ H x vs v us Q I rx rv h
 obtain ⟨l,xs,y,rfl,rfl,hH,hz,q⟩:=h
 cases rx
 obtain ⟨u,rfl,ru⟩:=rv.one
 obtain ⟨z,its,n,r,hl,e⟩:=I.lstM hH
 refine call_meets F.slot_list_append ⟨_,e,rfl⟩ F.entry_list_append (F.args_list_append_2 _ _) (PySem.list_append l its.toArray n u (by rw [List.size_toArray];omega)) ⟨e,?_⟩
 refine ⟨.non,_,I.lset (its':=its++ [u]) hH e (by simp) (r.append (.cons ru .nil)) ?_,rfl,q⟩
 rw [List.length_append,List.length_singleton]
 omega
def rPop:V->List V->Hp->VK->Prop:=fun x vs H Q=>∃l xs y,x= .ref l/\vs=[]/\H l=some (.lst xs)/\xs[xs.length - 1]? =some y/\Q y (upd H l (.lst xs.dropLast))
theorem kT:MtM X "list.pop" rPop:=by
 intro pins s σ H x vs v us Q I rx rv h
 obtain ⟨l,xs,y,rfl,rfl,hH,hy,q⟩:=h
 cases rx
 have hus:=rv.zero
 subst hus
 obtain ⟨z,its,n,r,hl,e⟩:=I.lstM hH
 obtain ⟨u,hu,ru⟩:=r.get hy
 have hy':its.toArray[its.toArray.size - 1]? =some u:=by
  show its.toArray[its.length - 1]? =some u
  rw [<-Array.getElem?_toList,<-hl]
  exact hu
 refine call_meets F.slot_list_pop ⟨_,e,rfl⟩ F.entry_list_pop (F.args_list_pop_1 _) (MeetsSeq.list_pop_last l its.toArray n u hy' (by rw [List.size_toArray];omega)) ⟨e,?_⟩
 refine ⟨y,_,I.lset (its':=its.dropLast) hH e ?_ r.dropLast ?_,ru,q⟩
 ·show its.toArray.eraseIdxIfInBounds (its.toArray.size - 1)=its.dropLast.toArray
  rw [List.size_toArray,List.eraseIdxIfInBounds_toArray,Wk]
 ·rw [List.length_dropLast]
  omega
end
section
variable {prog:Program} {w:World} {A:Around} {E:Value->Shared->Prop} {s:Shared}
set_option maxRecDepth 100000 in
end
section
variable {X:Cx}
end
end L2
namespace Att
open PySem PySem.W PySem.Calls PyProof.Rows
theorem uu {P:Params} {h:Heap}:∀(ns:List Int) (vs:List Value),WellAll P h vs (ns.map WData.int)->IntsAre vs ns:=by
 intro ns
 induction ns with
 | nil=>
  intro vs w
  rw [List.map_nil] at w
  cases w
  exact .nil
 | cons n ns ih=>
  intro vs w
  rw [List.map_cons] at w
  cases w with
  | cons a b=>
   cases a
   exact .cons _ _ (ih _ b)
theorem Uw {l:OpenLaw} {n:Nat} (hn:l.most=some n) {P:Params} {h:Heap} {args:List WData} {vals:List Value}
  (hpre:l.row.toRowW.claim.pre args=true) (hwl:WellAll P h vals args):
  ∃a vs ns,vals=[Value.ref a]/\args=[WData.list (ns.map WData.int)]/\h.get? a=some { cls:= .type "list",data:= .seq vs.toArray }/\IntsAre vs ns/\ns.length<=n:=by
 have hsh:WShape.hasAll [] args [.list .int]=true:=(pre_splitW hpre).1
 have hc:l.pre.holds [] { args:=args }=true:=(pre_splitW hpre).2
 obtain ⟨d,r,rfl,h1,h2⟩:=hasAllW_cons hsh
 obtain rfl:=hasAllW_nil h2
 obtain ⟨xs,rfl,h3⟩:=hasW_list h1
 obtain ⟨ns,rfl⟩:=items_int h3
 have hlen:ns.length<=n:=by
  unfold OpenLaw.pre at hc
  have h4:(WTm.not (.lt (.lit (.int (n:Int))) (.len (.arg 0)))).holds [] { args:=[.list (ns.map .int)] }=true:=by
   have h4:=(holds_andW hc).1
   rw [hn] at h4
   exact h4
  have h5:=condW_of h4 (w_not (w_lt w_lit (w_len_list (w_arg rfl))))
  rw [List.length_map] at h5
  refine Nat.le_of_not_lt fun q=>?_
  have q':(n:Int)<((ns.length:Nat):Int):=by omega
  first
   | (rw [decide_eq_true q'] at h5;exact absurd h5 (by decide))
   | (simp at h5;omega)
 cases hwl with
 | cons w1 w2=>
  cases w2
  cases w1 with
  | list ho hall=>exact ⟨_,_,ns,rfl,rfl,ho,uu ns _ hall,hlen⟩
theorem UL (l:OpenLaw) (args:List WData):l.row.toRowW.claim.post args (.bool true) args=true:=
 postW_of (r:=l.row.toRowW) (X:=(true==true))
  (show WShape.has [] (.bool true) .bool=true by first | rfl | decide | simp [WShape.has,WShape.arms,WShape.armsAll])
  (show (WTm.eq .res (.lit (.bool true))).value [] { args:=args,res:=some (.bool true),after:=args }=some (.bool (true==true)) from w_eq_bool (w_res rfl) w_lit) rfl
theorem attach_call {l:OpenLaw} {n:Nat} {q:Program} {loose:List Str} {XP:(Str->Option Value)->Heap->Prop} {YP:World->Heap->Prop} {d:DefRec}
  (hn:l.most=some n) (hdf:d.params.defaults=[])
  (call:∀(w:World) (s₀ s₁:Shared) (mg mb:Str->Option Value) (fa:Addr) (o:Obj) (pm cd doc:Value) (a:Addr) (vs:List Value) (ns:List Int),
   Ground q loose [] XP w s₀ mg mb s₁.heap->YP w s₁.heap->
   s₁.heap.get? fa=some o->o.data= .func (docDef d.name d.params d.body d.scope pm cd doc)->s₁.heap.CodeRec cd d.name->mg d.name=some (.ref fa)->
   s₁.heap.get? a=some { cls:= .type "list",data:= .seq vs.toArray }->IntsAre vs ns->ns.length<=n->s₁.gens= #[]->
   codeAny (model l.prog w) callerA (.call (.ref fa) ⟨[.ref a],[]⟩) (fun r s'=>r= .ok (.ret (.bool true))/\OldK s₁.heap s'.heap/\s'.os=s₁.os/\AllBare s'.gens) s₁):
  WalkO q loose XP YP l.row.toRowW d [] (fun f vs=>PySem.call f vs):=by
 intro w s₀ s₁ mg mb G Y fa o pm cd doc dV kV ho hd hcd hD hmg hg args vals as hpre hlay hrd hwl hlo
 obtain rfl:dV= .none:=Dflts.none hD hdf
 obtain rfl:kV= .none:=Dflts.noKw hD
 obtain ⟨a,vs,ns,rfl,rfl,hobj,hints,hlen⟩:=Uw hn hpre hwl
 refine enter_call (codeAny_mono (call w s₀ s₁ mg mb fa o pm cd doc a vs ns G Y ho (fd_plain hd) hcd hmg hobj hints hlen hg) fun r s' hq=>?_)
 obtain ⟨rfl,h2,h3,h4⟩:=hq
 exact ⟨.inl ⟨.bool true,.bool true,[],rfl,fun _=>rfl,.bool true,UL l _,fun _=>⟨List.Pairwise.nil,fun _ hm=>(nomatch hm)⟩⟩,h2,h3,h4⟩
section
variable {prog:Program} {w:World} {A:Around} {E:Value->Shared->Prop} {s:Shared} {K:Frag}
def ledger (h:Heap) (L d:Addr):List (Addr×Obj):=(List.range h.objs.size).filterMap fun a=>if a=L∨a=d then none else (h.get? a).map fun o=>(a,o)
end
end Att
namespace L2
open PySem PySem.Spec PyProof.Rows
theorem X6:∀{vs:List Value} {ns:List Int},IntsAre vs ns->Vals (ns.map V.int) vs
 | _,_,.nil=> .nil
 | _,_,.cons n t h=> .cons ⟨t,rfl⟩ (X6 h)
def Only (H:Hp):Prop:=∀b,H b=none∨∃o xs,H b=some (.frz o (.lst xs))
theorem k8 {P:Program} {w:World} {K:PySem.W.Frag} {mg mb:Str->Option Value} {CX:CXT} {k:Nat} {fa a:Addr} {fd:FuncData} {x:Str} {sp:Sp} {s₁:Shared} {vs:List Value} {ns:List Int}
  (KX:K.In s₁.heap) (hns:s₁.heap.Ns mainGlobals mg) (hb:s₁.heap.Ns builtinsNs mb) (hbb:∀x:Str,x≠ "__name__" ->mb x=bootBuiltins x) (hlim:s₁.heap.NoLimit) (hg:s₁.gens= #[])
  (ha:s₁.heap.get? a=some { cls:= .type "list",data:= .seq vs.toArray }) (hi:IntsAre vs ns) (hl:ns.length<=sizeLine) (hr:Room k callerA)
  (F:∀base:Heap,K.In base->base.Ns mainGlobals mg->FnOk P w K mg base CX k fa fd [x] sp) (hbind:∀(s:Shared) (u:Value),BindsTo s fd ⟨[u],[]⟩ [(x,u)])
  (hsp:∀H:Hp,Only H->SqL K H a (ns.map V.int)->sp [.ref a] H (fun v _=>v= .bl true) fun _ _ _=>False)
  (hCX:∀H e s',CX [] H s₁ (fun _ _ _=>False) e s'->False):
  codeAny (model P w) callerA (.call (.ref fa) ⟨[.ref a],[]⟩) (fun r s'=>r= .ok (.ret (.bool true))/\OldK s₁.heap s'.heap/\s'.os=s₁.os/\AllBare s'.gens) s₁:=by
 have rv:=X6 hi
 have lenV:=hi.length
 have core:∀H:Hp,Only H->SqL K H a (ns.map V.int)->HOk P w H s₁.heap->(∀b,H b≠none->b=a)->(H a≠none->K.lookup a=none)->
   codeAny (model P w) callerA (.call (.ref fa) ⟨[.ref a],[]⟩) (fun r s'=>r= .ok (.ret (.bool true))/\OldK s₁.heap s'.heap/\s'.os=s₁.os/\AllBare s'.gens) s₁:=by
  intro H hO hS hok hA hK
  have base_of:∀{b:Addr} {o:Obj},s₁.heap.get? b=some o->H b=none->(hidT s₁.heap H).get? b=some o:=fun e n=>Jh e n
  have noA:∀{b:Addr} {o:Obj} {es:Array DictEntry} {ep:Nat},s₁.heap.get? b=some o->o.data= .dict es ep->H b=none:=fun {b o es ep} e d=>by
   cases q:H b with
   | none=>rfl
   | some u=>
    have e':b=a:=hA b (by rw [q];simp)
    subst e'
    rw [ha] at e;cases e
    have d':Data.seq vs.toArray _=Data.dict es ep:=d
    cases d'
  have nsK:∀{b:Addr} {m:Str->Option Value},s₁.heap.Ns b m->(hidT s₁.heap H).Ns b m:=fun {b m} ⟨o,es,ep,e,d,r⟩=>⟨o,es,ep,base_of e (noA e d),d,r⟩
  have hKb:K.In (hidT s₁.heap H):=fun b o e=>base_of (KX b o e) (by
   cases q:H b with
   | none=>rfl
   | some u=>
    have e':b=a:=hA b (by rw [q];simp)
    subst e'
    rw [hK (by rw [q];simp)] at e;cases e)
  have hM:Mod K mg (hidT s₁.heap H):=⟨hKb,nsK hns,⟨mb,nsK hb,hbb⟩,let ⟨mc,h1,h2⟩:=hlim;⟨mc,nsK h1,h2⟩⟩
  have e0:Env0 P w K mg (hidT s₁.heap H) callerA [] s₁ H:=⟨rfl,hM,fun b o e=>KG e,Nat.le_of_eq (U9 _ _),trivial,fun b hb=>absurd (show b∈([]:List Addr) from hb) (by simp),hok,.of_eq hg⟩
  refine codeAny_mono ((F _ hKb (nsK hns)).run callerA [] s₁ H ⟨[.ref a],[]⟩ [.ref a] [.ref a] _ _ hr e0 (hbind s₁ (.ref a)) (.cons rfl .nil) (hsp H hO hS)) fun r s' h=>?_
  cases r with
  | error e=>exact (hCX H e s' h).elim
  | ok fl=>
   cases fl with
   | next=>exact False.elim h
   | brk=>exact False.elim h
   | cont=>exact False.elim h
   | ret u=>
    obtain ⟨v,H',os,bare,un,hok',r',q⟩:=h
    have q':v= .bl true:=q
    subst q'
    obtain rfl:u=Value.bool true:=r'
    refine ⟨rfl,OldK.of_keep fun b o e=>?_,os,bare⟩
    cases q:H b with
    | none=>exact un.keep b o e q (by intro z;exact absurd (show b∈([]:List Addr) from z) (by simp)) (by simp)
    | some u=>
     rcases hO b with z | ⟨ob,xs,z⟩
     ·rw [q] at z;cases z
     ·have z2:=un.frzs b ob _ z
      obtain ⟨e1,_⟩:=hok b _ z
      obtain ⟨e2,_⟩:=hok' b _ z2
      rw [e] at e1;cases e1
      exact e2
 cases hk:K.lookup a with
 | some o=>
  have e:=KX a o hk
  rw [ha] at e
  cases e
  refine core (fun _=>none) (fun _=> .inl rfl) (.inr ⟨_,vs.toArray,_,hk,rfl,rfl,rfl,by rw [List.size_toArray,lenV];exact hl,by simpa using rv⟩) (fun b u z=>by have z':(none:Option HO)=some u:=z;cases z') (fun b z=>absurd rfl z) fun z=>absurd rfl z
 | none=>
  refine core (fun b=>if b=a then some (.frz { cls:= .type "list",data:= .seq vs.toArray } (.lst (ns.map V.int))) else none) (fun b=>?_) (.inl (.inr ⟨{ cls:= .type "list",data:= .seq vs.toArray },if_pos rfl⟩)) (fun b u z=>?_) (fun b z=>?_) fun _=>hk
  ·by_cases hb:b=a
   ·exact .inr ⟨_,_,if_pos hb⟩
   ·exact .inl (if_neg hb)
  ·by_cases hb:b=a
   ·have z':=(if_pos hb).symm.trans z
    cases z'
    subst hb
    exact ⟨ha,by rw [List.length_map];exact hl,vs,_,rv,ha⟩
   ·have z':=(if_neg hb).symm.trans z
    cases z'
  ·by_cases hb:b=a
   ·exact hb
   ·exact absurd (if_neg hb) z
theorem walk_of {l:PySem.W.OpenLaw} {n k:Nat} {q:Program} {loose:List Str} {XP:(Str->Option Value)->Heap->Prop} {YP:World->Heap->Prop} {d:DefRec} {K:Params->PySem.W.Frag} {CX:World->CXT} {sp:World->Sp} {x:Str}
  (hn:l.most=some n) (hn2:n<=sizeLine) (hdf:d.params.defaults=[]) (hr:Room k callerA)
  (hY:∀(w:World) (h:Heap),YP w h->(K w.params).In h)
  (F:∀(w:World) (mg:Str->Option Value) (fa:Addr) (h:Heap),(K w.params).In h->h.Ns mainGlobals mg->mg d.name=some (.ref fa)->
   ∃fd:FuncData,(∀(s:Shared) (u:Value),BindsTo s fd ⟨[u],[]⟩ [(x,u)])/\
    ∀base:Heap,(K w.params).In base->base.Ns mainGlobals mg->FnOk l.prog w (K w.params) mg base (CX w) k fa fd [x] (sp w))
  (hsp:∀(w:World) (H:Hp) (a:Addr) (ns:List Int),ns.length<=n->Only H->SqL (K w.params) H a (ns.map V.int)->sp w [.ref a] H (fun v _=>v= .bl true) fun _ _ _=>False)
  (hCX:∀(w:World) (H:Hp) (s:Shared) (e:Value) (s':Shared),CX w [] H s (fun _ _ _=>False) e s'->False):
  PySem.W.WalkO q loose XP YP l.row.toRowW d [] (fun f vs=>PySem.call f vs):=by
 refine Att.attach_call hn hdf fun w s₀ s₁ mg mb fa o pm cd doc a vs ns G Y ho hd hcd hmg hobj hints hlen hg=>?_
 have KX:=hY w _ Y
 obtain ⟨fd,hb,hF⟩:=F w mg fa _ KX G.T.g hmg
 exact k8 KX G.T.g G.T.b G.T.builtins G.T.nolimit hg hobj hints (Nat.le_trans hlen hn2) hr hF hb (fun H hO hS=>hsp w H a ns hlen hO hS) fun H e s'=>hCX w H s₁ e s'
def defArgs (s:Stmt):Arguments:=match s with
 | .FunctionDef _ a _ _ _ _ _ _ _ _=>a
 | _=>{ posonlyargs:=[],args:=[],vararg:=none,kwonlyargs:=[],kw_defaults:=[],kwarg:=none,defaults:=[] }
def defBody (s:Stmt):List Stmt:=match s with
 | .FunctionDef _ _ b _ _ _ _ _ _ _=>b
 | _=>[]
def defScope (s:Stmt):Scope:=match s with
 | .FunctionDef _ _ _ _ _ _ sc _ _ _=>sc
 | _=>{ kind:= .function,names:=[],isGenerator:=false,isCoroutine:=false }
abbrev CX0:CXT:=fun _ _ _ _ _ _=>False
abbrev E0:XK:=fun _ _ _=>False
theorem pass0 {X:Cx}:Passes CX0 X E0:=fun _ _ _ _ _ _ _ h=>h.elim
structure Fun (K:PySem.W.Frag) (x qual:Str) (st:Stmt) (f:Addr) (fd:FuncData):Prop where
 ex:∃(oc:Value) (od:Option Addr) (kV doc pm:Value) (an:Option Addr) (cdv ct:Value) (osl:Array (Option Value)),
  fd=PySem.W.fnOf x qual (defArgs st) (defBody st) (defScope st) .none kV doc pm an cdv ct/\K.lookup f=some ⟨oc,od,.func fd,osl⟩/\PySem.W.codeIn K cdv qual=true
 kp:PySem.W.keepIn K (.ref f)=true
section
variable {P:Program} {w:World} {K:PySem.W.Frag} {mg:Str->Option Value} {base:Heap}
theorem Fun.ok {x qual:Str} {st:Stmt} {f:Addr} {fd:FuncData} {N ps:List Str} {k:Nat} {sp:Sp} (F:Fun K x qual st f fd) (S:FnScope N ps (defScope st)) (len:∀vs H Q E,sp vs H Q E->vs.length=ps.length)
  (hbody:∀(cdv:Value) (A:Around) (outer:List Env) (s:Shared) (H:Hp) (vs:List V) (Q:VK) (E:XK),Room k (A.deeper (envOfC qual (defScope st) s.heap.objs.size f cdv))->sp vs H Q E->
   ∃t,PSs (cxOf CX0 P w K mg base N qual (defScope st) f cdv A outer s H E).nox (defBody st) t/\t { nx:=fun _ H'=>Q .non H',rt:=Q } (start N vs) H):FnOk P w K mg base CX0 (k+1) f fd ps sp:=by
 obtain ⟨oc,od,kV,doc,pm,an,cdv,ct,osl,rfl,lk,hcd⟩:=F.ex
 refine QQ lk hcd S len fun A outer s H vs Q E hr hsp=>?_
 obtain ⟨t,h,q⟩:=hbody cdv A outer s H vs Q E hr hsp
 exact ⟨t,h.nox,q⟩
theorem Fun.binds {x qual:Str} {st:Stmt} {f:Addr} {fd:FuncData} {ps:List Str} (F:Fun K x qual st f fd)
  (h:∀(kV doc pm:Value) (an:Option Addr) (cdv ct:Value) (us:List Value),us.length=ps.length->bindArgs (PySem.W.fnOf x qual (defArgs st) (defBody st) (defScope st) .none kV doc pm an cdv ct) ⟨us,[]⟩=pure (ps.zip us)):Binds K fd ps []:=by
 obtain ⟨oc,od,kV,doc,pm,an,cdv,ct,osl,rfl,lk,hcd⟩:=F.ex
 exact .all (h kV doc pm an cdv ct)
theorem ZB {x qual:Str} {st:Stmt} {f:Addr} {oc:Value} {od an:Option Addr} {osl:Array (Option Value)} {kV doc pm cdv ct:Value} (l:K.lookup f=some ⟨oc,od,.func (PySem.W.fnOf x qual (defArgs st) (defBody st) (defScope st) .none kV doc pm an cdv ct),osl⟩)
  (c:PySem.W.codeIn K cdv qual=true) (k:PySem.W.keepIn K (.ref f)=true):Fun K x qual st f (PySem.W.fnOf x qual (defArgs st) (defBody st) (defScope st) .none kV doc pm an cdv ct):=⟨⟨oc,od,kV,doc,pm,an,cdv,ct,osl,rfl,l,c⟩,k⟩
end
section
variable {X:Cx}
end
theorem iteF {A B:Prop} (h:B):if false=true then A else B:=by
 rw [if_neg Bool.false_ne_true]
 exact h
theorem iteT {A B:Prop} (h:A):if true=true then A else B:=by
 rw [if_pos rfl]
 exact h
def Same (H H':Hp):Prop:=∀b o,H b=some o->H' b=some o
theorem Same.refl (H:Hp):Same H H:=fun _ _ h=>h
theorem Same.trans {H H1 H2:Hp} (a:Same H H1) (b:Same H1 H2):Same H H2:=fun c o h=>b c o (a c o h)
theorem Same.seq {K:PySem.W.Frag} {H H':Hp} {a:Addr} {xs:List V} (e:Same H H') (h:SqL K H a xs):SqL K H' a xs:=by
 rcases h with (h | ⟨o,h⟩) | h
 ·exact .inl (.inl (e _ _ h))
 ·exact .inl (.inr ⟨o,e _ _ h⟩)
 ·exact .inr h
section
variable {κ:Type} [DecidableEq κ]
end
section
variable {P:Program} {w:World} {H:Hp} {h:Heap} {a:Addr}
end
section
variable {X:Cx} {pins:List (Addr×Obj)} {σ:St} {H:Hp} {s:Shared} {a:Addr} {y v:V} {u r:Value} {o:Option V} {A:Around} {E:Value->Shared->Prop}
end
section
variable {X:Cx} {pins:List (Addr×Obj)} {σ:St} {H:Hp} {s:Shared} {a:Addr} {kvs:List (Key×V)} {k:Key} {u:Value} {A:Around} {E:Value->Shared->Prop}
end
def NoSl (i:Expr):Prop:=∀ov iv,subscripted i false ov iv=operate [ov,iv] (getItem ov iv)
theorem J7 {prog:Program} {w:World} {A:Around} {E:Value->Shared->Prop} {s:Shared} {env:Env} {value slice:Expr} {pos:Pos} {T id:String} {Q:Value->Shared->Prop}
  (hl:typeLookup (.type T) "__getitem__" =pure (some (.builtin id))) (hs:NoSl slice)
  (h:wpAny (model prog w) A (eval value env) (fun o s₁=>wpAny (model prog w) A (eval slice env) (fun i s₂=>s₂.TypeIs o T/\wpAny (model prog w) A (getItem o i) Q E s₂) E s₁) E s):
  wpAny (model prog w) A (eval (.Subscript value slice pos) env) Q E s:=by
 refine Subscript_ (wpAny_mono h (fun o s₁ h₁=>wpAny_mono h₁ (fun i s₂ h₂=>?_) fun _ _ x=>x) fun _ _ x=>x)
 obtain ⟨hT,h₂⟩:=h₂
 unfold subscriptTail
 refine wpAny_bind ?_
 rw [getitemInPython_of_ne hT.not_modules]
 refine wpAny_bind (wpAny_specialOf hT hl ?_)
 have fin:wpAny (model prog w) A (subscripted slice false o i) (fun r s₃=>wpAny (model prog w) A (letTemporaryGo value o r>>=fun _=>pure r) Q E s₃) E s₂:=by
  rw [hs o i]
  exact wpAny_operating (wpAny_mono h₂ (fun r s₃ h₃=>wpAny_bind (wpAny_letTemporaryGo (wpAny_pure h₃))) fun _ _ x=>x)
 first
  | exact wpAny_pure (wpAny_bind fin)
  | exact wpAny_bind (wpAny_pure (wpAny_bind fin))
  | exact wpAny_bind fin
section
variable {X:Cx} {o i e value:Expr} {pos pos' tpos:Pos} {td ty tv:TE}
end
section
variable {X:Cx} {pos:Pos}
end
structure M1 (X:Cx) (o:Expr) (m:Str) (apos:Pos) (e:Expr) (cpos:Pos):Prop where
 base:attributeBase o m X.env (eval o X.env)=eval o X.env
 few:((backTo cpos (starEach [e] X.env)).all (fun x=> !x.1) && (backToKw cpos (keywordEach [] X.env)).all (fun x=>x.1.isSome)
  && decide (([e]:List Expr).length+([]:List Keyword).length+(if ([]:List Keyword).isEmpty then 0 else 1)<30))=true
 line:(apos.endLine==cpos.line)=true
 trees:backTo cpos (starEach [e] X.env)=[(false,eval e X.env)]
structure M2 (X:Cx) (o:Expr) (m:Str) (apos:Pos) (e f:Expr) (cpos:Pos):Prop where
 base:attributeBase o m X.env (eval o X.env)=eval o X.env
 few:((backTo cpos (starEach [e,f] X.env)).all (fun x=> !x.1) && (backToKw cpos (keywordEach [] X.env)).all (fun x=>x.1.isSome)
  && decide (([e,f]:List Expr).length+([]:List Keyword).length+(if ([]:List Keyword).isEmpty then 0 else 1)<30))=true
 line:(apos.endLine==cpos.line)=true
 trees:backTo cpos (starEach [e,f] X.env)=[(false,eval e X.env),(false,eval f X.env)]
section
variable {X:Cx} {pins:List (Addr×Obj)} {σ:St} {H:Hp} {s:Shared} {a:Addr} {y d:V} {u r:Value} {o:Option V} {A:Around} {E:Value->Shared->Prop}
end
section
variable {X:Cx} {o e f:Expr} {apos cpos:Pos} {td ty tx:TE}
end
end L2
namespace DL
open PySem L2
inductive D where
 | non | bl (b:Bool) | int (i:Int) | str (x:Str) | tup (xs:List D) | lst (xs:List D)
mutual
inductive Rep (K:PySem.W.Frag) (F:Hp):V->D->Prop
 | non:Rep K F .non .non
 | bl (b:Bool):Rep K F (.bl b) (.bl b)
 | int (i:Int):Rep K F (.int i) (.int i)
 | str (x:Str):Rep K F (.str x) (.str x)
 | tup {a:Addr} {vs:List V} {ds:List D}:SqT K F a vs->Reps K F vs ds->Rep K F (.ref a) (.tup ds)
 | lst {a:Addr} {vs:List V} {ds:List D}:SqL K F a vs->Reps K F vs ds->Rep K F (.ref a) (.lst ds)
inductive Reps (K:PySem.W.Frag) (F:Hp):List V->List D->Prop
 | nil:Reps K F [] []
 | cons {v:V} {vs:List V} {d:D} {ds:List D}:Rep K F v d->Reps K F vs ds->Reps K F (v::vs) (d::ds)
end
theorem yi {K:PySem.W.Frag} {H H':Hp} {a:Addr} {xs:List V} (e:Same H H') (h:SqT K H a xs):SqT K H' a xs:=by
 rcases h with (h | ⟨o,h⟩) | h
 ·exact .inl (.inl (e _ _ h))
 ·exact .inl (.inr ⟨o,e _ _ h⟩)
 ·exact .inr h
section
variable {K:PySem.W.Frag} {F F':Hp}
mutual
theorem Rep.mono (e:Same F F'):∀{v:V} {d:D},Rep K F v d->Rep K F' v d
 | _,_,.non=> .non
 | _,_,.bl b=> .bl b
 | _,_,.int i=> .int i
 | _,_,.str x=> .str x
 | _,_,.tup h r=> .tup (yi e h) (Reps.mono e r)
 | _,_,.lst h r=> .lst (e.seq h) (Reps.mono e r)
theorem Reps.mono (e:Same F F'):∀{vs:List V} {ds:List D},Reps K F vs ds->Reps K F' vs ds
 | _,_,.nil=> .nil
 | _,_,.cons r t=> .cons (Rep.mono e r) (Reps.mono e t)
end
theorem Reps.length:∀{vs:List V} {ds:List D},Reps K F vs ds->vs.length=ds.length
 | _,_,.nil=>rfl
 | _,_,.cons _ t=>congrArg (· +1) (Reps.length t)
theorem Reps.get:∀{vs:List V} {ds:List D} {i:Nat} {d:D},Reps K F vs ds->ds[i]? =some d->∃v,vs[i]? =some v/\Rep K F v d
 | _,_,_,_,.nil,e=>by simp at e
 | _,_,0,_,.cons r _,e=>by simp at e;subst e;exact ⟨_,rfl,r⟩
 | _,_,i+1,d,.cons _ t,e=>by
  obtain ⟨u,h1,h2⟩:=Reps.get (i:=i) (d:=d) t (by simpa using e)
  exact ⟨u,by simpa using h1,h2⟩
theorem Reps.append:∀{vs ws:List V} {ds es:List D},Reps K F vs ds->Reps K F ws es->Reps K F (vs++ws) (ds++es)
 | _,_,_,_,.nil,s=>s
 | _,_,_,_,.cons r t,s=> .cons r (Reps.append t s)
theorem Reps.ints:∀(ns:List Int),Reps K F (ns.map V.int) (ns.map D.int)
 | []=> .nil
 | n::r=> .cons (.int n) (Reps.ints r)
end
structure Ext (F H F' H':Hp):Prop where
 ff:Same F F'
 fh:Same F' H'
 hh:Same H H'
 fr:∀b,H b≠none->F b=none->F' b=none
theorem Ext.refl {F H:Hp} (h:Same F H):Ext F H F H:=⟨Same.refl F,h,Same.refl H,fun _ _ e=>e⟩
theorem Ext.trans {F H F1 H1 F2 H2:Hp} (a:Ext F H F1 H1) (b:Ext F1 H1 F2 H2):Ext F H F2 H2:=
 ⟨a.ff.trans b.ff,b.fh,a.hh.trans b.hh,fun c hc fc=>b.fr c (fun z=>by
  cases q:H c with
  | none=>exact hc q
  | some o=>rw [a.hh c o q] at z;cases z) (a.fr c hc fc)⟩
theorem Ext.new {F H:Hp} {p:Addr} (h:Same F H) (hp:H p=none) (o:HO):Ext F H (upd F p o) (upd H p o) where
 ff:=fun b u q=>by rw [xh (fun z=>by subst z;rw [h _ _ q] at hp;cases hp)];exact q
 fh:=fun b u q=>by
  by_cases e:b=p
  ·subst e;rw [xp] at q ⊢;exact q
  ·rw [xh e] at q ⊢;exact h _ _ q
 hh:=fun b u q=>by rw [xh (xk q hp)];exact q
 fr:=fun b hb fb=>by rw [xh (fun z=>hb (by rw [z];exact hp))];exact fb
def ExcAt (D:Addr) (dx:Option Addr) (x:Addr) (h:Heap):Prop:=∃o vs,h.get? x=some o/\o.cls= .ref D/\o.data= .fields vs/\∀d,dx=some d->o.dict=some d
structure Thing where
 φ:PySem.W.Frag->Hp->Addr->HO->Prop
 keep:∀{K:PySem.W.Frag} {F F':Hp} {a:Addr} {o:HO},Same F F'->φ K F a o->φ K F' a o
def ThgOk (t:Thing) (K:PySem.W.Frag) (F:Hp) (a:Addr) (o:HO):Prop:=t.φ K F a o
theorem ThgOk.mono {t:Thing} {K:PySem.W.Frag} {F F':Hp} {a:Addr} {o:HO} (e:Same F F') (h:ThgOk t K F a o):ThgOk t K F' a o:=t.keep e h
def LstAt (l:Addr) (vs:List V) (h:Heap):Prop:=vs.length<=sizeLine/\∃(its:List Value) (n:Nat),Vals vs its/\h.get? l=some { cls:= .type "list",data:= .seq its.toArray n }
def NotDsk (a:Addr) (o:HO):Prop:=(∀C dx fs,o≠ .ins C dx fs)/\∀vs,o≠ .ext (LstAt a vs)
def ThgX (t:Thing) (K:PySem.W.Frag) (F:Hp) (a:Addr) (o:HO):Prop:=ThgOk t K F a o/\NotDsk a o
theorem ThgX.mono {t:Thing} {K:PySem.W.Frag} {F F':Hp} {a:Addr} {o:HO} (e:Same F F') (h:ThgX t K F a o):ThgX t K F' a o:=⟨h.1.mono e,h.2⟩
def dskF (x y:V) (l:Addr):List (Str×V):=[("prime",x),("spot",y),("earlier",.ref l)]
def DskOk (K:PySem.W.Frag) (H₀ F H:Hp) (a l C:Addr) (p s:D) (past:List D):Prop:=
 ∃dx vs x y,H a=some (.ins C dx (dskF x y l))/\H l=some (.ext (LstAt l vs))/\(∃h,LstAt l vs h)/\F a=none/\F l=none/\H₀ a=none/\H₀ l=none/\Rep K F x p/\Rep K F y s/\Reps K F vs past
theorem DskOk.upd {K:PySem.W.Frag} {H₀ F H:Hp} {a l C b:Addr} {p s:D} {past:List D} {o o':HO} (h:DskOk K H₀ F H a l C p s past) (hb:H b=some o) (n:NotDsk b o):DskOk K H₀ F (L2.upd H b o') a l C p s past:=by
 obtain ⟨dx,vs,x,y,h1,h2,h3,h4,h5,h6,h7,r1,r2,r3⟩:=h
 have ea:a≠b:=fun z=>by rw [<-z,h1] at hb;cases hb;exact n.1 _ _ _ rfl
 have el:l≠b:=fun z=>by subst z;rw [h2] at hb;cases hb;exact n.2 _ rfl
 exact ⟨dx,vs,x,y,by rw [xh ea];exact h1,by rw [xh el];exact h2,h3,h4,h5,h6,h7,r1,r2,r3⟩
theorem DskOk.new {K:PySem.W.Frag} {H₀ F H:Hp} {a l C b:Addr} {p s:D} {past:List D} {o:HO} (h:DskOk K H₀ F H a l C p s past) (hb:H b=none):DskOk K H₀ F (L2.upd H b o) a l C p s past:=by
 obtain ⟨dx,vs,x,y,h1,h2,h3,h4,h5,h6,h7,r1,r2,r3⟩:=h
 exact ⟨dx,vs,x,y,by rw [xh (xk h1 hb)];exact h1,by rw [xh (xk h2 hb)];exact h2,h3,h4,h5,h6,h7,r1,r2,r3⟩
theorem DskOk.frz {K:PySem.W.Frag} {H₀ F H:Hp} {a l C b:Addr} {p s:D} {past:List D} {o o':HO} (h:DskOk K H₀ F H a l C p s past) (hb:H b=some o) (n:NotDsk b o) (sm:Same F (L2.upd F b o')):DskOk K H₀ (L2.upd F b o') H a l C p s past:=by
 obtain ⟨dx,vs,x,y,h1,h2,h3,h4,h5,h6,h7,r1,r2,r3⟩:=h
 have ea:a≠b:=fun z=>by rw [<-z,h1] at hb;cases hb;exact n.1 _ _ _ rfl
 have el:l≠b:=fun z=>by subst z;rw [h2] at hb;cases hb;exact n.2 _ rfl
 exact ⟨dx,vs,x,y,h1,h2,h3,by rw [xh ea];exact h4,by rw [xh el];exact h5,h6,h7,r1.mono sm,r2.mono sm,r3.mono sm⟩
theorem Zu {a:Addr} {vs:List V}:NotDsk a (.lst vs):=⟨fun _ _ _ z=>(by cases z),fun _ z=>(by cases z)⟩
theorem xb7 {a:Addr} {kv:List (Key×V)}:NotDsk a (.dK kv):=⟨fun _ _ _ z=>(by cases z),fun _ z=>(by cases z)⟩
def DskT (C:Addr) (p s:D):Thing:=⟨fun K F _ o=>∃dx l x y,o= .ins C dx (dskF x y l)/\Rep K F x p/\Rep K F y s,fun e ⟨dx,l,x,y,h,r1,r2⟩=>⟨dx,l,x,y,h,r1.mono e,r2.mono e⟩⟩
inductive Slot where
 | un | val (d:D) | own (ds:List D) | exc (C:Addr) (dx:Option Addr) | dic (kvs:List (Int×D)) | thg (t:Thing) | bor (t:Thing) | dsk (a l C:Addr) (p s:D) (past:List D) | fnv (f:Addr)
def slot:List Slot->Nat->Slot
 | [],_=> .un
 | x::_,0=>x
 | _::r,n+1=>slot r n
def put:List Slot->Nat->Slot->List Slot
 | [],_,_=>[]
 | _::r,0,y=>y::r
 | x::r,n+1,y=>x::put r n y
theorem ya (y:Slot):∀(c:List Slot) (i:Nat),(put c i y).length=c.length
 | [],_=>rfl
 | _::_,0=>rfl
 | _::r,n+1=>congrArg (· +1) (ya y r n)
theorem xq (y:Slot):∀(c:List Slot) (i j:Nat),i≠j->slot (put c i y) j=slot c j
 | [],_,_,_=>rfl
 | _::_,0,0,h=>absurd rfl h
 | _::_,0,_+1,_=>rfl
 | _::_,_+1,0,_=>rfl
 | _::r,n+1,m+1,h=>xq y r n m (fun z=>h (by rw [z]))
theorem Xo:∀(c:List Slot) (i:Nat),put c i (slot c i)=c
 | [],_=>rfl
 | _::_,0=>rfl
 | x::r,n+1=>congrArg (x:: ·) (Xo r n)
theorem xY (y:Slot):∀(c:List Slot) (i:Nat),i<c.length->slot (put c i y) i=y
 | [],_,h=>by simp at h
 | _::_,0,_=>rfl
 | _::r,n+1,h=>xY y r n (by simpa using h)
structure DRep (K:PySem.W.Frag) (F:Hp) (kv:List (Key×V)) (kvs:List (Int×D)):Prop where
 ks:kv.map (·.1)=kvs.map fun q=>Sum.inl q.1
 vs:Reps K F (kv.map (·.2)) (kvs.map (·.2))
theorem DRep.mono {K:PySem.W.Frag} {F F':Hp} {kv:List (Key×V)} {kvs:List (Int×D)} (e:Same F F') (h:DRep K F kv kvs):DRep K F' kv kvs:=⟨h.ks,h.vs.mono e⟩
def SlotOk (K:PySem.W.Frag) (H₀ F H:Hp) (v:Option (Option V)):Slot->Prop
 | .un=>True
 | .val d=>∃x,v=some (some x)/\Rep K F x d
 | .own ds=>∃a vs,v=some (some (.ref a))/\H a=some (.lst vs)/\F a=none/\H₀ a=none/\Reps K F vs ds
 | .exc C dx=>∃a,v=some (some (.ref a))/\H a=some (.ext (ExcAt C dx a))
 | .dic kvs=>∃a kv,v=some (some (.ref a))/\H a=some (.dK kv)/\F a=none/\H₀ a=none/\DRep K F kv kvs
 | .thg t=>∃a o,v=some (some (.ref a))/\H a=some o/\F a=none/\H₀ a=none/\ThgX t K F a o
 | .bor t=>∃a o,v=some (some (.ref a))/\H₀ a=some o/\ThgOk t K F a o
 | .dsk a l C p s past=>v=some (some (.ref a))/\DskOk K H₀ F H a l C p s past
 | .fnv f=>v=some (some (.ref f))
def isOwn:Slot->Bool
 | .own _=>true
 | .dic _=>true
 | .thg _=>true
 | .dsk _ _ _ _ _ _=>true
 | _=>false
structure Env (K:PySem.W.Frag) (F₀ H₀ F H:Hp) (σ:St) (c:List Slot):Prop where
 ext:Ext F₀ H₀ F H
 len:σ.length=c.length
 sl:∀i,SlotOk K H₀ F H σ[i]? (slot c i)
 inj:∀(i j:Nat) (a:Addr),isOwn (slot c i)=true->isOwn (slot c j)=true->σ[i]? =some (some (V.ref a))->σ[j]? =some (some (V.ref a))->i=j
section
variable {K:PySem.W.Frag} {F₀ H₀ F H F' H':Hp} {σ:St} {c:List Slot}
theorem SlotOk.ext {v:Option (Option V)} (e:Ext F H F' H'):∀{s:Slot},SlotOk K H₀ F H v s->SlotOk K H₀ F' H' v s
 | .un,_=>trivial
 | .val d,⟨x,h,r⟩=>⟨x,h,r.mono e.ff⟩
 | .own ds,⟨a,vs,h,h1,h2,h3,r⟩=>⟨a,vs,h,e.hh _ _ h1,e.fr a (by rw [h1];exact fun z=>nomatch z) h2,h3,r.mono e.ff⟩
 | .exc C dx,⟨a,h,h1⟩=>⟨a,h,e.hh _ _ h1⟩
 | .dic kvs,⟨a,kv,h,h1,h2,h3,r⟩=>⟨a,kv,h,e.hh _ _ h1,e.fr a (by rw [h1];exact fun z=>nomatch z) h2,h3,r.mono e.ff⟩
 | .thg t,⟨a,o,h,h1,h2,h3,r⟩=>⟨a,o,h,e.hh _ _ h1,e.fr a (by rw [h1];exact fun z=>nomatch z) h2,h3,r.mono e.ff⟩
 | .bor t,⟨a,o,h,h1,r⟩=>⟨a,o,h,h1,r.mono e.ff⟩
 | .fnv f,h=>h
 | .dsk a l C p s past,⟨h,r⟩=>⟨h,by
  obtain ⟨dx,vs,x,y,h1,h2,h3,h4,h5,h6,h7,r1,r2,r3⟩:=r
  exact ⟨dx,vs,x,y,e.hh _ _ h1,e.hh _ _ h2,h3,e.fr a (by rw [h1];exact fun z=>nomatch z) h4,e.fr l (by rw [h2];exact fun z=>nomatch z) h5,h6,h7,r1.mono e.ff,r2.mono e.ff,r3.mono e.ff⟩⟩
theorem Env.grow (E:Env K F₀ H₀ F H σ c) (e:Ext F H F' H'):Env K F₀ H₀ F' H' σ c:=⟨E.ext.trans e,E.len,fun i=>(E.sl i).ext e,E.inj⟩
theorem Env.val (E:Env K F₀ H₀ F H σ c) {i:Nat} {d:D} (h:slot c i= .val d):∃x,σ[i]? =some (some x)/\Rep K F x d:=by
 have q:=E.sl i
 rw [h] at q
 exact q
theorem Env.fh (E:Env K F₀ H₀ F H σ c):Same F H:=E.ext.fh
theorem Env.set (E:Env K F₀ H₀ F H σ c) {i:Nat} {x:V} {d:D} (hi:i<c.length) (r:Rep K F x d):Env K F₀ H₀ F H (σ.set i (some x)) (put c i (.val d)) where
 ext:=E.ext
 len:=by rw [List.length_set,ya];exact E.len
 sl:=fun j=>by
  by_cases e:i=j
  ·subst e
   rw [xY _ _ _ hi,List.getElem?_set_self (by rw [E.len];exact hi)]
   exact ⟨x,rfl,r⟩
  ·rw [xq _ _ _ _ e,List.getElem?_set_ne e]
   exact E.sl j
 inj:=fun j k a h1 h2 h3 h4=>by
  by_cases e:i=j
  ·subst e;rw [xY _ _ _ hi] at h1;cases h1
  ·by_cases e2:i=k
   ·subst e2;rw [xY _ _ _ hi] at h2;cases h2
   ·rw [xq _ _ _ _ e] at h1
    rw [xq _ _ _ _ e2] at h2
    rw [List.getElem?_set_ne e] at h3
    rw [List.getElem?_set_ne e2] at h4
    exact E.inj j k a h1 h2 h3 h4
end
structure Cy where
 X:Cx
 F0:Hp
 H0:Hp
abbrev EnvY (Y:Cy) (F H:Hp) (σ:St) (c:List Slot):Prop:=Env Y.X.K Y.F0 Y.H0 F H σ c
def tD (Y:Cy) (c:List Slot) (d:D):TE:=fun σ H Q=>∃F,EnvY Y F H σ c/\∀v F' H',Ext F H F' H'->Rep Y.X.K F' v d->Q v H'
def tT (Y:Cy) (c:List Slot) (b:Bool):TT:=fun σ H Q=>∃F,EnvY Y F H σ c/\∀F' H',Ext F H F' H'->Q b H'
def tA (Y:Cy) (c:List Slot) (ds:List D):TA:=fun σ H Q=>∃F,EnvY Y F H σ c/\∀vs F' H',Ext F H F' H'->Reps Y.X.K F' vs ds->Q vs H'
def EvD (Y:Cy) (e:Expr) (c:List Slot) (d:D):Prop:=PE Y.X e (tD Y c d)
def TeD (Y:Cy) (e:Expr) (c:List Slot) (b:Bool):Prop:=PT Y.X e (tT Y c b)
def ArD (Y:Cy) (es:List Expr) (c:List Slot) (ds:List D):Prop:=PA Y.X es (tA Y c ds)
inductive Out where
 | nx (c:List Slot) | rt (d:D) | bk (c:List Slot) | ct (c:List Slot) | ro (ds:List D) | rs (R:PySem.W.Frag->Hp->Hp->V->Hp->Prop)
def Meets (Y:Cy) (F:Hp) (D:Ends):Out->Prop
 | .nx c=>∀σ F' H,Same F F'->EnvY Y F' H σ c->D.nx σ H
 | .rt d=>∀v F' H,Same F F'->Ext Y.F0 Y.H0 F' H->Rep Y.X.K F' v d->D.rt v H
 | .bk c=>∀σ F' H,Same F F'->EnvY Y F' H σ c->D.bk σ H
 | .ct c=>∀σ F' H,Same F F'->EnvY Y F' H σ c->D.ct σ H
 | .ro ds=>∀vs F' H p,Same F F'->Ext Y.F0 Y.H0 F' H->Reps Y.X.K F' vs ds->H p=none->D.rt (.ref p) (upd H p (.lst vs))
 | .rs R=>∀v F' H1 H,Same F F'->Ext Y.F0 Y.H0 F' H1->R Y.X.K F' H1 v H->D.rt v H
theorem Meets.grow {Y:Cy} {F F1:Hp} {D:Ends} (s:Same F F1):∀{o:Out},Meets Y F D o->Meets Y F1 D o
 | .nx _,m=>fun σ F' H s' E=>m σ F' H (s.trans s') E
 | .rt _,m=>fun v F' H s' E r=>m v F' H (s.trans s') E r
 | .bk _,m=>fun σ F' H s' E=>m σ F' H (s.trans s') E
 | .ct _,m=>fun σ F' H s' E=>m σ F' H (s.trans s') E
 | .ro _,m=>fun vs F' H p s' E r hp=>m vs F' H p (s.trans s') E r hp
 | .rs _,m=>fun v F' H1 H s' E r=>m v F' H1 H (s.trans s') E r
def tS (Y:Cy) (c:List Slot) (P:Out->Prop):TS:=fun D σ H=>∃F,EnvY Y F H σ c/\∀o,P o->Meets Y F D o
def StD (Y:Cy) (st:Stmt) (c:List Slot) (P:Out->Prop):Prop:=PS Y.X st (tS Y c P)
def SsD (Y:Cy) (st:List Stmt) (c:List Slot) (P:Out->Prop):Prop:=PSs Y.X st (tS Y c P)
def Thn (Y:Cy) (rest:List Stmt) (P:Out->Prop):Out->Prop
 | .nx c=>SsD Y rest c P
 | o=>P o
theorem xbM:bootBuiltins "abs" =some (.builtin "abs"):=by decide+kernel
theorem xbK:bootBuiltins "max" =some (.builtin "max"):=by decide+kernel
theorem JI:bootBuiltins "min" =some (.builtin "min"):=by decide+kernel
theorem Ww:bootBuiltins "len" =some (.builtin "len"):=by decide+kernel
theorem zD:bootBuiltins "isinstance" =some (.builtin "isinstance"):=by decide+kernel
theorem qh:bootBuiltins "int" =some (.type "int"):=by decide+kernel
theorem ZS:bootBuiltins "bool" =some (.type "bool"):=by decide+kernel
theorem xZ:bootBuiltins "tuple" =some (.type "tuple"):=by decide+kernel
theorem Wv:bootBuiltins "str" =some (.type "str"):=by decide+kernel
structure Tx where
 prog:Program
 w:World
 K:PySem.W.Frag
 mg:Str->Option Value
 base:Heap
structure ScB (N ps G:List Str) (sc:Scope):Prop where
 fs:FnScope N ps sc
 loc:∀x∈N,(sc.names.lookup x=some .local∨sc.names.lookup x=some .cell)/\(x==("__debug__" :Str))=false/\(x==("__classdict__" :Str))=false
 gl:∀x∈G,sc.names.lookup x=some .globalImplicit/\(x==("__debug__" :Str))=false/\x≠ "__name__"
structure Sn (Y:Cy) (T:Tx) (N G:List Str):Prop where
 eP:Y.X.prog=T.prog
 eW:Y.X.w=T.w
 eK:Y.X.K=T.K
 eM:Y.X.mg=T.mg
 eB:Y.X.base=T.base
 n:Y.X.N=N
 nd:N.Nodup
 loc:∀x∈N,Loc Y.X.env.scope x/\(x==("__debug__" :Str))=false/\(x==("__classdict__" :Str))=false
 gl:∀x∈G,Gl Y.X x/\(x==("__debug__" :Str))=false/\x≠ "__name__"
structure Se (Y:Cy) (T:Tx) (k:Nat) (N G:List Str):Prop extends Sn Y T N G where
 calm:Y.X.calm=true
 room:Room k Y.X.A
structure Sc (Y:Cy) (T:Tx) (k:Nat) (N G:List Str):Prop extends Se Y T k N G where
 fn:∀y,Y.X.fn y=true
 hp:PassesOwn (model Y.X.prog Y.X.w) Y.X.A Y.X.env Y.X.xe
structure Fx (Y:Cy) (st:Stmt):Prop where
 sc:Y.X.env.scope=defScope st
 ex:Y.X.ex=[]
 stk:Y.X.stack=Y.X.env::Y.X.outer/\Y.X.env.frame=some Y.X.env.locals
theorem PE.imp {X:Cx} {e:Expr} {t t':TE} (h:PE X e t) (i:∀σ H Q,t' σ H Q->t σ H Q):PE X e t':=fun pins s σ H Q I q=>h pins s σ H Q I (i _ _ _ q)
theorem PT.imp {X:Cx} {e:Expr} {t t':TT} (h:PT X e t) (i:∀σ H Q,t' σ H Q->t σ H Q):PT X e t':=fun pins s σ H Q I q=>h pins s σ H Q I (i _ _ _ q)
theorem PA.imp {X:Cx} {e:List Expr} {t t':TA} (h:PA X e t) (i:∀σ H Q,t' σ H Q->t σ H Q):PA X e t':=fun pos pins s σ H Q I q=>h pos pins s σ H Q I (i _ _ _ q)
theorem PS.imp {X:Cx} {e:Stmt} {t t':TS} (h:PS X e t) (i:∀D σ H,t' D σ H->t D σ H):PS X e t':=fun pins s σ H Q I q=>h pins s σ H Q I (i _ _ _ q)
theorem PSs.imp {X:Cx} {e:List Stmt} {t t':TS} (h:PSs X e t) (i:∀D σ H,t' D σ H->t D σ H):PSs X e t':=fun pins s σ H Q I q=>h pins s σ H Q I (i _ _ _ q)
section
variable {Y:Cy} {T:Tx} {k:Nat} {N G:List Str} {c:List Slot} {a b e:Expr} {es:List Expr} {pos:Pos} {d d1 d2:D} {ds:List D} {P:Out->Prop} {rest:List Stmt}
theorem xb (S:Se Y T k N G) (i:Nat) {x:Str} (hN:N[i]? =some x:=by rfl) (hs:slot c i= .val d:=by rfl):EvD Y (.Name x pos) c d:=by
 have hx:=S.loc x (List.mem_of_getElem? hN)
 rw [<-S.n] at hN
 exact PE.imp (xU hN (hx.1.elim .inl fun h=> .inr (.inl h)) hx.2.1 hx.2.2) fun σ H Q ⟨F,E,q⟩=>
  let ⟨x,ex,r⟩:=E.val hs
  ⟨x,ex,q x F H (Ext.refl E.fh) r⟩
theorem wd {v:V} (h:PE Y.X e (tC v)) (r:∀F,Rep Y.X.K F v d):EvD Y e c d:=
 PE.imp h fun σ H Q ⟨F,E,q⟩=>q v F H (Ext.refl E.fh) (r F)
theorem xf {i:Int} {j}:EvD Y (.Constant (.int i) j pos) c (.int i):=wd xa8 fun _=> .int i
theorem yr {i:Bool} {j}:EvD Y (.Constant (.bool i) j pos) c (.bl i):=wd xb3 fun _=> .bl i
theorem vA {j}:EvD Y (.Constant .none j pos) c .non:=wd xa7 fun _=> .non
theorem xl {x:Str} {j}:EvD Y (.Constant (.str x) j pos) c (.str x):=wd xa5 fun _=> .str x
theorem zp {t:TE} {ta tb:TE} {r:R2} (h:PE Y.X e (tOp r (tD Y c d1) (tD Y c d2)))
  (hr:∀x y F H Q,Same F H->Rep Y.X.K F x d1->Rep Y.X.K F y d2->(∀v F' H',Ext F H F' H'->Rep Y.X.K F' v d->Q v H')->r x y H Q):EvD Y e c d:=
 PE.imp h fun σ H Q ⟨F,E,q⟩=>⟨F,E,fun x F1 H1 e1 r1=>⟨F1,E.grow e1,fun y F2 H2 e2 r2=>
  hr x y F2 H2 Q e2.fh (r1.mono e2.ff) r2 fun v F3 H3 e3 r3=>q v F3 H3 (e1.trans (e2.trans e3)) r3⟩⟩
theorem xby {r:V->Hp->VK->Prop} (h:PE Y.X e (tUn r (tD Y c d1)))
  (hr:∀x F H Q,Same F H->Rep Y.X.K F x d1->(∀v F' H',Ext F H F' H'->Rep Y.X.K F' v d->Q v H')->r x H Q):EvD Y e c d:=
 PE.imp h fun σ H Q ⟨F,E,q⟩=>⟨F,E,fun x F1 H1 e1 r1=>hr x F1 H1 Q e1.fh r1 fun v F3 H3 e3 r3=>q v F3 H3 (e1.trans e3) r3⟩
section
variable {i j:Int}
theorem xD {K:PySem.W.Frag} {F:Hp} {x:V} {i:Int} (r:Rep K F x (.int i)):x= .int i:=by cases r;rfl
theorem y6 {K:PySem.W.Frag} {F:Hp} {x:V} {i:Bool} (r:Rep K F x (.bl i)):x= .bl i:=by cases r;rfl
theorem xO {K:PySem.W.Frag} {F:Hp} {x:V} {i:Str} (r:Rep K F x (.str i)):x= .str i:=by cases r;rfl
theorem uE {K:PySem.W.Frag} {F:Hp} {x:V} {ds:List D} (r:Rep K F x (.tup ds)):∃a vs,x= .ref a/\SqT K F a vs/\Reps K F vs ds:=by cases r with | tup h t=>exact ⟨_,_,rfl,h,t⟩
theorem yV {K:PySem.W.Frag} {F:Hp} {x:V} {ds:List D} (r:Rep K F x (.lst ds)):∃a vs,x= .ref a/\SqL K F a vs/\Reps K F vs ds:=by cases r with | lst h t=>exact ⟨_,_,rfl,h,t⟩
theorem qI {op:Operator} {C:Int->Int->Prop} {g:Int->Int->Int} (ho:OpR Y.X (binaryOp op) (rI C fun i j=> .int (g i j))) (ha:EvD Y a c (.int i)) (hb:EvD Y b c (.int j)) (hc:C i j):EvD Y (.BinOp a op b pos) c (.int (g i j)):=
 zp (t:=tC .non) (ta:=tC .non) (tb:=tC .non) (WU ho ha hb) fun x y F H Q f rx ry q=>⟨i,j,xD rx,xD ry,hc,q _ F H (Ext.refl f) (.int _)⟩
theorem YD {op:Operator} {g:Int->Int->Int} (ho:OpR Y.X (binaryOp op) (rI0 fun i j=> .int (g i j))) (ha:EvD Y a c (.int i)) (hb:EvD Y b c (.int j)):EvD Y (.BinOp a op b pos) c (.int (g i j)):=
 zp (t:=tC .non) (ta:=tC .non) (tb:=tC .non) (WU ho ha hb) fun x y F H Q f rx ry q=>⟨i,j,xD rx,xD ry,q _ F H (Ext.refl f) (.int _)⟩
theorem yA (ha:EvD Y a c (.int i)) (hb:EvD Y b c (.int j)):EvD Y (.BinOp a .Add b pos) c (.int (i+j)):=YD xbd ha hb
theorem qf (ha:EvD Y a c (.int i)) (hb:EvD Y b c (.int j)):EvD Y (.BinOp a .Sub b pos) c (.int (i - j)):=YD xa9 ha hb
def Bd (n:Nat) (i:Int):Prop:=i.natAbs<2^n
instance {n:Nat} {i:Int}:Decidable (Bd n i):=inferInstanceAs (Decidable (i.natAbs<2^n))
theorem KA {X:Cx}:OpR X (binaryOp .Mult) (rI (fun i j=>IntMulOk i j) fun i j=> .int (i*j)):=opI fun _ _ _ _ _ _ _ hc q=>PyProof.Rows.mul_int q hc
theorem ZT {n:Nat} {i:Int} (h:Bd n i):Builtin.Int.intBits i<=n:=by
 unfold Builtin.Int.intBits
 split
 ·exact Nat.zero_le _
 ·rename_i h0
  have hn:i.natAbs≠0:=fun z=>h0 (by simpa using z)
  have:i.natAbs.log2<n:=(Nat.log2_lt hn).mpr h
  omega
theorem mulOk {m n:Nat} {i j:Int} (h1:Bd m i) (h2:Bd n j) (h:m+n<=134217728):IntMulOk i j:=PySem.IntMulOk.of_le (ZT h1) (ZT h2) h
theorem xF (ha:EvD Y a c (.int i)) (hb:EvD Y b c (.int j)) (hm:IntMulOk i j):EvD Y (.BinOp a .Mult b pos) c (.int (i*j)):=qI KA ha hb hm
theorem kN {X:Cx}:OpR X (binaryOp .FloorDiv) (rI (fun i j=>j≠0/\Bd 9000 j) fun i j=> .int (i.fdiv j)):=opI fun _ j _ _ _ _ _ hc q=>PyProof.Rows.floordiv_int hc.1 q (.inl (PyProof.noPylong_of_log2 (by
 have hn:j.natAbs≠0:=fun z=>hc.1 (Int.natAbs_eq_zero.mp z)
 exact (Nat.log2_lt hn).mpr hc.2)))
theorem wc (ha:EvD Y a c (.int i)) (hb:EvD Y b c (.int j)) (hj:j≠0) (hm:Bd 9000 j):EvD Y (.BinOp a .FloorDiv b pos) c (.int (i.fdiv j)):=qI kN ha hb ⟨hj,hm⟩
theorem yf (ha:EvD Y a c (.int i)) (hb:EvD Y b c (.int j)) (hj:0<j) (hm:Bd 9000 j):EvD Y (.BinOp a .FloorDiv b pos) c (.int (i / j)):=by
 have h:=wc (pos:=pos) ha hb (by omega) hm
 rw [Int.fdiv_eq_ediv_of_nonneg i (by omega)] at h
 exact h
theorem Jq (ha:EvD Y a c (.int i)) (hb:EvD Y b c (.int j)) (hj:j≠0):EvD Y (.BinOp a .Mod b pos) c (.int (i.fmod j)):=qI KB ha hb hj
theorem xG (ha:EvD Y a c (.int i)) (hb:EvD Y b c (.int j)) (hj:0<j):EvD Y (.BinOp a .Mod b pos) c (.int (i%j)):=qI xbb ha hb hj
theorem vz (ha:EvD Y a c (.int i)) (hb:EvD Y b c (.int j)) (hj:CPow i j):EvD Y (.BinOp a .Pow b pos) c (.int (i^j.toNat)):=qI xba ha hb hj
theorem ZE (ha:EvD Y a c (.int i)):EvD Y (.UnaryOp .USub a pos) c (.int (-i)):=
 xby (xb2 xaI ha) fun x F H Q f rx q=>⟨i,xD rx,q _ F H (Ext.refl f) (.int _)⟩
theorem ZJ {op:CmpOp} {g:Int->Int->Bool} (ho:OpR Y.X (compareOp op) (rI0 fun i j=> .bl (g i j))) (hm:behindInMarks op b=false) (ha:EvD Y a c (.int i)) (hb:EvD Y b c (.int j)):EvD Y (.Compare a [op] [b] pos) c (.bl (g i j)):=
 zp (t:=tC .non) (ta:=tC .non) (tb:=tC .non) (vT ho ha hb hm) fun x y F H Q f rx ry q=>⟨i,j,xD rx,xD ry,q _ F H (Ext.refl f) (.bl _)⟩
theorem xcj (ha:EvD Y a c (.int i)) (hb:EvD Y b c (.int j)):EvD Y (.Compare a [.LtE] [b] pos) c (.bl (decide (i<=j))):=ZJ xaw (nomark _) ha hb
theorem xck (ha:EvD Y a c (.int i)) (hb:EvD Y b c (.int j)):EvD Y (.Compare a [.Gt] [b] pos) c (.bl (decide (j<i))):=ZJ xax (nomark _) ha hb
theorem xcl (ha:EvD Y a c (.int i)) (hb:EvD Y b c (.int j)):EvD Y (.Compare a [.GtE] [b] pos) c (.bl (decide (j<=i))):=ZJ xay (nomark _) ha hb
theorem Wj (ha:EvD Y a c (.int i)) (hb:EvD Y b c (.int j)):EvD Y (.Compare a [.Eq] [b] pos) c (.bl (decide (i=j))):=
 zp (t:=tC .non) (ta:=tC .non) (tb:=tC .non) (vT kO ha hb (nomark _)) fun x y F H Q f rx ry q=>by
  rw [xD rx,xD ry]
  refine ⟨rfl,?_⟩
  rw [wg]
  exact q _ F H (Ext.refl f) (.bl _)
end
theorem xQ {v:Bool} (h:EvD Y e c (.bl v)) (he:∀whole,isTrue e Y.X.env whole=(do let v <-whole;standAt e.pos;holding [v] (truthy v)):=by intro _;rfl):TeD Y e c v:=
 PT.imp (ku h he) fun σ H Q ⟨F,E,q⟩=>⟨F,E,fun x F1 H1 e1 r1=>⟨v,y6 r1,q F1 H1 e1⟩⟩
theorem zX {op:CmpOp} {r:R2} {v:Bool} (ho:OpR Y.X (compareOp op) r) (hm:behindInMarks op b=false) (ha:EvD Y a c d1) (hb:EvD Y b c d2)
  (hr:∀x y F H Q,Same F H->Rep Y.X.K F x d1->Rep Y.X.K F y d2->(∀F' H',Ext F H F' H'->Q (.bl v) H')->r x y H Q):TeD Y (.Compare a [op] [b] pos) c v:=
 PT.imp (Zg ho ha hb hm) fun σ H Q ⟨F,E,q⟩=>⟨F,E,fun x F1 H1 e1 r1=>⟨F1,E.grow e1,fun y F2 H2 e2 r2=>
  hr x y F2 H2 _ e2.fh (r1.mono e2.ff) r2 fun F3 H3 e3=>⟨v,rfl,q F3 H3 (e1.trans (e2.trans e3))⟩⟩⟩
section
variable {i j:Int}
theorem uy {op:CmpOp} {g:Int->Int->Bool} (ho:OpR Y.X (compareOp op) (rI0 fun i j=> .bl (g i j))) (hm:behindInMarks op b=false) (ha:EvD Y a c (.int i)) (hb:EvD Y b c (.int j)):TeD Y (.Compare a [op] [b] pos) c (g i j):=
 zX ho hm ha hb fun x y F H Q f rx ry q=>⟨i,j,xD rx,xD ry,q F H (Ext.refl f)⟩
theorem wZ (ha:EvD Y a c (.int i)) (hb:EvD Y b c (.int j)):TeD Y (.Compare a [.Lt] [b] pos) c (decide (i<j)):=uy xb4 (nomark _) ha hb
theorem xbX (ha:EvD Y a c (.int i)) (hb:EvD Y b c (.int j)):TeD Y (.Compare a [.LtE] [b] pos) c (decide (i<=j)):=uy xaw (nomark _) ha hb
theorem X7 (ha:EvD Y a c (.int i)) (hb:EvD Y b c (.int j)):TeD Y (.Compare a [.Gt] [b] pos) c (decide (j<i)):=uy xax (nomark _) ha hb
theorem xbY (ha:EvD Y a c (.int i)) (hb:EvD Y b c (.int j)):TeD Y (.Compare a [.GtE] [b] pos) c (decide (j<=i)):=uy xay (nomark _) ha hb
theorem yQ (ha:EvD Y a c (.int i)) (hb:EvD Y b c (.int j)):TeD Y (.Compare a [.Eq] [b] pos) c (decide (i=j)):=
 zX kO (nomark _) ha hb fun x y F H Q f rx ry q=>by
  rw [xD rx,xD ry]
  refine ⟨rfl,?_⟩
  rw [wg]
  exact q F H (Ext.refl f)
theorem yH (ha:EvD Y a c (.int i)) (hb:EvD Y b c (.int j)):TeD Y (.Compare a [.NotEq] [b] pos) c (!decide (i=j)):=
 zX xav (nomark _) ha hb fun x y F H Q f rx ry q=>by
  rw [xD rx,xD ry]
  refine ⟨rfl,?_⟩
  rw [wg]
  exact q F H (Ext.refl f)
end
theorem xR {v:Bool} (h:TeD Y a c v):TeD Y (.UnaryOp .Not a pos) c (!v):=
 PT.imp (kx h) fun σ H Q ⟨F,E,q⟩=>⟨F,E,fun F1 H1 e1=>q F1 H1 e1⟩
theorem zY {v w:Bool} (ha:TeD Y a c v) (hb:v=true->PW Y.X (.BoolOp .And (b::es) pos) (tT Y c w)):PW Y.X (.BoolOp .And (a::b::es) pos) (tT Y c (v && w)):=by
 cases v with
 | true=>
  intro whole pins s σ H Q I h
  refine kq ha (hb rfl) whole pins s σ H Q I ?_
  obtain ⟨F,E,q⟩:=h
  exact ⟨F,E,fun F1 H1 e1=>L2.iteT ⟨F1,E.grow e1,fun F2 H2 e2=>q F2 H2 (e1.trans e2)⟩⟩
 | false=>
  intro whole pins s σ H Q I h
  have hn:PW Y.X (.BoolOp .And (b::es) pos) (fun _ _ _=>False):=fun _ _ _ _ _ _ _ z=>z.elim
  refine kq ha hn whole pins s σ H Q I ?_
  obtain ⟨F,E,q⟩:=h
  exact ⟨F,E,fun F1 H1 e1=>L2.iteF (q F1 H1 e1)⟩
theorem yo {v w:Bool} (ha:TeD Y a c v) (hb:v=false->PW Y.X (.BoolOp .Or (b::es) pos) (tT Y c w)):PW Y.X (.BoolOp .Or (a::b::es) pos) (tT Y c (v || w)):=by
 cases v with
 | false=>
  intro whole pins s σ H Q I h
  refine ko ha (hb rfl) whole pins s σ H Q I ?_
  obtain ⟨F,E,q⟩:=h
  exact ⟨F,E,fun F1 H1 e1=>L2.iteF ⟨F1,E.grow e1,fun F2 H2 e2=>q F2 H2 (e1.trans e2)⟩⟩
 | true=>
  intro whole pins s σ H Q I h
  have hn:PW Y.X (.BoolOp .Or (b::es) pos) (fun _ _ _=>False):=fun _ _ _ _ _ _ _ z=>z.elim
  refine ko ha hn whole pins s σ H Q I ?_
  obtain ⟨F,E,q⟩:=h
  exact ⟨F,E,fun F1 H1 e1=>L2.iteT (q F1 H1 e1)⟩
theorem vI {v:Bool} (ha:TeD Y a c v):PW Y.X (.BoolOp .And [a] pos) (tT Y c v):=Kq ha
theorem yz {v:Bool} (ha:TeD Y a c v):PW Y.X (.BoolOp .Or [a] pos) (tT Y c v):=kn ha
theorem XJ {op} (h:EvD Y a c d):EvD Y (.BoolOp op [a] pos) c d:=kF h
theorem zC {v:Bool} (ha:EvD Y a c (.bl v)) (hb:v=true->EvD Y (.BoolOp .And (b::es) pos) c d):EvD Y (.BoolOp .And (a::b::es) pos) c (if v=true then d else .bl false):=by
 cases v with
 | true=>
  refine PE.imp (VQ ha (hb rfl)) fun σ H Q ⟨F,E,q⟩=>⟨F,E,fun x F1 H1 e1 r1=>⟨true,y6 r1,L2.iteT ⟨F1,E.grow e1,fun v F2 H2 e2 r2=>q v F2 H2 (e1.trans e2) (by simpa using r2)⟩⟩⟩
 | false=>
  have hn:PE Y.X (.BoolOp .And (b::es) pos) (fun _ _ _=>False):=fun _ _ _ _ _ _ z=>z.elim
  refine PE.imp (VQ ha hn) fun σ H Q ⟨F,E,q⟩=>⟨F,E,fun x F1 H1 e1 r1=>⟨false,y6 r1,L2.iteF (q _ F1 H1 e1 (by simpa using Rep.bl false))⟩⟩
theorem Wi {v:Bool} (ha:EvD Y a c (.bl v)):EvD Y (.UnaryOp .Not a pos) c (.bl (!v)):=
 PE.imp (xa6 ha) fun σ H Q ⟨F,E,q⟩=>⟨F,E,fun x F1 H1 e1 r1=>⟨v,y6 r1,q _ F1 H1 e1 (.bl _)⟩⟩
theorem xc:ArD Y [] c []:=PA.imp yu fun σ H Q ⟨F,E,q⟩=>q [] F H (Ext.refl E.fh) .nil
theorem xa (ha:EvD Y e c d) (hr:ArD Y es c ds) (hs:starEach (e::es) Y.X.env=(false,eval e Y.X.env)::starEach es Y.X.env:=by rfl):ArD Y (e::es) c (d::ds):=
 PA.imp (xJ ha hr hs) fun σ H Q ⟨F,E,q⟩=>⟨F,E,fun x F1 H1 e1 r1=>⟨F1,E.grow e1,fun vs F2 H2 e2 r2=>q _ F2 H2 (e1.trans e2) (.cons (r1.mono e2.ff) r2)⟩⟩
theorem xT {n:Nat} (h:n<=1000000):n<=sizeLine:=by rw [sizeLine_eq];omega
theorem xt {x1} (h:ArD Y es c ds) (hz:ds.length<=1000000:=by first | exact of_decide_eq_true rfl | (simp;done)):EvD Y (.Tuple es x1 pos) c (.tup ds):=
 PE.imp (kD h) fun σ H Q ⟨F,E,q⟩=>⟨F,E,fun vs F1 H1 e1 r1=>⟨by rw [r1.length];exact xT hz,fun p hp=>
  q (.ref p) _ _ (e1.trans (Ext.new e1.fh hp (.tup vs))) (.tup (SqT.of xp) (r1.mono (Ext.new e1.fh hp _).ff))⟩⟩
theorem xX (h:ArD Y es c ds) (hz:ds.length<=1000000:=by first | exact of_decide_eq_true rfl | (simp;done)):EvD Y (.List es pos) c (.lst ds):=
 PE.imp (Zl h) fun σ H Q ⟨F,E,q⟩=>⟨F,E,fun vs F1 H1 e1 r1=>⟨by rw [r1.length];exact xT hz,fun p hp=>
  q (.ref p) _ _ (e1.trans (Ext.new e1.fh hp (.lst vs))) (.lst (SqL.of xp) (r1.mono (Ext.new e1.fh hp _).ff))⟩⟩
theorem Q7 {K:PySem.W.Frag} {F:Hp} {vs:List V} {ds:List D} {i:Int} {d:D} (r:Reps K F vs ds) (h:atI ds i=some d):∃v,atI vs i=some v/\Rep K F v d:=by
 unfold atI at h ⊢
 rw [r.length]
 cases q:ixN ds.length i with
 | none=>rw [q] at h;cases h
 | some j=>
  rw [q] at h
  obtain ⟨v,h1,h2⟩:=r.get (i:=j) (by simpa using h)
  exact ⟨v,by simpa using h1,h2⟩
theorem xm {i:Int} (ha:EvD Y a c (.tup ds)) (hb:EvD Y b c (.int i)) (h:atI ds i=some d) (hs:PlainIx b:=by intro _ _;rfl):EvD Y (.Subscript a b pos) c d:=
 zp (t:=tC .non) (ta:=tC .non) (tb:=tC .non) (kG xbp ha hb hs) fun x y F H Q f rx ry q=>by
  obtain ⟨p,vs,rfl,hp,r⟩:=uE rx
  obtain ⟨v,hv,rv⟩:=Q7 r h
  exact ⟨p,vs,i,v,rfl,xD ry,yi f hp,hv,q v F H (Ext.refl f) rv⟩
theorem xC {i:Int} (ha:EvD Y a c (.lst ds)) (hb:EvD Y b c (.int i)) (h:atI ds i=some d) (hs:PlainIx b:=by intro _ _;rfl):EvD Y (.Subscript a b pos) c d:=
 zp (t:=tC .non) (ta:=tC .non) (tb:=tC .non) (kG KM ha hb hs) fun x y F H Q f rx ry q=>by
  obtain ⟨p,vs,rfl,hp,r⟩:=yV rx
  obtain ⟨v,hv,rv⟩:=Q7 r h
  exact ⟨p,vs,i,v,rfl,xD ry,f.seq hp,hv,q v F H (Ext.refl f) rv⟩
theorem zS (S:Se Y T k N G) (gi:Nat) {id:String} {x:Str} {p:Pos} {r:List V->Hp->VK->Prop} (hc:CallR Y.X (.builtin id) r) (hg:G[gi]? =some x) (hm:T.mg x=none) (hv:bootBuiltins x=some (.builtin id)) (ha:ArD Y (e::es) c ds)
  (hr:∀vs F H Q,Same F H->Reps Y.X.K F vs ds->(∀v F' H',Ext F H F' H'->Rep Y.X.K F' v d->Q v H')->r vs H Q)
  (he:starEach (e::es) Y.X.env=(false,eval e Y.X.env)::starEach es Y.X.env) (hpl:(backTo pos (starEach es Y.X.env)).any (·.1)=false):EvD Y (.Call (.Name x p) (e::es) [] pos) c d:=
 PE.imp (zN hc (S.gl x (List.mem_of_getElem? hg)).1 (by rw [S.eM];exact hm) hv ha (S.gl x (List.mem_of_getElem? hg)).2.2 (S.gl x (List.mem_of_getElem? hg)).2.1 he hpl) fun σ H Q ⟨F,E,q⟩=>⟨F,E,fun vs F1 H1 e1 r1=>hr vs F1 H1 Q e1.fh r1 fun v F2 H2 e2 r2=>q v F2 H2 (e1.trans e2) r2⟩
theorem qW (S:Se Y T k N G) (gi:Nat) {id:String} {x:Str} {p:Pos} {r:List V->Hp->VK->Prop} (hc:CallR Y.X (.type id) r) (hg:G[gi]? =some x) (hm:T.mg x=none) (hv:bootBuiltins x=some (.type id)) (ha:ArD Y (e::es) c ds)
  (hr:∀vs F H Q,Same F H->Reps Y.X.K F vs ds->(∀v F' H',Ext F H F' H'->Rep Y.X.K F' v d->Q v H')->r vs H Q)
  (he:starEach (e::es) Y.X.env=(false,eval e Y.X.env)::starEach es Y.X.env) (hpl:(backTo pos (starEach es Y.X.env)).any (·.1)=false):EvD Y (.Call (.Name x p) (e::es) [] pos) c d:=
 PE.imp (UO hc (S.gl x (List.mem_of_getElem? hg)).1 (by rw [S.eM];exact hm) hv ha (S.gl x (List.mem_of_getElem? hg)).2.2 (S.gl x (List.mem_of_getElem? hg)).2.1 he hpl) fun σ H Q ⟨F,E,q⟩=>⟨F,E,fun vs F1 H1 e1 r1=>hr vs F1 H1 Q e1.fh r1 fun v F2 H2 e2 r2=>q v F2 H2 (e1.trans e2) r2⟩
theorem inv1 {K:PySem.W.Frag} {F:Hp} {vs:List V} {d:D} (r:Reps K F vs [d]):∃v,vs=[v]/\Rep K F v d:=by
 cases r with
 | cons a t=>cases t;exact ⟨_,rfl,a⟩
theorem inv2 {K:PySem.W.Frag} {F:Hp} {vs:List V} {d e:D} (r:Reps K F vs [d,e]):∃v w,vs=[v,w]/\Rep K F v d/\Rep K F w e:=by
 cases r with
 | cons a t=>obtain ⟨w,rfl,b⟩:=inv1 t;exact ⟨_,_,rfl,a,b⟩
theorem wS (S:Se Y T k N G) (gi:Nat) {i:Int} {p:Pos} (ha:ArD Y [e] c [.int i]) (hm:T.mg "abs" =none) (hg:G[gi]? =some ("abs" :Str):=by rfl) (he:starEach [e] Y.X.env=(false,eval e Y.X.env)::starEach [] Y.X.env:=by rfl):EvD Y (.Call (.Name "abs" p) [e] [] pos) c (.int (i.natAbs:Int)):=
 zS S gi JH hg hm xbM ha (fun vs F H Q f r q=>by
  obtain ⟨v,rfl,rv⟩:=inv1 r
  refine ⟨i,by rw [xD rv],?_⟩
  have e:(if i<0 then -i else i)=(i.natAbs:Int):=by split<;>omega
  rw [e]
  exact q _ F H (Ext.refl f) (.int _)) he rfl
theorem Js (S:Se Y T k N G) (gi:Nat) {i j:Int} {p:Pos} {e1:Expr} (ha:ArD Y [e,e1] c [.int i,.int j]) (hm:T.mg "max" =none) (hg:G[gi]? =some ("max" :Str):=by rfl) (he:starEach [e,e1] Y.X.env=(false,eval e Y.X.env)::starEach [e1] Y.X.env:=by rfl) (hpl:(backTo pos (starEach [e1] Y.X.env)).any (·.1)=false:=by rfl):EvD Y (.Call (.Name "max" p) [e,e1] [] pos) c (.int (max i j)):=
 zS S gi (ju S.calm) hg hm xbK ha (fun vs F H Q f r q=>by
  obtain ⟨v,w,rfl,rv,rw'⟩:=inv2 r
  refine ⟨i,j,by rw [xD rv,xD rw'],?_⟩
  have e:(if j>i then j else i)=max i j:=by split<;>omega
  rw [e]
  exact q _ F H (Ext.refl f) (.int _)) he hpl
theorem Jr (S:Se Y T k N G) (gi:Nat) {i j:Int} {p:Pos} {e1:Expr} (ha:ArD Y [e,e1] c [.int i,.int j]) (hm:T.mg "min" =none) (hg:G[gi]? =some ("min" :Str):=by rfl) (he:starEach [e,e1] Y.X.env=(false,eval e Y.X.env)::starEach [e1] Y.X.env:=by rfl) (hpl:(backTo pos (starEach [e1] Y.X.env)).any (·.1)=false:=by rfl):EvD Y (.Call (.Name "min" p) [e,e1] [] pos) c (.int (min i j)):=
 zS S gi (jt S.calm) hg hm JI ha (fun vs F H Q f r q=>by
  obtain ⟨v,w,rfl,rv,rw'⟩:=inv2 r
  refine ⟨i,j,by rw [xD rv,xD rw'],?_⟩
  have e:(if j<i then j else i)=min i j:=by split<;>omega
  rw [e]
  exact q _ F H (Ext.refl f) (.int _)) he hpl
def lenD:D->Option Nat
 | .str x=>if x.length<=1000000 then some x.length else none
 | .tup xs=>some xs.length
 | .lst xs=>some xs.length
 | _=>none
theorem yJ (S:Se Y T k N G) (gi:Nat) {n:Nat} {p:Pos} (ha:ArD Y [e] c [d]) (hl:lenD d=some n) (hm:T.mg "len" =none) (hg:G[gi]? =some ("len" :Str):=by rfl) (he:starEach [e] Y.X.env=(false,eval e Y.X.env)::starEach [] Y.X.env:=by rfl):EvD Y (.Call (.Name "len" p) [e] [] pos) c (.int n):=
 zS S gi XQ hg hm Ww ha (fun vs F H Q f r q=>by
  obtain ⟨v,rfl,rv⟩:=inv1 r
  refine ⟨v,n,rfl,?_,q _ F H (Ext.refl f) (.int _)⟩
  cases rv with
  | str x=>
   have hl':(if x.length<=1000000 then some x.length else none)=some n:=hl
   by_cases hx:x.length<=1000000
   ·rw [if_pos hx] at hl';cases hl';exact ⟨xT hx,rfl⟩
   ·rw [if_neg hx] at hl';cases hl'
  | tup h t=>cases hl;exact .inr ⟨_,yi f h,t.length.symm⟩
  | lst h t=>cases hl;exact .inl ⟨_,f.seq h,t.length.symm⟩
  | _=>cases hl) he rfl
theorem QV (S:Se Y T k N G) (gi:Nat) {i:Bool} {p:Pos} (ha:ArD Y [e] c [.bl i]) (hm:T.mg "int" =none) (hg:G[gi]? =some ("int" :Str):=by rfl) (he:starEach [e] Y.X.env=(false,eval e Y.X.env)::starEach [] Y.X.env:=by rfl):EvD Y (.Call (.Name "int" p) [e] [] pos) c (.int (if i then 1 else 0)):=
 qW S gi jv hg hm qh ha (fun vs F H Q f r q=>by
  obtain ⟨v,rfl,rv⟩:=inv1 r
  exact .inr ⟨i,by rw [y6 rv],q _ F H (Ext.refl f) (.int _)⟩) he rfl
theorem xj (h:P (.nx c)):SsD Y [] c P:=PSs.imp WQ fun D σ H ⟨F,E,m⟩=>m _ h σ F H (Same.refl F) E
def tAny (Y:Cy) (rest:List Stmt):TS:=fun D σ H=>∃c P F,SsD Y rest c P/\EnvY Y F H σ c/\∀o,P o->Meets Y F D o
theorem Zi:PSs Y.X rest (tAny Y rest):=fun pins s σ H D I ⟨c,P,F,h,e,m⟩=>h pins s σ H D I ⟨F,e,m⟩
theorem xI {st:Stmt} (h:StD Y st c (Thn Y rest P)):SsD Y (st::rest) c P:=
 PSs.imp (vQ h Zi) fun D σ H ⟨F,e,m⟩=>⟨F,e,fun o ho=>by
  cases o with
  | nx c'=>exact fun σ' F' H' s' E'=>⟨c',P,F',ho,E',fun o' ho'=>(m o' ho').grow s'⟩
  | rt d=>exact m (.rt d) ho
  | bk c'=>exact m (.bk c') ho
  | ct c'=>exact m (.ct c') ho
  | ro ds=>exact m (.ro ds) ho
  | rs R=>exact m (.rs R) ho⟩
theorem xaP (h:EvD Y e c d) (hp:P (.rt d)):StD Y (.Return (some e) pos) c P:=
 PS.imp (Zj h) fun D σ H ⟨F,E,m⟩=>⟨F,E,fun v F' H' x r=>m _ hp v F' H' x.ff (E.ext.trans x) r⟩
theorem xg (h:EvD Y e c d) (hp:P (.rt d)):SsD Y (.Return (some e) pos::rest) c P:=xI (xaP h hp)
theorem xo {t:Expr} {sa sb:List Stmt} {v:Bool} (ht:TeD Y t c v) (ha:v=true->SsD Y sa c (Thn Y rest P)) (hb:v=false->SsD Y sb c (Thn Y rest P)):SsD Y (.If t sa sb pos::rest) c P:=by
 refine xI ?_
 cases v with
 | true=>exact PS.imp (Qz ht (ha rfl) (zM (sts:=sb))) fun D σ H ⟨F,E,m⟩=>⟨F,E,fun F1 H1 e1=>L2.iteT ⟨F1,E.grow e1,fun o ho=>(m o ho).grow e1.ff⟩⟩
 | false=>exact PS.imp (Qz ht (zM (sts:=sa)) (hb rfl)) fun D σ H ⟨F,E,m⟩=>⟨F,E,fun F1 H1 e1=>L2.iteF ⟨F1,E.grow e1,fun o ho=>(m o ho).grow e1.ff⟩⟩
theorem xn (S:Sc Y T k N G) (i:Nat) {x:Str} {pos':Pos} (he:EvD Y e c d)
  (hr:SsD Y rest (put c i (.val d)) P) (hi:N[i]? =some x:=by rfl) (hlt:i<c.length:=by first | exact of_decide_eq_true rfl | decide | omega) (hs:swapsWith e (some (.Name x pos')) pos.line Y.X.env=pure false:=by rfl):SsD Y (.Assign [.Name x pos'] e pos::rest) c P:=by
 have hx:=S.loc x (List.mem_of_getElem? hi)
 have hN:=S.nd
 rw [<-S.n] at hi hN
 refine xI (PS.imp (qy hN hi hx.1 he hs (.inl (S.fn x))) fun D σ H ⟨F,E,m⟩=>⟨F,E,fun v F' H' e' r'=>?_⟩)
 exact m (.nx (put c i (.val d))) hr _ F' H' e'.ff ((E.grow e').set hlt r')
theorem Vq (S:Sc Y T k N G) (i:Nat) {x:Str} {t:Expr} {p1 p2:Pos} {v:Bool} {a b:Int} (ht:TeD Y t c v) (he:v=true->EvD Y e c (.int a)) (hr:SsD Y rest (put c i (.val (.int (if v=true then a else b)))) P) (hsl:slot c i= .val (.int b):=by rfl) (hi:N[i]? =some x:=by rfl)
  (hlt:i<c.length:=by first | exact of_decide_eq_true rfl | decide | omega) (hs:swapsWith e (some (.Name x p1)) p2.line Y.X.env=pure false:=by rfl):SsD Y (.If t [.Assign [.Name x p1] e p2] [] pos::rest) c P:=by
 refine xo ht (fun h=>?_) (fun h=>?_)
 ·refine xn S i (he h) (xj ?_) hi hlt hs
  rw [if_pos h] at hr
  exact hr
 ·refine xj ?_
  rw [if_neg (by rw [h];exact Bool.false_ne_true)] at hr
  have e:put c i (.val (.int b))=c:=by rw [<-hsl];exact Xo c i
  rw [e] at hr
  exact hr
def Turned (I:List Slot->Prop) (Pn:List Slot->Prop) (Pr:D->Prop):Out->Prop
 | .nx c=>I c
 | .ct c=>I c
 | .bk c=>Pn c
 | .rt d=>Pr d
 | .ro _=>False
 | .rs _=>False
def tAnyT (Y:Cy) (e:Expr):TT:=fun σ H Q=>∃c v,TeD Y e c v/\tT Y c v σ H Q
theorem xaX {e:Expr}:PT Y.X e (tAnyT Y e):=fun pins s σ H Q I ⟨c,v,h,q⟩=>h pins s σ H Q I q
theorem yZ (S:Sc Y T k N G) {t:Expr} {body:List Stmt} (I:List Slot->Prop) (μ:List Slot->Nat) (h0:I c)
  (hs:∀c,I c->∃v,TeD Y t c v/\(v=true->SsD Y body c (Turned (fun c'=>I c'/\μ c'<μ c) (fun c'=>SsD Y rest c' P) (fun d=>P (.rt d))))/\(v=false->SsD Y rest c P)):SsD Y (.While t body [] pos::rest) c P:=by
 refine xI (PS.imp (kz S.hp (xaX (e:=t)) (Zi (rest:=body))) fun D σ H ⟨F,E,m⟩=>?_)
 refine ⟨fun n σ H=>∃c F1,I c/\μ c=n/\EnvY Y F1 H σ c/\Same F F1,⟨μ c,c,F,h0,rfl,E,Same.refl F⟩,?_⟩
 rintro n σ H ⟨c,F1,hI,rfl,E,s1⟩
 obtain ⟨v,ht,hb,hn⟩:=hs c hI
 refine ⟨c,v,ht,F1,E,fun F2 H2 e2=>?_⟩
 cases v with
 | false=>exact L2.iteF (m (.nx c) (hn rfl) σ F2 H2 (s1.trans e2.ff) (E.grow e2))
 | true=>
  refine L2.iteT ⟨fun σ' H'=>∃c' F',(I c'/\μ c'<μ c)/\EnvY Y F' H' σ' c'/\Same F F',fun σ' H' ⟨c',F',hI',E',s'⟩=>⟨μ c',hI'.2,c',F',hI'.1,rfl,E',s'⟩,?_⟩
  refine ⟨c,_,F2,hb rfl,E.grow e2,fun o ho=>?_⟩
  have s2:=s1.trans e2.ff
  cases o with
  | nx c'=>exact fun σ' F' H' s' E'=>⟨c',F',ho,E',s2.trans s'⟩
  | ct c'=>exact fun σ' F' H' s' E'=>⟨c',F',ho,E',s2.trans s'⟩
  | bk c'=>exact fun σ' F' H' s' E'=>m (.nx c') ho σ' F' H' (s2.trans s') E'
  | rt d=>exact (m (.rt d) ho).grow s2
  | ro ds=>exact False.elim ho
  | rs R=>exact False.elim ho
end
section
variable {Y:Cy} {T:Tx} {k:Nat} {N G:List Str} {c c':List Slot} {a b e tg:Expr} {es:List Expr} {pos:Pos} {d d1 d2:D} {ds items:List D} {P:Out->Prop} {rest:List Stmt}
def Yields (K:PySem.W.Frag) (F1:Hp) (J:It) (items:List D):Prop:=∀(i:Nat) (F H:Hp),Same F1 F->Same F H->
 (∀d,items[i]? =some d->J.go i H/\∀x H',J.yld i H x H'->∃F',Ext F H F' H'/\Rep K F' x d)/\(items.length<=i->J.stop i H)
def tI (Y:Cy) (c:List Slot) (items:List D):TI:=fun σ H R=>∃F,EnvY Y F H σ c/\∀J F1 H1,Ext F H F1 H1->Yields Y.X.K F1 J items->R J H1
def ItD (Y:Cy) (tg e:Expr) (c:List Slot) (items:List D):Prop:=PI Y.X tg e (tI Y c items)
theorem PI.imp {X:Cx} {e:Expr} {t t':TI} (h:PI X tg e t) (i:∀σ H R,t' σ H R->t σ H R):PI X tg e t':=fun pins s σ H R I q=>h pins s σ H R I (i _ _ _ q)
theorem KO (h:EvD Y e c (.lst ds)):ItD Y tg e c ds:=
 PI.imp (Kv h) fun σ H R ⟨F,E,q⟩=>⟨F,E,fun x F1 H1 e1 r1=>by
  obtain ⟨p,vs,rfl,hp,r⟩:=yV r1
  refine ⟨p,rfl,⟨vs,e1.fh.seq hp⟩,q _ F1 H1 e1 fun i F2 H2 s1 s2=>⟨fun d hd=>?_,fun hl=>⟨vs,s2.seq (s1.seq hp),by rw [r.length];exact hl⟩⟩⟩
  obtain ⟨v,hv,rv⟩:=r.get hd
  refine ⟨⟨vs,v,s2.seq (s1.seq hp),hv⟩,fun x H' y=>?_⟩
  obtain ⟨rfl,y⟩:=y
  have:=y vs (s2.seq (s1.seq hp))
  rw [hv] at this
  cases this
  exact ⟨F2,Ext.refl s2,rv.mono s1⟩⟩
theorem xbr (h:EvD Y e c (.tup ds)):ItD Y tg e c ds:=
 PI.imp (xa2 h) fun σ H R ⟨F,E,q⟩=>⟨F,E,fun x F1 H1 e1 r1=>by
  obtain ⟨p,vs,rfl,hp,r⟩:=uE r1
  refine ⟨p,rfl,⟨vs,yi e1.fh hp⟩,q _ F1 H1 e1 fun i F2 H2 s1 s2=>⟨fun d hd=>?_,fun hl=>⟨vs,yi s2 (yi s1 hp),by rw [r.length];exact hl⟩⟩⟩
  obtain ⟨v,hv,rv⟩:=r.get hd
  refine ⟨⟨vs,v,yi s2 (yi s1 hp),hv⟩,fun x H' y=>?_⟩
  obtain ⟨rfl,y⟩:=y
  have:=y vs (yi s2 (yi s1 hp))
  rw [hv] at this
  cases this
  exact ⟨F2,Ext.refl s2,rv.mono s1⟩⟩
def rangeD (lo st:Int) (n:Nat):List D:=(List.range n).map fun (m:Nat)=>D.int (lo+(m:Int)*st)
theorem ym (lo st:Int) (n:Nat):(rangeD lo st n).length=n:=by simp [rangeD]
theorem VN {lo st:Int} {n m:Nat} (h:m<n):(rangeD lo st n)[m]? =some (.int (lo+(m:Int)*st)):=by simp [rangeD,h]
theorem yR {lo st:Int} {n m:Nat} {d:D} (h:(rangeD lo st n)[m]? =some d):m<n/\d= .int (lo+(m:Int)*st):=by
 have hl:=(List.getElem?_eq_some_iff.mp h).1
 rw [ym] at hl
 rw [VN hl] at h
 cases h
 exact ⟨hl,rfl⟩
theorem vE {K:PySem.W.Frag} {F:Hp} (lo:Int) (n:Nat):Yields K F (Itr lo n) (rangeD lo 1 n):=fun i F2 H2 s1 s2=>⟨fun d hd=>by
  obtain ⟨hi,rfl⟩:=yR hd
  refine ⟨hi,fun x H' y=>?_⟩
  obtain ⟨rfl,rfl⟩:=y
  rw [Int.mul_one]
  exact ⟨F2,Ext.refl s2,.int _⟩,fun hl=>by rw [ym] at hl;exact hl⟩
theorem zP (S:Se Y T k N G) (gi:Nat) {j:Int} {p:Pos} (ha:ArD Y [a] c [.int j]) (h1: -(2^62)<=j) (h2:j<2^62) (hm:T.mg "range" =none) (hg:G[gi]? =some ("range" :Str):=by rfl)
  (hs:starEach [a] Y.X.env=[(false,eval a Y.X.env)]:=by rfl):ItD Y tg (.Call (.Name "range" p) [a] [] pos) c (rangeD 0 1 j.toNat):=
 PI.imp (UN (S.gl _ (List.mem_of_getElem? hg)).1 (by rw [S.eM];exact hm) ha hs) fun σ H R ⟨F,E,q⟩=>⟨F,E,fun vs F1 H1 e1 r1=>by
  obtain ⟨v,rfl,rv⟩:=inv1 r1
  exact ⟨j,by rw [xD rv],h1,h2,q _ F1 H1 e1 (vE 0 j.toNat)⟩⟩
theorem U6 (S:Se Y T k N G) (gi:Nat) {i j:Int} {p:Pos} (ha:ArD Y [a,b] c [.int i,.int j]) (h0: -(2^62)<=i/\i<2^62/\ -(2^62)<=j/\j<2^62) (hm:T.mg "range" =none) (hg:G[gi]? =some ("range" :Str):=by rfl)
  (hs:starEach [a,b] Y.X.env=[(false,eval a Y.X.env),(false,eval b Y.X.env)]:=by rfl) (hs2:starEach [b] Y.X.env=[(false,eval b Y.X.env)]:=by rfl):ItD Y tg (.Call (.Name "range" p) [a,b] [] pos) c (rangeD i 1 (j - i).toNat):=
 PI.imp (UM (S.gl _ (List.mem_of_getElem? hg)).1 (by rw [S.eM];exact hm) ha hs hs2) fun σ H R ⟨F,E,q⟩=>⟨F,E,fun vs F1 H1 e1 r1=>by
  obtain ⟨v,w,rfl,rv,rw'⟩:=inv2 r1
  exact ⟨i,j,by rw [xD rv,xD rw'],h0,q _ F1 H1 e1 (vE i _)⟩⟩
def tG (Y:Cy) (d:D) (c c':List Slot):TG:=fun v σ H Q=>∃F,EnvY Y F H σ c/\Rep Y.X.K F v d/\∀σ' F' H',Ext F H F' H'->EnvY Y F' H' σ' c'->Q σ' H'
def TgD (Y:Cy) (tg:Expr) (d:D) (c c':List Slot):Prop:=PG Y.X tg (tG Y d c c')
theorem PG.imp {X:Cx} {t t':TG} (h:PG X tg t) (i:∀v σ H Q,t' v σ H Q->t v σ H Q):PG X tg t':=fun pins s σ H x v Q I r q=>h pins s σ H x v Q I r (i _ _ _ _ q)
theorem yT (S:Sc Y T k N G) (i:Nat) {x:Str} (hi:N[i]? =some x:=by rfl) (hlt:i<c.length:=by first | exact of_decide_eq_true rfl | decide | omega):TgD Y (.Name x pos) d c (put c i (.val d)):=by
 have hx:=S.loc x (List.mem_of_getElem? hi)
 have hN:=S.nd
 rw [<-S.n] at hi hN
 exact PG.imp (WT hN hi hx.1 (.inl (S.fn x))) fun v σ H Q ⟨F,E,r,q⟩=>q _ F H (Ext.refl E.fh) (E.set hlt r)
theorem zH (S:Sn Y T N G) (i:Nat) {x:Str} (hf:Y.X.fn x=true∨Y.X.env.scope.names.lookup x=some .local) (hi:N[i]? =some x:=by rfl) (hlt:i<c.length:=by first | exact of_decide_eq_true rfl | decide | omega):TgD Y (.Name x pos) d c (put c i (.val d)):=by
 have hx:=S.loc x (List.mem_of_getElem? hi)
 have hN:=S.nd
 rw [<-S.n] at hi hN
 exact PG.imp (WT hN hi hx.1 hf) fun v σ H Q ⟨F,E,r,q⟩=>q _ F H (Ext.refl E.fh) (E.set hlt r)
def gAny (Y:Cy) (tg:Expr):TG:=fun v σ H Q=>∃d c c',TgD Y tg d c c'/\tG Y d c c' v σ H Q
theorem xa4:PG Y.X tg (gAny Y tg):=fun pins s σ H x v Q I r ⟨d,c,c',h,q⟩=>h pins s σ H x v Q I r q
theorem Y2 (S:Sc Y T k N G) {iter:Expr} {body:List Stmt} (hi:ItD Y tg iter c items) (I:Nat->List Slot->Prop) (h0:I 0 c)
  (hs:∀m d c,items[m]? =some d->I m c->∃c',TgD Y tg d c c'/\SsD Y body c' (Turned (I (m+1)) (fun c'=>SsD Y rest c' P) (fun d=>P (.rt d))))
  (hd:∀c,I items.length c->SsD Y rest c P) (hf:∀x,foldedSetIterable iter Y.X.env x=pure x:=by intro _;rfl):SsD Y (.For tg iter body [] pos::rest) c P:=by
 refine xI (PS.imp (xaZ S.hp S.calm hi (xa4 (tg:=tg)) (Zi (rest:=body)) hf) fun D σ H ⟨F,E,m⟩=>?_)
 refine ⟨F,E,fun J F1 H1 e1 yl=>?_⟩
 refine ⟨fun n r σ H=>r=items.length - n/\n<=items.length/\∃c F,I n c/\EnvY Y F H σ c/\Same F1 F,⟨_,rfl,Nat.zero_le _,c,F1,h0,E.grow e1,Same.refl _⟩,?_⟩
 rintro n r σ2 H2 ⟨rfl,hn,c2,F2,hI,E2,s2⟩
 have y:=yl n F2 H2 s2 E2.fh
 by_cases hlt:n<items.length
 ·obtain ⟨d,hd⟩:∃d,items[n]? =some d:=⟨items[n],List.getElem?_eq_getElem hlt⟩
  obtain ⟨go,yy⟩:=y.1 d hd
  obtain ⟨c3,tgd,ssd⟩:=hs n d c2 hd hI
  refine .inr ⟨go,fun σ' H'=>∃c' F',I (n+1) c'/\EnvY Y F' H' σ' c'/\Same F1 F',fun σ' H' ⟨c',F',hI',E',s'⟩=>⟨items.length - (n+1),by omega,rfl,hlt,c',F',hI',E',s'⟩,fun x H' yx=>?_⟩
  obtain ⟨F3,e3,r3⟩:=yy x H' yx
  refine ⟨d,c2,c3,tgd,F3,E2.grow e3,r3,fun σ' F' H'' s' E'=>?_⟩
  have s3:Same F1 F':=s2.trans (e3.ff.trans s'.ff)
  refine ⟨c3,_,F',ssd,E',fun o ho=>?_⟩
  cases o with
  | nx c'=>exact fun σ' F' H' s' E'=>⟨c',F',ho,E',s3.trans s'⟩
  | ct c'=>exact fun σ' F' H' s' E'=>⟨c',F',ho,E',s3.trans s'⟩
  | bk c'=>exact fun σ' F' H' s' E'=>m (.nx c') ho σ' F' H' (e1.ff.trans (s3.trans s')) E'
  | rt d=>exact (m (.rt d) ho).grow (e1.ff.trans s3)
  | ro ds=>exact False.elim ho
  | rs R=>exact False.elim ho
 ·have e:n=items.length:=by omega
  subst e
  exact .inl ⟨y.2 (Nat.le_refl _),m (.nx c2) (hd c2 hI) σ2 F2 H2 (e1.ff.trans s2) E2⟩
end
def spD (K:PySem.W.Frag) (R:List D->D->Prop):Sp:=fun vs H Q _=>∃F ds d,Same F H/\Reps K F vs ds/\R ds d/\∀v F' H',Ext F H F' H'->Rep K F' v d->Q v H'
structure FnD (T:Tx) (k:Nat) (x:Str) (R:List D->D->Prop):Prop where
 ex:∃(f:Addr) (fd:FuncData) (ps:List Str),T.mg x=some (.ref f)/\PySem.W.keepIn T.K (.ref f)=true/\Binds T.K fd ps []/\FnOk T.prog T.w T.K T.mg T.base CX0 k f fd ps (spD T.K R)
def ctx0 (N:List Str) (ds:List D):List Slot:=ds.map Slot.val++List.replicate (N.length - ds.length) Slot.un
def Ret (d:D):Out->Prop
 | .rt e=>e=d
 | .nx _=>d= .non
 | _=>False
theorem z0:∀(n i:Nat),slot (List.replicate n Slot.un) i= .un
 | 0,_=>rfl
 | _+1,0=>rfl
 | n+1,i+1=>z0 n i
section
variable {K:PySem.W.Frag} {F H H0:Hp}
theorem vJ {n:Nat}:∀{vs:List V} {ds:List D},Reps K F vs ds->∀i,SlotOk K H0 F H (vs.map some++List.replicate n none)[i]? (slot (ds.map Slot.val++List.replicate n Slot.un) i)
 | _,_,.nil,i=>by
  show SlotOk K H0 F H _ (slot (List.replicate n Slot.un) i)
  rw [z0];exact trivial
 | _,_,.cons r t,0=>⟨_,rfl,r⟩
 | _,_,.cons r t,i+1=>by
  have q:=vJ (n:=n) t i
  simpa [slot] using q
theorem zb {n:Nat}:∀(ds:List D) (i:Nat),isOwn (slot (ds.map Slot.val++List.replicate n Slot.un) i)=false
 | [],i=>by
  show isOwn (slot (List.replicate n Slot.un) i)=false
  rw [z0];rfl
 | _::_,0=>rfl
 | _::r,i+1=>zb r i
theorem wT {N:List Str} {vs:List V} {ds:List D} (f:Same F H) (r:Reps K F vs ds):Env K F H F H (L2.start N vs) (ctx0 N ds) where
 ext:=Ext.refl f
 len:=by
  unfold L2.start ctx0
  simp [r.length]
 sl:=fun i=>by
  unfold L2.start ctx0
  rw [r.length]
  exact vJ r i
 inj:=fun i j a h _ _ _=>by
  unfold ctx0 at h
  rw [zb] at h
  cases h
end
section
variable {Y:Cy} {T:Tx} {k j:Nat} {N G ps:List Str} {c:List Slot} {e:Expr} {es:List Expr} {pos p:Pos} {d:D} {ds:List D} {R:List D->D->Prop} {x qual:Str}
theorem xi (S:Se Y T k N G) (gi:Nat) (Fn:FnD T j x R) (hj:j<=k) (ha:ArD Y (e::es) c ds) (hR:R ds d) (hg:G[gi]? =some x:=by rfl)
  (he:starEach (e::es) Y.X.env=(false,eval e Y.X.env)::starEach es Y.X.env:=by rfl) (hpl:(backTo pos (starEach es Y.X.env)).any (·.1)=false:=by rfl):EvD Y (.Call (.Name x p) (e::es) [] pos) c d:=by
 obtain ⟨f,fd,ps,hm,hk,hb,F⟩:=Fn.ex
 have F':FnOk Y.X.prog Y.X.w Y.X.K Y.X.mg Y.X.base CX0 j f fd ps (spD Y.X.K R):=by rw [S.eP,S.eW,S.eK,S.eM,S.eB];exact F
 have gl:=S.gl x (List.mem_of_getElem? hg)
 refine PE.imp (qO F' (S.room.mono hj) gl.1 (by rw [S.eM];exact hm) (by rw [S.eK];exact hk) (by rw [S.eK];exact hb) .nil pass0 ha gl.2.1 he hpl) fun σ H Q ⟨F,E,q⟩=>⟨F,E,fun vs F1 H1 e1 r1=>?_⟩
 show spD Y.X.K R (vs++ []) H1 Q E0
 rw [List.append_nil]
 exact ⟨F1,ds,d,e1.fh,r1,hR,fun v F2 H2 e2 r2=>q v F2 H2 (e1.trans e2) r2⟩
theorem xaz {st:Stmt} {f:Addr} {fd:FuncData} (F:Fun T.K x qual st f fd) (B:ScB N ps G (defScope st)) (hlen:∀ds d,R ds d->ds.length=ps.length)
  (body:∀(Y:Cy) (S:Sc Y T k N G) (Z:Fx Y st) (ds:List D) (d:D),R ds d->SsD Y (defBody st) (ctx0 N ds) (Ret d)):FnOk T.prog T.w T.K T.mg T.base CX0 (k+1) f fd ps (spD T.K R):=by
 refine F.ok B.fs (fun vs H Q E h=>?_) fun cdv A outer s H vs Q E hr h=>?_
 ·obtain ⟨F0,ds,d,_,r,hR,_⟩:=h
  rw [r.length];exact hlen ds d hR
 ·obtain ⟨F0,ds,d,f0,r,hR,q⟩:=h
  have S:Sc ⟨(cxOf CX0 T.prog T.w T.K T.mg T.base N qual (defScope st) f cdv A outer s H E).nox,F0,H⟩ T k N G:=
   ⟨⟨⟨rfl,rfl,rfl,rfl,rfl,rfl,B.fs.nd,B.loc,B.gl⟩,rfl,hr⟩,fun _=>rfl,PassesOwn.never⟩
  refine ⟨_,body _ S ⟨rfl,rfl,rfl,rfl⟩ ds d hR,F0,wT f0 r,fun o ho=>?_⟩
  cases o with
  | rt e=>cases ho;exact fun v F' H' _ x r'=>q v F' H' x r'
  | nx c=>cases ho;exact fun σ F' H' _ E'=>q .non F' H' E'.ext .non
  | bk c=>exact ho.elim
  | ct c=>exact ho.elim
  | ro ds=>exact ho.elim
  | rs R=>exact ho.elim
def At (T:Tx) (x:Str) (st:Stmt):Prop:=∃(f:Addr) (fd:FuncData),Fun T.K x x st f fd/\T.mg x=some (.ref f)
theorem yq {st:Stmt} (A:At T x st) (B:ScB N ps G (defScope st)) (hb:∀f fd,Fun T.K x x st f fd->Binds T.K fd ps []) (hlen:∀ds d,R ds d->ds.length=ps.length)
  (body:∀(Y:Cy) (S:Sc Y T k N G) (Z:Fx Y st) (ds:List D) (d:D),R ds d->SsD Y (defBody st) (ctx0 N ds) (Ret d)):FnD T (k+1) x R:=
 let ⟨f,fd,F,hm⟩:=A
 ⟨f,fd,ps,hm,F.kp,hb f fd F,xaz F B hlen body⟩
def Q9 (ds:List D) (d:D):Prop:=∃ns:List Int,ds=[.lst (ns.map D.int)]/\ns.length<=63/\d= .bl true
theorem law_sp (K:PySem.W.Frag) (H:Hp) (a:Addr) (ns:List Int) (hl:ns.length<=63) (hS:SqL K H a (ns.map V.int)):spD K Q9 [.ref a] H (fun v _=>v= .bl true) fun _ _ _=>False:=
 ⟨H,_,_,Same.refl H,.cons (.lst hS (Reps.ints ns)) .nil,⟨ns,rfl,hl,rfl⟩,fun v F' H' _ r=>y6 r⟩
theorem K5 {ty:String} (S:Se Y T k N G) (gi:Nat) (hm:T.mg x=none) (hv:bootBuiltins x=some (.type ty)) (hg:G[gi]? =some x):PE Y.X (.Name x pos) (tC (.ty ty)):=
 have gl:=S.gl x (List.mem_of_getElem? hg)
 WV gl.1 (by rw [S.eM];exact hm) hv rfl gl.2.2 gl.2.1
def tyD:D->String
 | .non=> "NoneType" | .bl _=> "bool" | .int _=> "int" | .str _=> "str" | .tup _=> "tuple" | .lst _=> "list"
theorem Jd {X:Cx} {pins:List (Addr×Obj)} {σ:St} {F H:Hp} {s:Shared} {A:Around} {E:Value->Shared->Prop} {Q:Value->Shared->Prop} {cv:Value} {b:Bool} {v:V} {u:Value} {d:D}
  (I:Inv X pins σ H s) (rx:RelV v u) (f:Same F H) (r:Rep X.K F v d) (e:PySem.W.kitOne X.K (.type (tyD d)) cv=some b) (h:∀tk,Q (.bool b) { s with toks:=tk }):
  wpAny (model X.prog X.w) A (call (.builtin "isinstance") [u,cv]) Q E s:=by
 cases r with
 | non=>exact qS I rx .non e h
 | bl y=>exact qS I rx (.bl y) e h
 | int i=>exact qS I rx (.int i) e h
 | str y=>exact qS I rx (.str y) e h
 | @tup a vs ds hs t=>
  cases (show u=Value.ref a from rx)
  obtain ⟨its,_,p,_⟩:=I.tuple (yi f hs)
  obtain ⟨o,h1,h2,_⟩:=p
  exact PySem.W.kia_one PySem.W.kitx_tuple I.kIn ⟨o,h1,h2⟩ e (fun z=>nomatch z) h
 | @lst a vs ds hs t=>
  cases (show u=Value.ref a from rx)
  obtain ⟨its,_,p,_⟩:=I.list (f.seq hs)
  obtain ⟨o,n,h1,h2,_⟩:=p
  exact PySem.W.kia_one PySem.W.kitx_list I.kIn ⟨o,h1,h2⟩ e (fun z=>nomatch z) h
theorem xV (S:Se Y T k N G) (gi gj:Nat) {ty:String} {b:Bool} {pn:Pos} (he:EvD Y e c d) (e2:PySem.W.kitOne T.K (.type (tyD d)) (.type ty)=some b) (hm:T.mg "isinstance" =none) (hm2:T.mg x=none) (hv:bootBuiltins x=some (.type ty))
  (hg:G[gi]? =some ("isinstance" :Str):=by rfl) (hg2:G[gj]? =some x:=by rfl)
  (hs:starEach [e,.Name x pn] Y.X.env=(false,eval e Y.X.env)::starEach [.Name x pn] Y.X.env:=by rfl):EvD Y (.Call (.Name "isinstance" p) [e,.Name x pn] [] pos) c (.bl b):=by
 have gl:=S.gl _ (List.mem_of_getElem? hg)
 have hc:CallR Y.X (.builtin "isinstance") (fun xs H Q=>∃v F,xs=[v,.ty ty]/\Same F H/\Rep Y.X.K F v d/\Q (.bl b) H):=by
  intro pins s σ H xs us Q I r h
  obtain ⟨v,F,rfl,f,rv,q⟩:=h
  obtain ⟨u,w',rfl,r1,r2⟩:=vals2 r
  cases (show w'=Value.type ty from r2)
  exact Jd I r1 f rv (by rw [S.eK];exact e2) fun tk=>⟨.bl b,H,I.tok tk,rfl,q⟩
 refine PE.imp (zN hc gl.1 (by rw [S.eM];exact hm) zD (xJ he (xJ (K5 S gj hm2 hv hg2) yu) hs) gl.2.2 gl.2.1 hs rfl) fun σ H Q ⟨F,E,q⟩=>⟨F,E,fun v F1 H1 e1 r1=>?_⟩
 exact ⟨v,F1,rfl,e1.fh,r1,q _ F1 H1 e1 (.bl b)⟩
end
theorem Bd.mono {m n:Nat} {i:Int} (h:Bd m i) (l:m<=n):Bd n i:=Nat.lt_of_lt_of_le h (Nat.pow_le_pow_right (by decide) l)
theorem Bd.mul {m n:Nat} {i j:Int} (h1:Bd m i) (h2:Bd n j):Bd (m+n) (i*j):=by
 unfold Bd at*
 rw [Int.natAbs_mul,Nat.pow_add]
 exact Nat.mul_lt_mul_of_lt_of_lt h1 h2
theorem Bd.add {m n:Nat} {i j:Int} (h1:Bd m i) (h2:Bd n j):Bd (max m n+1) (i+j):=by
 have a:=h1.mono (Nat.le_max_left m n)
 have b:=h2.mono (Nat.le_max_right m n)
 unfold Bd at*
 rw [Nat.pow_succ]
 omega
theorem Bd.neg {m:Nat} {i:Int} (h:Bd m i):Bd m (-i):=by unfold Bd at*;rw [Int.natAbs_neg];exact h
theorem Bd.sub {m n:Nat} {i j:Int} (h1:Bd m i) (h2:Bd n j):Bd (max m n+1) (i - j):=by rw [Int.sub_eq_add_neg];exact h1.add h2.neg
theorem Bd.of {n:Nat} {i:Int} (b:Int) (h0: -b<i) (h1:i<b) (h:b<=2^n):Bd n i:=by
 unfold Bd
 have e:((2^n:Nat):Int)=(2:Int)^n:=by simp
 omega
mutual
def toPy:D->PyData
 | .non=> .none
 | .bl b=> .bool b
 | .int i=> .int i
 | .str x=> .str x
 | .tup xs=> .tuple (toPys xs)
 | .lst xs=> .list (toPys xs)
def toPys:List D->List PyData
 | []=>[]
 | x::xs=>toPy x::toPys xs
end
def eqD (d e:D):Bool:=PyData.eqv (toPy d) (toPy e)
section
variable {X:Cx} {pins:List (Addr×Obj)} {σ:St} {F H:Hp} {s:Shared}
mutual
theorem zj (I:Inv X pins σ H s) (f:Same F H):∀{v:V} {d:D} {u:Value},Rep X.K F v d->RelV v u->∃as,Reads s.heap u (toPy d) as
 | _,_,_,.non,r=>by cases r;exact ⟨_,.none⟩
 | _,_,_,.bl b,r=>by cases r;exact ⟨_,.bool b⟩
 | _,_,_,.int i,r=>by obtain ⟨t,rfl⟩:=r;exact ⟨_,.int i t⟩
 | _,_,_,.str x,r=>by obtain ⟨t,rfl⟩:=r;exact ⟨_,.str x t⟩
 | _,_,_,.tup h t,r=>by
  cases r
  obtain ⟨its,r2,⟨o,e1,e2,n,e3⟩,_⟩:=I.tuple (yi f h)
  obtain ⟨as,ra⟩:=readss_of I f t r2
  exact ⟨as,.tuple e1 e2 e3 (by simpa using ra)⟩
 | _,_,_,.lst h t,r=>by
  cases r
  obtain ⟨its,r2,⟨o,n,e1,e2,_,e3⟩,_⟩:=I.list (f.seq h)
  obtain ⟨as,ra⟩:=readss_of I f t r2
  exact ⟨_,.list e1 e2 e3 (by simpa using ra)⟩
theorem readss_of (I:Inv X pins σ H s) (f:Same F H):∀{vs:List V} {ds:List D} {us:List Value},Reps X.K F vs ds->Vals vs us->∃as,ReadsAll s.heap us (toPys ds) as
 | _,_,_,.nil,r=>by cases r;exact ⟨_,.nil⟩
 | _,_,_,.cons a t,r=>by
  cases r with
  | cons r1 r2=>
   obtain ⟨as,h1⟩:=zj I f a r1
   obtain ⟨bs,h2⟩:=readss_of I f t r2
   exact ⟨_,.cons h1 h2⟩
end
end
section
variable {Y:Cy} {T:Tx} {k:Nat} {N G:List Str} {c:List Slot} {a b:Expr} {pos:Pos} {d1 d2:D}
def rEqD (K:PySem.W.Frag) (d1 d2:D) (v:Bool):R2:=fun x y H Q=>∃F,Same F H/\Rep K F x d1/\Rep K F y d2/\Q (.bl v) H
theorem Zo {X:Cx} (hu:X.A.units+64<cLine) (h1:SeqAt.shaped (toPy d1)=true) (h2:SeqAt.shaped (toPy d2)=true):OpR X (compareOp .Eq) (rEqD X.K d1 d2 (eqD d1 d2)):=by
 intro pins s σ H x y v u Q I rx ry ⟨F,f,r1,r2,q⟩
 obtain ⟨as,ra⟩:=zj I f r1 rx
 obtain ⟨bs,rb⟩:=zj I f r2 ry
 exact SeqAt.compareEq_shaped ra rb h1 h2 hu ⟨.bl _,H,I,rfl,q⟩
theorem kM {X:Cx} (hu:X.A.units+64<cLine) (h1:SeqAt.shaped (toPy d1)=true) (h2:SeqAt.shaped (toPy d2)=true):OpR X (compareOp .NotEq) (rEqD X.K d1 d2 (!eqD d1 d2)):=by
 intro pins s σ H x y v u Q I rx ry ⟨F,f,r1,r2,q⟩
 obtain ⟨as,ra⟩:=zj I f r1 rx
 obtain ⟨bs,rb⟩:=zj I f r2 ry
 exact SeqAt.compareNe_shaped ra rb h1 h2 hu ⟨.bl _,H,I,rfl,q⟩
theorem qr (S:Se Y T k N G) (ha:EvD Y a c d1) (hb:EvD Y b c d2) (h1:SeqAt.shaped (toPy d1)=true:=by rfl) (h2:SeqAt.shaped (toPy d2)=true:=by rfl):TeD Y (.Compare a [.Eq] [b] pos) c (eqD d1 d2):=
 zX (Zo S.room.units h1 h2) (nomark _) ha hb fun x y F H Q f rx ry q=>⟨F,f,rx,ry,q F H (Ext.refl f)⟩
theorem Vl (S:Se Y T k N G) (ha:EvD Y a c d1) (hb:EvD Y b c d2) (h1:SeqAt.shaped (toPy d1)=true:=by rfl) (h2:SeqAt.shaped (toPy d2)=true:=by rfl):TeD Y (.Compare a [.NotEq] [b] pos) c (!eqD d1 d2):=
 zX (kM S.room.units h1 h2) (nomark _) ha hb fun x y F H Q f rx ry q=>⟨F,f,rx,ry,q F H (Ext.refl f)⟩
theorem xbC (S:Se Y T k N G) (ha:EvD Y a c d1) (hb:EvD Y b c d2) (h1:SeqAt.shaped (toPy d1)=true:=by rfl) (h2:SeqAt.shaped (toPy d2)=true:=by rfl):EvD Y (.Compare a [.Eq] [b] pos) c (.bl (eqD d1 d2)):=
 zp (t:=tC .non) (ta:=tC .non) (tb:=tC .non) (vT (Zo S.room.units h1 h2) ha hb (nomark _)) fun x y F H Q f rx ry q=>⟨F,f,rx,ry,q _ F H (Ext.refl f) (.bl _)⟩
def isNon:D->Bool
 | .non=>true
 | _=>false
theorem J4 {e:Expr} {d:D} {j pos'} (ha:EvD Y e c d):TeD Y (.Compare e [.IsNot] [.Constant .none j pos'] pos) c (!isNon d):=
 PT.imp (VO (Kx ha)) fun σ H Q ⟨F,E,q⟩=>⟨F,E,fun x F1 H1 e1 r1=>by
  cases r1<;>exact ⟨_,rfl,q F1 H1 e1⟩⟩
end
section
variable {Y:Cy} {c:List Slot} {a b:Expr} {pos:Pos} {v w:Bool}
end
def AtV (T:Tx) (x:Str) (st:Stmt) (i:Int):Prop:=∃(f Td:Addr) (oc:Value) (od:Option Addr) (kV doc pm:Value) (an:Option Addr) (cdv ct:Value) (osl:Array (Option Value)) (tk:Tok) (o:Obj) (n:Nat),
 T.K.lookup f=some ⟨oc,od,.func (PySem.W.fnOf x x (defArgs st) (defBody st) (defScope st) (.ref Td) kV doc pm an cdv ct),osl⟩/\T.K.lookup Td=some o/\o.data= .seq #[.int i tk] n/\PySem.W.codeIn T.K cdv x=true/\PySem.W.keepIn T.K (.ref f)=true/\T.mg x=some (.ref f)
structure FnDd (T:Tx) (k:Nat) (x:Str) (i:Int) (R:List D->D->Prop):Prop where
 ex:∃(f:Addr) (fd:FuncData) (ps:List Str) (tk:Tok),T.mg x=some (.ref f)/\PySem.W.keepIn T.K (.ref f)=true/\Binds T.K fd ps [.int i tk]/\FnOk T.prog T.w T.K T.mg T.base CX0 k f fd ps (spD T.K R)
theorem Jw {Y:Cy} {T:Tx} {k j:Nat} {N G:List Str} {c:List Slot} {e:Expr} {es:List Expr} {pos p:Pos} {d:D} {ds:List D} {i:Int} {R:List D->D->Prop} {x:Str} (S:Se Y T k N G) (gi:Nat) (Fn:FnDd T j x i R) (hj:j<=k) (ha:ArD Y (e::es) c ds) (hR:R (ds++ [.int i]) d) (hg:G[gi]? =some x:=by rfl)
  (he:starEach (e::es) Y.X.env=(false,eval e Y.X.env)::starEach es Y.X.env:=by rfl) (hpl:(backTo pos (starEach es Y.X.env)).any (·.1)=false:=by rfl):EvD Y (.Call (.Name x p) (e::es) [] pos) c d:=by
 obtain ⟨f,fd,ps,tk,hm,hk,hb,F⟩:=Fn.ex
 have F':FnOk Y.X.prog Y.X.w Y.X.K Y.X.mg Y.X.base CX0 j f fd ps (spD Y.X.K R):=by rw [S.eP,S.eW,S.eK,S.eM,S.eB];exact F
 have gl:=S.gl x (List.mem_of_getElem? hg)
 refine PE.imp (qO F' (S.room.mono hj) gl.1 (by rw [S.eM];exact hm) (by rw [S.eK];exact hk) (by rw [S.eK];exact hb) (dvs:=[.int i]) (.cons ⟨tk,rfl⟩ .nil) pass0 ha gl.2.1 he hpl) fun σ H Q ⟨F,E,q⟩=>⟨F,E,fun vs F1 H1 e1 r1=>?_⟩
 show spD Y.X.K R (vs++ [.int i]) H1 Q E0
 exact ⟨F1,_,d,e1.fh,r1.append (.cons (.int i) .nil),hR,fun v F2 H2 e2 r2=>q v F2 H2 (e1.trans e2) r2⟩
def AtK (K:PySem.W.Frag) (x:Str) (st:Stmt):Prop:=∃(f:Addr) (oc kV dc pm cd ct:Value) (od an:Option Addr) (sl:Array (Option Value)),PySem.W.nsIn K mainGlobals x=some (some (.ref f))/\K.lookup f=some ⟨oc,od,.func (PySem.W.fnOf x x (defArgs st) (defBody st) (defScope st) .none kV dc pm an cd ct),sl⟩/\PySem.W.codeIn K cd x=true/\PySem.W.keepIn K (.ref f)=true
def MtK (K:PySem.W.Frag) (C:Addr) (x q:Str) (st:Stmt):Prop:=∃(f:Addr) (oc kV dc pm cd ct:Value) (od an:Option Addr) (sl:Array (Option Value)),PySem.W.findIn K (.ref C) x=some (some (.ref f))/\K.lookup f=some ⟨oc,od,.func (PySem.W.fnOf x q (defArgs st) (defBody st) (defScope st) .none kV dc pm an cd ct),sl⟩/\PySem.W.codeIn K cd q=true/\PySem.W.keepIn K (.ref f)=true/\PySem.W.isFn K (.ref f)=true
theorem atK_of {K:PySem.W.Frag} {x:Str} {st:Stmt} {f:Addr} {oc kV dc pm cd ct:Value} {od an:Option Addr} {sl:Array (Option Value)} (a:PySem.W.nsIn K mainGlobals x=some (some (.ref f))) (l:K.lookup f=some ⟨oc,od,.func (PySem.W.fnOf x x (defArgs st) (defBody st) (defScope st) .none kV dc pm an cd ct),sl⟩) (c:PySem.W.codeIn K cd x=true) (k:PySem.W.keepIn K (.ref f)=true):AtK K x st:=⟨f,oc,kV,dc,pm,cd,ct,od,an,sl,a,l,c,k⟩
theorem mtK_of {K:PySem.W.Frag} {C:Addr} {x q:Str} {st:Stmt} {f:Addr} {oc kV dc pm cd ct:Value} {od an:Option Addr} {sl:Array (Option Value)} (a:PySem.W.findIn K (.ref C) x=some (some (.ref f))) (l:K.lookup f=some ⟨oc,od,.func (PySem.W.fnOf x q (defArgs st) (defBody st) (defScope st) .none kV dc pm an cd ct),sl⟩) (c:PySem.W.codeIn K cd q=true) (k:PySem.W.keepIn K (.ref f)=true) (e:PySem.W.isFn K (.ref f)=true):MtK K C x q st:=⟨f,oc,kV,dc,pm,cd,ct,od,an,sl,a,l,c,k,e⟩
theorem xB {pr:Program} {w:World} {K:PySem.W.Frag} {h base:Heap} {mg:Str->Option Value} {x:Str} {st:Stmt} (X:K.In h) (G:h.Ns mainGlobals mg) (a:AtK K x st):At ⟨pr,w,K,mg,base⟩ x st:=
 let ⟨_,_,_,_,_,_,_,_,_,_,h1,h2,h3,h4⟩:=a
 ⟨_,_,ZB (st:=st) h2 h3 h4,PySem.W.mg_of X G h1⟩
theorem qG {K:PySem.W.Frag} {mg:Str->Option Value} {C:Addr} {cn x q:Str} {st:Stmt} (hm:mg cn=some (.ref C)) (a:MtK K C x q st):∃C f fd,mg cn=some (.ref C)/\Meth K C x f/\Fun K x q st f fd:=
 let ⟨_,_,_,_,_,_,_,_,_,_,h1,h2,h3,h4,h5⟩:=a
 ⟨_,_,_,hm,⟨h1,h5,h4⟩,ZB (st:=st) h2 h3 h4⟩
theorem kX {K:PySem.W.Frag} {mg:Str->Option Value} {C:Addr} {cn q:Str} {st:Stmt} (dm:PySem.W.makesIn K C=true) (dp:PySem.W.keepIn K (.ref C)=true) (hm:mg cn=some (.ref C)) (a:MtK K C "__init__" q st):∃C f fd,mg cn=some (.ref C)/\Mk K C f/\Fun K "__init__" q st f fd:=
 let ⟨_,_,_,_,_,_,_,_,_,_,h1,h2,h3,h4,h5⟩:=a
 ⟨_,_,_,hm,⟨dm,h1,h5,dp⟩,ZB (st:=st) h2 h3 h4⟩
def IsN (T:Tx) (a b:Str) (v:Bool):Prop:=∀C C',T.mg a=some (.ref C)->T.mg b=some (.ref C')->PySem.W.kitOne T.K (.ref C) (.ref C')=some v
def ExN (T:Tx) (a b:Str) (v:Bool):Prop:=∀C C',T.mg a=some (.ref C)->T.mg b=some (.ref C')->PySem.W.exmOne T.K (.ref C) (.ref C')=some v
def VeN (T:Tx) (a:Str):Prop:=∀C,T.mg a=some (.ref C)->PySem.W.kitOne T.K (.ref C) (.type "ValueError")=some true
section
variable {pr:Program} {w:World} {K:PySem.W.Frag} {h base:Heap} {mg:Str->Option Value} {a b:Str} {C C':Addr} {v:Bool} (X:K.In h) (G:h.Ns mainGlobals mg) (g1:PySem.W.nsIn K mainGlobals a=some (some (.ref C)))
include X G g1
theorem xr (g2:PySem.W.nsIn K mainGlobals b=some (some (.ref C'))) (e:PySem.W.kitOne K (.ref C) (.ref C')=some v):IsN ⟨pr,w,K,mg,base⟩ a b v:=fun _ _ h1 h2=>by
 cases h1.symm.trans (PySem.W.mg_of X G g1);cases h2.symm.trans (PySem.W.mg_of X G g2);exact e
theorem wM (g2:PySem.W.nsIn K mainGlobals b=some (some (.ref C'))) (e:PySem.W.exmOne K (.ref C) (.ref C')=some v):ExN ⟨pr,w,K,mg,base⟩ a b v:=fun _ _ h1 h2=>by
 cases h1.symm.trans (PySem.W.mg_of X G g1);cases h2.symm.trans (PySem.W.mg_of X G g2);exact e
theorem wn (e:PySem.W.kitOne K (.ref C) (.type "ValueError")=some true):VeN ⟨pr,w,K,mg,base⟩ a:=fun _ h1=>by
 cases h1.symm.trans (PySem.W.mg_of X G g1);exact e
end
end DL
namespace DL
open PySem L2 PySem.W PySem.Spec PySem.Calls PyProof.Rows Builtin Builtin.ObjectAttr Builtin.Getset_descriptor
section
variable {prog:Program} {w:World} {A:Around} {E:Value->Shared->Prop} {K:PySem.W.Frag} {x D:Addr} {o:Obj}
structure ExcK (K:PySem.W.Frag) (D:Addr):Prop where
 ga:findIn K (.ref D) "__getattribute__" =some (some (.builtin "BaseException.__getattribute__"))
 gt:findIn K (.ref D) "__getattr__" =some none
 ca:findIn K (.ref D) "__class__" =some (some (.builtin "object.__class__"))
 cg:specialIn K (.builtin "object.__class__") "__get__" =some (some (.builtin "getset_descriptor.__get__"))
 tk:takesIn K (.builtin "object.__class__")=some true
 mo:mroIn K D (.type "object")=some true
 mb:mroIn K D (.type "BaseException")=some true
 cl:(clsIn K D).isSome=true
def excKb (K:PySem.W.Frag) (D:Addr):Bool:=
 findIn K (.ref D) "__getattribute__" ==some (some (.builtin "BaseException.__getattribute__")) && (findIn K (.ref D) "__getattr__" ==some none && (findIn K (.ref D) "__class__" ==some (some (.builtin "object.__class__")) &&
 (specialIn K (.builtin "object.__class__") "__get__" ==some (some (.builtin "getset_descriptor.__get__")) && (takesIn K (.builtin "object.__class__")==some true && (mroIn K D (.type "object")==some true && (mroIn K D (.type "BaseException")==some true && (clsIn K D).isSome))))))
theorem qU {K:PySem.W.Frag} {D:Addr} (h:excKb K D=true):ExcK K D:=by
 unfold excKb at h
 simp only [Bool.and_eq_true,beq_iff_eq] at h
 obtain ⟨a,b,c,d,e,f,g,i⟩:=h
 exact ⟨a,b,c,d,e,f,g,i⟩
theorem X2 {s:Shared} {R:Result->Shared->Prop} {tp:Value} (X:K.In s.heap) (hx:s.heap.get? x=some o) (hc:o.cls= .ref D) (hm:mroIn K D (.type "object")=some true)
  (h:R (.ok (.ret (.ref D))) s):codeAny (model prog w) A (.call (.builtin "getset_descriptor.__get__") ⟨[.builtin "object.__class__",.ref x,tp],[]⟩) R s:=by
 obtain ⟨hh,g,dr,t,os⟩:=s
 have L0:Looks (model prog w) hh (typeOf (.ref x)) (.ref D):=hc▸(Looks.ld hx).andThen .now
 have L1:=looks_mroIn (M:=model prog w) X hm
 refine codeAny_call_builtin KF.slot_gs.plain KF.entry_gs (KF.slot_gs.check _ _ _ _ _ _ _ _ KF.type_class (KF.args_gs _ _ _) ?_)
 unfold Builtin.«getset_descriptor.__get__» descrGet
 rw [dga_obj]
 refine wpAny_bind (wpAny_pure ?_)
 unfold descrGetter descrCheckInstance descrNameAndClass isInstance
 simp only [KF.owner_class]
 repeat lk
 refine ⟨Code.quiet_builtin _ (by decide+kernel),codeAny_builtin KF.entry_class ?_⟩
 unfold Builtin.«object.__class__» shownTypeOf
 repeat lk
 exact h
theorem jf {s:Shared} {Q:Option Value->Shared->Prop} (X:K.In s.heap) (Z:ExcK K D) (hx:s.heap.get? x=some o) (hc:o.cls= .ref D)
  (h:Q (some (.ref D)) { s with toks:=s.toks+1 }):wpAny (model prog w) A (getAttr? (.ref x) "__class__") Q E s:=by
 obtain ⟨hh,g,d,t,os⟩:=s
 have L0:Looks (model prog w) hh (typeOf (.ref x)) (.ref D):=hc▸(Looks.ld hx).andThen .now
 have L1:=looks_findIn (M:=model prog w) X Z.ga
 have L2:=looks_findIn (M:=model prog w) X Z.gt
 have L3:=looks_findIn (M:=model prog w) X Z.ca
 have L5:=looks_mroIn (M:=model prog w) X Z.mb
 have LI:Looks (model prog w) hh (isInstance (.ref x) (.type "BaseException")) true:=L0.andThen L5
 unfold getAttr? getAttrBy? getAttrBy
 refine wpAny_bind (wpAny_mkText (wpAny_bind (wpAny_attempt (wpAny_holding (wpAny_bind (L0.at (wpAny_bind (L1.at ?_))))))))
 show wpAny _ _ (getAttrByItsOwn _ _ _ _ _ _) _ _ _
 unfold getAttrByItsOwn hookBefore
 refine wpAny_bind (L2.at (wpAny_bind (wpAny_attempt (wpAny_holding ?_))))
 show wpAny _ _ (boundAndCalled _ _ _) _ _ _
 unfold boundAndCalled
 rw [PySem.F.excAttr_ValueError.ga.bind (.ref x)]
 refine wpAny_bind (wpAny_pure (wpAny_call (codeAny_call_builtin PySem.F.excAttr_ValueError.ga.plain F.entry_bexc_ga ?_)))
 have hk:builtinKind "BaseException.__getattribute__" =some .slot:=by decide+kernel
 have hsplit:splitId "BaseException.__getattribute__" =some ("BaseException","__getattribute__"):=by decide+kernel
 have hargs:=F.args_bexc_ga (.ref x) (Value.str (Str.ofString "__class__") t)
 have hfind:Looks (model prog w) hh (find (.ref x) (.ref D) "__class__") (.bind (.builtin "getset_descriptor.__get__") (.builtin "object.__class__")):=by
  have G1:=looks_specialIn (M:=model prog w) X Z.cg
  have G2:=looks_takesIn (M:=model prog w) X Z.tk
  refine L3.andThen (G1.andThen ?_)
  exact (show Looks (model prog w) hh (dataDescriptor? (some (.builtin "object.__class__")) (some (.builtin "getset_descriptor.__get__"))) (some (.builtin "getset_descriptor.__get__",.builtin "object.__class__")) from G2.andThen .now).andThen (Looks.tag .now)
 simp only [checkBuiltinCall,hk,hsplit]
 refine wpAny_bind (LI.at ?_)
 simp only [Bool.not_true,Bool.false_eq_true,if_false]
 have body:∀(A':Around) (Q':Fin->Shared->Prop) (E':Value->Shared->Prop),Q' (.done (.ret (.ref D))) ⟨hh,g,d,t+1,os⟩->wpAny (model prog w) A' (Builtin.«object.__getattribute__» ⟨[.ref x,.str "__class__" t],[]⟩) Q' E' ⟨hh,g,d,t+1,os⟩:=by
  intro A' Q' E' hq
  unfold Builtin.«object.__getattribute__»
  repeat lk
  refine wpAny_run (h:=none) (X2 (s:=⟨hh,g,d,t+1,os⟩) X hx hc Z.mo ?_)
  exact wpAny_pure (wpAny_pure hq)
 refine wpAny_of_eq (a:=()) hargs (body _ _ _ ?_)
 show wpAny (model prog w) A (handedOut (.ref D)) _ _ _
 exact wpAny_of_eq (handedOut_of rfl) (wpAny_pure h)
theorem Jc {dx:Option Addr} (Z:ExcK K D):KitX K (.ref x) (.ref D) (ExcAt D dx x) where
 ty:=fun _ _ _ ⟨o,_,h1,h2,_⟩=>h2▸(Looks.ld h1).andThen .now
 it:=fun _ _ X _=>by
  obtain ⟨cdD,hcD⟩:=Option.isSome_iff_exists.mp Z.cl
  unfold clsIn at hcD
  split at hcD
  ·rename_i c' d' cd' sl' ho
   intro A' Q' E' s' k q
   unfold isType loadHead
   exact wpAny_bind (wpAny_loadPart (k _ _ (X _ _ ho)) (wpAny_pure q))
  ·cases hcD
 ne:=fun h tp dd its n sl X htp=>by
  obtain ⟨cdD,hcD⟩:=Option.isSome_iff_exists.mp Z.cl
  refine Bool.eq_false_iff.mpr fun q=>?_
  have e:D=tp:=Value.ref.inj (beq_iff_eq.mp q)
  subst e
  unfold clsIn at hcD
  split at hcD
  ·rename_i c' d' cd' sl' ho
   have z:=(X _ _ ho).symm.trans htp
   cases z
  ·cases hcD
 ca:=fun X ⟨o,_,h1,h2,_⟩ k=>jf X Z h1 h2 k
end
end DL
namespace DL
open PySem L2
theorem _root_.L2.ObjOk.there {P:Program} {w:World} {H:Hp} {h:Heap} {a:Addr} {o:HO} (x:ObjOk P w H h a o):∃ob,h.get? a=some ob:=by
 cases o with
 | lst xs=>obtain ⟨_,_,_,_,e⟩:=x;exact ⟨_,e⟩
 | tup xs=>obtain ⟨_,_,_,ob,e,_⟩:=x;exact ⟨_,e⟩
 | dK kvs=>obtain ⟨_,_,_,_,o,_,_,e,_⟩:=x;exact ⟨_,e⟩
 | dT kvs=>obtain ⟨_,_,_,_,o,_,_,e,_⟩:=x;exact ⟨_,e⟩
 | set S n=>obtain ⟨o,_,_,_,e,_⟩:=x;exact ⟨_,e⟩
 | ins C dx fs=>obtain ⟨_,_,_,e,_⟩:=x;exact ⟨_,e⟩
 | own y=>obtain ⟨_,e⟩:=x;exact ⟨_,e⟩
 | xd fs=>obtain ⟨_,⟨_,_,_,e,_⟩,_⟩:=x;exact ⟨_,e⟩
 | rng lo hi=>obtain ⟨_,_,_,e⟩:=x;exact ⟨_,e⟩
 | frz ob u=>obtain ⟨e,_⟩:=x;exact ⟨_,e⟩
 | tbl ps=>exact ⟨_,(show h.get? a=some _ from x)⟩
 | met f y=>exact ⟨_,(show h.get? a=some _ from x)⟩
 | ext φ=>obtain ⟨_,⟨_,e⟩,_⟩:=x;exact ⟨_,e⟩
def Kpt (B:Heap) (outer:List PySem.Env) (H:Hp) (s h:Heap):Prop:=∀b o,h.get? b=some o->(H b≠none∨(s.get? b≠none/\b∉frs outer))->B.get? b=some o
theorem ux {P:Program} {w:World} {B:Heap} {outer:List PySem.Env} {H H':Hp} {s h1 h2:Heap} (U:Un (frs outer) [] H H' s h1) (K:Kpt B outer H' s h1) (hk:HOk P w H' h1) (fr:h1.FunFrames B outer) (fu:∀b∈frs outer,H' b=none)
  (st:B.StaysIn h2) (up:h1.UpToSlots h2):Un (frs outer) [] H H' s h2/\HOk P w H' h2/\Kpt B outer H' s h2:=by
 have frame:∀b o,b∈frs outer->h1.get? b=some o->∃sl,h2.get? b=some { o with slots:=sl }:=fun b o hb e=>by
  obtain ⟨_,o',ho,hd⟩:=fr.mem hb
  rw [e] at ho;cases ho
  exact up b o e hd
 refine ⟨⟨fun b o e n hb hx=>?_,fun b o e n hb hx=>?_,U.free,fun b o e hx=>?_,U.tups,U.frzs,U.tbls⟩,fun a o e=>?_,fun b o e c=>?_⟩
 ·exact st _ _ (K b o (U.keep b o e n hb hx) (.inr ⟨by rw [e];exact (fun z=>nomatch z),hb⟩))
 ·obtain ⟨sl,e1⟩:=U.slot b o e n hb hx
  obtain ⟨sl',e2⟩:=frame b _ hb e1
  exact ⟨sl',e2⟩
 ·obtain ⟨o',e1⟩:=U.there b o e hx
  by_cases hb:b∈frs outer
  ·obtain ⟨sl,e2⟩:=frame b _ hb e1
   exact ⟨_,e2⟩
  ·exact ⟨o',st _ _ (K b o' e1 (.inr ⟨by rw [e];exact (fun z=>nomatch z),hb⟩))⟩
 ·refine (hk a o e).stay (fun b u hb q=>?_) (fun _ q=>q) fun _ _ q=>q
  refine st _ _ (K b u q (.inl ?_))
  rcases hb with rfl | hb
  ·rw [e];exact fun z=>nomatch z
  ·rw [hb];exact fun z=>nomatch z
 ·have ex:∃o',h1.get? b=some o':=by
   rcases c with c | ⟨c,_⟩
   ·cases q:H' b with
    | none=>exact absurd q c
    | some u=>exact (hk b u q).there
   ·cases q:s.get? b with
    | none=>exact absurd q c
    | some u=>exact U.there b u q (by simp)
  obtain ⟨o',e1⟩:=ex
  have k:=K b o' e1 c
  have z:=st _ _ k
  rw [e] at z;cases z
  exact k
structure Lies (P:Program) (w:World) (outer:List PySem.Env) (H:Hp) (s:Shared) (a C:Addr) (H':Hp) (s':Shared):Prop where
 os:s'.os=s.os
 bare:PyProof.Rows.AllBare s'.gens
 un:Un (frs outer) [] H H' s.heap s'.heap
 hok:HOk P w H' s'.heap
 new:s.heap.get? a=none
 fu:∀b∈frs outer,H' b=none
 fly:∃B a0,Heap.FlyingW B outer a (.ref C) a0 s'.heap/\Kpt B outer H' s.heap s'.heap
def CXE (P:Program) (w:World):CXT:=fun outer H s E e s'=>∃a C H',e= .ref a/\Lies P w outer H s a C H' s'/\E (.ref C) none H'
structure RzM (Y:Cy) (C:Addr) (c:List Slot):Prop where
 made:∀{pins:List (Addr×Obj)} {σ:St} {F H:Hp} {s:Shared} {h':Heap} {e:Addr} {vs:List Value},Inv Y.X pins σ H s->EnvY Y F H σ c->Heap.MadeExcOf s.heap h' e (.ref C) vs->Y.X.xe (.ref e) { s with heap:=h' }
structure Rz (Y:Cy) (C:Addr) (c:List Slot):Prop where
 fly:∀{pins:List (Addr×Obj)} {σ:St} {F H F' H':Hp} {s s':Shared} {e:Addr},Inv Y.X pins σ H s->EnvY Y F H σ c->Same F F'->EnvY Y F' H' σ c->Lies Y.X.prog Y.X.w Y.X.stack H s e C H' s'->Y.X.xe (.ref e) s'
theorem xbk {X:Cx} {pins:List (Addr×Obj)} {σ:St} {H:Hp} {s:Shared} (I:Inv X pins σ H s) (hx:X.ex=[]):Kpt (PySem.W.hideAll s.heap (frs X.stack)) X.stack H s.heap s.heap:=fun b o e c=>by
 refine PySem.W.hideAll_get _ e fun hb=>?_
 rcases c with c | ⟨_,c⟩
 ·exact c (I.stkFree b hb)
 ·exact c hb
theorem Jb {X:Cx} {pins:List (Addr×Obj)} {σ:St} {H H':Hp} {s:Shared} {B h:Heap} (I:Inv X pins σ H s) (hx:X.ex=[]) (hs:X.stack=X.env::X.outer/\X.env.frame=some X.env.locals) (K:Kpt B X.stack H' s.heap h):Kpt B X.outer H' X.s₀.heap h:=fun b o e c=>by
 refine K b o e ?_
 rcases c with c | ⟨c1,c2⟩
 ·exact .inl c
 ·refine .inr ⟨fun z=>?_,fun hb=>?_⟩
  ·cases q:X.s₀.heap.get? b with
   | none=>exact c1 q
   | some u=>
    obtain ⟨o',e'⟩:=I.base.there b u q (by rw [hx];simp)
    rw [z] at e';cases e'
  ·rw [hs.1] at hb
   unfold frs at hb
   rw [List.filterMap_cons,hs.2] at hb
   rcases List.mem_cons.mp hb with rfl | hb
   ·cases q:X.s₀.heap.get? X.env.locals with
    | none=>exact c1 q
    | some u=>exact absurd (Nat.lt_of_lt_of_le (Heap.lt_size q) I.ok.above) (Nat.lt_irrefl _)
   ·exact c2 hb
theorem V1 {X:Cx} {pins:List (Addr×Obj)} {σ:St} {H:Hp} {s:Shared} {a:Addr} (I:Inv X pins σ H s) (hx:X.ex=[]) (n:s.heap.get? a=none):X.s₀.heap.get? a=none:=by
 cases q:X.s₀.heap.get? a with
 | none=>rfl
 | some u=>
  obtain ⟨o',e'⟩:=I.base.there a u q (by rw [hx];simp)
  rw [n] at e';cases e'
theorem qa {X:Cx} {pins:List (Addr×Obj)} {σ:St} {H:Hp} {s:Shared} {h':Heap} {e C:Addr} {vs:List Value} {Q:Unit->Shared->Prop} {E:Value->Shared->Prop} (I:Inv X pins σ H s) (hx:X.ex=[]) (hs:X.stack=X.env::X.outer/\X.env.frame=some X.env.locals)
  (M:Heap.MadeExcOf s.heap h' e (.ref C) vs) (hQ:∀s',Lies X.prog X.w X.outer X.H₀ X.s₀ e C H s'->Q () s'):wpAny (model X.prog X.w) X.A (leaving X.env (.ref e)) Q E { s with heap:=h' }:=by
 have hin:∀env∈X.stack,∀b,env.frame=some b->b∈frs X.stack:=fun env he b hb=>List.mem_filterMap.mpr ⟨env,he,hb⟩
 have fr:=PySem.W.funFrames_hide (as:=frs X.stack) I.stack hin
 have fro:s.heap.FunFrames (PySem.W.hideAll s.heap (frs X.stack)) X.outer:=by have:=fr;rw [hs.1] at this;rw [hs.1];exact this.2.2
 refine wpAny_leaves_madeW (base:=PySem.W.hideAll s.heap (frs X.stack)) (by rw [I.ok.frames,hs.1]) hs.2 (fun b o q=>PySem.W.of_hideAll _ q) (by rw [<-hs.1];exact fr) M fun h2 t fl _ _ up=>?_
 have ub:Un (frs X.outer) [] X.H₀ H X.s₀.heap s.heap:=by have:=I.base;rw [hx] at this;exact this
 have fu:∀b∈frs X.outer,H b=none:=fun b hb=>I.stkFree b (by rw [hs.1];unfold frs;rw [List.filterMap_cons,hs.2];exact .tail _ hb)
 obtain ⟨u2,k2,kp⟩:=ux ub (Jb I hx hs (xbk I hx)) I.hok fro fu fl.1 ((Heap.UpToSlots.of_keeps M.keeps).trans up)
 exact hQ _ ⟨I.os,I.bare,u2,k2,V1 I hx M.new,fu,_,_,fl,kp⟩
theorem v7 {X:Cx} {pins:List (Addr×Obj)} {σ:St} {H H':Hp} {s s':Shared} {e C:Addr} {Q:Unit->Shared->Prop} {E:Value->Shared->Prop} (I:Inv X pins σ H s) (hx:X.ex=[]) (hs:X.stack=X.env::X.outer/\X.env.frame=some X.env.locals)
  (L:Lies X.prog X.w X.stack H s e C H' s') (hQ:∀s',Lies X.prog X.w X.outer X.H₀ X.s₀ e C H' s'->Q () s'):wpAny (model X.prog X.w) X.A (leaving X.env (.ref e)) Q E s':=by
 obtain ⟨B,a0,fl,kp⟩:=L.fly
 have I':Inv X pins σ H' s':=I.call' (ch:=[]) L.os L.un L.hok L.bare (fun _ z=>nomatch z)
 refine wpAny_leaves_onW (by rw [I.ok.frames,hs.1]) hs.2 (by rw [<-hs.1];exact fl) fun h2 fl2 up=>?_
 have ub:Un (frs X.outer) [] X.H₀ H' X.s₀.heap s'.heap:=by have:=I'.base;rw [hx] at this;exact this
 have fu:∀b∈frs X.outer,H' b=none:=fun b hb=>L.fu b (by rw [hs.1];unfold frs;rw [List.filterMap_cons,hs.2];exact .tail _ hb)
 have fro:s'.heap.FunFrames B X.outer:=by have:=fl.2.2.1;rw [hs.1] at this;exact this.2.2
 obtain ⟨u2,k2,kp2⟩:=ux ub (Jb I hx hs kp) L.hok fro fu fl2.1 up
 exact hQ { s' with heap:=h2 } ⟨I'.os,L.bare,u2,k2,V1 I hx L.new,fu,_,_,fl2,kp2⟩
inductive Rs where
 | ok (d:D) | ex (x:Str)
def spX (T:Tx) (R:List D->Rs->Prop):Sp:=fun vs H Q E=>∃F ds r,Same F H/\Reps T.K F vs ds/\R ds r/\(match r with
 | .ok d=>∀v F' H',Ext F H F' H'->Rep T.K F' v d->Q v H'
 | .ex x=>∀C F' H',T.mg x=some (.ref C)->Ext F H F' H'->E (.ref C) none H')
structure FnX (T:Tx) (k:Nat) (x:Str) (R:List D->Rs->Prop):Prop where
 ex:∃(f:Addr) (fd:FuncData) (ps:List Str),T.mg x=some (.ref f)/\PySem.W.keepIn T.K (.ref f)=true/\Binds T.K fd ps []/\FnOk T.prog T.w T.K T.mg T.base (CXE T.prog T.w) k f fd ps (spX T R)
def RzN (Y:Cy) (T:Tx) (x:Str) (c:List Slot):Prop:=∀C,T.mg x=some (.ref C)->Rz Y C c
def RzMN (Y:Cy) (T:Tx) (x:Str) (c:List Slot):Prop:=∀C,T.mg x=some (.ref C)->RzM Y C c
def RetX:Rs->Out->Prop
 | .ok d=>Ret d
 | .ex _=>fun _=>False
def tX (Y:Cy) (c:List Slot):TE:=fun σ H _=>∃F,EnvY Y F H σ c
def EvX (Y:Cy) (e:Expr) (c:List Slot):Prop:=PE Y.X e (tX Y c)
def tXA (Y:Cy) (c:List Slot):TA:=fun σ H _=>∃F,EnvY Y F H σ c
def ArX (Y:Cy) (es:List Expr) (c:List Slot):Prop:=PA Y.X es (tXA Y c)
section
variable {Y:Cy} {T:Tx} {k j:Nat} {N G ps:List Str} {c:List Slot} {e:Expr} {es:List Expr} {pos p:Pos} {d:D} {ds:List D} {R:List D->Rs->Prop} {x qual y:Str} {P:Out->Prop} {rest:List Stmt}
theorem xce {st:Stmt} {f:Addr} {fd:FuncData} (F:Fun T.K x qual st f fd) (B:ScB N ps G (defScope st)) (hlen:∀ds d,R ds d->ds.length=ps.length)
  (body:∀(Y:Cy) (S:Sc Y T k N G) (Z:Fx Y st) (ds:List D) (r:Rs),R ds r->(∀y,r= .ex y->∀c,RzN Y T y c/\RzMN Y T y c)->SsD Y (defBody st) (ctx0 N ds) (RetX r)):FnOk T.prog T.w T.K T.mg T.base (CXE T.prog T.w) (k+1) f fd ps (spX T R):=by
 obtain ⟨oc,od,kV,doc,pm,an,cdv,ct,osl,rfl,lk,hcd⟩:=F.ex
 refine QQ lk hcd B.fs (fun vs H Q E h=>?_) fun A outer s H vs Q E hr h=>?_
 ·obtain ⟨F0,ds,d,_,r,hR,_⟩:=h
  rw [r.length];exact hlen ds d hR
 ·obtain ⟨F0,ds,r,f0,rs,hR,q⟩:=h
  have S:Sc ⟨cxOf (CXE T.prog T.w) T.prog T.w T.K T.mg T.base N qual (defScope st) f cdv A outer s H E,F0,H⟩ T k N G:=
   ⟨⟨⟨rfl,rfl,rfl,rfl,rfl,rfl,B.fs.nd,B.loc,B.gl⟩,rfl,hr⟩,fun _=>rfl,PassesOwn.leaving⟩
  refine ⟨_,body _ S ⟨rfl,rfl,rfl,rfl⟩ ds r hR (fun y hy c=>?_),F0,wT f0 rs,fun o ho=>?_⟩
  ·subst hy
   have q:∀C F' H',T.mg y=some (.ref C)->Ext F0 H F' H'->E (.ref C) none H':=q
   exact ⟨fun C hC=>⟨fun I _ _ En L=>v7 I rfl ⟨rfl,rfl⟩ L fun s' L=>⟨_,C,_,rfl,L,q C _ _ hC En.ext⟩⟩,fun C hC=>⟨fun I En M=>qa I rfl ⟨rfl,rfl⟩ M fun s' L=>⟨_,C,_,rfl,L,q C _ _ hC En.ext⟩⟩⟩
  ·cases r with
   | ex y=>exact False.elim ho
   | ok d=>
    have q:∀v F' H',Ext F0 H F' H'->Rep T.K F' v d->Q v H':=q
    cases o with
    | rt e=>cases ho;exact fun v F' H' _ x r'=>q v F' H' x r'
    | nx c=>cases ho;exact fun σ F' H' _ E'=>q .non F' H' E'.ext .non
    | bk c=>exact False.elim ho
    | ct c=>exact False.elim ho
    | ro ds=>exact False.elim ho
    | rs R=>exact False.elim ho
theorem wL {st:Stmt} (A:At T x st) (B:ScB N ps G (defScope st)) (hb:∀f fd,Fun T.K x x st f fd->Binds T.K fd ps []) (hlen:∀ds d,R ds d->ds.length=ps.length)
  (body:∀(Y:Cy) (S:Sc Y T k N G) (Z:Fx Y st) (ds:List D) (r:Rs),R ds r->(∀y,r= .ex y->∀c,RzN Y T y c/\RzMN Y T y c)->SsD Y (defBody st) (ctx0 N ds) (RetX r)):FnX T (k+1) x R:=
 let ⟨f,fd,F,hm⟩:=A
 ⟨f,fd,ps,hm,F.kp,hb f fd F,xce F B hlen body⟩
theorem xM (S:Se Y T k N G) (gi:Nat) (Fn:FnX T j x R) (hj:j<=k) (ha:ArD Y (e::es) c ds) (hR:R ds (.ok d)) (hg:G[gi]? =some x:=by rfl)
  (he:starEach (e::es) Y.X.env=(false,eval e Y.X.env)::starEach es Y.X.env:=by rfl) (hpl:(backTo pos (starEach es Y.X.env)).any (·.1)=false:=by rfl):EvD Y (.Call (.Name x p) (e::es) [] pos) c d:=by
 obtain ⟨f,fd,ps,hm,hk,hb,F⟩:=Fn.ex
 have F':FnOk Y.X.prog Y.X.w Y.X.K Y.X.mg Y.X.base (CXE Y.X.prog Y.X.w) j f fd ps (spX T R):=by rw [S.eP,S.eW,S.eK,S.eM,S.eB];exact F
 have gl:=S.gl x (List.mem_of_getElem? hg)
 refine PE.imp (qO (E:=E0) F' (S.room.mono hj) gl.1 (by rw [S.eM];exact hm) (by rw [S.eK];exact hk) (by rw [S.eK];exact hb) .nil (fun _ _ _ _ _ _ _ ⟨_,_,_,_,_,z⟩=>z.elim) ha gl.2.1 he hpl) fun σ H Q ⟨F,E,q⟩=>⟨F,E,fun vs F1 H1 e1 r1=>?_⟩
 show spX T R (vs++ []) H1 Q E0
 rw [List.append_nil]
 refine ⟨F1,ds,.ok d,e1.fh,by rw [<-S.eK];exact r1,hR,fun v F2 H2 e2 r2=>q v F2 H2 (e1.trans e2) (by rw [<-S.eK] at r2;exact r2)⟩
theorem x6 (S:Se Y T k N G) (gi:Nat) (Fn:FnX T j x R) (hj:j<=k) (ha:ArD Y (e::es) c ds) (hR:R ds (.ex y)) (hz:RzN Y T y c) (hg:G[gi]? =some x:=by rfl)
  (he:starEach (e::es) Y.X.env=(false,eval e Y.X.env)::starEach es Y.X.env:=by rfl) (hpl:(backTo pos (starEach es Y.X.env)).any (·.1)=false:=by rfl):EvX Y (.Call (.Name x p) (e::es) [] pos) c:=by
 obtain ⟨f,fd,ps,hm,hk,hb,F⟩:=Fn.ex
 have F':FnOk Y.X.prog Y.X.w Y.X.K Y.X.mg Y.X.base (CXE Y.X.prog Y.X.w) j f fd ps (spX T R):=by rw [S.eP,S.eW,S.eK,S.eM,S.eB];exact F
 have gl:=S.gl x (List.mem_of_getElem? hg)
 intro pins s σ H Q I ⟨F0,E⟩
 refine wpAny_Call_Name_kw (yG I gl.1 (by rw [S.eM];exact hm) ?_ gl.2.1)
 refine PySem.W.callWith_K (h₀:=Y.X.base) I.ok.mod.kin (by rw [S.eK];exact hk) (thn (ha pos pins s σ H (fun vs H1=>∃F1,Ext F0 H F1 H1/\Reps Y.X.K F1 vs ds) I ⟨F0,E,fun vs F1 H1 e1 r1=>⟨F1,e1,r1⟩⟩) fun us s1 ⟨vs,H1,I1,r,F1,e1,rs⟩=>⟨I1.kIn,?_⟩) he hpl
 have h:spX T R vs H1 (fun _ _=>False) (fun cls _ H'=>∃C F',cls= .ref C/\T.mg y=some (.ref C)/\Ext F1 H1 F' H'):=
  ⟨F1,ds,.ex y,e1.fh,by rw [<-S.eK];exact rs,hR,fun C F' H' hC ex=>⟨C,F',rfl,hC,ex⟩⟩
 have hl:us.length=ps.length:=by rw [<-r.length];exact F'.len _ _ _ _ h
 have hb':Binds Y.X.K fd ps []:=by rw [S.eK];exact hb
 have hb2:=hb' s1 us I1.kIn (by rw [List.append_nil];exact hl)
 rw [List.append_nil] at hb2
 refine wpAny_call (codeAny_mono (F'.run Y.X.A Y.X.stack s1 H1 ⟨us,[]⟩ us vs _ _ (S.room.mono hj) I1.env0 hb2 r h) fun r s' hq=>?_)
 cases r with
 | error e=>
  obtain ⟨a,C,H',rfl,L,C',F',z,hC,ex⟩:=hq
  cases z
  exact (hz C hC).fly I1 (E.grow e1) ex.ff ((E.grow e1).grow ex) L
 | ok fl=>
  cases fl with
  | ret u=>obtain ⟨_,_,_,_,_,_,_,z⟩:=hq;exact z.elim
  | next=>exact False.elim hq
  | brk=>exact False.elim hq
  | cont=>exact False.elim hq
theorem yw (h:EvX Y e c):SsD Y (.Return (some e) pos::rest) c P:=xI (PS.imp (Zj h) fun D σ H ⟨F,E,_⟩=>⟨F,E⟩)
theorem yM {x:Str} {pos':Pos} (S:Sc Y T k N G) (i:Nat) (he:EvX Y e c) (hi:N[i]? =some x:=by rfl) (hs:swapsWith e (some (.Name x pos')) pos.line Y.X.env=pure false:=by rfl):SsD Y (.Assign [.Name x pos'] e pos::rest) c P:=by
 have hx:=S.loc x (List.mem_of_getElem? hi)
 have hN:=S.nd
 rw [<-S.n] at hi hN
 exact xI (PS.imp (qy hN hi hx.1 he hs (.inl (S.fn x))) fun D σ H ⟨F,E,_⟩=>⟨F,E⟩)
theorem JN (ha:EvX Y e c) (hr:PA Y.X es (fun _ _ _=>False)) (hs:starEach (e::es) Y.X.env=(false,eval e Y.X.env)::starEach es Y.X.env:=by rfl):ArX Y (e::es) c:=
 PA.imp (xJ ha hr hs) fun σ H Q ⟨F,E⟩=>⟨F,E⟩
theorem XR (ha:EvD Y e c d) (hr:ArX Y es c) (hs:starEach (e::es) Y.X.env=(false,eval e Y.X.env)::starEach es Y.X.env:=by rfl):ArX Y (e::es) c:=
 PA.imp (xJ ha hr hs) fun σ H Q ⟨F,E⟩=>⟨F,E,fun x F1 H1 e1 r1=>⟨F1,E.grow e1⟩⟩
theorem qP:PA Y.X es (fun _ _ _=>False):=fun _ _ _ _ _ _ _ z=>z.elim
end
theorem je {K:PySem.W.Frag} {h:Heap} {C:Addr} {bmB:List Value} {newId:String} (X:K.In h) (q:PySem.W.excIn K C bmB newId=true):
  ∃bm N nm qn bs hdct sn sub ab col dd k0 k1 k2 k3 k5 mN,h.get? C=some (excClassObj nm qn C N bs bm hdct sn sub ab col dd k0 k1 k2 k3 k5 newId)/\h.Ns N mN/\mN "__init__" =none/\OwnTail h bmB bm:=by
 unfold PySem.W.excIn at q
 split at q
 ·rename_i dd cd sl ho
  split at q
  ·rename_i C' bm k0 k1 k2 k3 n k5 hm hs
   simp only [Bool.and_eq_true,beq_iff_eq,Bool.not_eq_true'] at q
   obtain ⟨⟨⟨⟨⟨rfl,rfl⟩,hdel⟩,ht⟩,hok⟩,hni⟩:=q
   obtain ⟨nm,bs,mro,ns,qn,hd,sn,sub,ab,col,del⟩:=cd
   dsimp only at hm hdel hok hni
   subst hm hdel
   have hsl:sl= #[k0,k1,k2,k3,some (.builtin n),k5]:=by
    obtain ⟨l⟩:=sl
    simp only at hs
    rw [hs]
   subst hsl
   exact ⟨bm,ns,nm,qn,bs,hd,sn,sub,ab,col,dd,k0,k1,k2,k3,k5,_,X _ _ ho,.of_isNs (PySem.W.isNs_of_in X hok),PySem.W.nsMap_none_of_in X hok hni,PySem.W.tail_of_in X ht⟩
  ·cases q
 ·cases q
def ClsX (T:Tx) (x:Str):Prop:=∃C,T.mg x=some (.ref C)/\PySem.W.excIn T.K C [.type "ValueError",.type "Exception",.type "BaseException",.type "object"] "ValueError.__new__" =true
section
variable {Y:Cy} {T:Tx} {k:Nat} {N G:List Str} {c:List Slot} {e:Expr} {es:List Expr} {pos p cpos:Pos} {ds:List D} {x:Str} {P:Out->Prop} {rest:List Stmt}
theorem zh (S:Sc Y T k N G) (gi:Nat) (hC:ClsX T x) (ha:ArD Y (e::es) c ds) (hz:RzMN Y T x c) (hn:ds.length<=1000000:=by first | exact of_decide_eq_true rfl | (simp;done)) (hg:G[gi]? =some x:=by rfl)
  (he:starEach (e::es) Y.X.env=(false,eval e Y.X.env)::starEach es Y.X.env:=by rfl) (hpl:(backTo cpos (starEach es Y.X.env)).any (·.1)=false:=by rfl):SsD Y (.Raise (some (.Call (.Name x p) (e::es) [] cpos)) none pos::rest) c P:=by
 obtain ⟨C,hm,q⟩:=hC
 have gl:=S.gl x (List.mem_of_getElem? hg)
 refine xI fun pins s σ H D I ⟨F,E,_⟩=>?_
 have q':PySem.W.excIn Y.X.K C [.type "ValueError",.type "Exception",.type "BaseException",.type "object"] "ValueError.__new__" =true:=by rw [S.eK];exact q
 obtain ⟨tl,NN,nm,qn,bs,hdct,sn,sub,ab,col,dd,k0,k1,k2,k3,k5,mN,hC,hN,hni,TL⟩:=je (h:=Y.X.base) I.ok.mod.kin q'
 refine wpAny_Raise_call_subT (C:=C) (nm:=nm) (q:=qn) (N:=NN) (bs:=bs) (bm:=tl) (hdct:=hdct) (sn:=sn) (sub:=sub) (ab:=ab) (col:=col) (dd:=dd) (k0:=k0) (k1:=k1) (k2:=k2) (k3:=k3) (k5:=k5)
  PySem.F.excBase_ValueError (mN:=mN) (TL.hasType PySem.F.excBase_ValueError.hasBase) S.room.hd (by rw [he];show (false || (backTo cpos (starEach es Y.X.env)).any (·.1))=false;rw [hpl];rfl) hni (yG I gl.1 (by rw [S.eM];exact hm) ⟨rfl,?_⟩ gl.2.1)
 have h1:=ha cpos pins s σ H (fun vs H1=>∃F1,Ext F H F1 H1/\vs.length=ds.length) I ⟨F,E,fun vs F1 H1 e1 r1=>⟨F1,e1,r1.length⟩⟩
 rw [he] at h1 ⊢
 refine Calls.evalArgs_plain (wpAny_mono h1 (fun us s2 h2=>?_) fun _ _ y=>y)
 obtain ⟨vs,H1,I1,r1,F1,e1,hl⟩:=h2
 exact ⟨rfl,by show us.length<=sizeLine;rw [<-r1.length,hl];exact xT hn,I1.bk _ _ hC,hN.keeps I1.bk,TL.keeps I1.bk,fun h' a M=>(hz C hm).made I1 (E.grow e1) M⟩
end
end DL
namespace L2
open PySem PySem.Spec PyProof.Rows
structure RoomH (k:Nat) (A:Around):Prop where
 dp:A.depth+3*k+5<recursionLimit
 un:A.units+16*k+200<cLine
theorem RoomH.mono {j k:Nat} {A:Around} (r:RoomH k A) (h:j<=k):RoomH j A:=⟨by have:=r.dp;omega,by have:=r.un;omega⟩
theorem RoomH.deeper {k:Nat} {A:Around} (r:RoomH (k+1) A) (env:Env):RoomH k (A.deeper env):=
 ⟨by have:=r.dp;show A.depth+1+3*k+5<_;omega,by have:=r.un;show A.units+3+16*k+200<_;omega⟩
theorem RoomH.depth {k:Nat} {A:Around} (r:RoomH k A):A.depth<recursionLimit:=by have:=r.dp;omega
def cxH (P:Program) (w:World) (K:PySem.W.Frag) (mg:Str->Option Value) (base:Heap) (N:List Str) (qual:Str) (scope:Scope) (f:Addr) (cd:Value) (A:Around) (outer:List Env) (s:Shared) (H:Hp):Cx:=
 { cxOf CX0 P w K mg base N qual scope f cd A outer s H E0 with calm:=false,xe:=fun _ _=>False }
structure FnOkH (P:Program) (w:World) (K:PySem.W.Frag) (mg:Str->Option Value) (base:Heap) (k:Nat) (f:Addr) (fd:FuncData) (ps:List Str) (sp:Sp):Prop where
 len:∀vs H Q,sp vs H Q E0->vs.length=ps.length
 run:∀(A:Around) (outer:List Env) (s:Shared) (H:Hp) (args:Args) (us:List Value) (vs:List V) (Q:VK),RoomH k A->Env0 P w K mg base A outer s H->BindsTo s fd args (ps.zip us)->Vals vs us->sp vs H Q E0->
  codeAny (model P w) A (.call (.ref f) args) (CR CX0 outer P w H s Q E0) s
theorem V9 {P:Program} {w:World} {K:PySem.W.Frag} {mg:Str->Option Value} {base:Heap} {N ps:List Str} {qual:Str} {scope:Scope} {f:Addr} {cd:Value} {A:Around} {outer:List Env} {s s1:Shared} {H:Hp} {us:List Value} {vs:List V}
  (S:FnScope N ps scope) (e0:Env0 P w K mg base A outer s H) (hl:vs.length=ps.length) (r:Vals vs us)
  (x:InCallC s s.heap.objs.size (bindL (envOfC qual scope s.heap.objs.size f cd).kindOf (ps.zip us) fun _=>none) (cellsFrom (s.heap.objs.size+1) scope.names []) (bindC (envOfC qual scope s.heap.objs.size f cd).kindOf (ps.zip us) fun _=>none) s1):
  Inv (cxH P w K mg base N qual scope f cd A outer s H) [] (start N vs) H s1:=by
 have hpl:ps.length<=N.length:=by have:=congrArg List.length S.pre;rw [List.length_take] at this;omega
 obtain ⟨h1,tk,rfl,hk⟩:=x.done
 have noA:∀b:Addr,b∉(cxH P w K mg base N qual scope f cd A outer s H).ex:=fun b z=>absurd (show b∈([]:List Addr) from z) (by simp)
 refine ⟨⟨e0.mod,S.kind,rfl,rfl,Nat.le_refl _,fun y z c h1 h2=>?_,fun y hy=>?_,fun y c _ h=>?_,(fun z=>nomatch z),Around.frames_deeper e0.frames,.inr ⟨rfl,rfl⟩,fun b z=>absurd z (noA b),e0.bs,e0.bsz,fun b _ _=>noA b,fun b z=>absurd z (noA b),e0.funs,e0.frf⟩,
  rfl,e0.bare,Un.kept hk,⟨_,x.toInCall.ns,fun i y v h1 h2 h3=>?_⟩,fun y c h=>⟨_,x.cell y c h⟩,e0.hok.fresh (Nat.le_refl _),fun y c h=>?_,fun p hp=>absurd (show p∈([]:List (Addr×Obj)) from hp) (by simp),e0.hok.kept hk,?_⟩
 ·exact name_of_addr x.apart (PySem.mem_of_lookup h1) (PySem.mem_of_lookup h2)
 ·have hy:scope.names.lookup y=some .cell∨scope.names.lookup y=some .free:=hy
  rcases hy with hy | hy
  ·exact wj hy
  ·exact absurd rfl (S.nofree _ (PySem.mem_of_lookup hy))
 ·exact Nat.le_of_lt (x.above y c (PySem.mem_of_lookup h))
 ·have hi:i<vs.length:=by
   unfold start at h2
   by_cases hi:i<vs.length
   ·exact hi
   ·rw [List.getElem?_append_right (by simpa using hi)] at h2
    rw [List.getElem?_replicate] at h2
    split at h2<;>cases h2
  have ha:vs[i]? =some v:=by
   unfold start at h2
   rw [List.getElem?_append_left (by simpa using hi),List.getElem?_map] at h2
   cases e:vs[i]? with
   | none=>rw [e] at h2;cases h2
   | some a=>rw [e] at h2;cases h2;rfl
  obtain ⟨u,hu,rv⟩:=r.get ha
  have hp:ps[i]? =some y:=by
   rw [<-S.pre,List.getElem?_take_of_lt (by omega)];exact h1
  have ndP:ps.Nodup:=by rw [<-S.pre];exact S.nd.sublist (List.take_sublist _ _)
  refine ⟨u,rv,?_⟩
  rcases S.par y (List.mem_of_getElem? hp) with k | k
  ·exact .inl ⟨k,wU ndP hp hu k⟩
  ·obtain ⟨c,e⟩:=wj (n:=s.heap.objs.size+1) k
   refine .inr ⟨.inl k,c,e,?_⟩
   have q:=x.cell y c e
   rw [wV ndP hp hu (by show scope.names.lookup y≠_;rw [k];decide)] at q
   exact q
 ·exact e0.hok.fresh (Nat.le_of_lt (x.above y c (PySem.mem_of_lookup h)))
 ·unfold start
  show _=N.length
  rw [List.length_append,List.length_map,List.length_replicate]
  omega
theorem xbw {P:Program} {w:World} {K:PySem.W.Frag} {mg:Str->Option Value} {base:Heap} {k:Nat} {f:Addr} {name qual:Str} {params:Arguments} {body:List Stmt} {scope:Scope} {dV kV doc pm cdv ct oc:Value} {an od:Option Addr}
  {osl:Array (Option Value)} {N ps:List Str} {sp:Sp} (lk:K.lookup f=some ⟨oc,od,.func (PySem.W.fnOf name qual params body scope dV kV doc pm an cdv ct),osl⟩) (hcd:PySem.W.codeIn K cdv qual=true) (S:FnScope N ps scope)
  (len:∀vs H Q,sp vs H Q E0->vs.length=ps.length)
  (hbody:∀(A:Around) (outer:List Env) (s:Shared) (H:Hp) (vs:List V) (Q:VK),RoomH k (A.deeper (envOfC qual scope s.heap.objs.size f cdv))->sp vs H Q E0->
   ∃t,PSs (cxH P w K mg base N qual scope f cdv A outer s H) body t/\t { nx:=fun _ H'=>Q .non H',rt:=Q } (start N vs) H):
  FnOkH P w K mg base (k+1) f (PySem.W.fnOf name qual params body scope dV kV doc pm an cdv ct) ps sp:=by
 refine ⟨len,fun A outer s H args us vs Q hr e0 hb r hsp=>?_⟩
 have hl:=len _ _ _ hsp
 have KX:K.In s.heap:=e0.mod.kin.keeps fun b o e=>(e0.bs b o e).1
 have lim:s.heap.NoLimit:=e0.mod.nolimit.keeps fun b o e=>(e0.bs b o e).1
 have hkind:∀y∈ps.zip us,scope.names.lookup y.1=some .local∨(scope.names.lookup y.1=some .cell/\((cellsFrom (s.heap.objs.size+1) scope.names []).lookup y.1).isSome=true):=fun ⟨n,v⟩ hy=>by
  rcases S.par n (List.of_mem_zip hy).1 with q | q
  ·exact .inl q
  ·exact .inr ⟨q,PySem.W.cellsFrom_some _ _ _ (.inl q)⟩
 refine codeAny_call_function hr.depth (KX _ _ lk) rfl S.co S.gen rfl (PySem.W.codeRec_of KX hcd) (hb _ _ _ _ ?_)
 refine wpAny_newFunctionEnv_cells S.kind hkind fun env he s1 x=>?_
 subst he
 refine ⟨lim.keeps x.toInCall.keep,codeAny_func ?_⟩
 obtain ⟨t,ht,hq⟩:=hbody A outer s H vs Q (hr.deeper _) hsp
 have I:Inv (cxH P w K mg base N qual scope f cdv A outer s H) [] (start N vs) H s1:=V9 S e0 hl r x
 refine wpAny_mono (ht [] s1 (start N vs) H _ I hq) (fun fl s' hs=>?_) fun e s' hs=>False.elim hs
 have fin:∀{σ':St} {H':Hp} {v:V} {u:Value},Inv (cxH P w K mg base N qual scope f cdv A outer s H) [] σ' H' s'->RelV v u->Q v H'->CE outer P w H s Q u s':=
  fun {σ' H' v u} J rv q=>⟨v,H',J.os,J.bare,J.base,J.hok,rv,q⟩
 cases fl with
 | ret u=>
  obtain ⟨v,σ',H',J,rv,q⟩:=hs
  exact fin J rv q
 | next=>
  obtain ⟨σ',H',J,q⟩:=hs
  exact fin (v:=V.non) (u:=Value.none) J rfl q
 | brk=>
  obtain ⟨_,_,_,q⟩:=hs
  exact False.elim q
 | cont=>
  obtain ⟨_,_,_,q⟩:=hs
  exact False.elim q
end L2
namespace DL
open PySem L2
structure ScH (Y:Cy) (T:Tx) (k:Nat) (N G:List Str):Prop extends Sn Y T N G where
 fn:∀y,Y.X.fn y=true
 room:RoomH k Y.X.A
def spH (T:Tx) (R:Str->D->Prop):Sp:=fun vs H Q _=>∃F a C x d,vs=[.ref a]/\Same F H/\(∃dx,H a=some (.ext (ExcAt C dx a)))/\T.mg x=some (.ref C)/\R x d/\∀v F' H',Ext F H F' H'->Rep T.K F' v d->Q v H'
structure FnH (T:Tx) (k:Nat) (x:Str) (R:Str->D->Prop):Prop where
 ex:∃(f:Addr) (fd:FuncData) (ps:List Str),T.mg x=some (.ref f)/\PySem.W.keepIn T.K (.ref f)=true/\Binds T.K fd ps []/\FnOkH T.prog T.w T.K T.mg T.base k f fd ps (spH T R)
section
variable {Y:Cy} {T:Tx} {k j:Nat} {N G:List Str} {c:List Slot} {e a b:Expr} {es:List Expr} {pos p:Pos} {d:D} {ds:List D} {R:Str->D->Prop} {x qual y:Str} {P:Out->Prop} {rest:List Stmt}
def ctxH (N:List Str) (C:Addr) (dx:Option Addr):List Slot:= .exc C dx::List.replicate (N.length - 1) Slot.un
theorem Wm {K:PySem.W.Frag} {F H:Hp} {N:List Str} {a C:Addr} {dx:Option Addr} (f:Same F H) (h:H a=some (.ext (ExcAt C dx a))):Env K F H F H (L2.start N [.ref a]) (ctxH N C dx) where
 ext:=Ext.refl f
 len:=by unfold L2.start ctxH;simp
 sl:=fun i=>by
  unfold L2.start ctxH
  cases i with
  | zero=>exact ⟨a,rfl,h⟩
  | succ i=>show SlotOk K H F H _ (slot (List.replicate _ Slot.un) i);rw [z0];exact trivial
 inj:=fun i j a h _ _ _=>by
  unfold ctxH at h
  cases i with
  | zero=>cases h
  | succ i=>have h:isOwn (slot (List.replicate _ Slot.un) i)=true:=h;rw [z0] at h;cases h
theorem xcy {ps:List Str} {st:Stmt} (A:At T x st) (B:ScB N ps G (defScope st)) (hb:∀f fd,Fun T.K x x st f fd->Binds T.K fd ps []) (hlen:ps.length=1)
  (body:∀{dx:Option Addr} (Y:Cy) (S:ScH Y T k N G) (C:Addr) (y:Str) (d:D),T.mg y=some (.ref C)->R y d->SsD Y (defBody st) (ctxH N C dx) (Ret d)):FnH T (k+1) x R:=by
 obtain ⟨f,fd,F,hm⟩:=A
 refine ⟨f,fd,ps,hm,F.kp,hb f fd F,?_⟩
 obtain ⟨oc,od,kV,doc,pm,an,cdv,ct,osl,rfl,lk,hcd⟩:=F.ex
 refine xbw lk hcd B.fs (fun vs H Q h=>?_) fun A outer s H vs Q hr h=>?_
 ·obtain ⟨_,_,_,_,_,rfl,_⟩:=h;exact hlen.symm
 ·obtain ⟨F0,a,C,y,d,rfl,f0,⟨dx,hH⟩,hC,hR,q⟩:=h
  have S:ScH ⟨cxH T.prog T.w T.K T.mg T.base N x (defScope st) f cdv A outer s H,F0,H⟩ T k N G:=
   ⟨⟨rfl,rfl,rfl,rfl,rfl,rfl,B.fs.nd,B.loc,B.gl⟩,fun _=>rfl,hr⟩
  refine ⟨_,body _ S C y d hC hR,F0,Wm f0 hH,fun o ho=>?_⟩
  cases o with
  | rt e=>cases ho;exact fun v F' H' _ x r'=>q v F' H' x r'
  | nx c=>cases ho;exact fun σ F' H' _ E'=>q .non F' H' E'.ext .non
  | bk c=>exact ho.elim
  | ct c=>exact ho.elim
  | ro ds=>exact ho.elim
  | rs R=>exact ho.elim
theorem Env.excv {K:PySem.W.Frag} {F₀ H₀ F H:Hp} {σ:St} (E:Env K F₀ H₀ F H σ c) {i:Nat} {C:Addr} {dx:Option Addr} (h:slot c i= .exc C dx):∃a,σ[i]? =some (some (.ref a))/\H a=some (.ext (ExcAt C dx a)):=by
 have q:=E.sl i
 rw [h] at q
 exact q
def tExc (Y:Cy) (c:List Slot) (C:Addr) (dx:Option Addr):TE:=fun σ H Q=>∃F,EnvY Y F H σ c/\∀a,H a=some (.ext (ExcAt C dx a))->Q (.ref a) H
theorem VP (S:Sn Y T N G) (i:Nat) {x:Str} {C:Addr} {dx:Option Addr} (hN:N[i]? =some x) (hs:slot c i= .exc C dx):PE Y.X (.Name x pos) (tExc Y c C dx):=by
 have hx:=S.loc x (List.mem_of_getElem? hN)
 rw [<-S.n] at hN
 exact PE.imp (xU hN (hx.1.elim .inl fun h=> .inr (.inl h)) hx.2.1 hx.2.2) fun σ H Q ⟨F,E,q⟩=>
  let ⟨a,ea,r⟩:=E.excv hs
  ⟨.ref a,ea,q a r⟩
theorem yh (S:Sn Y T N G) (i:Nat) {x:Str} (hN:N[i]? =some x:=by rfl) (hs:slot c i= .val d:=by rfl):EvD Y (.Name x pos) c d:=by
 have hx:=S.loc x (List.mem_of_getElem? hN)
 rw [<-S.n] at hN
 exact PE.imp (xU hN (hx.1.elim .inl fun h=> .inr (.inl h)) hx.2.1 hx.2.2) fun σ H Q ⟨F,E,q⟩=>
  let ⟨x,ex,r⟩:=E.val hs
  ⟨x,ex,q x F H (Ext.refl E.fh) r⟩
theorem x5 (S:ScH Y T k N G) (i:Nat) {x:Str} {pos':Pos} (he:EvD Y e c d)
  (hr:SsD Y rest (put c i (.val d)) P) (hi:N[i]? =some x:=by rfl) (hlt:i<c.length:=by first | exact of_decide_eq_true rfl | decide | omega) (hs:swapsWith e (some (.Name x pos')) pos.line Y.X.env=pure false:=by rfl):SsD Y (.Assign [.Name x pos'] e pos::rest) c P:=by
 have hx:=S.loc x (List.mem_of_getElem? hi)
 have hN:=S.nd
 rw [<-S.n] at hi hN
 refine xI (PS.imp (qy hN hi hx.1 he hs (.inl (S.fn x))) fun D σ H ⟨F,E,m⟩=>⟨F,E,fun v F' H' e' r'=>?_⟩)
 exact m (.nx (put c i (.val d))) hr _ F' H' e'.ff ((E.grow e').set hlt r')
theorem W3 {C:Addr} {dx:Option Addr} {cv:Value} {cV:V} {v:Bool} (Z:ExcK T.K C) (eK:Y.X.K=T.K) (rv:RelV cV cv) (hcv:∀u,RelV cV u->u=cv) (e2:PySem.W.kitOne T.K (.ref C) cv=some v):
  CallR Y.X (.builtin "isinstance") (fun xs H Q=>∃a,xs=[.ref a,cV]/\H a=some (.ext (ExcAt C dx a))/\Q (.bl v) H):=by
 intro pins s σ H xs us Q I r h
 obtain ⟨a,rfl,hH,q⟩:=h
 obtain ⟨u,w',rfl,r1,r2⟩:=vals2 r
 cases (show u=Value.ref a from r1)
 cases hcv _ r2
 have ok:ObjOk Y.X.prog Y.X.w H s.heap a (.ext (ExcAt C dx a)):=I.hok a _ hH
 have Z':ExcK Y.X.K C:=by rw [eK];exact Z
 exact PySem.W.kia_one (Jc Z') I.kIn ok.1 (by rw [eK];exact e2) (fun z=>nomatch z) fun tk=>⟨.bl v,H,I.tok tk,rfl,q⟩
theorem xS (S:Sn Y T N G) (i gi gj:Nat) {z:Str} {C C':Addr} {v:Bool} {dx:Option Addr} {pn pz:Pos} (hs:slot c i= .exc C dx) (Z:ExcK T.K C) (hm2:T.mg y=some (.ref C')) (e2:PySem.W.kitOne T.K (.ref C) (.ref C')=some v) (hm:T.mg "isinstance" =none)
  (hi:N[i]? =some z:=by rfl) (hg:G[gi]? =some ("isinstance" :Str):=by rfl) (hg2:G[gj]? =some y:=by rfl)
  (hst:starEach [.Name z pz,.Name y pn] Y.X.env=(false,eval (.Name z pz) Y.X.env)::starEach [.Name y pn] Y.X.env:=by rfl):EvD Y (.Call (.Name "isinstance" p) [.Name z pz,.Name y pn] [] pos) c (.bl v):=by
 have gl:=S.gl _ (List.mem_of_getElem? hg)
 have gl2:=S.gl _ (List.mem_of_getElem? hg2)
 refine PE.imp (zN (W3 (dx:=dx) Z S.eK (cV:= .ref C') (cv:= .ref C') rfl (fun u h=>h) e2) gl.1 (by rw [S.eM];exact hm) zD (xJ (VP S i hi hs) (xJ (vS (v:= .ref C') gl2.1 (by rw [S.eM];exact hm2) rfl gl2.2.1) yu) hst) gl.2.2 gl.2.1 hst rfl) fun σ H Q ⟨F,E,q⟩=>⟨F,E,fun a ha=>?_⟩
 exact ⟨a,rfl,ha,q _ F H (Ext.refl E.fh) (.bl v)⟩
theorem ZF (S:Sn Y T N G) (i gi gj:Nat) {z:Str} {C:Addr} {ty:String} {v:Bool} {dx:Option Addr} {pn pz:Pos} (hs:slot c i= .exc C dx) (Z:ExcK T.K C) (hm2:T.mg y=none) (hv:bootBuiltins y=some (.type ty)) (e2:PySem.W.kitOne T.K (.ref C) (.type ty)=some v) (hm:T.mg "isinstance" =none)
  (hi:N[i]? =some z:=by rfl) (hg:G[gi]? =some ("isinstance" :Str):=by rfl) (hg2:G[gj]? =some y:=by rfl)
  (hst:starEach [.Name z pz,.Name y pn] Y.X.env=(false,eval (.Name z pz) Y.X.env)::starEach [.Name y pn] Y.X.env:=by rfl):EvD Y (.Call (.Name "isinstance" p) [.Name z pz,.Name y pn] [] pos) c (.bl v):=by
 have gl:=S.gl _ (List.mem_of_getElem? hg)
 have gl2:=S.gl _ (List.mem_of_getElem? hg2)
 refine PE.imp (zN (W3 (dx:=dx) Z S.eK (cV:= .ty ty) (cv:= .type ty) rfl (fun u h=>h) e2) gl.1 (by rw [S.eM];exact hm) zD (xJ (VP S i hi hs) (xJ (WV (v:= .ty ty) gl2.1 (by rw [S.eM];exact hm2) hv rfl gl2.2.2 gl2.2.1) yu) hst) gl.2.2 gl.2.1 hst rfl) fun σ H Q ⟨F,E,q⟩=>⟨F,E,fun a ha=>?_⟩
 exact ⟨a,rfl,ha,q _ F H (Ext.refl E.fh) (.bl v)⟩
theorem zR (S:ScH Y T k N G) (i gi:Nat) {z:Str} {C:Addr} {dx:Option Addr} {pz:Pos} (Fn:FnH T j x R) (hj:j<=k) (hs:slot c i= .exc C dx) (hC:T.mg y=some (.ref C)) (hR:R y d) (hi:N[i]? =some z:=by rfl) (hg:G[gi]? =some x:=by rfl)
  (he:starEach [.Name z pz] Y.X.env=(false,eval (.Name z pz) Y.X.env)::starEach [] Y.X.env:=by rfl):EvD Y (.Call (.Name x p) [.Name z pz] [] pos) c d:=by
 obtain ⟨f,fd,ps,hm,hk,hb,F⟩:=Fn.ex
 have F':FnOkH Y.X.prog Y.X.w Y.X.K Y.X.mg Y.X.base j f fd ps (spH T R):=by rw [S.eP,S.eW,S.eK,S.eM,S.eB];exact F
 have gl:=S.gl x (List.mem_of_getElem? hg)
 intro pins s σ H Q I ⟨F0,E,q⟩
 refine wpAny_Call_Name_kw (yG I gl.1 (by rw [S.eM];exact hm) ?_ gl.2.1)
 refine PySem.W.callWith_K (h₀:=Y.X.base) I.ok.mod.kin (by rw [S.eK];exact hk) (thn (xJ (VP S.toSn i hi hs) yu he pos pins s σ H (fun vs H1=>∃a,vs=[.ref a]/\H1=H/\H a=some (.ext (ExcAt C dx a))) I ⟨F0,E,fun a ha=>⟨a,rfl,rfl,ha⟩⟩) fun us s1 ⟨vs,H1,I1,r,a,ev,eh,ha⟩=>⟨I1.kIn,?_⟩) he rfl
 subst ev eh
 have h:spH T R [.ref a] H1 Q E0:=⟨F0,a,C,y,d,rfl,E.fh,⟨dx,ha⟩,hC,hR,fun v F' H' ex r=>q v F' H' ex (by rw [S.eK];exact r)⟩
 have hl:us.length=ps.length:=by rw [<-r.length];exact F'.len _ _ _ h
 have hb':Binds Y.X.K fd ps []:=by rw [S.eK];exact hb
 have hb2:=hb' s1 us I1.kIn (by rw [List.append_nil];exact hl)
 rw [List.append_nil] at hb2
 refine wpAny_call (codeAny_mono (F'.run Y.X.A Y.X.stack s1 H1 ⟨us,[]⟩ us _ _ (S.room.mono hj) I1.env0 hb2 r h) fun r s' hq=>?_)
 cases r with
 | error e=>exact False.elim hq
 | ok fl=>
  cases fl with
  | ret u=>exact I1.after hq
  | next=>exact False.elim hq
  | brk=>exact False.elim hq
  | cont=>exact False.elim hq
end
theorem _root_.L2.Inv.track {X:Cx} {pins:List (Addr×Obj)} {σ:St} {H:Hp} {s:Shared} {e:Addr} {φ:Heap->Prop} (I:Inv X pins σ H s) (hn:H e=none) (h0:X.s₀.heap.get? e=none) (hl:e≠X.env.locals) (hc:∀x c,X.env.cells.lookup x=some c->c≠e)
  (hp:∀p∈X.pn++pins,p.1≠e) (hφ:ObjOk X.prog X.w (upd H e (.ext φ)) s.heap e (.ext φ)):Inv X pins σ (upd H e (.ext φ)) s:=by
 have ne:∀b u,H b=some u->upd H e (.ext φ) b=some u:=fun b u q=>by rw [xh (xk q hn)];exact q
 refine ⟨I.ok,I.os,I.bare,⟨I.base.keep,I.base.slot,fun b o q n hx=>?_,I.base.there,fun b xs q=>ne _ _ (I.base.tups b xs q),fun b o u q=>ne _ _ (I.base.frzs b o u q),fun b ps q=>?_⟩,I.loc,I.cell,?_,fun x c q=>?_,fun p hp'=>?_,fun b o q=>?_,I.len⟩
 ·rw [xh (fun z=>by rw [z,h0] at q;cases q)];exact I.base.free b o q n hx
 ·obtain ⟨m,q'⟩:=I.base.tbls b ps q;exact ⟨m,ne _ _ q'⟩
 ·rw [xh (Ne.symm hl)];exact I.free
 ·rw [xh (hc x c q)];exact I.freeC x c q
 ·obtain ⟨a1,a2,a3,a4,a5⟩:=I.pin p hp'
  exact ⟨a1,by rw [xh (hp p hp')];exact a2,a3,a4,a5⟩
 ·by_cases hb:b=e
  ·subst hb;rw [xp] at q;cases q;exact hφ
  ·rw [xh hb] at q
   exact (I.hok b o q).stay (fun _ _ _ z=>z) (fun c z=>ne _ _ z) fun c xs z=>ne _ _ z
theorem _root_.L2.Inv.unname {X:Cx} {pins:List (Addr×Obj)} {σ:St} {H:Hp} {s:Shared} {i:Nat} {n:Str} {pos:Pos} {M:Model} {A:Around} {E:Value->Shared->Prop} {Q:Unit->Shared->Prop} (I:Inv X pins σ H s) (hN:X.N.Nodup) (hi:X.N[i]? =some n) (hl:X.env.scope.names.lookup n=some .local)
  (h:∀s',Inv X pins (σ.set i none) H s'->Q () s'):wpAny M A (do bindName X.env n .none;unbindBehindTheSuite X.env n pos) Q E s:=by
 obtain ⟨m,hn,hv⟩:=id I.loc
 have hcls:(X.env.scope.kind== .class || (X.env.scope.kind== .module && X.env.locals !=X.env.globals))=false:=by rw [I.ok.kind];rfl
 refine wpAny_nameGoes_keeps hl hn hcls fun h' v hn' hs=>h _ ?_
 obtain ⟨oL,_,_,hoL,_⟩:=id hn
 have iσ:i<σ.length:=by rw [I.len];exact (List.getElem?_eq_some_iff.mp hi).1
 refine ⟨I.ok,I.os,I.bare,⟨fun b o e n hb hx=>?_,fun b o e n hb hx=>?_,I.base.free,fun b o e hx=>?_,I.base.tups,I.base.frzs,I.base.tbls⟩,⟨_,hn',fun j y v' e1 e2 e3=>?_⟩,fun y c e=>?_,I.free,I.freeC,fun p hp=>?_,fun b ob e=>?_,by simpa using I.len⟩
 ·exact (hs.2 b (Nat.ne_of_lt (Nat.lt_of_lt_of_le (Heap.lt_size e) I.ok.above))).trans (I.base.keep b o e n hb hx)
 ·obtain ⟨sl,e1⟩:=I.base.slot b o e n hb hx
  exact ⟨sl,(hs.2 b (Nat.ne_of_lt (Nat.lt_of_lt_of_le (Heap.lt_size e) I.ok.above))).trans e1⟩
 ·obtain ⟨o',e1⟩:=I.base.there b o e hx
  exact ⟨o',(hs.2 b (Nat.ne_of_lt (Nat.lt_of_lt_of_le (Heap.lt_size e) I.ok.above))).trans e1⟩
 ·by_cases hj:j=i
  ·subst hj
   rw [List.getElem?_set_self iσ] at e2
   cases e2
  ·rw [List.getElem?_set_ne (Ne.symm hj)] at e2
   obtain ⟨u',r',q⟩:=hv j y v' e1 e2 e3
   refine ⟨u',r',?_⟩
   rcases q with ⟨k,e⟩ | ⟨k,c,e,z⟩
   ·refine .inl ⟨k,?_⟩
    have:y≠n:=fun e=>hj (Xz hN e1 (e▸hi))
    simp [this,e]
   ·exact .inr ⟨k,c,e,z.sameBut hs (I.cne y c e)⟩
 ·obtain ⟨w',z⟩:=I.cell y c e
  exact ⟨w',z.sameBut hs (I.cne y c e)⟩
 ·obtain ⟨e,n,ne,nf,d⟩:=I.pin p hp
  exact ⟨(hs.2 p.1 ne).trans e,n,ne,nf,d⟩
 ·refine (I.hok b ob e).stay (fun c w' hc q=>(hs.2 c ?_).trans q) (fun _ q=>q) fun _ _ q=>q
  rintro rfl
  rcases hc with rfl | hc
  ·rw [I.free] at e;cases e
  ·rw [I.free] at hc;cases hc
theorem Ext.track {F H:Hp} {e:Addr} {o:HO} (f:Same F H) (hn:H e=none):Ext F H F (upd H e o):=
 ⟨Same.refl F,fun b u q=>by rw [xh (xk (f _ _ q) hn)];exact f _ _ q,fun b u q=>by rw [xh (xk q hn)];exact q,fun _ _ z=>z⟩
theorem Env.setExc {K:PySem.W.Frag} {F₀ H₀ F H:Hp} {σ:St} {c:List Slot} (E:Env K F₀ H₀ F H σ c) {i:Nat} {a C:Addr} {dx:Option Addr} (hi:i<c.length) (r:H a=some (.ext (ExcAt C dx a))):Env K F₀ H₀ F H (σ.set i (some (.ref a))) (put c i (.exc C dx)) where
 ext:=E.ext
 len:=by rw [List.length_set,ya];exact E.len
 sl:=fun j=>by
  by_cases e:i=j
  ·subst e
   rw [xY _ _ _ hi,List.getElem?_set_self (by rw [E.len];exact hi)]
   exact ⟨a,rfl,r⟩
  ·rw [xq _ _ _ _ e,List.getElem?_set_ne e]
   exact E.sl j
 inj:=fun j k a h1 h2 h3 h4=>by
  by_cases e:i=j
  ·subst e;rw [xY _ _ _ hi] at h1;cases h1
  ·by_cases e2:i=k
   ·subst e2;rw [xY _ _ _ hi] at h2;cases h2
   ·rw [xq _ _ _ _ e] at h1
    rw [xq _ _ _ _ e2] at h2
    rw [List.getElem?_set_ne e] at h3
    rw [List.getElem?_set_ne e2] at h4
    exact E.inj j k a h1 h2 h3 h4
theorem uz:∀(c:List Slot) (i:Nat),c.length<=i->slot c i= .un
 | [],_,_=>rfl
 | _::r,0,h=>by simp at h
 | _::r,i+1,h=>uz r i (by simpa using h)
theorem Zf (y:Slot):∀(c:List Slot) (i:Nat),c.length<=i->put c i y=c
 | [],_,_=>rfl
 | _::r,0,h=>by simp at h
 | x::r,i+1,h=>congrArg (x:: ·) (Zf y r i (by simpa using h))
theorem Env.unset {K:PySem.W.Frag} {F₀ H₀ F H:Hp} {σ:St} {c:List Slot} (E:Env K F₀ H₀ F H σ c) {i:Nat}:Env K F₀ H₀ F H (σ.set i none) (put c i .un) where
 ext:=E.ext
 len:=by rw [List.length_set,ya];exact E.len
 sl:=fun j=>by
  by_cases e:i=j
  ·subst e
   by_cases hi:i<c.length
   ·rw [xY _ _ _ hi];exact trivial
   ·rw [Zf _ _ _ (by omega),uz _ _ (by omega)];exact trivial
  ·rw [xq _ _ _ _ e,List.getElem?_set_ne e]
   exact E.sl j
 inj:=fun j k a h1 h2 h3 h4=>by
  by_cases e:i=j
  ·subst e
   by_cases hi:i<c.length
   ·rw [xY _ _ _ hi] at h1;cases h1
   ·rw [Zf _ _ _ (by omega),uz _ _ (by omega)] at h1;cases h1
  ·by_cases e2:i=k
   ·subst e2
    by_cases hi:i<c.length
    ·rw [xY _ _ _ hi] at h2;cases h2
    ·rw [Zf _ _ _ (by omega),uz _ _ (by omega)] at h2;cases h2
   ·rw [xq _ _ _ _ e] at h1
    rw [xq _ _ _ _ e2] at h2
    rw [List.getElem?_set_ne e] at h3
    rw [List.getElem?_set_ne e2] at h4
    exact E.inj j k a h1 h2 h3 h4
abbrev _root_.L2.Cx.tried (X:Cx) (E:Value->Shared->Prop) (pins:List (Addr×Obj)):Cx:={ X with xe:=E,pn:=X.pn++pins }
abbrev _root_.L2.Cx.caught (X:Cx) (e:Value) (pins:List (Addr×Obj)):Cx:={ X with A:=X.A.mark (some e),calm:=false,xe:=fun _ _=>False,pn:=X.pn++pins }
section
variable {X:Cx} {pins pins':List (Addr×Obj)} {σ:St} {H:Hp} {s:Shared} {E:Value->Shared->Prop} {e:Value}
theorem _root_.L2.Inv.tried (I:Inv X pins σ H s):Inv (X.tried E pins) [] σ H s:=
 ⟨⟨I.ok.mod,I.ok.kind,I.ok.glob,I.ok.blt,I.ok.above,I.ok.inj,I.ok.has,I.ok.cab,I.ok.hd,I.ok.frames,I.ok.stk,I.ok.exf,I.ok.bs,I.ok.bsz,I.ok.noex,I.ok.exfs,I.ok.funs,I.ok.frf⟩,I.os,I.bare,I.base,I.loc,I.cell,I.free,I.freeC,fun p hp=>I.pin p (by simpa using hp),I.hok,I.len⟩
theorem _root_.L2.Inv.untried (I:Inv (X.tried E pins) pins' σ H s):Inv X pins σ H s:=
 ⟨⟨I.ok.mod,I.ok.kind,I.ok.glob,I.ok.blt,I.ok.above,I.ok.inj,I.ok.has,I.ok.cab,I.ok.hd,I.ok.frames,I.ok.stk,I.ok.exf,I.ok.bs,I.ok.bsz,I.ok.noex,I.ok.exfs,I.ok.funs,I.ok.frf⟩,I.os,I.bare,I.base,I.loc,I.cell,I.free,I.freeC,fun p hp=>I.pin p (List.mem_append_left _ hp),I.hok,I.len⟩
theorem _root_.L2.Inv.caught (I:Inv X pins σ H s) (hf:(X.A.mark (some e)).frames=some X.stack):Inv (X.caught e pins) [] σ H s:=
 ⟨⟨I.ok.mod,I.ok.kind,I.ok.glob,I.ok.blt,I.ok.above,I.ok.inj,I.ok.has,I.ok.cab,(fun z=>nomatch z),hf,I.ok.stk,I.ok.exf,I.ok.bs,I.ok.bsz,I.ok.noex,I.ok.exfs,I.ok.funs,I.ok.frf⟩,I.os,I.bare,I.base,I.loc,I.cell,I.free,I.freeC,fun p hp=>I.pin p (by simpa using hp),I.hok,I.len⟩
theorem _root_.L2.Inv.uncaught (I:Inv (X.caught e pins) pins' σ H s) (hc:X.calm=true->X.A.handled=none) (hf:X.A.frames=some X.stack):Inv X pins σ H s:=
 ⟨⟨I.ok.mod,I.ok.kind,I.ok.glob,I.ok.blt,I.ok.above,I.ok.inj,I.ok.has,I.ok.cab,hc,hf,I.ok.stk,I.ok.exf,I.ok.bs,I.ok.bsz,I.ok.noex,I.ok.exfs,I.ok.funs,I.ok.frf⟩,I.os,I.bare,I.base,I.loc,I.cell,I.free,I.freeC,fun p hp=>I.pin p (List.mem_append_left _ hp),I.hok,I.len⟩
end
section
variable {K:PySem.W.Frag} {F₀ H₀ F H F1 H1:Hp} {σ σ0:St} {c c0:List Slot}
theorem Env.into (E:Env K F₀ H₀ F H σ c):Env K F H₀ F H σ c:=⟨⟨Same.refl F,E.ext.fh,E.ext.hh,fun _ _ z=>z⟩,E.len,E.sl,E.inj⟩
theorem Ext.outof (a:Ext F₀ H₀ F H) (b:Ext F H₀ F1 H1):Ext F₀ H₀ F1 H1:=⟨a.ff.trans b.ff,b.fh,b.hh,fun c hc fc=>b.fr c hc (a.fr c hc fc)⟩
theorem Env.outof (E:Env K F₀ H₀ F H σ0 c0) (E':Env K F H₀ F1 H1 σ c):Env K F₀ H₀ F1 H1 σ c:=⟨E.ext.outof E'.ext,E'.len,E'.sl,E'.inj⟩
end
def Gone (Y:Cy) (rest:List Stmt) (i:Nat) (P:Out->Prop):Out->Prop
 | .nx c=>SsD Y rest (put c i .un) P
 | .bk c=>P (.bk (put c i .un))
 | .ct c=>P (.ct (put c i .un))
 | .rt d=>P (.rt d)
 | .ro _=>False
 | .rs _=>False
theorem qs {Y:Cy} {T:Tx} {k:Nat} {N G:List Str} {c:List Slot} {pos px hpos:Pos} {x n:Str} {body suite:List Stmt} {b₀:Stmt} {rest:List Stmt} {P:Out->Prop} {Ct:Addr} {st:Stmt} (S:Sc Y T k N G) (Z:Fx Y st) (i gi:Nat) (raised:Str->Prop)
  (hlo:(defScope st).names.lookup n=some .local) (hx:T.mg x=some (.ref Ct)) (hmt:∀y C,raised y->T.mg y=some (.ref C)->PySem.W.exmOne T.K (.ref C) (.ref Ct)=some true)
  (hb:∀(Y':Cy) (S':Sc Y' T k N G),(∀y,raised y->RzN Y' T y c)->SsD Y' body c (Thn Y rest P))
  (hh:∀(Yh:Cy) (Sh:ScH Yh T k N G) (y:Str) (C:Addr),raised y->T.mg y=some (.ref C)->SsD Yh (b₀::suite) (put c i (.exc C none)) (Gone Y rest i P))
  (hi:N[i]? =some n:=by rfl) (hg:G[gi]? =some x:=by rfl) (hlt:i<c.length:=by first | exact of_decide_eq_true rfl | decide | omega):
  SsD Y (.Try body [.ExceptHandler (some (.Name x px)) (some n) (b₀::suite) hpos] [] [] pos::rest) c P:=by
 refine xI fun pins s σ H D I ⟨F,E,m⟩=>wpAny_Try_except ?_
 have gl:=S.gl x (List.mem_of_getElem? hg)
 have hl:Y.X.env.scope.names.lookup n=some .local:=by rw [Z.sc];exact hlo
 have hN:Y.X.N.Nodup:=by rw [S.n];exact S.nd
 have hiX:Y.X.N[i]? =some n:=by rw [S.n];exact hi
 have locn:=S.loc n (List.mem_of_getElem? hi)
 have frk:∀e,(Y.X.A.mark (some e)).frames=some Y.X.stack:=fun e=>I.ok.frames
 generalize hxe:(fun (e:Value) (s₁:Shared)=>wpAny (model Y.X.prog Y.X.w) Y.X.A (noteFrame e Y.X.env) (fun _ s₂=>wpAny (model Y.X.prog Y.X.w) Y.X.A (setFlight e none) (fun _ s₃=>wpAny (model Y.X.prog Y.X.w) Y.X.A (handleBy e Y.X.env [.ExceptHandler (some (.Name x px)) (some n) (b₀::suite) hpos]) (SP Y.X pins D) Y.X.xe s₃) Y.X.xe s₂) Y.X.xe s₁)=xe'
 have hp':PassesOwn (model Y.X.prog Y.X.w) Y.X.A Y.X.env xe':=by subst hxe;exact PassesOwn.looking
 have S':Sc ⟨Y.X.tried xe' pins,F,Y.H0⟩ T k N G:=⟨⟨⟨S.eP,S.eW,S.eK,S.eM,S.eB,S.n,S.nd,S.loc,S.gl⟩,S.calm,S.room⟩,S.fn,hp'⟩
 have rz:∀y,raised y->RzN ⟨Y.X.tried xe' pins,F,Y.H0⟩ T y c:=by
  intro y hy C hC
  refine ⟨fun {pins' σ F0 H F' H' s s' e} I0 _ sm E0' L=>?_⟩
  have I:Inv Y.X pins σ H s:=I0.untried
  have E1:Env Y.X.K F Y.H0 F' H' σ c:=E0'
  obtain ⟨B,a0,fl,kp⟩:=L.fly
  subst hxe
  have stk:Y.X.stack=Y.X.env::Y.X.outer:=Z.stk.1
  have fl':Heap.FlyingW B (Y.X.env::Y.X.outer) e (.ref C) a0 s'.heap:=by rw [<-stk];exact fl
  refine wpAny_looks_onW (by rw [I.ok.frames,stk]) Z.stk.2 fl' fun h4 held up4=>?_
  refine wpAny_landsW held fun h5 fl5 up5=>?_
  obtain ⟨u5,k5,kp5⟩:=ux L.un kp L.hok fl.2.2.1 L.fu fl5.1 (up4.trans up5)
  have I5:Inv Y.X pins σ H' { s' with heap:=h5 }:=I.call' (s':={ s' with heap:=h5 }) (ch:=[]) L.os u5 k5 L.bare (fun _ z=>nomatch z)
  obtain ⟨ob,hob,hobc⟩:=fl5.there
  have LT:PySem.W.Looks (model Y.X.prog Y.X.w) h5 (typeOf (.ref e)) (.ref C):=hobc▸(PySem.W.Looks.ld hob).andThen .now
  have I5m:Inv (Y.X.caught (.ref e) pins) [] σ H' { s' with heap:=h5 }:=I5.caught (frk _)
  refine wpAny_handleBy_cons (codeAny_handlers_test (yG (X:=Y.X.caught (.ref e) pins) I5m gl.1 (by show Y.X.mg x=_;rw [S.eM];exact hx) ?_ gl.2.1)) (by intro q;cases q)
  refine (PySem.W.exm_one (K:=Y.X.K) I5.kIn LT (by rw [S.eK];exact hmt y C hy hC)).here ?_
  refine codeAny_handlers_suite_as ?_
  refine PyProof.Rows.lands_againW fl5 fun h6 fl6 up6=>?_
  have fl5r:h5.FunFrames B Y.X.stack:=by rw [stk];exact fl5.2.2.1
  obtain ⟨u6,k6,kp6⟩:=ux u5 kp5 k5 fl5r L.fu fl6.1 up6
  have I6:Inv Y.X pins σ H' { s' with heap:=h6 }:=I.call' (s':={ s' with heap:=h6 }) (ch:=[]) L.os u6 k6 L.bare (fun _ z=>nomatch z)
  have hn:H' e=none:=by
   cases q:H' e with
   | none=>rfl
   | some u=>
    obtain ⟨o,ho⟩:=(k6 e u q).there
    have:=kp6 e o ho (.inl (by rw [q];exact fun z=>nomatch z))
    rw [fl6.2.1] at this;cases this
  have hloc:e≠Y.X.env.locals:=fun z=>by
   obtain ⟨mm,⟨oL,_,_,hoL,_⟩,_⟩:=I.loc
   have:=L.new;rw [z,hoL] at this;cases this
  have hce:∀x c,Y.X.env.cells.lookup x=some c->c≠e:=fun x c q z=>by
   obtain ⟨v,o,ho,_⟩:=I.cell x c q
   have:=L.new;rw [<-z,ho] at this;cases this
  have hpe:∀p∈Y.X.pn++pins,p.1≠e:=fun p hp z=>by
   have q:=(I.pin p hp).1
   have:=L.new;rw [<-z,q] at this;cases this
  obtain ⟨oe,vs,hoe,hoc,hod,_⟩:=fl6.first
  have I7:Inv Y.X pins σ (upd H' e (.ext (ExcAt C none e))) { s' with heap:=h6 }:=
   I6.track hn (V1 I Z.ex L.new) hloc hce hpe ⟨⟨oe,vs,hoe,hoc,hod,fun d z=>nomatch z⟩,⟨oe,hoe⟩,fun h1 h2 ⟨o,vs,q1,q2,q3⟩ k=>⟨o,vs,k o q1,q2,q3⟩⟩
  have I7m:Inv (Y.X.caught (.ref e) pins) [] σ (upd H' e (.ext (ExcAt C none e))) { s' with heap:=h6 }:=I7.caught (frk _)
  refine zI (X:=Y.X.caught (.ref e) pins) (v:= .ref e) I7m hN hiX locn.1 rfl (fun s8 I8=>?_) (.inl (S.fn n))
  have E7:Env Y.X.K F Y.H0 F' (upd H' e (.ext (ExcAt C none e))) σ c:=E1.grow (Ext.track E1.fh hn)
  have E8:Env Y.X.K F Y.H0 F' (upd H' e (.ext (ExcAt C none e))) (σ.set i (some (.ref e))) (put c i (.exc C none)):=E7.setExc hlt xp
  have Sh:ScH ⟨Y.X.caught (.ref e) pins,F,Y.H0⟩ T k N G:=⟨⟨S.eP,S.eW,S.eK,S.eM,S.eB,S.n,S.nd,S.loc,S.gl⟩,S.fn,⟨S.room.dp,S.room.un⟩⟩
  have w:=hh _ Sh y C hy hC [] s8 _ _ { nx:=fun σ H=>∃c2 F2,Env Y.X.K F Y.H0 F2 H σ c2/\SsD Y rest (put c2 i .un) P,rt:=D.rt,bk:=fun σ H=>∃c2 F2,Env Y.X.K F Y.H0 F2 H σ c2/\P (.bk (put c2 i .un)),ct:=fun σ H=>∃c2 F2,Env Y.X.K F Y.H0 F2 H σ c2/\P (.ct (put c2 i .un)) } I8 ⟨F',E8,fun o ho=>?_⟩
  ·refine wpAny_mono w (fun f s9 hs=>?_) fun _ _ z=>False.elim z
   have back:∀{σ':St} {H':Hp},Inv (Y.X.caught (.ref e) pins) [] σ' H' s9->Inv Y.X pins σ' H' s9:=fun J=>J.uncaught I.ok.hd I.ok.frames
   cases f with
   | next=>
    obtain ⟨σ',H',J,c2,F2,E2,q⟩:=hs
    exact (back J).unname hN hiX hl fun s10 J10=>⟨_,_,J10,m (.nx (put c2 i .un)) q _ F2 H' E2.ext.ff (E.outof E2.unset)⟩
   | brk=>
    obtain ⟨σ',H',J,c2,F2,E2,q⟩:=hs
    exact (back J).unname hN hiX hl fun s10 J10=>⟨_,_,J10,m (.bk (put c2 i .un)) q _ F2 H' E2.ext.ff (E.outof E2.unset)⟩
   | cont=>
    obtain ⟨σ',H',J,c2,F2,E2,q⟩:=hs
    exact (back J).unname hN hiX hl fun s10 J10=>⟨_,_,J10,m (.ct (put c2 i .un)) q _ F2 H' E2.ext.ff (E.outof E2.unset)⟩
   | ret u=>
    obtain ⟨v,σ',H',J,r,q⟩:=hs
    exact (back J).unname hN hiX hl fun s10 J10=>⟨v,_,_,J10,r,q⟩
  ·cases o with
   | nx c2=>exact fun σ2 F2 H2 s2 E2=>⟨c2,F2,E2,ho⟩
   | bk c2=>exact fun σ2 F2 H2 s2 E2=>⟨c2,F2,E2,ho⟩
   | ct c2=>exact fun σ2 F2 H2 s2 E2=>⟨c2,F2,E2,ho⟩
   | rt d=>exact fun v F2 H2 s2 x r=>m (.rt d) ho v F2 H2 x.ff (E.ext.outof x) r
   | ro ds=>exact False.elim ho
   | rs R=>exact False.elim ho
 have w:=hb _ S' rz [] s σ H D I.tried ⟨F,E.into,fun o ho=>?_⟩
 ·refine wpAny_mono w (fun f s1 hs=>?_) fun e s1 z=>by subst hxe;exact z
  cases f with
  | next=>obtain ⟨σ',H',J,q⟩:=hs;exact wpAny_execs_nil ⟨σ',H',J.untried,q⟩
  | brk=>obtain ⟨σ',H',J,q⟩:=hs;exact ⟨σ',H',J.untried,q⟩
  | cont=>obtain ⟨σ',H',J,q⟩:=hs;exact ⟨σ',H',J.untried,q⟩
  | ret u=>obtain ⟨v,σ',H',J,r,q⟩:=hs;exact ⟨v,σ',H',J.untried,r,q⟩
 ·cases o with
  | nx c2=>exact fun σ2 F2 H2 s2 E2=>m (.nx c2) ho σ2 F2 H2 s2 (E.outof E2)
  | bk c2=>exact fun σ2 F2 H2 s2 E2=>m (.bk c2) ho σ2 F2 H2 s2 (E.outof E2)
  | ct c2=>exact fun σ2 F2 H2 s2 E2=>m (.ct c2) ho σ2 F2 H2 s2 (E.outof E2)
  | rt d=>exact fun v F2 H2 s2 x r=>m (.rt d) ho v F2 H2 s2 (E.ext.outof x) r
  | ro ds=>exact fun vs F2 H2 p s2 x r hp=>m (.ro ds) ho vs F2 H2 p s2 (E.ext.outof x) r hp
  | rs R=>exact fun v F2 H1 H2 s2 x r=>m (.rs R) ho v F2 H1 H2 s2 (E.ext.outof x) r
theorem vC (env:PySem.Env):∀(l:List (Str×NameKind)) (acc:List (Str×Addr)),(∀x∈l,x.2= .free->∃c,env.cells.lookup x.1=some c)->
  ∃cl,(forIn l acc (fun (x:Str×NameKind) (cs:List (Str×Addr))=>(if (x.2== .free)=true then do let a <-cellOf env x.1;pure (ForInStep.yield ((x.1,a)::cs)) else pure (ForInStep.yield cs):Sem (ForInStep (List (Str×Addr))))):Sem (List (Str×Addr)))=pure cl/\
   (∀y c,cl.lookup y=some c->acc.lookup y=some c∨(env.cells.lookup y=some c/\(y,NameKind.free)∈l))/\(∀y,(acc.lookup y).isSome=true∨(y,NameKind.free)∈l->∃c,cl.lookup y=some c)
 | [],acc,_=>⟨acc,rfl,fun y c h=> .inl h,fun y h=>by
   rcases h with h | h
   ·exact Option.isSome_iff_exists.mp h
   ·simp at h⟩
 | (n,kd)::r,acc,h=>by
  by_cases hk:kd= .free
  ·subst hk
   obtain ⟨a,ha⟩:=h (n,.free) List.mem_cons_self rfl
   obtain ⟨cl,e,h1,h2⟩:=vC env r ((n,a)::acc) fun x hx=>h x (List.mem_cons_of_mem _ hx)
   refine ⟨cl,?_,fun y c q=>?_,fun y q=>?_⟩
   ·rw [List.forIn_cons]
    have ec:cellOf env n=pure a:=by unfold cellOf;rw [ha]
    simp only [beq_self_eq_true,if_true,ec]
    exact e
   ·rcases h1 y c q with z | ⟨z1,z2⟩
    ·rw [List.lookup_cons] at z
     split at z
     ·rename_i b
      have:y=n:=by simpa using b
      subst this
      cases z
      exact .inr ⟨ha,List.mem_cons_self⟩
     ·exact .inl z
    ·exact .inr ⟨z1,List.mem_cons_of_mem _ z2⟩
   ·refine h2 y ?_
    rcases q with q | q
    ·left;rw [List.lookup_cons];split
     ·rfl
     ·exact q
    ·rcases List.mem_cons.mp q with z | z
     ·cases z;left;rw [List.lookup_cons,beq_self_eq_true];rfl
     ·exact .inr z
  ·obtain ⟨cl,e,h1,h2⟩:=vC env r acc fun x hx=>h x (List.mem_cons_of_mem _ hx)
   refine ⟨cl,?_,fun y c q=>?_,fun y q=>h2 y ?_⟩
   ·rw [List.forIn_cons]
    have:(kd==NameKind.free)=false:=by cases kd<;>first | rfl | exact absurd rfl hk
    simp only [this,Bool.false_eq_true,if_false]
    exact e
   ·rcases h1 y c q with z | ⟨z1,z2⟩
    ·exact .inl z
    ·exact .inr ⟨z1,List.mem_cons_of_mem _ z2⟩
   ·rcases q with q | q
    ·exact .inl q
    ·rcases List.mem_cons.mp q with z | z
     ·cases z;exact absurd rfl hk
     ·exact .inr z
theorem X3 (scope:Scope) (env:PySem.Env) (h:∀x∈scope.names,x.2= .free->∃c,env.cells.lookup x.1=some c):
  ∃cl,closureFor scope env=pure cl/\(∀y c,cl.lookup y=some c->env.cells.lookup y=some c/\(y,NameKind.free)∈scope.names)/\∀y,(y,NameKind.free)∈scope.names->∃c,cl.lookup y=some c:=by
 obtain ⟨cl,e,h1,h2⟩:=vC env scope.names [] h
 refine ⟨cl,?_,fun y c q=>?_,fun y q=>h2 y (.inr q)⟩
 ·have z:closureFor scope env=((forIn scope.names ([]:List (Str×Addr)) (fun (x:Str×NameKind) (cs:List (Str×Addr))=>(if (x.2== .free)=true then do let a <-cellOf env x.1;pure (ForInStep.yield ((x.1,a)::cs)) else pure (ForInStep.yield cs):Sem (ForInStep (List (Str×Addr))))):Sem (List (Str×Addr)))>>=fun r=>pure r):=rfl
  rw [z,e]
  rfl
 ·rcases h1 y c q with z | z
  ·cases z
  ·exact z
theorem ZP {prog:Program} {w:World} {A:Around} {R:Result->Shared->Prop} {s:Shared} {elt target iter:Expr} {ifs:List Expr} {scope:Scope} {pos:Pos} {it acc:Value} {env:PySem.Env} (I:Nat->Shared->Prop)
  (turn:∀n s,I n s->wpAny (model prog w) A (pyNext it) (fun r s₁=>match r with
   | none=>R (.ok .next) s₁
   | some v=>wpAny (model prog w) A (letOwnedTupleGo target it v) (fun _ s₁'=>wpAny (model prog w) A (assign target env v) (fun _ s₂=>
     wpAny (model prog w) A (forIn ifs true fun c r=>if r=true then do let ok <-isTrue c env (eval c env);pure (ForInStep.yield ok) else pure (ForInStep.yield r)) (fun ok s₃=>
      if ok=true then wpAny (model prog w) A (eval elt env) (fun x s₄=>
       wpAny (model prog w) A (call (.builtin "list.append") [acc,x]) (fun _ s₅=>∃m,m<n/\I m s₅) (fun _ _=>False) s₄) (fun _ _=>False) s₃
      else ∃m,m<n/\I m s₃) (fun _ _=>False) s₂) (fun _ _=>False) s₁') (fun _ _=>False) s₁) (fun _ _=>False) s)
  (n:Nat) (h:I n s):
  codeAny (model prog w) A (.compLoop (.ListComp elt [⟨target,iter,ifs,0⟩] scope pos) 0 it acc env) R s:=by
 refine codeAny_loop rfl I (fun n s hI=>?_) n h
 show wpAny _ A ((compTurn (.ListComp elt [⟨target,iter,ifs,0⟩] scope pos) 0 it acc env).onRaise (fun x=>do noteFrame x env;theTreesLotGoes x)) _ _ s
 refine wpAny_noted ?_
 rw [compTurn_list]
 refine wpAny_bind (wpAny_standAt (wpAny_bind (wpAny_mono (turn n s hI) (fun r s₁ h₁=>?_) fun _ _ h'=>h'.elim)))
 cases r with
 | none=>exact wpAny_pure h₁
 | some v=>
  refine wpAny_bind (wpAny_mono h₁ (fun _ s₁' h₁'=>?_) fun _ _ h'=>h'.elim)
  refine wpAny_bind (wpAny_mono h₁' (fun _ s₂ h₂=>wpAny_bind (wpAny_mono h₂ (fun ok s₃ h₃=>?_) fun _ _ h'=>h'.elim)) fun _ _ h'=>h'.elim)
  cases ok with
  | false=>exact wpAny_pure ⟨rfl,h₃⟩
  | true=>
   exact wpAny_bind (wpAny_bind (wpAny_mono h₃ (fun x s₄ h₄=>wpAny_bind (wpAny_mono h₄ (fun _ s₅ h₅=>wpAny_pure (wpAny_pure ⟨rfl,h₅⟩)) fun _ _ h'=>h'.elim)) fun _ _ h'=>h'.elim))
def cxC (X:Cx) (N':List Str) (scope:Scope) (cl:List (Str×Addr)) (C:Addr) (s:Shared) (H:Hp) (ex:List Addr):Cx:=
 { X with N:=N',s₀:=s,H₀:=H,env:=compEnvC scope cl C X.env,outer:=X.stack,ex:=ex,fn:=fun x=>(cl.lookup x).isNone,pn:=[],xe:=fun _ _=>False }
structure CmB (N tn fs:List Str) (ix:List Nat) (G:List Str) (scope osc:Scope):Prop where
 kd:scope.kind= .function
 okd:osc.kind= .function
 nocell:∀x∈scope.names,x.2≠ .cell
 once:∀x∈scope.names,x.2= .local->scope.names.lookup x.1=some .local
 fr:∀x∈scope.names,x.2= .free->osc.names.lookup x.1=some .cell
 htn:∀x∈tn,scope.names.lookup x=some .local/\(x==("__debug__" :Str))=false/\(x==("__classdict__" :Str))=false
 hfs:∀x∈fs,scope.names.lookup x=some .free/\(x==("__debug__" :Str))=false/\(x==("__classdict__" :Str))=false
 hnd:(tn++fs).Nodup
 hix:ix.map (fun i=>N[i]?)=fs.map some
 hgl:∀x∈G,scope.names.lookup x=some .globalImplicit/\(x==("__debug__" :Str))=false/\x≠ "__name__"
theorem relabel_of {scope:Scope} {env:PySem.Env} {x:Str}:∀{names:List (Str×NameKind)} {k:NameKind},names.lookup x=some k->
  (names.map fun (n,k)=>if (k==NameKind.free && env.scope.kind== .function && env.kindOf n==some .cell) then (n,NameKind.cell) else (n,k)).lookup x=some (if (k==NameKind.free && env.scope.kind== .function && env.kindOf x==some .cell)=true then .cell else k)
 | [],_,h=>by simp at h
 | (n,k')::r,k,h=>by
  have ih:= @relabel_of scope env x r k
  show List.lookup x ((if (k'==NameKind.free && env.scope.kind== .function && env.kindOf n==some .cell)=true then (n,NameKind.cell) else (n,k'))::_)=_
  cases hx:x==n with
  | true=>
   simp only [List.lookup_cons,hx] at h
   cases h
   have:x=n:=by simpa using hx
   subst this
   split
   ·rename_i hc;simp [List.lookup_cons,hc]
   ·rename_i hc;simp only [List.lookup_cons,hx,if_neg hc]
  | false=>
   simp only [List.lookup_cons,hx] at h
   by_cases hc:(k'==NameKind.free && env.scope.kind== .function && env.kindOf n==some .cell)=true
   ·rw [if_pos hc];simp only [List.lookup_cons,hx];exact ih h
   ·rw [if_neg hc];simp only [List.lookup_cons,hx];exact ih h
theorem relabel_back {scope:Scope} {env:PySem.Env} {x:Str}:∀{names:List (Str×NameKind)} {k:NameKind},
  (names.map fun (n,k)=>if (k==NameKind.free && env.scope.kind== .function && env.kindOf n==some .cell) then (n,NameKind.cell) else (n,k)).lookup x=some k->∃k',names.lookup x=some k'/\(x,k')∈names/\(k=k'∨k'= .free)
 | [],_,h=>by simp at h
 | (n,k')::r,k,h=>by
  have ih:= @relabel_back scope env x r k
  have h:List.lookup x ((if (k'==NameKind.free && env.scope.kind== .function && env.kindOf n==some .cell)=true then (n,NameKind.cell) else (n,k'))::(r.map fun (n,k)=>if (k==NameKind.free && env.scope.kind== .function && env.kindOf n==some .cell) then (n,NameKind.cell) else (n,k)))=some k:=h
  cases hx:x==n with
  | true=>
   have:x=n:=by simpa using hx
   subst this
   refine ⟨k',by simp [List.lookup_cons],List.mem_cons_self,?_⟩
   by_cases hc:(k'==NameKind.free && env.scope.kind== .function && env.kindOf x==some .cell)=true
   ·right
    simp only [Bool.and_eq_true] at hc
    have:=hc.1.1
    cases k'<;>first | rfl | exact absurd this (by decide)
   ·rw [if_neg hc] at h
    simp [List.lookup_cons] at h
    exact .inl h.symm
  | false=>
   have h':List.lookup x (r.map fun (n,k)=>if (k==NameKind.free && env.scope.kind== .function && env.kindOf n==some .cell) then (n,NameKind.cell) else (n,k))=some k:=by
    by_cases hc:(k'==NameKind.free && env.scope.kind== .function && env.kindOf n==some .cell)=true
    ·rw [if_pos hc] at h;simpa only [List.lookup_cons,hx] using h
    ·rw [if_neg hc] at h;simpa only [List.lookup_cons,hx] using h
   obtain ⟨k2,a,b,c⟩:=ih h'
   exact ⟨k2,by simp only [List.lookup_cons,hx];exact a,List.mem_cons_of_mem _ b,c⟩
theorem XO {X:Cx} {N':List Str} {scope:Scope} {cl:List (Str×Addr)} {C:Addr} {s:Shared} {H:Hp} {ex:List Addr} {x:Str} {k:NameKind} (h:scope.names.lookup x=some k):
  (cxC X N' scope cl C s H ex).env.scope.names.lookup x=some (if (k==NameKind.free && X.env.scope.kind== .function && X.env.kindOf x==some .cell)=true then .cell else k):=relabel_of (scope:=scope) h
section
variable {X:Cx} {pins:List (Addr×Obj)} {σ:St} {H2:Hp} {s2:Shared} {N tn fs G:List Str} {ix:List Nat} {scope osc:Scope} {cl:List (Str×Addr)} {fp:List Addr} {tnn:Nat->Heap->Prop} {J:It} {it D C:Addr} {tg:Expr} {h4:Heap} {m0:Str->Option Value}
def capt (n:Nat) (ix:List Nat) (σ:St):St:=List.replicate n none++ix.map fun i=>(σ[i]?).join
theorem Jf (I2:Inv X pins σ H2 s2) (T:Turn X.prog X.w X.K tg J fp it tnn) (st2:tnn 0 s2.heap) (f2:∀b∈fp,FpOk X pins H2 b) (hsc:X.env.scope=osc) (hN:X.N=N) (B:CmB N tn fs ix G scope osc)
  (hcl1:∀y c,cl.lookup y=some c->X.env.cells.lookup y=some c/\(y,NameKind.free)∈scope.names) (hcl2:∀y,(y,NameKind.free)∈scope.names->∃c,cl.lookup y=some c)
  (k:∀b u,s2.heap.get? b=some u->h4.get? b=some u) (eD:D=s2.heap.objs.size) (hD:h4.get? D=some { cls:= .type "list",data:= .seq #[] }) (hns:h4.Ns C m0) (hC:s2.heap.objs.size<C) {t':Nat}:
  Inv (cxC X (tn++fs) scope cl C s2 H2 fp) [] (capt tn.length ix σ) (upd H2 D (.lst [])) { s2 with heap:=h4,toks:=t' }:=by
 have old:∀b u,s2.heap.get? b=some u->b≠C:=fun b u e z=>by
  have:=Heap.lt_size e;rw [z] at this;exact Nat.lt_irrefl _ (Nat.lt_trans this hC)
 have oldD:∀b u,s2.heap.get? b=some u->b≠D:=fun b u e z=>by
  have:=Heap.lt_size e;rw [z,eD] at this;exact Nat.lt_irrefl _ this
 have freeOf:∀x,((cxC X (tn++fs) scope cl C s2 H2 fp).env.kindOf x=some .cell∨(cxC X (tn++fs) scope cl C s2 H2 fp).env.kindOf x=some .free)->(x,NameKind.free)∈scope.names:=fun x hx=>by
  have:∃k,(cxC X (tn++fs) scope cl C s2 H2 fp).env.kindOf x=some k/\(k= .cell∨k= .free):=by
   rcases hx with h | h
   ·exact ⟨_,h,.inl rfl⟩
   ·exact ⟨_,h,.inr rfl⟩
  obtain ⟨k,hk,hc⟩:=this
  obtain ⟨k',e1,e2,e3⟩:=relabel_back (scope:=scope) (env:=X.env) (names:=scope.names) hk
  rcases e3 with rfl | rfl
  ·rcases hc with rfl | rfl
   ·exact absurd rfl (B.nocell _ e2)
   ·exact e2
  ·exact e2
 have hH:∀b,H2 b=none->b≠D->upd H2 D (.lst []) b=none:=fun b h1 h2=>by rw [xh h2];exact h1
 refine ⟨⟨I2.ok.mod,?_,I2.ok.glob,I2.ok.blt,Nat.le_of_lt hC,fun x y c h1 h2=>I2.ok.inj x y c (hcl1 x c h1).1 (hcl1 y c h2).1,fun x hx=>hcl2 x (freeOf x hx),fun x c h1 h2=>?_,I2.ok.hd,I2.ok.frames,.inl rfl,fun b hb=>⟨?_,fun x c e=>?_⟩,I2.bs,Nat.le_trans I2.ok.bsz I2.sz,fun b o e hb=>?_,fun b hb hs=>?_,I2.stack,I2.stkFree⟩,
  rfl,I2.bare,Un.laid k (by rw [eD];exact Nat.le_refl _) (I2.hok.fresh (by rw [eD];exact Nat.le_refl _)),⟨m0,hns,fun i x v e1 e2 e3=>?_⟩,fun x c e=>?_,?_,fun x c e=>?_,fun p hp=>absurd (show p∈([]:List (Addr×Obj)) from hp) (by simp),?_,?_⟩
 ·show scope.kind= .function;exact B.kd
 ·have h1:(cl.lookup x).isNone=true:=h1
  rw [show cl.lookup x=some c from h2] at h1;cases h1
 ·obtain ⟨o,e,_⟩:=T.obj 0 _ st2 b hb;exact old b o e
 ·exact (f2 b hb).2.2.2.2.1 x c (hcl1 x c e).1
 ·have hb:b∈fp:=hb
  rcases (f2 b hb).2.2.2.1 with z | z
  ·exact I2.ok.noex b o e z
  ·exact absurd (Nat.lt_of_lt_of_le (Heap.lt_size (I2.ok.bs b o e).1) z) (Nat.lt_irrefl _)
 ·have hb:b∈fp:=hb
  rcases List.mem_cons.mp (I2.stkSub b hs) with z | z
  ·exact (f2 b hb).2.1 z
  ·exact (f2 b hb).2.2.1 z
 ·
  have hl:tn.length<=i:=by
   rcases Nat.lt_or_ge i tn.length with z | z
   ·unfold capt at e2
    rw [List.getElem?_append_left (by simpa using z),List.getElem?_replicate] at e2
    split at e2<;>cases e2
   ·exact z
  have e1':fs[i - tn.length]? =some x:=by
   have:(tn++fs)[i]? =some x:=e1
   rwa [List.getElem?_append_right hl] at this
  have e2':(ix.map fun i=>(σ[i]?).join)[i - tn.length]? =some (some v):=by
   unfold capt at e2
   rwa [List.getElem?_append_right (by simpa using hl),List.length_replicate] at e2
  rw [List.getElem?_map] at e2'
  cases qj:ix[i - tn.length]? with
  | none=>rw [qj] at e2';cases e2'
  | some j=>
   rw [qj] at e2'
   have e3':σ[j]? =some (some v):=by
    have:(σ[j]?).join=some v:=by simpa using e2'
    cases q:σ[j]? with
    | none=>rw [q] at this;cases this
    | some o=>rw [q] at this;have:o=some v:=this;rw [this]
   have e4:X.N[j]? =some x:=by
    have z:=congrArg (fun l=>l[i - tn.length]?) B.hix
    simp only [List.getElem?_map,qj,e1',Option.map_some] at z
    rw [hN];exact Option.some.inj z
   have hx:=B.hfs x (List.mem_of_getElem? e1')
   have hmem:(x,NameKind.free)∈scope.names:=PySem.mem_of_lookup hx.1
   have hcell:X.env.kindOf x=some .cell:=by show X.env.scope.names.lookup x=_;rw [hsc];exact B.fr _ hmem rfl
   obtain ⟨mm,_,hv⟩:=I2.loc
   obtain ⟨u,ru,lu⟩:=hv j x v e4 e3' (.inr (.inl hcell))
   refine ⟨u,ru,.inr ⟨.inl ?_,?_⟩⟩
   ·show (cxC X (tn++fs) scope cl C s2 H2 fp).env.scope.names.lookup x=_
    rw [XO hx.1]
    have hk:X.env.scope.kind= .function:=by rw [hsc];exact B.okd
    simp [hk,hcell]
   ·obtain ⟨c,hc⟩:=hcl2 x hmem
    refine ⟨c,hc,?_⟩
    rcases lu with ⟨z,_⟩ | ⟨_,c',h1,h2⟩
    ·rw [hcell] at z;cases z
    ·have:=(hcl1 x c hc).1
     rw [h1] at this;cases this
     obtain ⟨o,ho,hd⟩:=h2
     exact ⟨o,k _ _ ho,hd⟩
 ·obtain ⟨v,o,ho,hd⟩:=I2.cell x c (hcl1 x c e).1
  exact ⟨v,o,k _ _ ho,hd⟩
 ·refine hH C (I2.hok.fresh (Nat.le_of_lt hC)) ?_
  intro z;rw [z,eD] at hC;exact Nat.lt_irrefl _ hC
 ·obtain ⟨v,o,ho,hd⟩:=I2.cell x c (hcl1 x c e).1
  exact hH c (I2.freeC x c (hcl1 x c e).1) (oldD c o ho)
 ·exact I2.hok.laid (a:=D) (o:= .lst []) k (by rw [eD];exact Nat.le_refl _) ⟨Nat.zero_le _,[],0,.nil,hD⟩
 ·show (capt tn.length ix σ).length=(tn++fs).length
  have:=congrArg List.length B.hix
  simp only [List.length_map] at this
  unfold capt
  simp [this]
end
def capS:Slot->Slot
 | .val d=> .val d
 | .thg t=> .bor t
 | .bor t=> .bor t
 | .dsk _ _ C p s _=> .bor (DskT C p s)
 | _=> .un
def TsD (Y:Cy):List Expr->List Slot->Bool->Prop
 | [],_,b=>b=true
 | [t],c,b=>TeD Y t c b
 | _,_,_=>False
theorem uQ {α:Type} (f:α->Slot):∀(l:List α) (i:Nat),slot (l.map f) i=(match l[i]? with | some x=>f x | none=> .un)
 | [],i=>by simp [slot]
 | x::r,0=>rfl
 | x::r,i+1=>by simpa [slot] using uQ f r i
theorem zy:∀(a b:List Slot) (i:Nat),i<a.length->slot (a++b) i=slot a i
 | [],_,_,h=>by simp at h
 | _::_,_,0,_=>rfl
 | _::r,b,i+1,h=>zy r b i (by simpa using h)
theorem zi:∀(a b:List Slot) (i:Nat),slot (a++b) (a.length+i)=slot b i
 | [],_,i=>by simp
 | _::r,b,i=>by
  have:=zi r b i
  simp only [List.length_cons,List.cons_append]
  rw [show r.length+1+i=(r.length+i)+1 by omega]
  exact this
theorem Jy {K:PySem.W.Frag} {F₀ H₀ F H:Hp} {σ:St} {c:List Slot} {n:Nat} {ix:List Nat} {D:Addr} {o:HO} (E:Env K F₀ H₀ F H σ c) (hn:H D=none):
  Env K F H F (upd H D o) (capt n ix σ) (List.replicate n .un++ix.map fun i=>capS (slot c i)) where
 ext:=Ext.track E.fh hn
 len:=by unfold capt;simp
 sl:=fun j=>by
  unfold capt
  by_cases hj:j<n
  ·rw [zy _ _ _ (by simpa using hj),z0];exact trivial
  ·have ej:j=(List.replicate n Slot.un).length+(j - n):=by simp;omega
   have e2:slot (List.replicate n .un++ix.map fun i=>capS (slot c i)) j=slot (ix.map fun i=>capS (slot c i)) (j - n):=by
    have:=zi (List.replicate n .un) (ix.map fun i=>capS (slot c i)) (j - n)
    rw [<-ej] at this;exact this
   rw [e2,uQ,List.getElem?_append_right (by simp;omega),List.length_replicate,List.getElem?_map]
   cases q:ix[j - n]? with
   | none=>exact trivial
   | some i=>
    show SlotOk K H F (upd H D o) (some ((σ[i]?).join)) (capS (slot c i))
    have z:=E.sl i
    cases e:slot c i with
    | val d=>
     rw [e] at z
     obtain ⟨x,ex,r⟩:=z
     exact ⟨x,by rw [ex];rfl,r⟩
    | thg t=>
     rw [e] at z
     obtain ⟨a,o',ex,h1,_,_,r⟩:=z
     exact ⟨a,o',by rw [ex];rfl,h1,r.1⟩
    | dsk a l C p s past=>
     rw [e] at z
     obtain ⟨ex,dx,vs,x,y,h1,_,_,_,_,_,_,r1,r2,_⟩:=z
     exact ⟨a,_,by rw [ex];rfl,h1,dx,l,x,y,rfl,r1,r2⟩
    | bor t=>
     rw [e] at z
     obtain ⟨a,o',ex,h1,r⟩:=z
     exact ⟨a,o',by rw [ex];rfl,E.ext.hh _ _ h1,r⟩
    | _=>exact trivial
 inj:=fun i j a h _ _ _=>by
  exfalso
  have:isOwn (slot (List.replicate n .un++ix.map fun i=>capS (slot c i)) i)=false:=by
   by_cases hj:i<n
   ·rw [zy _ _ _ (by simpa using hj),z0];rfl
   ·have ej:i=(List.replicate n Slot.un).length+(i - n):=by simp;omega
    have e2:slot (List.replicate n .un++ix.map fun i=>capS (slot c i)) i=slot (ix.map fun i=>capS (slot c i)) (i - n):=by
     have:=zi (List.replicate n .un) (ix.map fun i=>capS (slot c i)) (i - n)
     rw [<-ej] at this;exact this
    rw [e2,uQ]
    split
    ·rename_i x _;cases slot c x<;>rfl
    ·rfl
  rw [this] at h;cases h
theorem Env.aside {K:PySem.W.Frag} {F₀ H₀ F H:Hp} {σ:St} {c:List Slot} {D:Addr} {vs ws:List V} (E:Env K F₀ H₀ F H σ c) (h0:H₀ D=none) (hF:F D=none) (hD:H D=some (.lst vs)) (hs:∀i a,isOwn (slot c i)=true->σ[i]? =some (some (.ref a))->a≠D):Env K F₀ H₀ F (upd H D (.lst ws)) σ c where
 ext:=⟨E.ext.ff,fun b u q=>by rw [xh (fun z=>by rw [z,hF] at q;cases q)];exact E.ext.fh _ _ q,fun b u q=>by rw [xh (fun z=>by rw [z,h0] at q;cases q)];exact E.ext.hh _ _ q,E.ext.fr⟩
 len:=E.len
 sl:=fun i=>by
  have z:=E.sl i
  cases e:slot c i with
  | un=>exact trivial
  | val d=>rw [e] at z;exact z
  | own ds=>
   rw [e] at z
   obtain ⟨a,vs',h1,h2,h3,h4,h5⟩:=z
   exact ⟨a,vs',h1,by rw [xh (hs i a (by rw [e];rfl) h1)];exact h2,h3,h4,h5⟩
  | dic ds=>
   rw [e] at z
   obtain ⟨a,vs',h1,h2,h3,h4,h5⟩:=z
   exact ⟨a,vs',h1,by rw [xh (hs i a (by rw [e];rfl) h1)];exact h2,h3,h4,h5⟩
  | thg t=>
   rw [e] at z
   obtain ⟨a,vs',h1,h2,h3,h4,h5⟩:=z
   exact ⟨a,vs',h1,by rw [xh (hs i a (by rw [e];rfl) h1)];exact h2,h3,h4,h5⟩
  | bor t=>rw [e] at z;exact z
  | fnv f=>rw [e] at z;exact z
  | dsk a l C p s past=>
   rw [e] at z
   exact ⟨z.1,z.2.upd hD Zu⟩
  | exc C dx=>
   rw [e] at z
   obtain ⟨a,h1,h2⟩:=z
   exact ⟨a,h1,by rw [xh (fun q=>by rw [q,hD] at h2;cases h2)];exact h2⟩
 inj:=E.inj
theorem jL {Y:Cy} {ifs:List Expr} {c:List Slot} {b:Bool} {pins:List (Addr×Obj)} {s:Shared} {σ:St} {F H:Hp} (h:TsD Y ifs c b) (I:Inv Y.X pins σ H s) (E:EnvY Y F H σ c) (hx:Y.X.xe=fun _ _=>False) {Q:Bool->Shared->Prop}
  (q:∀s' F' H',Ext F H F' H'->Inv Y.X pins σ H' s'->Q b s'):
  wpAny (model Y.X.prog Y.X.w) Y.X.A (forIn ifs true fun c r=>if r=true then do let ok <-isTrue c Y.X.env (eval c Y.X.env);pure (ForInStep.yield ok) else pure (ForInStep.yield r)) Q (fun _ _=>False) s:=by
 match ifs,h with
 | [],h=>
  have h:b=true:=h
  subst h
  exact wpAny_tests_nil (q s F H (Ext.refl E.fh) I)
 | [t],h=>
  refine wpAny_tests_one ?_
  have w:=(show TeD Y t c b from h) pins s σ H (fun v H'=>v=b/\∃F',Ext F H F' H') I ⟨F,E,fun F' H' e=>⟨rfl,F',e⟩⟩
  rw [hx] at w
  refine wpAny_mono w (fun v s' hv=>?_) fun _ _ z=>z
  obtain ⟨H',I',rfl,F',e⟩:=hv
  exact q s' F' H' e I'
theorem WY:∀{ts:List Slot},ts.all (fun s=> !isOwn s)=true->∀j,isOwn (slot ts j)=false
 | [],_,_=>rfl
 | x::r,h,0=>by simp at h;exact h.1
 | x::r,h,j+1=>WY (ts:=r) (by simp at h ⊢;exact h.2) j
theorem kK {ts:List Slot} {ix:List Nat} {c:List Slot} (h:ts.all (fun s=> !isOwn s)=true) {j:Nat}:isOwn (slot (ts++ix.map fun i=>capS (slot c i)) j)=false:=by
 refine WY ?_ j
 rw [List.all_append,h,Bool.true_and,List.all_map]
 rw [List.all_eq_true]
 intro i _
 show (!isOwn (capS (slot c i)))=true
 cases slot c i<;>rfl
theorem Wu {Y:Cy} {T:Tx} {k:Nat} {N G tn fs G':List Str} {ix:List Nat} {c:List Slot} {tg iter elt:Expr} {ifs:List Expr} {scope osc:Scope} {pos:Pos} {items:List D} (S:Se Y T k N G) (hsc:Y.X.env.scope=osc) (B:CmB N tn fs ix G' scope osc) (hi:ItD Y tg iter c items)
  (rs:List (Option D)) (hlen:rs.length=items.length) (hz:rs.length<=100000)
  (turn:∀(Y':Cy) (S':Se Y' T k (tn++fs) G'),(∀x∈tn,Y'.X.env.scope.names.lookup x=some .local)->∀(m:Nat) (d:D) (r:Option D),items[m]? =some d->rs[m]? =some r->∀ts:List Slot,ts.length=tn.length->
   ∃ts':List Slot,ts'.length=tn.length/\ts'.all (fun s=> !isOwn s)=true/\TgD Y' tg d (ts++ix.map fun i=>capS (slot c i)) (ts'++ix.map fun i=>capS (slot c i))/\(match r with
    | some e=>TsD Y' ifs (ts'++ix.map fun i=>capS (slot c i)) true/\EvD Y' elt (ts'++ix.map fun i=>capS (slot c i)) e
    | none=>TsD Y' ifs (ts'++ix.map fun i=>capS (slot c i)) false))
  (hs:∀x,foldedSetIterable iter Y.X.env x=pure x:=by intro _;rfl)
  {pins:List (Addr×Obj)} {s:Shared} {σ:St} {F H:Hp} (I:Inv Y.X pins σ H s) (E:EnvY Y F H σ c) {use:Option (Value->Sem Unit)} {Qv:Value->Shared->Prop} {cpos:Pos}
  (post:∀(D C:Addr) (s':Shared) (m:Str->Option Value) (F' H':Hp) (vs:List V),s'.heap.Ns C m->FpOk Y.X pins H' C->(∀h',Heap.SameBut C s'.heap h'->Inv Y.X pins σ H' { s' with heap:=h' })->Ext F H F' H'->H D=none->H' D=some (.lst vs)->F' D=none->Reps Y.X.K F' vs (rs.filterMap id)->
   compPost (model Y.X.prog Y.X.w) Y.X.A Y.X.xe use Qv (.ref D) C (.ok .next) s'):
  wpAny (model Y.X.prog Y.X.w) Y.X.A (comprehension (.ListComp elt [⟨tg,iter,ifs,0⟩] scope pos) scope Y.X.env cpos (newList []) (firstAsync [⟨tg,iter,ifs,0⟩]) (firstIter [⟨tg,iter,ifs,0⟩] Y.X.env) use) Qv Y.X.xe s:=by
 obtain ⟨cl,ecl,hcl1,hcl2⟩:=X3 scope Y.X.env fun x hx hf=>I.ok.has x.1 (.inl (by show Y.X.env.scope.names.lookup x.1=_;rw [hsc];exact B.fr x hx hf))
 refine wpAny_comprehension_free (g:=⟨tg,iter,ifs,0⟩) (gs:=[]) rfl hs ecl B.kd B.once ?_
 have h1:=hi pins s σ H (fun J H1=>∃F1,Ext F H F1 H1/\Yields Y.X.K F1 J items) I ⟨F,E,fun J F1 H1 e1 y=>⟨F1,e1,y⟩⟩
 refine thn h1 fun x s1 h1=>thn h1 fun itv s2 h2=>?_
 obtain ⟨it,fp,tnn,J,H2,rfl,I2,TT,st2,f2,F2,e2,yl⟩:=h2
 refine wpAny_newObj_type (wpAny_newFunctionEnv B.nocell (by intro y hy;simp at hy) (fun h4 hns hsb=>?_) B.kd)
 dsimp only at hns hsb ⊢
 generalize hH3:s2.heap.push { cls:= .type "list",dict:=none,data:= .seq ([]:List Value).toArray }=g3 at hns hsb ⊢
 have hC:g3.objs.size=s2.heap.objs.size+1:=by rw [<-hH3,Heap.size_push]
 have hD3:g3.get? s2.heap.objs.size=some { cls:= .type "list",dict:=none,data:= .seq ([]:List Value).toArray }:=by rw [<-hH3];exact Heap.get?_push_size _ rfl
 have kk:∀b u,s2.heap.get? b=some u->h4.get? b=some u:=fun b u e=>hsb.extBut b u (by rw [hC];exact Nat.ne_of_lt (Nat.lt_succ_of_lt (Heap.lt_size e))) (Heap.get?_push_of_some _ (hH3▸Heap.get?_push_of_some _ e))
 have hD:h4.get? s2.heap.objs.size=some { cls:= .type "list",data:= .seq #[] }:=hsb.extBut _ _ (by rw [hC];exact Nat.ne_of_lt (Nat.lt_succ_self _)) (Heap.get?_push_of_some _ hD3)
 have hCl:s2.heap.objs.size<g3.objs.size:=by rw [hC];exact Nat.lt_succ_self _
 generalize hDe:s2.heap.objs.size=D at hD hCl ⊢
 generalize g3.objs.size=C at hns hsb hCl ⊢
 have hDn:H2 D=none:=I2.hok.fresh (by rw [hDe];exact Nat.le_refl _)
 have I4:=Jf (t':=s2.toks+([]:List (Str×Value)).length) I2 TT st2 f2 hsc S.n B hcl1 hcl2 kk hDe.symm hD hns (by rw [hDe];exact hCl)
 generalize hXc:cxC Y.X (tn++fs) scope cl C s2 H2 fp=Xc at I4
 have xP:Xc.prog=Y.X.prog:=by rw [<-hXc];rfl
 have xW:Xc.w=Y.X.w:=by rw [<-hXc];rfl
 have xK:Xc.K=Y.X.K:=by rw [<-hXc];rfl
 have xA:Xc.A=Y.X.A:=by rw [<-hXc];rfl
 have xE:Xc.xe=fun _ _=>False:=by rw [<-hXc];rfl
 have xenv:Xc.env=compEnvC scope cl C Y.X.env:=by rw [<-hXc];rfl
 have S':Se ⟨Xc,F2,H2⟩ T k (tn++fs) G':=by
  subst hXc
  refine ⟨⟨S.eP,S.eW,S.eK,S.eM,S.eB,rfl,B.hnd,fun x hx=>?_,fun x hx=>?_⟩,S.calm,S.room⟩
  ·rcases List.mem_append.mp hx with h | h
   ·have z:=B.htn x h
    exact ⟨.inl (lookup_relabel_local z.1),z.2⟩
   ·have z:=B.hfs x h
    refine ⟨.inr ?_,z.2⟩
    have zz:=XO (X:=Y.X) (N':=tn++fs) (cl:=cl) (C:=C) (s:=s2) (H:=H2) (ex:=fp) z.1
    have hk:Y.X.env.scope.kind= .function:=by rw [hsc];exact B.okd
    have hcell:Y.X.env.kindOf x=some .cell:=by show Y.X.env.scope.names.lookup x=_;rw [hsc];exact B.fr _ (PySem.mem_of_lookup z.1) rfl
    rw [hk,hcell] at zz
    exact zz
  ·have z:=B.hgl x hx
   refine ⟨?_,z.2⟩
   have zz:=XO (X:=Y.X) (N':=tn++fs) (cl:=cl) (C:=C) (s:=s2) (H:=H2) (ex:=fp) z.1
   exact zz
 have hloc:∀x∈tn,(⟨Xc,F2,H2⟩:Cy).X.env.scope.names.lookup x=some .local:=fun x hx=>by
  show Xc.env.scope.names.lookup x=_
  rw [xenv];exact lookup_relabel_local (B.htn x hx).1
 have E2:=E.grow e2
 have E4:Env Y.X.K F2 H2 F2 (upd H2 D (.lst [])) (capt tn.length ix σ) (List.replicate tn.length .un++ix.map fun i=>capS (slot c i)):=Jy E2 hDn
 have fin:∀{σ':St} {F' H':Hp} {s':Shared} {vs:List V},Inv Xc [] σ' H' s'->Ext F2 H2 F' H'->H' D=some (.lst vs)->F' D=none->Reps Y.X.K F' vs (rs.filterMap id)->
   compPost (model Y.X.prog Y.X.w) Y.X.A Y.X.xe use Qv (.ref D) C (.ok .next) s':=by
  intro σ' F' H' s' vs I' ex hv hf r
  obtain ⟨m,hn,_⟩:=id I'.loc
  rw [xenv] at hn
  have b0:Un (frs Y.X.stack) fp H2 H' s2.heap s'.heap:=by have:=I'.base;rw [<-hXc] at this;exact this
  have nC:∀b o,s2.heap.get? b=some o->b≠C:=fun b o e z=>by
   have:=Heap.lt_size e;rw [z,hDe] at this;exact Nat.lt_irrefl _ (Nat.lt_trans this hCl)
  have hfC:H' C=none:=by have:=I'.free;rw [xenv] at this;exact this
  have I9:∀h',Heap.SameBut C s'.heap h'->Inv Y.X pins σ H' { s' with heap:=h' }:=fun h' hs'=>by
   have un:Un (frs Y.X.stack) fp H2 H' s2.heap h':=⟨fun b o e n hb hx=>(hs'.2 b (nC b o e)).trans (b0.keep b o e n hb hx),fun b o e n hb hx=>by
     obtain ⟨sl,z⟩:=b0.slot b o e n hb hx
     exact ⟨sl,(hs'.2 b (nC b o e)).trans z⟩,b0.free,fun b o e hx=>by
     obtain ⟨o',z⟩:=b0.there b o e hx
     exact ⟨o',(hs'.2 b (nC b o e)).trans z⟩,b0.tups,b0.frzs,b0.tbls⟩
   have hok:HOk Y.X.prog Y.X.w H' h':=by
    have ok':HOk Y.X.prog Y.X.w H' s'.heap:=by rw [<-xP,<-xW];exact I'.hok
    intro b o e
    refine (ok' b o e).stay (fun c w' hc z=>(hs'.2 c ?_).trans z) (fun _ z=>z) fun _ _ z=>z
    rintro rfl
    rcases hc with rfl | hc
    ·rw [hfC] at e;cases e
    ·rw [hfC] at hc;cases hc
   have os:({ s' with heap:=h' }:Shared).os=s2.os:=by have:=I'.os;rw [<-hXc] at this;exact this
   exact I2.call' (s':={ s' with heap:=h' }) (ch:=fp) os un hok I'.bare fun b hb=>⟨(f2 b hb).2.2.2.1,(f2 b hb).2.1,(f2 b hb).2.2.2.2.1,(f2 b hb).2.2.2.2.2⟩
  have hD0:H D=none:=by
   cases z:H D with
   | none=>rfl
   | some u=>rw [e2.hh _ _ z] at hDn;cases hDn
  exact post D C s' m F' H' vs hn (I2.fpOk (by rw [hDe];exact Nat.le_of_lt hCl) hfC) I9 (e2.trans ex) hD0 hv hf r
 have calm:Xc.calm=true:=S'.calm
 have cells:∀b∈fp,∀x c,Xc.env.cells.lookup x=some c->c≠b:=fun b hb x c e=>by
  rw [xenv] at e
  exact (f2 b hb).2.2.2.2.1 x c (hcl1 x c e).1
 have neC:∀b∈fp,b≠Xc.env.locals:=fun b hb=>by
  rw [xenv]
  obtain ⟨o,e,_⟩:=TT.obj 0 _ st2 b hb
  intro z
  have z:b=C:=z
  have:=Heap.lt_size e;rw [z,hDe] at this;exact Nat.lt_irrefl _ (Nat.lt_trans this hCl)
 have nfs:∀b∈fp,b∉Xc.fs:=fun b hb z=>by
  rw [<-hXc] at z
  rcases List.mem_cons.mp (I2.stkSub b z) with z | z
  ·exact (f2 b hb).2.1 z
  ·exact (f2 b hb).2.2.1 z
 have inex:∀b∈fp,b∈Xc.ex:=fun b hb=>by rw [<-hXc];exact hb
 have stat:∀{H':Hp},(∀b∈fp,H' b=none)->∀b∈fp,FpOk Xc [] H' b:=fun hn b hb=>⟨hn b hb,neC b hb,nfs b hb,.inl (inex b hb),cells b hb,fun p hp=>by rw [<-hXc] at hp;exact absurd (show p∈([]:List (Addr×Obj)) from hp) (by simp)⟩
 have TX:Turn Xc.prog Xc.w Xc.K tg J fp it tnn:=by rw [xP,xW,xK];exact TT
 have loop:∀s3:Shared,s3={ s2 with heap:=h4,toks:=s2.toks+([]:List (Str×Value)).length }->
   codeAny (model Y.X.prog Y.X.w) Y.X.A (.compLoop (.ListComp elt [⟨tg,iter,ifs,0⟩] scope pos) 0 (.ref it) (.ref D) (compEnvC scope cl C Y.X.env)) (compPost (model Y.X.prog Y.X.w) Y.X.A Y.X.xe use Qv (.ref D) C) s3:=by
  rintro s3 rfl
  rw [<-xP,<-xW,<-xA,<-xenv]
  refine ZP (fun n s'=>∃(i:Nat) (σ':St) (F' H':Hp) (vs:List V) (ts:List Slot),n=items.length - i/\i<=items.length/\Inv Xc [] σ' H' s'/\tnn i s'.heap/\(∀b∈fp,H' b=none)/\Env Y.X.K F2 H2 F' H' σ' (ts++ix.map fun i=>capS (slot c i))/\ts.length=tn.length/\
   H' D=some (.lst vs)/\F' D=none/\Reps Y.X.K F' vs ((rs.take i).filterMap id)) ?_ items.length ⟨0,_,F2,_,[],_,rfl,Nat.zero_le _,I4,TT.keep _ _ _ st2 fun b hb o e=>kk b o e,fun b hb=>?_,E4,by simp,xp,?_,.nil⟩
  ·rintro n s' ⟨i,σ',F',H',vs,ts,rfl,hi',I',st',fr',E',hts,hv,hf,rp⟩
   have y:=yl i F' H' E'.ext.ff E'.fh
   by_cases hlt:i<items.length
   ·obtain ⟨d,hd⟩:∃d,items[i]? =some d:=⟨items[i],List.getElem?_eq_getElem hlt⟩
    obtain ⟨r,hr⟩:∃r,rs[i]? =some r:=⟨rs[i]'(by rw [hlen];exact hlt),List.getElem?_eq_getElem _⟩
    obtain ⟨go,yy⟩:=y.1 d hd
    obtain ⟨ts',hts',hown,tgd,body⟩:=turn ⟨Xc,F2,H2⟩ S' hloc i d r hd hr ts hts
    refine thn (TX.item Xc rfl rfl rfl calm i [] s' σ' H' _ I' (stat fr') st' go) fun rr s4 ⟨u,hr',h4'⟩=>?_
    subst hr'
    refine thn h4' fun _ s5 ⟨xv,H5,I5,r5,y5,st5,fr5⟩=>?_
    obtain ⟨F5,ex5,rep5⟩:=yy xv H5 y5
    have I5':=I5.pinned (stat fr5) (TT.obj _ _ st5)
    have E5:Env Y.X.K F2 H2 F5 H5 σ' (ts++ix.map fun i=>capS (slot c i)):=E'.grow ex5
    have tgr:=tgd _ s5 σ' H5 xv u (fun σ6 H6=>∃F6,Ext F5 H5 F6 H6/\Env Y.X.K F2 H2 F6 H6 σ6 (ts'++ix.map fun i=>capS (slot c i))) I5' r5 ⟨F5,by show Env Xc.K _ _ _ _ _ _;rw [xK];exact E5,by show Rep Xc.K _ _ _;rw [xK];exact rep5,fun σ6 F6 H6 ex6 E6=>⟨F6,ex6,by have z:Env Xc.K F2 H2 F6 H6 σ6 _:=E6;rw [xK] at z;exact z⟩⟩
    rw [show (⟨Xc,F2,H2⟩:Cy).X.xe=fun _ _=>False from xE] at tgr
    refine thn tgr fun _ s6 ⟨σ6,H6,I6,F6,ex6,E6⟩=>?_
    have ne:∀{Fa Ha Fb Hb:Hp} {ws:List V},Ext Fa Ha Fb Hb->Ha D=some (.lst ws)->Fa D=none->Hb D=some (.lst ws)/\Fb D=none:=fun ex h1 h2=>⟨ex.hh _ _ h1,ex.fr D (by rw [h1];exact fun z=>nomatch z) h2⟩
    obtain ⟨hv5,hf5⟩:=ne ex5 hv hf
    obtain ⟨hv6,hf6⟩:=ne ex6 hv5 hf5
    have rp6:=(rp.mono ex5.ff).mono ex6.ff
    have E6':EnvY ⟨Xc,F2,H2⟩ F6 H6 σ6 (ts'++ix.map fun i=>capS (slot c i)):=by show Env Xc.K _ _ _ _ _ _;rw [xK];exact E6
    have again:∀{s7:Shared} {σ7:St} {F7 H7:Hp} {ws:List V},Inv Xc ([]++pinsAt fp s5.heap) σ7 H7 s7->Env Y.X.K F2 H2 F7 H7 σ7 (ts'++ix.map fun i=>capS (slot c i))->H7 D=some (.lst ws)->F7 D=none->Reps Y.X.K F7 ws ((rs.take (i+1)).filterMap id)->
      ∃m,m<items.length - i/\∃(i:Nat) (σ':St) (F' H':Hp) (vs:List V) (ts:List Slot),m=items.length - i/\i<=items.length/\Inv Xc [] σ' H' s7/\tnn i s7.heap/\(∀b∈fp,H' b=none)/\Env Y.X.K F2 H2 F' H' σ' (ts++ix.map fun i=>capS (slot c i))/\ts.length=tn.length/\H' D=some (.lst vs)/\F' D=none/\Reps Y.X.K F' vs ((rs.take i).filterMap id):=by
     intro s7 σ7 F7 H7 ws I7 E7 h7 f7 r7
     refine ⟨items.length - (i+1),by omega,i+1,σ7,F7,H7,ws,ts',rfl,hlt,I7.unpinned,TT.keep _ _ _ st5 fun b hb o e=>(I7.pin (b,o) (List.mem_append_right _ (List.mem_append_right _ (z9 hb e)))).1,fun b hb=>?_,E7,hts',h7,f7,r7⟩
     obtain ⟨o,e,dd⟩:=TT.obj _ _ st5 b hb
     exact (I7.pin (b,o) (List.mem_append_right _ (List.mem_append_right _ (z9 hb e)))).2.1
    have tk:(rs.take (i+1)).filterMap id=(rs.take i).filterMap id++r.toList:=by
     rw [List.take_add_one,hr,List.filterMap_append]
     cases r<;>rfl
    cases r with
    | none=>
     refine jL (Y:=⟨Xc,F2,H2⟩) body I6 E6' xE fun s7 F7 H7 ex7 I7=>?_
     rw [if_neg Bool.false_ne_true]
     obtain ⟨hv7,hf7⟩:=ne ex7 hv6 hf6
     exact again I7 (E6.grow ex7) hv7 hf7 (by rw [tk];simpa using rp6.mono ex7.ff)
    | some e=>
     refine jL (Y:=⟨Xc,F2,H2⟩) body.1 I6 E6' xE fun s7 F7 H7 ex7 I7=>?_
     rw [if_pos rfl]
     obtain ⟨hv7,hf7⟩:=ne ex7 hv6 hf6
     have el:=body.2 _ s7 σ6 H7 (fun v H8=>∃F8,Ext F7 H7 F8 H8/\Rep Y.X.K F8 v e) I7 ⟨F7,by show Env Xc.K _ _ _ _ _ _;rw [xK];exact E6.grow ex7,fun v F8 H8 ex8 r8=>⟨F8,ex8,by have z:Rep Xc.K F8 v e:=r8;rw [xK] at z;exact z⟩⟩
     rw [show (⟨Xc,F2,H2⟩:Cy).X.xe=fun _ _=>False from xE] at el
     refine thn el fun u8 s8 ⟨v8,H8,I8,r8,F8,ex8,rep8⟩=>?_
     obtain ⟨hv8,hf8⟩:=ne ex8 hv7 hf7
     have rp8:=(rp6.mono ex7.ff).mono ex8.ff
     have E8:=(E6.grow ex7).grow ex8
     have ln:vs.length<sizeLine:=by
      rw [rp.length]
      have l1:((rs.take i).filterMap id).length<=(rs.take i).length:=List.length_filterMap_le _ _
      have l2:(rs.take i).length<=rs.length:=by simp;omega
      rw [sizeLine_eq];omega
     have ap:=(wE (X:=Xc)) _ s8 σ6 H8 (.ref D) [v8] (.ref D) [u8] (fun _ H9=>H9=upd H8 D (.lst (vs++ [v8]))) I8 rfl (.cons r8 .nil) ⟨D,vs,v8,rfl,rfl,hv8,ln,rfl⟩
     rw [xE] at ap
     refine thn ap fun _ s9 ⟨v9,H9,I9,_,e9⟩=>?_
     subst e9
     refine again (ws:=vs++ [v8]) I9 (E8.aside hDn hf8 hv8 fun j a hj ha=>?_) xp hf8 (by rw [tk];exact rp8.append (.cons rep8 .nil))
     rw [kK hown] at hj;cases hj
   ·have ei:i=items.length:=by omega
    subst ei
    refine thn (TX.done Xc rfl rfl rfl calm items.length [] s' σ' H' _ I' (stat fr') st' (y.2 (Nat.le_refl _))) fun rr s4 ⟨hr',I4'⟩=>?_
    subst hr'
    show compPost (model Xc.prog Xc.w) Xc.A Y.X.xe use Qv (.ref D) C (.ok .next) s4
    rw [xP,xW,xA]
    exact fin I4' E'.ext hv hf (by rw [<-hlen,List.take_length] at rp;exact rp)
  ·rw [xh (fun z=>?_)]
   ·exact (f2 b hb).1
   ·obtain ⟨o,e,_⟩:=TT.obj 0 _ st2 b hb
    have:=Heap.lt_size e;rw [z,hDe] at this;exact Nat.lt_irrefl _ this
  ·cases z:F2 D with
   | none=>rfl
   | some u=>rw [e2.fh _ _ z] at hDn;cases hDn
 exact codeAny_compStart_list (loop _ rfl) (TT.self _ 0 _ _ _ (TT.keep _ _ _ st2 fun b hb o e=>kk b o e) (loop _ rfl))
theorem YI {Y:Cy} {T:Tx} {k:Nat} {N G tn fs G':List Str} {ix:List Nat} {c:List Slot} {tg iter elt:Expr} {ifs:List Expr} {scope osc:Scope} {pos:Pos} {items:List D} (S:Se Y T k N G) (hsc:Y.X.env.scope=osc) (B:CmB N tn fs ix G' scope osc) (hi:ItD Y tg iter c items)
  (rs:List (Option D)) (hlen:rs.length=items.length) (hz:rs.length<=100000)
  (turn:∀(Y':Cy) (S':Se Y' T k (tn++fs) G'),(∀x∈tn,Y'.X.env.scope.names.lookup x=some .local)->∀(m:Nat) (d:D) (r:Option D),items[m]? =some d->rs[m]? =some r->∀ts:List Slot,ts.length=tn.length->
   ∃ts':List Slot,ts'.length=tn.length/\ts'.all (fun s=> !isOwn s)=true/\TgD Y' tg d (ts++ix.map fun i=>capS (slot c i)) (ts'++ix.map fun i=>capS (slot c i))/\(match r with
    | some e=>TsD Y' ifs (ts'++ix.map fun i=>capS (slot c i)) true/\EvD Y' elt (ts'++ix.map fun i=>capS (slot c i)) e
    | none=>TsD Y' ifs (ts'++ix.map fun i=>capS (slot c i)) false))
  (hs:∀x,foldedSetIterable iter Y.X.env x=pure x:=by intro _;rfl)
  {pins:List (Addr×Obj)} {s:Shared} {σ:St} {F H:Hp} (I:Inv Y.X pins σ H s) (E:EnvY Y F H σ c) {use:Option (Value->Sem Unit)} {Qv:Value->Shared->Prop} {cpos:Pos}
  (post:∀(D C:Addr) (s':Shared) (m:Str->Option Value) (F' H':Hp),s'.heap.Ns C m->FpOk Y.X pins H' C->(∀h',Heap.SameBut C s'.heap h'->Inv Y.X pins σ H' { s' with heap:=h' })->Ext F H F' H'->Rep Y.X.K F' (.ref D) (.lst (rs.filterMap id))->
   compPost (model Y.X.prog Y.X.w) Y.X.A Y.X.xe use Qv (.ref D) C (.ok .next) s'):
  wpAny (model Y.X.prog Y.X.w) Y.X.A (comprehension (.ListComp elt [⟨tg,iter,ifs,0⟩] scope pos) scope Y.X.env cpos (newList []) (firstAsync [⟨tg,iter,ifs,0⟩]) (firstIter [⟨tg,iter,ifs,0⟩] Y.X.env) use) Qv Y.X.xe s:=by
 refine Wu S hsc B hi rs hlen hz turn hs I E fun D C s' m F' H' vs hn fp hI ex hD hv hf r=>?_
 have sm:Same F' (upd F' D (.lst vs)):=fun b u z=>by rw [xh (fun w=>by rw [w,hf] at z;cases z)];exact z
 have ex2:Ext F H (upd F' D (.lst vs)) H':=⟨ex.ff.trans sm,fun b u z=>by
   by_cases hb:b=D
   ·subst hb;rw [xp] at z;cases z;exact hv
   ·rw [xh hb] at z;exact ex.fh _ _ z,ex.hh,fun b h1 h2=>by
   rw [xh (fun w=>h1 (by rw [w];exact hD))];exact ex.fr b h1 h2⟩
 exact post D C s' m _ H' hn fp hI ex2 (.lst (SqL.of xp) (r.mono sm))
theorem ZI {Y:Cy} {T:Tx} {k:Nat} {N G tn fs G':List Str} {ix:List Nat} {c:List Slot} {tg iter elt:Expr} {ifs:List Expr} {scope osc:Scope} {pos:Pos} {items:List D} (S:Se Y T k N G) (hsc:Y.X.env.scope=osc) (B:CmB N tn fs ix G' scope osc) (hi:ItD Y tg iter c items)
  (rs:List (Option D)) (hlen:rs.length=items.length) (hz:rs.length<=100000)
  (turn:∀(Y':Cy) (S':Se Y' T k (tn++fs) G'),(∀x∈tn,Y'.X.env.scope.names.lookup x=some .local)->∀(m:Nat) (d:D) (r:Option D),items[m]? =some d->rs[m]? =some r->∀ts:List Slot,ts.length=tn.length->
   ∃ts':List Slot,ts'.length=tn.length/\ts'.all (fun s=> !isOwn s)=true/\TgD Y' tg d (ts++ix.map fun i=>capS (slot c i)) (ts'++ix.map fun i=>capS (slot c i))/\(match r with
    | some e=>TsD Y' ifs (ts'++ix.map fun i=>capS (slot c i)) true/\EvD Y' elt (ts'++ix.map fun i=>capS (slot c i)) e
    | none=>TsD Y' ifs (ts'++ix.map fun i=>capS (slot c i)) false))
  (hs:∀x,foldedSetIterable iter Y.X.env x=pure x:=by intro _;rfl):EvD Y (.ListComp elt [⟨tg,iter,ifs,0⟩] scope pos) c (.lst (rs.filterMap id)):=by
 intro pins s σ H Q I ⟨F,E,q⟩
 rw [eval_ListComp]
 exact YI S hsc B hi rs hlen hz turn hs I E (use:=none) (Qv:=EP Y.X pins σ Q) fun D C s' m F' H' hn _ hI ex r=>⟨m,hn,fun h' hs'=>⟨.ref D,H',hI h' hs',rfl,q _ F' H' ex r⟩⟩
def rCatS (K:PySem.W.Frag):R2:=fun x y H Q=>∃l b xs zs,x= .ref l/\y= .ref b/\SqL K H l xs/\SqL K H b zs/\xs.length+zs.length<=sizeLine/\∀p,H p=none->Q (.ref p) (upd H p (.lst (xs++zs)))
theorem KC {X:Cx}:OpR X (binaryOp .Add) (rCatS X.K):=by
 intro pins s σ H x y v u Q I rx ry h
 obtain ⟨l,b,xs,zs,rfl,rfl,hH,hB,hz,q⟩:=h
 cases rx
 cases ry
 obtain ⟨its,r,⟨⟨cls,dd,data,sl⟩,n,e,hc,hdd,hd⟩,z1⟩:=I.list hH
 obtain ⟨its2,r2,⟨⟨cls2,dd2,data2,sl2⟩,n2,e2,hc2,hdd2,hd2⟩,z2⟩:=I.list hB
 simp only at hc hd hc2 hd2
 subst hc hd hc2 hd2
 have l1:=r.length
 have l2:=r2.length
 refine concat_meets ⟨_,e,rfl⟩ ⟨_,e2,rfl⟩ noFill_list_add seq_list_add PySem.F.slot_list_add PySem.F.entry_list_add (PySem.F.args_list_add_2 _ _) (PyProof.Rows.list_addW l b its.toArray its2.toArray n n2 dd dd2 sl sl2 (by rw [List.size_toArray,List.size_toArray];omega)) ⟨e,e2,?_⟩
 have ea:its.toArray++its2.toArray=(its++its2).toArray:=by simp
 rw [ea]
 exact ⟨.ref _,_,I.lnew (t':=s.toks) (r.append r2) (by rw [List.length_append];omega),rfl,q _ I.fresh⟩
section
variable {Y:Cy} {T:Tx} {k:Nat} {N G:List Str} {c:List Slot} {a b e:Expr} {es:List Expr} {pos:Pos} {d d1 d2:D} {ds es' xs ys:List D} {P:Out->Prop} {rest:List Stmt}
theorem yX (ha:EvD Y a c (.lst xs)) (hb:EvD Y b c (.lst ys)) (hz:xs.length+ys.length<=1000000:=by first | exact of_decide_eq_true rfl | (simp;done)):EvD Y (.BinOp a .Add b pos) c (.lst (xs++ys)):=
 zp (t:=tC .non) (ta:=tC .non) (tb:=tC .non) (WU KC ha hb) fun x y F H Q f rx ry q=>by
  obtain ⟨p1,vs,rfl,h1,r1⟩:=yV rx
  obtain ⟨p2,ws,rfl,h2,r2⟩:=yV ry
  exact ⟨p1,p2,vs,ws,rfl,rfl,f.seq h1,f.seq h2,by rw [r1.length,r2.length];exact xT hz,fun p hp=>q (.ref p) _ _ (Ext.new f hp (.lst (vs++ws))) (.lst (SqL.of xp) ((r1.append r2).mono (Ext.new f hp _).ff))⟩
def flatD:D->Bool
 | .non | .bl _ | .int _ | .str _=>true
 | _=>false
def toV:D->V
 | .non=> .non | .bl b=> .bl b | .int i=> .int i | .str x=> .str x | _=> .non
theorem Qx {K:PySem.W.Frag} {F:Hp} {v:V} {d:D} (r:Rep K F v d) (h:flatD d=true):v=toV d:=by
 cases r<;>first | rfl | cases h
theorem Yt {K:PySem.W.Frag} {F:Hp}:∀{vs:List V} {ds:List D},Reps K F vs ds->ds.all flatD=true->vs=ds.map toV
 | _,_,.nil,_=>rfl
 | _,_,.cons r t,h=>by simp at h;rw [Qx r h.1,Yt t (by simpa using h.2)];rfl
def inD (d:D) (ds:List D):Bool:=inV (toV d) (ds.map toV)
theorem Jo {d:D} (h:flatD d=true):flatV (toV d)=true:=by cases d<;>first | rfl | cases h
theorem Y0 (ha:EvD Y a c d) (hb:EvD Y b c (.tup ds)) (h1:flatD d=true:=by rfl) (h2:ds.all flatD=true:=by rfl) (hm:behindInMarks .In b=false:=by rfl):TeD Y (.Compare a [.In] [b] pos) c (inD d ds):=
 zX UQ hm ha hb fun x y F H Q f rx ry q=>by
  obtain ⟨p,vs,rfl,hp,r⟩:=uE ry
  have e1:=Qx rx h1
  have e2:=Yt r h2
  subst e1 e2
  refine ⟨p,_,rfl,.inr (yi f hp),Jo h1,?_,q F H (Ext.refl f)⟩
  rw [List.all_map,List.all_eq_true]
  intro x hx
  exact Jo (List.all_eq_true.mp h2 x hx)
def CstT (T:Tx) (x:Str) (l:List Int):Prop:=∃a,T.mg x=some (.ref a)/\∃(o:Obj) (its:Array Value) (n:Nat),T.K.lookup a=some o/\o.cls= .type "tuple" /\o.data= .seq its n/\its.size<=sizeLine/\Vals (l.map V.int) its.toList
theorem yc (S:Sn Y T N G) (gi:Nat) {x:Str} {l:List Int} (h:CstT T x l) (hg:G[gi]? =some x:=by rfl):EvD Y (.Name x pos) c (.tup (l.map D.int)):=by
 obtain ⟨a,hm,o,its,n,h1,h2,h3,h4,h5⟩:=h
 have gl:=S.gl x (List.mem_of_getElem? hg)
 refine PE.imp (vS (v:= .ref a) gl.1 (by rw [S.eM];exact hm) rfl gl.2.1) fun σ H Q ⟨F,E,q⟩=>q _ F H (Ext.refl E.fh) (.tup (.inr ⟨o,its,n,by rw [S.eK];exact h1,h2,h3,h4,h5⟩) (Reps.ints l))
end
theorem zE:bootBuiltins "ValueError" =some (.type "ValueError"):=by decide+kernel
theorem FnX.toD {T:Tx} {k:Nat} {x:Str} {R:List D->Rs->Prop} {R':List D->D->Prop} (h:FnX T k x R) (i:∀ds d,R' ds d->R ds (.ok d)):FnD T k x R':=by
 obtain ⟨f,fd,ps,hm,hk,hb,F⟩:=h.ex
 have conv:∀{vs:List V} {H:Hp} {Q:VK} {E:XK},spD T.K R' vs H Q E->spX T R vs H Q E0:=fun {vs H Q E} ⟨F0,ds,d,f0,r,hR,q⟩=>⟨F0,ds,.ok d,f0,r,i ds d hR,q⟩
 refine ⟨f,fd,ps,hm,hk,hb,⟨fun vs H Q E z=>F.len vs H Q E0 (conv z),fun A outer s H args us vs Q E hr he hb hv hs=>?_⟩⟩
 refine codeAny_mono (F.run A outer s H args us vs Q E0 hr he hb hv (conv hs)) fun r s' hq=>?_
 cases r with
 | error e=>obtain ⟨_,_,_,_,_,z⟩:=hq;exact z.elim
 | ok fl=>cases fl<;>exact hq
structure FnXd (T:Tx) (k:Nat) (x:Str) (i:Int) (R:List D->Rs->Prop):Prop where
 ex:∃(f:Addr) (fd:FuncData) (ps:List Str) (tk:Tok),T.mg x=some (.ref f)/\PySem.W.keepIn T.K (.ref f)=true/\Binds T.K fd ps [.int i tk]/\FnOk T.prog T.w T.K T.mg T.base (CXE T.prog T.w) k f fd ps (spX T R)
theorem FnXd.toD {T:Tx} {k:Nat} {x:Str} {j:Int} {R:List D->Rs->Prop} {R':List D->D->Prop} (h:FnXd T k x j R) (i:∀ds d,R' ds d->R ds (.ok d)):FnDd T k x j R':=by
 obtain ⟨f,fd,ps,tk,hm,hk,hb,F⟩:=h.ex
 have conv:∀{vs:List V} {H:Hp} {Q:VK} {E:XK},spD T.K R' vs H Q E->spX T R vs H Q E0:=fun {vs H Q E} ⟨F0,ds,d,f0,r,hR,q⟩=>⟨F0,ds,.ok d,f0,r,i ds d hR,q⟩
 refine ⟨f,fd,ps,tk,hm,hk,hb,⟨fun vs H Q E z=>F.len vs H Q E0 (conv z),fun A outer s H args us vs Q E hr he hb hv hs=>?_⟩⟩
 refine codeAny_mono (F.run A outer s H args us vs Q E0 hr he hb hv (conv hs)) fun r s' hq=>?_
 cases r with
 | error e=>obtain ⟨_,_,_,_,_,z⟩:=hq;exact z.elim
 | ok fl=>cases fl<;>exact hq
theorem xcf {T:Tx} {k:Nat} {N G ps:List Str} {R:List D->Rs->Prop} {x:Str} {st:Stmt} {i:Int} (A:AtV T x st i) (B:ScB N ps G (defScope st))
  (hb:∀(Td:Addr) (kV doc pm:Value) (an:Option Addr) (cdv ct:Value) (tk:Tok) (o:Obj) (n:Nat),T.K.lookup Td=some o->o.data= .seq #[.int i tk] n->
   Binds T.K (PySem.W.fnOf x x (defArgs st) (defBody st) (defScope st) (.ref Td) kV doc pm an cdv ct) ps []/\Binds T.K (PySem.W.fnOf x x (defArgs st) (defBody st) (defScope st) (.ref Td) kV doc pm an cdv ct) ps [.int i tk]) (hlen:∀ds d,R ds d->ds.length=ps.length)
  (body:∀(Y:Cy) (S:Sc Y T k N G) (Z:Fx Y st) (ds:List D) (r:Rs),R ds r->(∀y,r= .ex y->∀c,RzN Y T y c/\RzMN Y T y c)->SsD Y (defBody st) (ctx0 N ds) (RetX r)):FnX T (k+1) x R/\FnXd T (k+1) x i R:=by
 obtain ⟨f,Td,oc,od,kV,doc,pm,an,cdv,ct,osl,tk,o,n,lk,lt,hs,hcd,kp,hm⟩:=A
 have hB:=hb Td kV doc pm an cdv ct tk o n lt hs
 have main:FnOk T.prog T.w T.K T.mg T.base (CXE T.prog T.w) (k+1) f (PySem.W.fnOf x x (defArgs st) (defBody st) (defScope st) (.ref Td) kV doc pm an cdv ct) ps (spX T R):=by
  refine QQ lk hcd B.fs (fun vs H Q E h=>?_) fun A outer s H vs Q E hr h=>?_
  ·obtain ⟨F0,ds,d,_,r,hR,_⟩:=h
   rw [r.length];exact hlen ds d hR
  ·obtain ⟨F0,ds,r,f0,rs,hR,q⟩:=h
   have S:Sc ⟨cxOf (CXE T.prog T.w) T.prog T.w T.K T.mg T.base N x (defScope st) f cdv A outer s H E,F0,H⟩ T k N G:=
    ⟨⟨⟨rfl,rfl,rfl,rfl,rfl,rfl,B.fs.nd,B.loc,B.gl⟩,rfl,hr⟩,fun _=>rfl,PassesOwn.leaving⟩
   refine ⟨_,body _ S ⟨rfl,rfl,rfl,rfl⟩ ds r hR (fun y hy c=>?_),F0,wT f0 rs,fun o ho=>?_⟩
   ·subst hy
    have q:∀C F' H',T.mg y=some (.ref C)->Ext F0 H F' H'->E (.ref C) none H':=q
    exact ⟨fun C hC=>⟨fun I _ _ En L=>v7 I rfl ⟨rfl,rfl⟩ L fun s' L=>⟨_,C,_,rfl,L,q C _ _ hC En.ext⟩⟩,fun C hC=>⟨fun I En M=>qa I rfl ⟨rfl,rfl⟩ M fun s' L=>⟨_,C,_,rfl,L,q C _ _ hC En.ext⟩⟩⟩
   ·cases r with
    | ex y=>exact False.elim ho
    | ok d=>
     have q:∀v F' H',Ext F0 H F' H'->Rep T.K F' v d->Q v H':=q
     cases o with
     | rt e=>cases ho;exact fun v F' H' _ x r'=>q v F' H' x r'
     | nx c=>cases ho;exact fun σ F' H' _ E'=>q .non F' H' E'.ext .non
     | bk c=>exact False.elim ho
     | ct c=>exact False.elim ho
     | ro ds=>exact False.elim ho
     | rs R=>exact False.elim ho
 exact ⟨⟨f,_,ps,hm,kp,hB.1,main⟩,⟨f,_,ps,tk,hm,kp,hB.2,main⟩⟩
end DL
namespace DL
open PySem PySem.Spec PyProof.Rows L2
section
variable {Y:Cy} {T:Tx} {k j:Nat} {N G:List Str} {c:List Slot} {e:Expr} {es:List Expr} {x y:Str} {pos p:Pos}
def Jn (J:List Slot->Prop) (P:Out->Prop):Out->Prop
 | .nx c=>J c
 | o=>P o
theorem Vo {t:Expr} {sa rest:List Stmt} {v:Bool} {P:Out->Prop} (J:List Slot->Prop) (ht:TeD Y t c v) (ha:v=true->SsD Y sa c (Jn J P)) (hb:v=false->J c) (hr:∀c',J c'->SsD Y rest c' P):SsD Y (.If t sa [] pos::rest) c P:=by
 refine xo ht (fun h=>PSs.imp (ha h) fun D σ H ⟨F,E,m⟩=>⟨F,E,fun o ho=>m o ?_⟩) (fun h=>xj (hr c (hb h)))
 cases o with
 | nx c'=>exact hr c' ho
 | rt d=>exact ho
 | bk c'=>exact ho
 | ct c'=>exact ho
 | ro ds=>exact ho
 | rs R=>exact ho
end
end DL
namespace DL
open PySem L2
section
variable {Y:Cy} {T:Tx} {k j:Nat} {N G:List Str} {c c' c'':List Slot} {a b e tg:Expr} {es:List Expr} {pos p:Pos} {rest:List Stmt} {P:Out->Prop} {d d1 d2 d3:D} {ds:List D} {R:List D->D->Prop} {x:Str}
theorem Vr (he:EvD Y e c d) (hg:TgD Y tg d c c') (hr:SsD Y rest c' P) (hs:swapsWithSole [tg] e pos.line Y.X.env=pure false:=by rfl) (hw:swappedStores [tg] e Y.X.env=pure none:=by rfl)
  (h1:(assignEach [tg] Y.X.env).map (·.2)=[assign tg Y.X.env]:=by rfl):SsD Y (.Assign [tg] e pos::rest) c P:=by
 refine xI (PS.imp (xa0 he hg hs hw h1) fun D σ H ⟨F,E,m⟩=>⟨F,E,fun v F' H' e' r'=>?_⟩)
 exact ⟨F',E.grow e',r',fun σ2 F2 H2 e2 E2=>m (.nx c') hr σ2 F2 H2 (e'.trans e2).ff E2⟩
end
section
variable {Y:Cy} {T:Tx} {k j:Nat} {N G:List Str} {c c' c'':List Slot} {a b e tg:Expr} {es:List Expr} {pos p:Pos} {rest:List Stmt} {P:Out->Prop} {d d1 d2 d3:D} {ds:List D} {R:List D->D->Prop} {x:Str}
def tGs (Y:Cy) (ds:List D) (c c':List Slot):TGs:=fun vs σ H Q=>∃F,EnvY Y F H σ c/\Reps Y.X.K F vs ds/\∀σ' F' H',Ext F H F' H'->EnvY Y F' H' σ' c'->Q σ' H'
def TgsD (Y:Cy) (es:List Expr) (ds:List D) (c c':List Slot):Prop:=PGs Y.X es (tGs Y ds c c')
theorem PGs.imp {X:Cx} {t t':TGs} (h:PGs X es t) (i:∀vs σ H Q,t' vs σ H Q->t vs σ H Q):PGs X es t':=fun pins s σ H vs us Q I r q=>h pins s σ H vs us Q I r (i _ _ _ _ q)
theorem YU:TgsD Y [] [] c c:=PGs.imp Kw fun vs σ H Q ⟨F,E,r,q⟩=>by
 cases r
 exact ⟨rfl,q σ F H (Ext.refl E.fh) E⟩
theorem zG (h1:TgD Y e d c c') (h2:TgsD Y es ds c' c'') (hs:(assignEach (e::es) Y.X.env).map (·.2)=assign e Y.X.env::(assignEach es Y.X.env).map (·.2):=by rfl):TgsD Y (e::es) (d::ds) c c'':=
 PGs.imp (kC h1 h2 hs) fun vs σ H Q ⟨F,E,r,q⟩=>by
  cases r with
  | cons r rr=>exact ⟨_,_,rfl,F,E,r,fun σ' F' H' x E'=>⟨F',E',rr.mono x.ff,fun σ2 F2 H2 x2 E2=>q σ2 F2 H2 (x.trans x2) E2⟩⟩
theorem YV (hc:Y.X.calm=true) {kt:Nat} (h:TgsD Y es ds c c') (hn:(assignEach es Y.X.env).length=ds.length:=by rfl) (hst:(assignEach es Y.X.env).findIdx? (·.1)=none:=by rfl):TgD Y (.Tuple es kt pos) (.tup ds) c c':=
 PG.imp (xa3 hc h hn hst) fun v σ H Q ⟨F,E,r,q⟩=>by
  obtain ⟨a,vs,rfl,hp,rs⟩:=uE r
  exact ⟨a,vs,rfl,yi E.fh hp,rs.length,F,E,rs,q⟩
theorem Y1 {env:PySem.Env} {sc:Scope} {ts:List Expr} {v:Expr} {r:Sem (Option (List Str))} (h:env.scope=sc) (hs:∀env:PySem.Env,swappedStores ts v { env with scope:=sc }=r):swappedStores ts v env=r:=by
 subst h
 exact hs env
theorem jT (S:Sc Y T k N G) (i j:Nat) {x y:Str} {px py pt pt2:Pos} {kt k2:Nat} (ha:ArD Y [a,b] c [d1,d2]) (hx:Y.X.env.scope.names.lookup x=some .local) (hy:Y.X.env.scope.names.lookup y=some .local)
  (hw:swappedStores [.Tuple [.Name x px,.Name y py] kt pt] (.Tuple [a,b] k2 pt2) Y.X.env=pure (some [x,y])) (hr:SsD Y rest (put (put c i (.val d1)) j (.val d2)) P) (hij:i≠j:=by decide) (hi:N[i]? =some x:=by rfl) (hj:N[j]? =some y:=by rfl)
  (hlt:i<c.length:=by first | exact of_decide_eq_true rfl | decide | omega) (hlt2:j<c.length:=by first | exact of_decide_eq_true rfl | decide | omega)
  (hs:swapsWithSole [.Tuple [.Name x px,.Name y py] kt pt] (.Tuple [a,b] k2 pt2) pos.line Y.X.env=pure false:=by rfl):SsD Y (.Assign [.Tuple [.Name x px,.Name y py] kt pt] (.Tuple [a,b] k2 pt2) pos::rest) c P:=by
 have hN:=S.nd
 rw [<-S.n] at hi hj hN
 refine xI (PS.imp (xaY S.calm hN hi hj hij hx hy ha hw hs) fun D σ H ⟨F,E,m⟩=>⟨F,E,fun vs F' H' e' r'=>?_⟩)
 obtain ⟨v1,v2,rfl,r1,r2⟩:=inv2 r'
 exact ⟨v1,v2,rfl,m (.nx _) hr _ F' H' e'.ff (((E.grow e').set hlt r1).set (by rw [ya];exact hlt2) r2)⟩
theorem QY {tn fs G':List Str} {ix:List Nat} {iter elt:Expr} {scope osc:Scope} {items:List D} (S:Se Y T k N G) (hsc:Y.X.env.scope=osc) (B:CmB N tn fs ix G' scope osc) (hi:ItD Y tg iter c items)
  (hlen:ds.length=items.length) (hz:ds.length<=100000)
  (turn:∀(Y':Cy) (S':Se Y' T k (tn++fs) G'),(∀x∈tn,Y'.X.env.scope.names.lookup x=some .local)->∀(m:Nat) (d r:D),items[m]? =some d->ds[m]? =some r->∀ts:List Slot,ts.length=tn.length->
   ∃ts':List Slot,ts'.length=tn.length/\ts'.all (fun s=> !isOwn s)=true/\TgD Y' tg d (ts++ix.map fun i=>capS (slot c i)) (ts'++ix.map fun i=>capS (slot c i))/\EvD Y' elt (ts'++ix.map fun i=>capS (slot c i)) r)
  (hs:∀x,foldedSetIterable iter Y.X.env x=pure x:=by intro _;rfl):EvD Y (.ListComp elt [⟨tg,iter,[],0⟩] scope pos) c (.lst ds):=by
 have h:=ZI (pos:=pos) (ifs:=[]) (elt:=elt) S hsc B hi (ds.map some) (by rw [List.length_map];exact hlen) (by rw [List.length_map];exact hz) (fun Y' S' hl m d r hd hr ts hts=>by
  rw [List.getElem?_map] at hr
  cases hq:ds[m]? with
  | none=>rw [hq] at hr;cases hr
  | some q=>
   rw [hq] at hr
   cases hr
   obtain ⟨ts',h1,h2,h3,h4⟩:=turn Y' S' hl m d q hd hq ts hts
   exact ⟨ts',h1,h2,h3,rfl,h4⟩) hs
 have e:(ds.map some).filterMap id=ds:=by rw [List.filterMap_map];simp
 rw [e] at h
 exact h
theorem Jt {xs ys:List D} (h:EvD Y e c (.lst xs)) (he:xs=ys):EvD Y e c (.lst ys):=he▸h
theorem xaO {env:PySem.Env} {es':List Expr} {x1:Nat} {p1:Pos}:starEach (.Tuple es' x1 p1::es) env=(false,eval (.Tuple es' x1 p1) env)::starEach es env:=by rfl
theorem JM {es':List Expr} {x1:Nat} {p1:Pos} (ha:EvD Y (.Tuple es' x1 p1) c d) (hr:ArD Y es c ds):ArD Y (.Tuple es' x1 p1::es) c (d::ds):=xa ha hr xaO
theorem Q5 (val:Nat->Int):∀(l:List Int) (x:Int),(∀i,i<(x::l).length->val i=(x::l).getD i 0)->∀m,m<(x::l).length->val (argBest (fun i j=>decide (val i<val j)) m)=((x::l).take (m+1)).tail.foldl min x
 | l,x,h,0,_=>by rw [h _ (by simp [argBest])];rfl
 | l,x,h,m+1,hm=>by
  have ih:=Q5 val l x h m (by omega)
  have hm':m<l.length:=by simpa using hm
  have e:((x::l).take (m+1+1)).tail=((x::l).take (m+1)).tail++ [l[m]]:=by
   show l.take (m+1)=l.take m++ [l[m]]
   rw [List.take_succ,List.getElem?_eq_getElem hm']
   rfl
  have hv:val (m+1)=l[m]:=by rw [h _ hm];simp [hm']
  rw [e,List.foldl_append,<-ih]
  show val (if decide (val (m+1)<val (argBest _ m))=true then m+1 else argBest _ m)=min (val (argBest _ m)) l[m]
  rw [<-hv]
  split
  ·rename_i q;have:val (m+1)<val (argBest (fun i j=>decide (val i<val j)) m):=by simpa using q
   omega
  ·rename_i q;have:¬val (m+1)<val (argBest (fun i j=>decide (val i<val j)) m):=by simpa using q
   omega
theorem jr {X:Cx} (hh:X.A.handled=none):CallR X (.builtin "min") (fun xs H Q=>∃(p:Addr) (x:Int) (l:List Int),xs=[.ref p]/\SqL X.K H p ((x::l).map V.int)/\Q (.int (l.foldl min x)) H):=by
 intro pins s σ H xs us Q I r h
 obtain ⟨p,x,l,rfl,hp,q⟩:=h
 obtain ⟨u,rfl,ru⟩:=vals1 r
 cases (show u=Value.ref p from ru)
 obtain ⟨its,rv,pl,hz⟩:=I.list hp
 have hlt:p<s.heap.objs.size:=by obtain ⟨o,n,e,_⟩:=pl;exact Heap.lt_size e
 have hl:=rv.length
 have hval:∀i v,its.toArray[i]? =some v->∃t,v=Value.int ((x::l).getD i 0) t:=fun i v hv=>by
  have hv:its[i]? =some v:=by simpa using hv
  have hi:i<(x::l).length:=by
   have:=(List.getElem?_eq_some_iff.mp hv).1
   rw [<-hl,List.length_map] at this;exact this
  obtain ⟨u',hu',r'⟩:=rv.get (i:=i) (x:= .int (x::l)[i]) (by rw [List.getElem?_map,List.getElem?_eq_getElem hi];rfl)
  rw [hv] at hu'
  cases hu'
  obtain ⟨t,rfl⟩:=r'
  exact ⟨t,by rw [List.getD_eq_getElem?_getD,List.getElem?_eq_getElem hi];rfl⟩
 have hn:its.toArray.size=(x::l).length:=by rw [List.size_toArray,<-hl,List.length_map]
 refine call_min_walk (wpAny_pyIter_list pl.isList ?_)
 refine ⟨s.heap.objs.size,_,_,_,_,_,_,rfl,Walks.list (prog:=X.prog) (w:=X.w) (A:=X.A.in1) hh s.heap.objs.size p (Nat.ne_of_lt hlt) its.toArray,⟨⟨_,Heap.get?_push_size _ rfl,rfl,rfl⟩,pl.isList.push _⟩,fun b hb=>?_,by rw [hn];simp,CmpOf.ints_lt (fun i=>(x::l).getD i 0) hval,fun v h' tk hv hk=>?_⟩
 ·have hb':b=s.heap.objs.size∨b=p:=by simpa using hb
  have hz:(s.heap.push { cls:= .type "list_iterator",data:= .fields #[.ref p,.int 0 0] }).objs.size=s.heap.objs.size+1:=Heap.size_push ..
  show b<(s.heap.push _).objs.size
  rw [hz]
  rcases hb' with rfl | rfl
  ·exact Nat.lt_succ_self _
  ·exact Nat.lt_succ_of_lt hlt
 ·obtain ⟨t,rfl⟩:=hval _ v hv
  have e:=Q5 (fun i=>(x::l).getD i 0) l x (fun _ _=>rfl) (its.toArray.size - 1) (by rw [hn];simp)
  have e2:((x::l).take (its.toArray.size - 1+1)).tail=l:=by rw [hn];simp
  rw [e2] at e
  refine ⟨.int _,H,I.kept (t':=tk) fun b o z=>?_,⟨t,rfl⟩,?_⟩
  ·refine hk b o ?_ (Heap.get?_push_of_some _ z)
   have:=Heap.lt_size z
   simp;exact Nat.ne_of_lt this
  ·have e':(x::l).getD (argBest (fun i j=>decide ((x::l).getD i 0<(x::l).getD j 0)) (its.toArray.size - 1)) 0=l.foldl min x:=e
   rw [e']
   exact q
theorem Qw {K:PySem.W.Frag} {F:Hp}:∀{vs:List V} {l:List Int},Reps K F vs (l.map D.int)->vs=l.map V.int
 | _,[],r=>by cases r;rfl
 | _,b::bs,r=>by
  cases r with
  | cons h t=>rw [xD h,Qw t];rfl
theorem K1 (S:Se Y T k N G) (gi:Nat) {i:Int} {l:List Int} {p:Pos} (ha:ArD Y [e] c [.lst ((i::l).map D.int)]) (hm:T.mg "min" =none) (hg:G[gi]? =some ("min" :Str):=by rfl) (he:starEach [e] Y.X.env=(false,eval e Y.X.env)::starEach [] Y.X.env:=by rfl):EvD Y (.Call (.Name "min" p) [e] [] pos) c (.int (l.foldl min i)):=
 zS S gi (jr S.room.hd) hg hm JI ha (fun vs F H Q f r q=>by
  obtain ⟨v,rfl,rv⟩:=inv1 r
  obtain ⟨p,ws,rfl,hp,rs⟩:=yV rv
  have:=Qw rs
  subst this
  exact ⟨p,i,l,rfl,f.seq hp,q _ F H (Ext.refl f) (.int _)⟩) he rfl
theorem jw {X:Cx} (hh:X.A.handled=none):CallR X (.builtin "all") (fun xs H Q=>∃(p:Addr) (bs:List Bool),xs=[.ref p]/\SqL X.K H p (bs.map V.bl)/\Q (.bl (bs.all id)) H):=by
 intro pins s σ H xs us Q I r h
 obtain ⟨p,bs,rfl,hp,q⟩:=h
 obtain ⟨u,rfl,ru⟩:=vals1 r
 cases (show u=Value.ref p from ru)
 obtain ⟨its,rv,pl,hz⟩:=I.list hp
 have hlt:p<s.heap.objs.size:=by obtain ⟨o,n,e,_⟩:=pl;exact Heap.lt_size e
 refine call_all_walk (wpAny_pyIter_list pl.isList ?_)
 refine ⟨s.heap.objs.size,_,_,_,_,_,fun i=>(bs[i]?).getD true,rfl,Walks.list (prog:=X.prog) (w:=X.w) (A:=X.A.in1) hh s.heap.objs.size p (Nat.ne_of_lt hlt) its.toArray,⟨⟨_,Heap.get?_push_size _ rfl,rfl,rfl⟩,pl.isList.push _⟩,fun i v s' Q' E' hv hq=>?_,fun h' tk hk=>?_⟩
 ·have hv:its[i]? =some v:=by simpa using hv
  have hl:=rv.length
  have hi:i<bs.length:=by
   have:=(List.getElem?_eq_some_iff.mp hv).1
   rw [<-hl,List.length_map] at this;exact this
  obtain ⟨u',hu',r'⟩:=rv.get (i:=i) (x:= .bl bs[i]) (by simp [hi])
  rw [hv] at hu'
  cases hu'
  cases (show v=Value.bool bs[i] from r')
  have e:(bs[i]?).getD true=bs[i]:=by simp [hi]
  have hq:Q' ((bs[i]?).getD true) s':=hq
  rw [e] at hq
  exact wpAny_truthy_bool hq
 ·have e:((List.range its.toArray.size).all fun i=>(bs[i]?).getD true)=bs.all id:=by
   have hl:=rv.length
   rw [List.size_toArray,<-hl,List.length_map]
   rw [Bool.eq_iff_iff,List.all_eq_true,List.all_eq_true]
   constructor
   ·intro z x hx
    obtain ⟨i,hi,rfl⟩:=List.getElem_of_mem hx
    have:=z i (by simpa using hi)
    simpa [hi] using this
   ·intro z i hi
    have hi:i<bs.length:=by simpa using hi
    have:=z bs[i] (List.getElem_mem hi)
    simpa [hi] using this
  rw [e]
  refine ⟨.bl _,H,I.kept (t':=tk) fun b o z=>?_,rfl,q⟩
  refine hk b o ?_ (Heap.get?_push_of_some _ z)
  have:=Heap.lt_size z
  simp;exact Nat.ne_of_lt this
theorem xbL:bootBuiltins "all" =some (.builtin "all"):=by decide+kernel
theorem WL {K:PySem.W.Frag} {F:Hp}:∀{vs:List V} {bs:List Bool},Reps K F vs (bs.map D.bl)->vs=bs.map V.bl
 | _,[],r=>by cases r;rfl
 | _,b::bs,r=>by
  cases r with
  | cons h t=>rw [y6 h,WL t];rfl
theorem K6 (S:Se Y T k N G) (gi:Nat) {bs:List Bool} {p:Pos} (ha:ArD Y [e] c [.lst (bs.map D.bl)]) (hm:T.mg "all" =none) (hg:G[gi]? =some ("all" :Str):=by rfl) (he:starEach [e] Y.X.env=(false,eval e Y.X.env)::starEach [] Y.X.env:=by rfl):EvD Y (.Call (.Name "all" p) [e] [] pos) c (.bl (bs.all id)):=
 zS S gi (jw S.room.hd) hg hm xbL ha (fun vs F H Q f r q=>by
  obtain ⟨v,rfl,rv⟩:=inv1 r
  obtain ⟨p,ws,rfl,hp,rs⟩:=yV rv
  have:=WL rs
  subst this
  exact ⟨p,bs,rfl,f.seq hp,q _ F H (Ext.refl f) (.bl _)⟩) he rfl
end
section
variable {K:PySem.W.Frag} {F₀ H₀ F H:Hp} {σ:St} {c:List Slot} {i:Nat} {a p:Addr} {vs:List V} {ds:List D}
theorem none_of {F H:Hp} {p:Addr} (s:Same F H) (h:H p=none):F p=none:=by
 cases q:F p with
 | none=>rfl
 | some o=>rw [s p o q] at h;cases h
theorem Env.own_new (E:Env K F₀ H₀ F H σ c) (hi:i<c.length) (hp:H p=none) (r:Reps K F vs ds):Env K F₀ H₀ F (upd H p (.lst vs)) (σ.set i (some (.ref p))) (put c i (.own ds)) where
 ext:=⟨E.ext.ff,fun b u q=>by rw [xh (xk (E.ext.fh b u q) hp)];exact E.ext.fh b u q,fun b u q=>by rw [xh (xk (E.ext.hh b u q) hp)];exact E.ext.hh b u q,E.ext.fr⟩
 len:=by rw [List.length_set,ya];exact E.len
 sl:=fun j=>by
  by_cases e:i=j
  ·subst e
   rw [xY _ _ _ hi,List.getElem?_set_self (by rw [E.len];exact hi)]
   exact ⟨p,vs,rfl,xp,none_of E.ext.fh hp,none_of E.ext.hh hp,r⟩
  ·rw [xq _ _ _ _ e,List.getElem?_set_ne e]
   have q:=E.sl j
   generalize slot c j=s at q ⊢
   cases s with
   | un=>trivial
   | val d=>exact q
   | own ds'=>obtain ⟨b,ws,h,h1,h2,h3,r'⟩:=q;exact ⟨b,ws,h,by rw [xh (xk h1 hp)];exact h1,h2,h3,r'⟩
   | dic ds'=>obtain ⟨b,ws,h,h1,h2,h3,r'⟩:=q;exact ⟨b,ws,h,by rw [xh (xk h1 hp)];exact h1,h2,h3,r'⟩
   | thg ds'=>obtain ⟨b,ws,h,h1,h2,h3,r'⟩:=q;exact ⟨b,ws,h,by rw [xh (xk h1 hp)];exact h1,h2,h3,r'⟩
   | bor t=>exact q
   | dsk a l C p' s' past=>exact ⟨q.1,q.2.new hp⟩
   | fnv f=>exact q
   | exc C dx=>obtain ⟨b,h,h1⟩:=q;exact ⟨b,h,by rw [xh (xk h1 hp)];exact h1⟩
 inj:=by
  have key:∀k,i≠k->isOwn (slot c k)=true->σ[k]? =some (some (V.ref p))->False:=fun k hk h2 h4=>by
   have q:=E.sl k
   cases hs:slot c k with
   | own ds'=>
    rw [hs] at q
    obtain ⟨b,ws,h,h1,_⟩:=q
    rw [h4] at h
    cases h
    rw [hp] at h1
    cases h1
   | dic ds'=>
    rw [hs] at q
    obtain ⟨b,ws,h,h1,_⟩:=q
    rw [h4] at h
    cases h
    rw [hp] at h1
    cases h1
   | thg ds'=>
    rw [hs] at q
    obtain ⟨b,ws,h,h1,_⟩:=q
    rw [h4] at h
    cases h
    rw [hp] at h1
    cases h1
   | dsk a l C p' s' past=>
    rw [hs] at q
    obtain ⟨h,_,_,_,_,h1,_⟩:=q
    rw [h4] at h
    cases h
    rw [hp] at h1
    cases h1
   | bor t=>rw [hs] at h2;cases h2
   | fnv t=>rw [hs] at h2;cases h2
   | un=>rw [hs] at h2;cases h2
   | val d=>rw [hs] at h2;cases h2
   | exc C dx=>rw [hs] at h2;cases h2
  intro j k b h1 h2 h3 h4
  by_cases e:i=j
  ·subst e
   by_cases e2:i=k
   ·exact e2
   ·rw [List.getElem?_set_self (by rw [E.len];exact hi)] at h3
    cases h3
    rw [List.getElem?_set_ne e2] at h4
    rw [xq _ _ _ _ e2] at h2
    exact (key k e2 h2 h4).elim
  ·by_cases e2:i=k
   ·subst e2
    rw [List.getElem?_set_self (by rw [E.len];exact hi)] at h4
    cases h4
    rw [List.getElem?_set_ne e] at h3
    rw [xq _ _ _ _ e] at h1
    exact (key j e h1 h3).elim
   ·rw [xq _ _ _ _ e] at h1
    rw [xq _ _ _ _ e2] at h2
    rw [List.getElem?_set_ne e] at h3
    rw [List.getElem?_set_ne e2] at h4
    exact E.inj j k b h1 h2 h3 h4
theorem Env.own_at (E:Env K F₀ H₀ F H σ c) (hs:slot c i= .own ds):∃a vs,σ[i]? =some (some (.ref a))/\H a=some (.lst vs)/\F a=none/\H₀ a=none/\Reps K F vs ds:=by
 have q:=E.sl i
 rw [hs] at q
 exact q
theorem VR:∀{c:List Slot} {i:Nat} {ds:List D},slot c i= .own ds->i<c.length
 | [],_,_,h=>by cases h
 | _::_,0,_,_=>by simp
 | _::r,i+1,_,h=>by simpa using VR (c:=r) (i:=i) h
theorem Env.own_set (E:Env K F₀ H₀ F H σ c) {ds':List D} {vs' ws:List V} (hs:slot c i= .own ds) (hσ:σ[i]? =some (some (.ref a))) (h1:H a=some (.lst ws)) (h2:F a=none) (h3:H₀ a=none) (r:Reps K F vs' ds'):
  Env K F₀ H₀ F (upd H a (.lst vs')) σ (put c i (.own ds')) where
 ext:=⟨E.ext.ff,fun b u q=>by rw [xh (xk q h2)];exact E.ext.fh b u q,fun b u q=>by rw [xh (xk q h3)];exact E.ext.hh b u q,E.ext.fr⟩
 len:=by rw [ya];exact E.len
 sl:=fun j=>by
  by_cases e:i=j
  ·subst e
   rw [xY _ _ _ (VR hs)]
   exact ⟨a,vs',hσ,xp,h2,h3,r⟩
  ·rw [xq _ _ _ _ e]
   have q:=E.sl j
   cases hj:slot c j with
   | un=>trivial
   | val d=>rw [hj] at q;exact q
   | own ds2=>
    rw [hj] at q
    obtain ⟨b,us,h,g1,g2,g3,r'⟩:=q
    have hb:b≠a:=fun z=>e (E.inj i j a (by rw [hs];rfl) (by rw [hj];rfl) hσ (by rw [<-z];exact h))
    exact ⟨b,us,h,by rw [xh hb];exact g1,g2,g3,r'⟩
   | dic ds2=>
    rw [hj] at q
    obtain ⟨b,us,h,g1,g2,g3,r'⟩:=q
    have hb:b≠a:=fun z=>e (E.inj i j a (by rw [hs];rfl) (by rw [hj];rfl) hσ (by rw [<-z];exact h))
    exact ⟨b,us,h,by rw [xh hb];exact g1,g2,g3,r'⟩
   | thg ds2=>
    rw [hj] at q
    obtain ⟨b,us,h,g1,g2,g3,r'⟩:=q
    have hb:b≠a:=fun z=>e (E.inj i j a (by rw [hs];rfl) (by rw [hj];rfl) hσ (by rw [<-z];exact h))
    exact ⟨b,us,h,by rw [xh hb];exact g1,g2,g3,r'⟩
   | bor t=>rw [hj] at q;exact q
   | fnv f=>rw [hj] at q;exact q
   | dsk a' l' C p' s' past=>
    rw [hj] at q
    exact ⟨q.1,q.2.upd h1 Zu⟩
   | exc C dx=>
    rw [hj] at q
    obtain ⟨b,h,g1⟩:=q
    have hb:b≠a:=fun z=>by rw [z,h1] at g1;cases g1
    exact ⟨b,h,by rw [xh hb];exact g1⟩
 inj:=fun j k b h1 h2 h3 h4=>by
  have own:∀l,isOwn (slot (put c i (.own ds')) l)=true->isOwn (slot c l)=true:=fun l hl=>by
   by_cases e:i=l
   ·subst e;rw [hs];rfl
   ·rw [xq _ _ _ _ e] at hl;exact hl
  exact E.inj j k b (own j h1) (own k h2) h3 h4
theorem Env.freeze (E:Env K F₀ H₀ F H σ c) (hs:slot c i= .own ds):∃F',Same F F'/\Env K F₀ H₀ F' H σ (put c i (.val (.lst ds))):=by
 obtain ⟨a,vs,hσ,h1,h2,h3,r⟩:=E.own_at hs
 have sm:Same F (upd F a (.lst vs)):=fun b u q=>by rw [xh (xk q h2)];exact q
 refine ⟨upd F a (.lst vs),sm,⟨E.ext.ff.trans sm,fun b u q=>?_,E.ext.hh,fun b hb fb=>?_⟩,by rw [ya];exact E.len,fun j=>?_,fun j k b q1 q2 q3 q4=>?_⟩
 ·by_cases e:b=a
  ·subst e;rw [xp] at q;cases q;exact h1
  ·rw [xh e] at q;exact E.ext.fh b u q
 ·by_cases e:b=a
  ·subst e;exact absurd h3 hb
  ·rw [xh e];exact E.ext.fr b hb fb
 ·by_cases e:i=j
  ·subst e
   rw [xY _ _ _ (VR hs)]
   exact ⟨.ref a,hσ,.lst (SqL.of xp) (r.mono sm)⟩
  ·rw [xq _ _ _ _ e]
   have q:=E.sl j
   cases hj:slot c j with
   | un=>trivial
   | val d=>rw [hj] at q;obtain ⟨x,h,r'⟩:=q;exact ⟨x,h,r'.mono sm⟩
   | own ds2=>
    rw [hj] at q
    obtain ⟨b,us,h,g1,g2,g3,r'⟩:=q
    have hb:b≠a:=fun z=>e (E.inj i j a (by rw [hs];rfl) (by rw [hj];rfl) hσ (by rw [<-z];exact h))
    exact ⟨b,us,h,g1,by rw [xh hb];exact g2,g3,r'.mono sm⟩
   | dic ds2=>
    rw [hj] at q
    obtain ⟨b,us,h,g1,g2,g3,r'⟩:=q
    have hb:b≠a:=fun z=>e (E.inj i j a (by rw [hs];rfl) (by rw [hj];rfl) hσ (by rw [<-z];exact h))
    exact ⟨b,us,h,g1,by rw [xh hb];exact g2,g3,r'.mono sm⟩
   | thg ds2=>
    rw [hj] at q
    obtain ⟨b,us,h,g1,g2,g3,r'⟩:=q
    have hb:b≠a:=fun z=>e (E.inj i j a (by rw [hs];rfl) (by rw [hj];rfl) hσ (by rw [<-z];exact h))
    exact ⟨b,us,h,g1,by rw [xh hb];exact g2,g3,r'.mono sm⟩
   | bor t=>rw [hj] at q;obtain ⟨b,o,h,g1,r2⟩:=q;exact ⟨b,o,h,g1,r2.mono sm⟩
   | fnv f=>rw [hj] at q;exact q
   | dsk a' l' C p' s' past=>
    rw [hj] at q
    exact ⟨q.1,q.2.frz h1 Zu sm⟩
   | exc C dx=>rw [hj] at q;exact q
 ·have own:∀l,isOwn (slot (put c i (.val (.lst ds))) l)=true->isOwn (slot c l)=true:=fun l hl=>by
   by_cases e:i=l
   ·subst e;rw [hs];rfl
   ·rw [xq _ _ _ _ e] at hl;exact hl
  exact E.inj j k b (own j q1) (own k q2) q3 q4
end
section
variable {Y:Cy} {T:Tx} {k:Nat} {N G:List Str} {c:List Slot} {a b e:Expr} {es:List Expr} {pos p1 p2 p3:Pos} {rest:List Stmt} {P:Out->Prop} {d:D} {ds:List D} {x:Str}
def OwD (Y:Cy) (e:Expr) (c:List Slot) (ds:List D):Prop:=PE Y.X e fun σ H Q=>∃F,EnvY Y F H σ c/\∀vs F1 H1 p,Ext F H F1 H1->Reps Y.X.K F1 vs ds->H1 p=none->Q (.ref p) (upd H1 p (.lst vs))
theorem kL (h:ArD Y es c ds) (hz:ds.length<=1000000:=by first | exact of_decide_eq_true rfl | (simp;done)):OwD Y (.List es p2) c ds:=
 PE.imp (Zl h) fun σ H Q ⟨F,E,q⟩=>⟨F,E,fun vs F1 H1 e1 r1=>⟨by rw [r1.length];exact xT hz,fun p hp=>q vs F1 H1 p e1 r1 hp⟩⟩
theorem jU (S:Sc Y T k N G) (i:Nat) {y:Str} {pos':Pos} (h:OwD Y e c ds) (hr:SsD Y rest (put c i (.own ds)) P) (hi:N[i]? =some y:=by rfl)
  (hlt:i<c.length:=by first | exact of_decide_eq_true rfl | decide | omega) (hs:swapsWith e (some (.Name y pos')) pos.line Y.X.env=pure false:=by rfl):SsD Y (.Assign [.Name y pos'] e pos::rest) c P:=by
 have hx:=S.loc y (List.mem_of_getElem? hi)
 have hN:=S.nd
 rw [<-S.n] at hi hN
 refine xI (PS.imp (qy hN hi hx.1 h hs (.inl (S.fn y))) fun D σ H ⟨F,E,m⟩=>⟨F,E,fun vs F1 H1 p e1 r1 hp=>?_⟩)
 exact m (.nx _) hr _ F1 _ e1.ff ((E.grow e1).own_new hlt hp r1)
theorem Yb {sts:List Stmt} (i:Nat) (hs:slot c i= .own ds) (h:SsD Y sts (put c i (.val (.lst ds))) P):SsD Y sts c P:=
 PSs.imp h fun D σ H ⟨F,E,m⟩=>by
  obtain ⟨F',sm,E'⟩:=E.freeze hs
  exact ⟨F',E',fun o ho=>(m o ho).grow sm⟩
theorem Y3 (S:Sc Y T k N G) (i:Nat) (hs:slot c i= .own ds) (he:EvD Y e c d) (hr:SsD Y rest (put c i (.own (ds++ [d]))) P) (hz:ds.length<1000000) (hi:N[i]? =some x:=by rfl)
  (hbase:attributeBase (.Name x p1) "append" Y.X.env (eval (.Name x p1) Y.X.env)=eval (.Name x p1) Y.X.env:=by rfl) (hfew:((backTo p3 (starEach [e] Y.X.env)).all (fun x=> !x.1) && (backToKw p3 (keywordEach [] Y.X.env)).all (fun x=>x.1.isSome)
   && decide ([e].length+([]:List Keyword).length+(if ([]:List Keyword).isEmpty then 0 else 1)<30))=true:=by rfl) (hline:(p2.endLine==p3.line)=true:=by rfl) (hst:starEach [e] Y.X.env=(false,eval e Y.X.env)::starEach [] Y.X.env:=by rfl)
  (hsw:swapsWith (.Call (.Attribute (.Name x p1) "append" p2) [e] [] p3) none pos.line Y.X.env=pure false:=by rfl):
  SsD Y (.Expr (.Call (.Attribute (.Name x p1) "append" p2) [e] [] p3) pos::rest) c P:=by
 have hx:=S.loc x (List.mem_of_getElem? hi)
 rw [<-S.n] at hi
 refine xI (PS.imp (WR (Yu PySem.F.plainAttrs_list PySem.F.slot_list_append PySem.F.type_list_append wE (xU hi (hx.1.elim .inl fun h=> .inr (.inl h)) hx.2.1 hx.2.2) (xJ he yu hst) hbase hfew hline hst rfl) hsw) fun D σ H ⟨F,E,m⟩=>?_)
 obtain ⟨l,vs,hσ,h1,h2,h3,r⟩:=E.own_at hs
 refine ⟨.ref l,hσ,.inl ⟨rfl,vs,.inl (.inl h1)⟩,F,E,fun v F1 H1 e1 r1=>?_⟩
 have E1:=E.grow e1
 obtain ⟨l',vs',hσ',g1,g2,g3,r'⟩:=E1.own_at hs
 rw [hσ] at hσ'
 cases hσ'
 refine ⟨l,vs',v,rfl,rfl,g1,?_,?_⟩
 ·rw [r'.length];exact Nat.lt_of_lt_of_le hz (xT (Nat.le_refl _))
 ·exact m (.nx _) hr _ F1 _ e1.ff (E1.own_set hs hσ g1 g2 g3 (r'.append (.cons r1 .nil)))
end
end DL
namespace DJX
open PySem PySem.Spec PyProof.Rows
open Sem (wp)
theorem VL:typeLookup (.type "list_reverseiterator") "__len__" =pure none:=by rw [typeLookup_type,builtinLookup_eq_fast];kernel_rfl
theorem km:typeLookup (.type "list_reverseiterator") "__length_hint__" =pure (some (.builtin "list_reverseiterator.__length_hint__")):=by rw [typeLookup_type,builtinLookup_eq_fast];kernel_rfl
theorem kl:isSubtype (.type "list_reverseiterator") (.type "list_reverseiterator")=pure true:=by rw [isSubtype_type];kernel_rfl
section
variable {prog:Program} {w:World} {A:Around} {E:Value->Shared->Prop} {s:Shared}
theorem Jg {it l:Addr} {i:Int} {Q:Bool->Shared->Prop} (hit:s.heap.IsRevIter it l i) (h:Q false s):wpAny (model prog w) A (Builtin.List.listLengthHint (.ref it)) Q E s:=by
 unfold Builtin.List.listLengthHint
 refine wpAny_bind (wpAny_specialOf hit.typeIs VL ?_)
 show wpAny _ A (specialOf (Value.ref it) (Str.ofString "__length_hint__")>>=_) _ _ _
 refine wpAny_bind (wpAny_specialOf hit.typeIs km ?_)
 generalize hid:("list_reverseiterator.__length_hint__" :String)=id0
 wp_delta
 rw [show splitId id0=some ("list_reverseiterator","__length_hint__") from by subst hid;decide+kernel]
 subst hid
 refine wpAny_bind (wpAny_isInstance (T:= "list_reverseiterator") (b:=true) hit.typeIs kl ?_)
 refine wpAny_ite_split (fun q=>absurd q (by decide)) (fun _=>?_)
 refine wpAny_ite_split (fun _=>?_) (fun q=>absurd (by decide+kernel) q)
 refine wpAny_ite_split (fun q=>absurd q (by decide+kernel)) (fun _=>?_)
 exact wpAny_pure h
def RevOf (items:Array Value) (acc:Array Value):Prop:=ItemsOf (fun i v=>items[items.size - 1 - i]? =some v) acc items.size
theorem KW {R:Result->Shared->Prop} {it l S:Addr} {items:Array Value} {res:Value} {ep:Nat} (hh:A.handled=none) (hit:s.heap.IsRevIter it l ((items.size:Int) - 1)) (hl:s.heap.IsList l items) (nl:l≠it) (nS:S≠it) (nS2:S≠l)
  (hz:items.size<=1000000) (oS:s.heap.get? S=some { cls:= .type "list",data:= .seq #[] ep })
  (goal:∀h' tk acc c',(∀b o,b≠S->b≠it->s.heap.get? b=some o->h'.get? b=some o)->h'.get? S=some { cls:= .type "list",dict:=none,data:= .seq acc c',slots:= #[] }->RevOf items acc->R (.ok (.ret res)) { s with heap:=h',toks:=tk }):
  wpAny (model prog w) A.in1 (Builtin.List.listExtendWith (.ref S) (.ref it) res)
   (fun fin s'=>match fin with | .done f=>R (.ok f) s' | .again c'=>c'.quiet=true/\codeAny (model prog w) A c' R s') (fun e s'=>R (.error e) s') s:=by
 have V:=(Walks.listRev (prog:=prog) (w:=w) (A:=A.in1) hh it l nl items).toS
 unfold Builtin.List.listExtendWith
 refine wpAny_bind (wpAny_typeOf hit.typeIs ?_)
 have g1:Builtin.List.listSameRef (.ref S) (.ref it)=false:=by simp [Builtin.List.listSameRef,nS]
 have g2:(Value.type "list_reverseiterator" ==Value.type "list")=false:=by decide
 have g3:(Value.type "list_reverseiterator" ==Value.type "tuple")=false:=by decide
 simp only [g1,g2,g3,Bool.or_false,Bool.false_eq_true,if_false]
 refine wpAny_bind (wpAny_pyIter_revIter hit (wpAny_bind (wpAny_holding (Jg hit ?_))))
 refine wpAny_ite_split (fun q=>absurd q (by decide+kernel)) (fun _=>?_)
 refine wpAny_pure ⟨plainId_quiet F.plain_extend_loop _,codeAny_extend_loopS V (by rw [sizeLine_eq];omega) S (by simp [nS,nS2]) res items.size 0 _ #[] ep rfl (Nat.zero_le _) ⟨Nat.zero_le _,by simpa using hit,hl⟩ oS (ItemsOf.nil _) fun s' acc c' hm oS' hacc=>?_⟩
 rw [Moved.eq_with hm]
 refine goal s'.heap s'.toks acc c' (fun b o h1 h2 e=>hm.heap b o (fun q=>?_) e) oS' hacc
 rcases List.mem_cons.mp q with q | q
 ·exact h1 q
 ·exact h2 (List.mem_singleton.mp q)
theorem ZQ {R:Result->Shared->Prop} {it l:Addr} {items:Array Value} (hh:A.handled=none) (hit:s.heap.IsRevIter it l ((items.size:Int) - 1)) (hl:s.heap.IsList l items) (nl:l≠it) (hz:items.size<=1000000)
  (goal:∀h' tk acc c',(∀b o,b≠it->s.heap.get? b=some o->h'.get? b=some o)->h'.get? s.heap.objs.size=some { cls:= .type "list",dict:=none,data:= .seq acc c',slots:= #[] }->RevOf items acc->R (.ok (.ret (.ref s.heap.objs.size))) { s with heap:=h',toks:=tk }):
  codeAny (model prog w) A (.builtin "proto.collect" ⟨[.ref it],[]⟩) R s:=by
 have li:it<s.heap.objs.size:=by obtain ⟨o,e,_⟩:=id hit;exact Heap.lt_size e
 have ll:l<s.heap.objs.size:=by obtain ⟨o,e,_⟩:=id hl;exact Heap.lt_size e
 refine codeAny_builtin F.entry_proto_collect ?_
 rw [Around.under_plainId F.plain_proto_collect _]
 show wpAny _ A.in1 (newList []>>=fun l=>again (.builtin "list.__iadd__" ⟨[l,.ref it],[]⟩)) _ _ s
 refine wpAny_bind (wpAny_newObj_type ?_)
 refine wpAny_pure ⟨plainId_quiet F.plain_list_iadd _,codeAny_builtin F.entry_list_iadd ?_⟩
 rw [Around.under_plainId F.plain_list_iadd _]
 show wpAny _ A.in1 (Builtin.List.listExtendWith (.ref s.heap.objs.size) (.ref it) (.ref s.heap.objs.size)) _ _ _
 have oS:(s.heap.push { cls:= .type "list",data:= .seq ([]:List Value).toArray }).get? s.heap.objs.size=some { cls:= .type "list",data:= .seq #[] 0 }:=Heap.get?_push_size _ rfl
 refine KW (R:=R) (s:={ s with heap:=s.heap.push { cls:= .type "list",data:= .seq ([]:List Value).toArray } }) (A:=A) hh (hit.at fun o e=>Heap.get?_push_of_some _ e) (hl.push _) nl (Ne.symm (Nat.ne_of_lt li)) (Ne.symm (Nat.ne_of_lt ll)) hz oS fun h' tk acc c' k oS' r=>?_
 exact goal h' tk acc c' (fun b o h1 e=>k b o (Nat.ne_of_lt (Heap.lt_size e)) h1 (Heap.get?_push_of_some _ e)) oS' r
theorem Q4 {Q:List Value->Shared->Prop} {it l:Addr} {items:Array Value} (hh:A.handled=none) (hit:s.heap.IsRevIter it l ((items.size:Int) - 1)) (hl:s.heap.IsList l items) (nl:l≠it) (hz:items.size<=1000000)
  (goal:∀h' tk acc,(∀b o,b≠it->s.heap.get? b=some o->h'.get? b=some o)->RevOf items acc->Q acc.toList { s with heap:=h',toks:=tk }):
  wpAny (model prog w) A (collect (.ref it)) Q E s:=by
 unfold collect
 refine wpAny_bind (wpAny_runValue (ZQ hh hit hl nl hz fun h' tk acc c' k oS' r=>?_))
 show wpAny _ A (load s.heap.objs.size>>=_) _ _ _
 refine wpAny_bind (wpAny_load oS' ?_)
 exact wpAny_pure (goal h' tk acc k r)
theorem join_rev {Q:Value->Shared->Prop} {it l:Addr} {x:Str} {t:Tok} {ls:List (Str×Tok)} (hh:A.handled=none) (hit:s.heap.IsRevIter it l (((strValues ls).toArray.size:Int) - 1)) (hl:s.heap.IsList l (strValues ls).toArray) (nl:l≠it) (hz:(strValues ls).toArray.size<=1000000)
  (hok:JoinOk x (ls.reverse.map (·.1))=true) (goal:∀h' tk tk2,(∀b o,b≠it->s.heap.get? b=some o->h'.get? b=some o)->Q (.str (Txt.join x (ls.reverse.map (·.1))) tk2) { s with heap:=h',toks:=tk }):
  wpAny (model prog w) A (call (.builtin "str.join") [.str x t,.ref it]) Q E s:=by
 refine wpAny_call (codeAny_call_builtin F.slot_str_join.plain F.entry_str_join (F.slot_str_join.check _ _ _ _ _ _ _ _ (typeIs_str _ _ _) (F.args_str_join_2 _ _) ?_))
 rw [join_tree_other]
 refine wpAny_bind (wpAny_typeOf hit.typeIs ?_)
 show wpAny _ A.in1 ((pyIter (.ref it)).tryCatch _>>=fun it=>collect it>>=fun items=>joinTail x items) _ _ s
 refine wpAny_bind (wpAny_tryCatch (wpAny_pyIter_revIter hit ?_))
 refine wpAny_bind (Q4 (A:=A.in1) hh hit hl nl hz fun h' tk acc k r=>?_)
 have e:acc.toList=strValues ls.reverse:=by
  apply List.ext_getElem?
  intro i
  have e1:strValues ls.reverse=(strValues ls).reverse:=by unfold strValues;rw [List.map_reverse]
  have sz:acc.toList.length=(strValues ls).length:=by have:=r.1;simpa using this
  by_cases hi:i<acc.toList.length
  ·have q:=r.2 i acc.toList[i] (by rw [<-Array.getElem?_toList];exact List.getElem?_eq_getElem hi)
   rw [e1,List.getElem?_reverse (by omega),List.getElem?_eq_getElem hi]
   have q:(strValues ls)[(strValues ls).length - 1 - i]? =some acc.toList[i]:=by simpa using q
   exact q.symm
  ·rw [List.getElem?_eq_none (by omega),e1,List.getElem?_eq_none (by rw [List.length_reverse];omega)]
 rw [e]
 unfold JoinOk at hok
 rw [Bool.not_eq_true'] at hok
 have g:∀l2:List (Str×Tok),Builtin.Str.tooLong ((l2.map (·.1)).toArray.foldl (· + ·.length+x.length) 0)=false->Gives (joinTail x (strValues l2)) (joinMade x l2):=fun l2 hok=>by
  have g0:=gives_joinTail x l2 hok
  cases l2 with
  | nil=>exact g0
  | cons p r=>cases r with
   | nil=>exact g0
   | cons q r'=>exact g0
 exact g ls.reverse hok prog w A (wants Q E) _ (post_join ls.reverse ⟨joinFit_length hok,fun t' k2=>goal h' k2 t' k⟩)
end
end DJX
namespace DL
open PySem L2
section
variable {Y:Cy} {T:Tx} {k:Nat} {N G:List Str} {c:List Slot} {e o:Expr} {pos apos p1 p2 p3:Pos} {d:D}
theorem uO {K:PySem.W.Frag} {F:Hp}:∀{vs:List V} {xs:List Str},Reps K F vs (xs.map D.str)->vs=xs.map V.str
 | _,[],.nil=>rfl
 | _,x::xs,.cons h t=>by rw [uO t,xO h];rfl
theorem vg:∀{xs:List Str} {its:List Value},Vals (xs.map V.str) its->∃ls:List (Str×Tok),strValues ls=its/\ls.map (·.1)=xs
 | [],_,.nil=>⟨[],rfl,rfl⟩
 | x::xs,_,.cons h t=>by
  obtain ⟨ls,h1,h2⟩:=vg t
  obtain ⟨tk,e⟩:=h
  exact ⟨(x,tk)::ls,by rw [<-h1,e];rfl,by rw [<-h2];rfl⟩
theorem QU (S:Se Y T k N G) (gj:Nat) {sep:Str} {xs:List Str} (ho:EvD Y o c (.str sep)) (ha:EvD Y e c (.lst (xs.map D.str))) (hz:xs.length<=1000000) (hok:JoinOk sep xs.reverse=true) (hm2:T.mg "reversed" =none) (hg2:G[gj]? =some ("reversed" :Str):=by rfl)
  (hbase:attributeBase o "join" Y.X.env (eval o Y.X.env)=eval o Y.X.env:=by rfl) (hfew:((backTo pos (starEach [.Call (.Name "reversed" p2) [e] [] p3] Y.X.env)).all (fun x=> !x.1) && (backToKw pos (keywordEach [] Y.X.env)).all (fun x=>x.1.isSome)
   && decide ([Expr.Call (.Name "reversed" p2) [e] [] p3].length+([]:List Keyword).length+(if ([]:List Keyword).isEmpty then 0 else 1)<30))=true:=by rfl) (hline:(apos.endLine==pos.line)=true:=by rfl)
  (he1:starEach [.Call (.Name "reversed" p2) [e] [] p3] Y.X.env=(false,eval (.Call (.Name "reversed" p2) [e] [] p3) Y.X.env)::starEach [] Y.X.env:=by rfl) (he2:starEach [e] Y.X.env=(false,eval e Y.X.env)::starEach [] Y.X.env:=by rfl):
  EvD Y (.Call (.Attribute o "join" apos) [.Call (.Name "reversed" p2) [e] [] p3] [] pos) c (.str (Txt.join sep xs.reverse)):=by
 intro pins s σ H Q I ⟨F,E,q⟩
 have g2:=(S.gl _ (List.mem_of_getElem? hg2)).1
 refine wpAny_Call_method_late hbase hfew hline rfl (thn (ho pins s σ H (fun v H1=>∃F1,Ext F H F1 H1/\Rep Y.X.K F1 v (.str sep)) I ⟨F,E,fun v F1 H1 e1 r1=>⟨F1,e1,r1⟩⟩) fun v0 s0 ⟨x0,H0,I0,r0,F0,e0,rv0⟩=>?_)
 cases xO rv0
 obtain ⟨t0,rfl⟩:=r0
 refine ⟨"str","str.join",PySem.F.plainAttrs_str,PySem.F.slot_str_join,PySem.F.type_str_join,typeIs_str s0 sep t0,fun a z=>(by cases z),?_⟩
 rw [he1]
 refine Calls.callWith_builtin rfl (Calls.evalArgs_plain ?_)
 show wpAny _ _ (spliced ((false,eval (.Call (.Name "reversed" p2) [e] [] p3) Y.X.env)::backTo pos (starEach [] Y.X.env))) _ _ s0
 refine Calls.spliced_cons ?_
 have E0:=E.grow e0
 refine PyProof.Rows.Call_ (wG I0 g2 (by rw [S.eM];exact hm2) PyProof.Rows.boot_reversed (PyProof.Rows.callWith_type1 (thn ((xa ha xc he2:ArD Y [e] c [.lst (xs.map D.str)]) p3 pins s0 σ H0 (fun vs H1=>∃F1,Ext F0 H0 F1 H1/\Reps Y.X.K F1 vs [.lst (xs.map D.str)]) I0 ⟨F0,E0,fun vs F1 H1 e1 r1=>⟨F1,e1,r1⟩⟩) fun us s1 ⟨vs,H1,I1,r1,F1,e1,rs⟩=>?_) he2 rfl))
 obtain ⟨v,rfl,rv⟩:=inv1 rs
 obtain ⟨u,rfl,ru⟩:=vals1 r1
 obtain ⟨l,ws,rfl,hp,rw'⟩:=yV rv
 cases (show u=Value.ref l from ru)
 obtain ⟨its,r',pl,hz2⟩:=I1.list (e1.fh.seq hp)
 have hlt:l<s1.heap.objs.size:=by obtain ⟨o,n,z,_⟩:=pl;exact Heap.lt_size z
 have ew:=uO rw'
 subst ew
 obtain ⟨ls,el,ex⟩:=vg r'
 subst el
 have ez:xs.length=ls.length:=by rw [<-ex,List.length_map]
 refine call_reversed_list pl.isList ?_
 refine Calls.spliced_nil ?_
 refine DJX.join_rev (s:={ s1 with heap:=s1.heap.push (revObj l (((strValues ls).toArray.size:Int) - 1)) }) (ls:=ls) (S.room.hd) ⟨_,Heap.get?_push_size _ rfl,rfl,rfl⟩ (pl.isList.push _) (Nat.ne_of_lt hlt) (by rw [List.size_toArray];unfold strValues;rw [List.length_map];omega) (by rw [List.map_reverse,ex];exact hok) fun h' tk tk2 kp=>?_
 have up:∀b o,s1.heap.get? b=some o->h'.get? b=some o:=fun b o z=>kp b o (Nat.ne_of_lt (Heap.lt_size z)) (Heap.get?_push_of_some _ z)
 rw [List.map_reverse,ex]
 exact ⟨.str _,H1,I1.kept (t':=tk) up,⟨tk2,rfl⟩,q _ F1 H1 (e0.trans e1) (.str _)⟩
end
section
variable {Y:Cy} {T:Tx} {k:Nat} {N G:List Str} {c:List Slot} {a b:Expr} {pos apos:Pos} {d:D} {ds:List D}
end
section
variable {Y:Cy} {T:Tx} {k:Nat} {N G:List Str} {c:List Slot} {tg iter elt:Expr} {ifs:List Expr} {pos p1 p2:Pos} {rest:List Stmt} {P:Out->Prop} {ds items:List D} {x:Str} {tn fs G':List Str} {ix:List Nat} {scope osc:Scope}
theorem jP {env:PySem.Env} {sc:Scope} {v:Expr} {t:Option Expr} {n:Nat} {r:Sem Bool} (h:env.scope=sc) (hs:∀env:PySem.Env,swapsWith v t n { env with scope:=sc }=r):swapsWith v t n env=r:=by
 subst h
 exact hs env
theorem Kb (S:Sc Y T k N G) (i:Nat) (hsc:Y.X.env.scope=osc) (B:CmB N tn fs ix G' scope osc) (hi:ItD Y tg iter c items)
  (rs:List (Option D)) (hlen:rs.length=items.length) (hz:rs.length<=100000)
  (turn:∀(Y':Cy) (S':Se Y' T k (tn++fs) G'),(∀x∈tn,Y'.X.env.scope.names.lookup x=some .local)->∀(m:Nat) (d:D) (r:Option D),items[m]? =some d->rs[m]? =some r->∀ts:List Slot,ts.length=tn.length->
   ∃ts':List Slot,ts'.length=tn.length/\ts'.all (fun s=> !isOwn s)=true/\TgD Y' tg d (ts++ix.map fun i=>capS (slot c i)) (ts'++ix.map fun i=>capS (slot c i))/\(match r with
    | some e=>TsD Y' ifs (ts'++ix.map fun i=>capS (slot c i)) true/\EvD Y' elt (ts'++ix.map fun i=>capS (slot c i)) e
    | none=>TsD Y' ifs (ts'++ix.map fun i=>capS (slot c i)) false))
  (hw:swapsWith (.ListComp elt [⟨tg,iter,ifs,0⟩] scope p2) (some (.Name x p1)) pos.line Y.X.env=pure true)
  (hr:SsD Y rest (put c i (.val (.lst (rs.filterMap id)))) P)
  (hs:∀x,foldedSetIterable iter Y.X.env x=pure x:=by intro _;rfl) (hix:N[i]? =some x:=by rfl) (hlt:i<c.length:=by first | exact of_decide_eq_true rfl | decide | omega):
  SsD Y (.Assign [.Name x p1] (.ListComp elt [⟨tg,iter,ifs,0⟩] scope p2) pos::rest) c P:=by
 have hx:=S.loc x (List.mem_of_getElem? hix)
 have hN:=S.nd
 rw [<-S.n] at hix hN
 refine xI fun pins s σ H D I ⟨F,E,m⟩=>?_
 rw [exec_Assign_Name_used _ _ _ _ hw]
 refine wpAny_bind (wpAny_standAt (wpAny_bind ?_))
 rw [arm_evalThenUse_ListComp]
 refine wpAny_bind (wpAny_mono (YI (pos:=p2) S.toSe hsc B hi rs hlen hz turn hs I E (use:=some (assign (.Name x p1) Y.X.env)) (Qv:=fun _ s3=>SP Y.X pins D .next s3) (fun D' C s' mm F' H' hn fp hI ex r=>?_)) (fun _ s3 q=>wpAny_pure (wpAny_pure q)) fun _ _ q=>q)
 have I1:Inv Y.X pins σ H' s':=hI s'.heap (Heap.SameBut.refl ..)
 obtain ⟨o,es,ep,ho,r'⟩:=id hn
 have I2:Inv Y.X (pins++ [(C,o)]) σ H' s':=I1.pins_of fun q hq=>by
  rcases List.mem_append.mp hq with hq | hq
  ·have:=I1.pin q (List.mem_append_right _ hq)
   exact this
  ·have:q=(C,o):=by simpa using hq
   subst this
   exact ⟨ho,fp.1,fp.2.1,fp.2.2.1,fun v z=>by rw [r'.1] at z;cases z⟩
 show wpAny _ _ (do standAt p1;bindName Y.X.env x (.ref D')) _ _ s'
 refine wpAny_bind (wpAny_standAt (wpAny_bindName (zI I2 hN hix hx.1 (show RelV (.ref D') (.ref D') from rfl) (fun s2 I3=>?_) (.inl (S.fn x)))))
 have hp:=I3.pin (C,o) (by simp)
 refine ⟨mm,⟨o,es,ep,hp.1,r'⟩,fun h' hs'=>?_⟩
 have I3':Inv Y.X pins (σ.set i (some (.ref D'))) H' s2:=I3.pins_of fun q hq=>I3.pin q (List.mem_append_right _ (List.mem_append_left _ hq))
 have I4:Inv Y.X pins (σ.set i (some (.ref D'))) H' { s2 with heap:=h' }:=I3'.turned (it:=C) (t':=s2.toks) (fun b o hb e=>(hs'.2 b hb).trans e) fp.1 fp.2.1 fp.2.2.2.1 fp.2.2.2.2.1 fp.2.2.2.2.2
 exact ⟨_,H',I4,m (.nx _) hr _ F' H' ex.ff ((E.grow ex).set hlt r)⟩
theorem jS (S:Sc Y T k N G) (i:Nat) (hsc:Y.X.env.scope=osc) (B:CmB N tn fs ix G' scope osc) (hi:ItD Y tg iter c items)
  (hlen:ds.length=items.length) (hz:ds.length<=100000)
  (turn:∀(Y':Cy) (S':Se Y' T k (tn++fs) G'),(∀x∈tn,Y'.X.env.scope.names.lookup x=some .local)->∀(m:Nat) (d r:D),items[m]? =some d->ds[m]? =some r->∀ts:List Slot,ts.length=tn.length->
   ∃ts':List Slot,ts'.length=tn.length/\ts'.all (fun s=> !isOwn s)=true/\TgD Y' tg d (ts++ix.map fun i=>capS (slot c i)) (ts'++ix.map fun i=>capS (slot c i))/\EvD Y' elt (ts'++ix.map fun i=>capS (slot c i)) r)
  (hw:swapsWith (.ListComp elt [⟨tg,iter,[],0⟩] scope p2) (some (.Name x p1)) pos.line Y.X.env=pure true)
  (hr:SsD Y rest (put c i (.val (.lst ds))) P)
  (hs:∀x,foldedSetIterable iter Y.X.env x=pure x:=by intro _;rfl) (hix:N[i]? =some x:=by rfl) (hlt:i<c.length:=by first | exact of_decide_eq_true rfl | decide | omega):
  SsD Y (.Assign [.Name x p1] (.ListComp elt [⟨tg,iter,[],0⟩] scope p2) pos::rest) c P:=by
 have e:(ds.map some).filterMap id=ds:=by rw [List.filterMap_map];simp
 refine Kb S i hsc B hi (ds.map some) (by rw [List.length_map];exact hlen) (by rw [List.length_map];exact hz) (fun Y' S' hl m d r hd hr ts hts=>?_) hw (by rw [e];exact hr) hs hix hlt
 rw [List.getElem?_map] at hr
 cases hq:ds[m]? with
 | none=>rw [hq] at hr;cases hr
 | some q=>
  rw [hq] at hr
  cases hr
  obtain ⟨ts',h1,h2,h3,h4⟩:=turn Y' S' hl m d q hd hq ts hts
  exact ⟨ts',h1,h2,h3,rfl,h4⟩
end
section
variable {Y:Cy} {T:Tx} {k:Nat} {N G:List Str} {c:List Slot} {e:Expr} {pos:Pos}
end
end DL
namespace DMX
open PySem PySem.Spec PyProof.Rows L2
section
open PySem.SeqAt
open PySem.AutoSeq1 (wpAny_loadPart')
open PySem.MeetsSeq PySem.MeetsSeq2 PySem.MeetsSeq3
end
end DMX
namespace DL
open PySem L2
section
variable {prog:Program} {w:World} {A:Around} {R:Result->Shared->Prop} {it S:Addr} {fp wr:List Addr} {n:Nat} {P:Nat->Value->Prop} {St:Nat->Heap->Prop} {bt:Nat->Nat->Bool} {h₀:Heap}
end
section
variable {Y:Cy} {T:Tx} {k:Nat} {N G:List Str} {c:List Slot} {e:Expr} {pos:Pos}
end
end DL
namespace DGX
open PySem PySem.Spec PySem.W PyProof.Rows
section
variable {n:Nat} {p:Array Nat}
end
section
variable {prog:Program} {w:World} {A:Around} {E:Value->Shared->Prop} {s:Shared}
end
end DGX
namespace DL
open PySem L2
def spO (K:PySem.W.Frag) (R:List D->List D->Prop):Sp:=fun vs H Q _=>∃F ds l,Same F H/\Reps K F vs ds/\R ds l/\∀ws F' H' p,Ext F H F' H'->Reps K F' ws l->H' p=none->Q (.ref p) (upd H' p (.lst ws))
structure FnO (T:Tx) (k:Nat) (x:Str) (R:List D->List D->Prop):Prop where
 ex:∃(f:Addr) (fd:FuncData) (ps:List Str),T.mg x=some (.ref f)/\PySem.W.keepIn T.K (.ref f)=true/\Binds T.K fd ps []/\FnOk T.prog T.w T.K T.mg T.base CX0 k f fd ps (spO T.K R)
section
variable {Y:Cy} {T:Tx} {k j:Nat} {N G ps:List Str} {c:List Slot} {e:Expr} {es:List Expr} {pos p:Pos} {d:D} {ds l:List D} {R:List D->List D->Prop} {x qual:Str} {P:Out->Prop} {rest:List Stmt}
theorem Vm {b:Bool} (i:Nat) (hs:slot c i= .own ds) (h:TeD Y e (put c i (.val (.lst ds))) b):TeD Y e c b:=PT.imp h fun σ H Q ⟨F,E,q⟩=>by
 obtain ⟨F1,sm,E1⟩:=E.freeze hs
 exact ⟨F1,E1,fun F2 H2 x=>q F H2 ⟨Same.refl F,fun b u hb=>x.fh b u (x.ff b u (sm b u hb)),x.hh,fun _ _ z=>z⟩⟩
end
structure TriAt (h:Heap) (u:Value) (t:Int×Int×Int) (a b:Addr) (t1 t2 t3:Tok):Prop where
 u:u= .ref a
 ta:PyProof.Rows.IsTup h a #[.int t.1 t1,.ref b]
 tb:PyProof.Rows.IsTup h b #[.int t.2.1 t2,.int t.2.2 t3]
 rd:∃as,Reads h (.ref b) (toPy (.tup [.int t.2.1,.int t.2.2])) as
section
variable {X:Cx} {pins:List (Addr×Obj)} {σ:St} {F H:Hp} {s:Shared}
end
end DL
namespace DBX
open PySem PySem.Spec PyProof.Rows
open Sem (wp)
section
variable {prog:Program} {w:World} {A:Around} {E:Value->Shared->Prop} {s:Shared}
def RevOf (items:Array Value) (acc:Array Value):Prop:=ItemsOf (fun i v=>items[items.size - 1 - i]? =some v) acc items.size
end
end DBX
namespace DL
open PySem L2
section
variable {Y:Cy} {T:Tx} {k:Nat} {N G:List Str} {c:List Slot} {e a b b' tg:Expr} {pos p1 p2 p3:Pos} {d:D} {ds:List D} {P:Out->Prop} {rest:List Stmt} {x:Str}
theorem wy {K:PySem.W.Frag} {F:Hp}:∀{vs:List V} {ds:List D},Reps K F vs ds->Reps K F vs.dropLast ds.dropLast
 | _,_,.nil=> .nil
 | _,_,.cons _ .nil=> .nil
 | _,_,.cons h (.cons h2 t)=> .cons h (wy (.cons h2 t))
end
section
variable {Y:Cy} {T:Tx} {k:Nat} {N G:List Str} {c:List Slot} {a b:Expr} {pos:Pos} {d:D} {ds:List D}
theorem wY:∀ds:List D,toPys ds=ds.map toPy
 | []=>rfl
 | x::xs=>by rw [toPys,wY xs];rfl
def rInL (K:PySem.W.Frag) (d:D) (ds:List D) (v:Bool):R2:=fun x y H Q=>∃F,Same F H/\Rep K F x d/\Rep K F y (.lst ds)/\Q (.bl v) H
theorem xbc {X:Cx} (hu:X.A.units+70<cLine) (h1:SeqAt.shaped (toPy d)=true) (h2:SeqAt.shaped (toPy (.lst ds))=true):OpR X (compareOp .In) (rInL X.K d ds (ds.any fun y=>eqD y d)):=by
 intro pins s σ H x y v u Q I rx ry ⟨F,f,r1,r2,q⟩
 obtain ⟨as,ra⟩:=zj I f r1 rx
 obtain ⟨bs,rb⟩:=zj I f r2 ry
 have e:(toPys ds).any (fun y=>PyData.eqv y (toPy d))=ds.any fun y=>eqD y d:=by
  rw [wY,List.any_map]
  rfl
 have c1:=SeqAt.canLay_of_shaped h1
 have c2:PyData.canLayAll0 (toPys ds)=true:=SeqAt.canLay_of_shaped h2
 have d1:=SeqAt.depth_of_shaped h1
 have:min (PyData.depthAll (toPys ds)) (toPy d).depth<=(toPy d).depth:=Nat.min_le_right _ _
 refine SeqAt.in_list_reads (xs:=toPys ds) rb ra c2 c1 (by omega) ⟨.bl _,H,I,rfl,?_⟩
 rw [e]
 exact q
theorem xaM (S:Se Y T k N G) (ha:EvD Y a c d) (hb:EvD Y b c (.lst ds)) (h1:SeqAt.shaped (toPy d)=true) (h2:SeqAt.shaped (toPy (.lst ds))=true) (hm:behindInMarks .In b=false:=by rfl):TeD Y (.Compare a [.In] [b] pos) c (ds.any fun y=>eqD y d):=
 zX (xbc (by have:=S.room.un;omega) h1 h2) hm ha hb fun x y F H Q f rx ry q=>⟨F,f,rx,ry,q F H (Ext.refl f)⟩
end
section
variable {K:PySem.W.Frag} {F₀ H₀ F H:Hp} {σ:St} {c:List Slot} {i:Nat} {a p:Addr} {kv:List (Key×V)} {kvs:List (Int×D)}
end
section
variable {Y:Cy} {T:Tx} {k:Nat} {N G:List Str} {c:List Slot} {a b e:Expr} {es:List Expr} {pos p1 p2 p3:Pos} {rest:List Stmt} {P:Out->Prop} {d:D} {kvs:List (Int×D)} {x:Str}
end
def spG (K:PySem.W.Frag) (R:List D->(PySem.W.Frag->Hp->Hp->V->Hp->Prop)->Prop):Sp:=fun vs H Q _=>∃F ds r,Same F H/\Reps K F vs ds/\R ds r/\∀v F' H1 H',Ext F H F' H1->r K F' H1 v H'->Q v H'
structure FnG (T:Tx) (k:Nat) (x:Str) (R:List D->(PySem.W.Frag->Hp->Hp->V->Hp->Prop)->Prop):Prop where
 ex:∃(f:Addr) (fd:FuncData) (ps:List Str),T.mg x=some (.ref f)/\PySem.W.keepIn T.K (.ref f)=true/\Binds T.K fd ps []/\FnOk T.prog T.w T.K T.mg T.base CX0 k f fd ps (spG T.K R)
section
variable {Y:Cy} {T:Tx} {k j:Nat} {N G ps:List Str} {c:List Slot} {e e1 e2 e3:Expr} {es:List Expr} {pos p:Pos} {d:D} {ds l l1 l2:List D} {R:List D->(PySem.W.Frag->Hp->Hp->V->Hp->Prop)->Prop} {r:PySem.W.Frag->Hp->Hp->V->Hp->Prop} {x qual:Str} {P:Out->Prop} {rest:List Stmt}
structure At3 (Y:Cy) (i:Nat) (c:List Slot) (F H:Hp) (σ:St) (p a b:Addr) (x:Int) (ws1 ws2:List V):Prop where
 E:EnvY Y F H σ (put c i .un)
 s:σ[i]? =some (some (.ref p))
 hp:H p=some (.tup [.int x,.ref a,.ref b])
 ha:H a=some (.lst ws1)
 hb:H b=some (.lst ws2)
 fp:F p=none
 fa:F a=none
 fb:F b=none
 op:Y.H0 p=none
 oa:Y.H0 a=none
 ob:Y.H0 b=none
 ab:a≠b
 pa:p≠a
 pb:p≠b
end
end DL
namespace STB
open PySem
def aa:Nat->Nat
 | 0=>0
 | n+1=>5*aa n+1
structure OwnerOk (mask:Nat) (owner:Array (Option Nat)) (ps:List Nat):Prop where
 sz:owner.size=mask+1
 nd:ps.Nodup
 le:∀x∈ps,x<=mask
 at':∀j,j<=mask->(j∈ps->∃i,owner[j]? =some (some i)/\i<ps.length)/\(j∉ps->owner[j]? =some none)
structure Tab (t:SetTable) (n:Nat):Prop where
 pow:∃k,3<=k/\t.mask+1=2^k
 dm:t.dummies= #[]
 sz:t.place.size=n
 up:List.Pairwise (· < ·) t.place.toList
 le:∀x∈t.place.toList,x<=t.mask
structure Good (t:SetTable) (n:Nat):Prop extends Tab t n where
 full:n*5<t.mask*3
def pr (t:SetTable) (h:Int):Nat->SetTable.Probe
 | 0=>t.probeStart h
 | n+1=>t.advance (pr t h n)
structure PrOk (t:SetTable) (p:SetTable.Probe):Prop where
 i:p.i<=t.mask
 jm:p.j+p.more<=t.mask
 dm:p.dummy=none
end STB
namespace SPT
open PySem PySem.Spec PyProof.Rows
structure Pt (h:Heap) (t:Int×Int×Int) (a b:Addr) (t1 t2 t3:Tok):Prop where
 ta:∃o n,h.get? a=some o/\o.cls= .type "tuple" /\o.data= .seq #[.int t.1 t1,.ref b] n
 tb:∃o n,h.get? b=some o/\o.cls= .type "tuple" /\o.data= .seq #[.int t.2.1 t2,.int t.2.2 t3] n
section
variable {prog:Program} {w:World} {A:Around} {E:Value->Shared->Prop} {s:Shared} {t:Int×Int×Int} {u:Value}
end
end SPT
namespace DL
open PySem L2
abbrev ptD (t:Int×Int×Int):D:= .tup [.int t.1,.tup [.int t.2.1,.int t.2.2]]
section
variable {X:Cx} {pins:List (Addr×Obj)} {σ:St} {F H:Hp} {s:Shared}
end
end DL
namespace SPT
open PySem PySem.Spec PyProof.Rows
section
variable {prog:Program} {w:World} {A:Around} {E:Value->Shared->Prop} {s:Shared} {t:Int×Int×Int} {u:Value}
end
section
variable {prog:Program} {w:World} {A:Around} {E:Value->Shared->Prop} {s:Shared} {d it:Addr} {es:Array DictEntry} {ep i:Nat}
end
end SPT
namespace DL
open PySem L2
abbrev Row3:=(Int×Int×Int)×Addr×Value
structure TKs (K:PySem.W.Frag) (F:Hp) (xs:List Row3) (ks:List (Int×Int×Int)):Prop where
 ks:xs.map (·.1)=ks
 rp:∀x∈xs,Rep K F (.ref x.2.1) (ptD x.1)
 sz:xs.length<=1000000
section
variable {X:Cx} {pins:List (Addr×Obj)} {σ:St} {F H:Hp} {s:Shared} {a:Addr} {xs:List Row3} {ks:List (Int×Int×Int)} {t:Int×Int×Int}
end
section
variable {K:PySem.W.Frag} {F₀ H₀ F H:Hp} {σ:St} {c:List Slot} {i:Nat} {a p:Addr} {t t':Thing} {ks ks':List (Int×Int×Int)} {o o':HO}
theorem Env.bor_at (E:Env K F₀ H₀ F H σ c) (hs:slot c i= .bor t):∃a o,σ[i]? =some (some (.ref a))/\H a=some o/\ThgOk t K F a o:=by
 have q:=E.sl i
 rw [hs] at q
 obtain ⟨a,o,h1,h2,h3⟩:=q
 exact ⟨a,o,h1,E.ext.hh _ _ h2,h3⟩
end
section
variable {Y:Cy} {T:Tx} {k:Nat} {N G:List Str} {c:List Slot} {a b e:Expr} {es:List Expr} {pos p1 p2 p3:Pos} {rest:List Stmt} {P:Out->Prop} {d:D} {ds:List D} {ks:List (Int×Int×Int)} {t:Int×Int×Int} {x:Str}
def spB (K:PySem.W.Frag) (R:List D->Thing->D->Prop):Sp:=fun vs H Q _=>∃F ws a o ds t d,vs=ws++ [.ref a]/\Same F H/\Reps K F ws ds/\H a=some o/\ThgOk t K F a o/\R ds t d/\∀v F' H',Ext F H F' H'->Rep K F' v d->Q v H'
structure FnB (T:Tx) (k:Nat) (x:Str) (R:List D->Thing->D->Prop):Prop where
 ex:∃(f:Addr) (fd:FuncData) (ps:List Str),T.mg x=some (.ref f)/\PySem.W.keepIn T.K (.ref f)=true/\Binds T.K fd ps []/\FnOk T.prog T.w T.K T.mg T.base CX0 k f fd ps (spB T.K R)
end
def KeepD (e:Addr) (dx:Option Addr) (h:Heap):Prop:=∃o,h.get? e=some o/\o.dict=dx
section
variable {e:Addr} {dx:Option Addr} {α β:Type}
end
end DL
namespace DL
open PySem PySem.W PySem.Calls PyProof.Rows Builtin Builtin.ObjectAttr
abbrev VEs:List Value:=[.type "ValueError",.type "Exception",.type "BaseException",.type "object"]
def farIn (K:PySem.W.Frag) (C:Addr):Bool:=match K.lookup C with
 | some ⟨.type "type",_,.cls cd,sl⟩=>(match cd.mro,sl.toList with
  | .ref C'::bm,[_,_,_,_,some (.builtin n),_]=>C'==C && (n== "ValueError.__new__" && (!cd.hasDel && (tailIn K VEs bm && cd.hasDict)))
  | _,_=>false)
 | _=>false
def exo (C:Addr) (dx:Option Addr) (t:Addr):Obj:={ cls:= .ref C,dict:=dx,data:= .fields #[.ref t,.none,.none,.none,.bool false,.none] }
structure FarK (K:PySem.W.Frag) (C D fI:Addr):Prop where
 fa:farIn K C=true
 init:findIn K (.ref C) "__init__" =some (some (.ref fI))
 fn:typeIn K (.ref fI)=some (.type "function")
 sa:findIn K (.ref C) "__setattr__" =some (some (.builtin "object.__setattr__"))
 nf:findIn K (.ref C) "far" =some none
 rd:readsIn K D (.type "type")=true
 fi:findCls K (.ref D) (.type "type") "__init__" =some (.val (.builtin "ValueError.__init__"))
 sg:specialIn K (.ref D) "__getattribute__" =some (some (.builtin "type.__getattribute__"))
section
variable {prog:Program} {w:World} {A:Around} {E:Value->Shared->Prop} {K:PySem.W.Frag} {C D fI e t0:Addr} {h:Heap} {g:Array GenState} {d:Drawn} {t:Nat} {os:OsState}
end
section
variable {prog:Program} {w:World} {A:Around} {E:Value->Shared->Prop} {K:PySem.W.Frag} {C D fI e t0:Addr} {h:Heap} {g:Array GenState} {d:Drawn} {t:Nat} {os:OsState}
end
end DL
namespace DL
open PySem L2
abbrev farF (n:Int):List (Str×V):=[("far",.int n)]
section
variable {Y:Cy} {T:Tx} {k:Nat} {N G:List Str} {c:List Slot} {js:Expr} {z:Str} {x y sf:Str} {p1 p2 p3 p5 p6:Pos} {C D fI:Addr}
end
end DL
namespace DL
open PySem L2 PySem.W PyProof.Rows
section
variable {M:Model} {A:Around} {E:Value->Shared->Prop} {K:PySem.W.Frag} {C:Addr} {env:PySem.Env} {s:Shared}
end
end DL
namespace DL
open PySem L2
structure LiesD (P:Program) (w:World) (outer:List PySem.Env) (H:Hp) (s:Shared) (a C dx:Addr) (H':Hp) (s':Shared):Prop extends Lies P w outer H s a C H' s' where
 dict:KeepD a (some dx) s'.heap
def CXF (P:Program) (w:World):CXT:=fun outer H s E e s'=>∃a C dx H',e= .ref a/\LiesD P w outer H s a C dx H' s'/\E (.ref C) (some dx) H'
section
variable {Y:Cy} {T:Tx} {k j:Nat} {N G ps:List Str} {c:List Slot} {js a e:Expr} {es:List Expr} {z:Str} {x y cl sf fr qual:Str} {pos p p1 p2 p3 p5 p6 q1 q2 q3 q4 cpos:Pos} {C D fI:Addr} {n:Int} {d:DL.D} {ds:List DL.D} {P:Out->Prop} {rest:List Stmt} {R:List DL.D->DL.Rs->Prop}
end
inductive Rf where
 | ok (d:D) | far (n:Int)
def spZ (T:Tx) (cl:Str) (R:List D->Rf->Prop):Sp:=fun vs H Q E=>∃F ds r,Same F H/\Reps T.K F vs ds/\R ds r/\(match r with
 | .ok d=>∀v F' H',Ext F H F' H'->Rep T.K F' v d->Q v H'
 | .far n=>∀C dx F' H',T.mg cl=some (.ref C)->Ext F H F' H'->F' dx=some (.xd (farF n))->E (.ref C) (some dx) H')
structure FnZ (T:Tx) (k:Nat) (x cl:Str) (R:List D->Rf->Prop):Prop where
 ex:∃(f:Addr) (fd:FuncData) (ps:List Str),T.mg x=some (.ref f)/\PySem.W.keepIn T.K (.ref f)=true/\Binds T.K fd ps []/\FnOk T.prog T.w T.K T.mg T.base (CXF T.prog T.w) k f fd ps (spZ T cl R)
structure RzD (Y:Cy) (C:Addr) (n:Int) (c:List Slot):Prop where
 fly:∀{pins:List (Addr×Obj)} {σ:St} {F H F' H':Hp} {s s':Shared} {e dx:Addr},Inv Y.X pins σ H s->EnvY Y F H σ c->Ext F H F' H'->LiesD Y.X.prog Y.X.w Y.X.stack H s e C dx H' s'->F' dx=some (.xd (farF n))->Y.X.xe (.ref e) s'
structure RzDM (Y:Cy) (C:Addr) (n:Int) (c:List Slot):Prop where
 made:∀{pins:List (Addr×Obj)} {σ:St} {F H:Hp} {s:Shared} {e dx t:Addr},Inv Y.X pins σ H s->EnvY Y F H σ c->F dx=some (.xd (farF n))->Y.X.s₀.heap.get? e=none->H e=none->e≠Y.X.env.locals->s.heap.get? e=some (exo C (some dx) t)->Y.X.xe (.ref e) s
section
variable {Y:Cy} {T:Tx} {k j:Nat} {N G ps:List Str} {c:List Slot} {e:Expr} {es:List Expr} {pos p cpos:Pos} {d:D} {ds:List D} {R:List D->Rf->Prop} {x qual cl:Str} {P:Out->Prop} {rest:List Stmt} {n:Int}
end
end DL
namespace DL
open PySem L2 PySem.W PyProof.Rows
def mth (s:Stmt) (i:Nat):Stmt:=match s with
 | .ClassDef _ _ _ b _ _ _ _ _ _ _=>b.getD i (.Pass ⟨0,0,0,0⟩)
 | s=>s
section
variable {Y:Cy} {T:Tx} {k j:Nat} {N G:List Str} {c:List Slot} {pos:Pos} {n:Int}
end
end DL
namespace DL
open PySem L2
section
variable {Y:Cy} {T:Tx} {k j:Nat} {N G ps:List Str} {c:List Slot} {e a b:Expr} {es:List Expr} {pos p cpos:Pos} {d d1 d2:D} {ds:List D} {x y cl:Str} {P:Out->Prop} {rest:List Stmt} {n:Int}
def spHF (T:Tx) (cl:Str) (R:Int->D->Prop):Sp:=fun vs H Q _=>∃F a C dx n d,vs=[.ref a]/\Same F H/\H a=some (.ext (ExcAt C (some dx) a))/\F dx=some (.xd (farF n))/\T.mg cl=some (.ref C)/\R n d/\∀v F' H',Ext F H F' H'->Rep T.K F' v d->Q v H'
structure FnHF (T:Tx) (k:Nat) (x cl:Str) (R:Int->D->Prop):Prop where
 ex:∃(f:Addr) (fd:FuncData) (ps:List Str),T.mg x=some (.ref f)/\PySem.W.keepIn T.K (.ref f)=true/\Binds T.K fd ps []/\FnOkH T.prog T.w T.K T.mg T.base k f fd ps (spHF T cl R)
structure FnDH (T:Tx) (k:Nat) (x:Str) (R:List D->D->Prop):Prop where
 ex:∃(f:Addr) (fd:FuncData) (ps:List Str),T.mg x=some (.ref f)/\PySem.W.keepIn T.K (.ref f)=true/\Binds T.K fd ps []/\FnOkH T.prog T.w T.K T.mg T.base k f fd ps (spD T.K R)
def TupK (K:PySem.W.Frag) (a:Addr) (vs:List V):Prop:=∃(o:Obj) (its:Array Value) (n:Nat),K.lookup a=some o/\o.cls= .type "tuple" /\o.data= .seq its n/\its.size<=sizeLine/\Vals vs its.toList
def CstP (T:Tx) (x:Str) (i j l:Int):Prop:=∃a b,T.mg x=some (.ref a)/\TupK T.K a [.int i,.ref b]/\TupK T.K b [.int j,.int l]
theorem K4 (S:Sn Y T N G) (gi:Nat) {i j l:Int} (h:CstP T x i j l) (hg:G[gi]? =some x:=by rfl):EvD Y (.Name x pos) c (.tup [.int i,.tup [.int j,.int l]]):=by
 obtain ⟨a,b,hm,h1,h2⟩:=h
 have gl:=S.gl x (List.mem_of_getElem? hg)
 refine PE.imp (vS (v:= .ref a) gl.1 (by rw [S.eM];exact hm) rfl gl.2.1) fun σ H Q ⟨F,E,q⟩=>q _ F H (Ext.refl E.fh) (.tup (.inr (by rw [S.eK];exact h1)) (.cons (.int i) (.cons (.tup (.inr (by rw [S.eK];exact h2)) (.cons (.int j) (.cons (.int l) .nil))) .nil)))
end
def tx (l:List Nat):Str:=⟨l.toArray⟩
theorem xu (l:List Nat):(tx l).cps.toList=l:=by simp [tx]
theorem zg (x:Str):tx x.cps.toList=x:=by cases x;simp [tx]
theorem yL (l:List Nat):(tx l).length=l.length:=by simp [tx,Str.length]
theorem xH (x:Str):x.length=x.cps.toList.length:=by simp [Str.length]
section
variable {Y:Cy} {T:Tx} {k:Nat} {N G:List Str} {c:List Slot} {a b e:Expr} {es:List Expr} {pos p2:Pos} {d d1 d2:D} {ds:List D} {x y:Str} {P:Out->Prop} {rest:List Stmt}
theorem xz (ha:EvD Y a c (.str x)) (hb:EvD Y b c (.str y)):TeD Y (.Compare a [.Eq] [b] pos) c (x==y):=
 zX kO (nomark _) ha hb fun u v F H Q f rx ry q=>by
  rw [xO rx,xO ry]
  refine ⟨rfl,?_⟩
  rw [uI]
  exact q F H (Ext.refl f)
theorem xaL (ha:EvD Y a c (.str x)) (hb:EvD Y b c (.str y)):TeD Y (.Compare a [.NotEq] [b] pos) c (!(x==y)):=
 zX xav (nomark _) ha hb fun u v F H Q f rx ry q=>by
  rw [xO rx,xO ry]
  refine ⟨rfl,?_⟩
  rw [uI]
  exact q F H (Ext.refl f)
theorem xbA {i:Int} {cd:Nat} (ha:EvD Y a c (.str x)) (hb:EvD Y b c (.int i)) (h:atI x.cps.toList i=some cd) (hz:x.length<=1000000) (hs:PlainIx b:=by intro _ _;rfl):EvD Y (.Subscript a b pos) c (.str ⟨#[cd]⟩):=
 zp (t:=tC .non) (ta:=tC .non) (tb:=tC .non) (kG xbq ha hb hs) fun u v F H Q f rx ry q=>
  ⟨x,i,cd,xO rx,xD ry,xT hz,h,q _ F H (Ext.refl f) (.str _)⟩
theorem qV (ha:EvD Y a c (.str x)) (hb:EvD Y b c (.str y)) (hz:x.length+y.length<=1000000):EvD Y (.BinOp a .Add b pos) c (.str (x++y)):=
 zp (t:=tC .non) (ta:=tC .non) (tb:=tC .non) (WU VS ha hb) fun u v F H Q f rx ry q=>
  ⟨x,y,xO rx,xO ry,xT hz,q _ F H (Ext.refl f) (.str _)⟩
theorem xw (x y:Str):(x++y).cps.toList=x.cps.toList++y.cps.toList:=by
 show (x.cps++y.cps).toList=_
 simp
theorem xbB {cd:Nat} (ha:EvD Y a c (.str ⟨#[cd]⟩)) (hb:EvD Y b c (.str y)) (hm:behindInMarks .In b=false:=by rfl):EvD Y (.Compare a [.In] [b] pos) c (.bl (decide (cd∈y.cps.toList))):=
 zp (t:=tC .non) (ta:=tC .non) (tb:=tC .non) (vT UP ha hb hm) fun u v F H Q f rx ry q=>by
  refine ⟨_,_,xO rx,xO ry,?_⟩
  rw [StrLaws.found_one]
  exact q _ F H (Ext.refl f) (.bl _)
theorem K0 (S:Se Y T k N G) (gi:Nat) {i:Int} {p:Pos} (ha:ArD Y [e] c [.int i]) (hz:i.natAbs.log2<1920) (hm:T.mg "str" =none) (hg:G[gi]? =some ("str" :Str):=by rfl) (he:starEach [e] Y.X.env=(false,eval e Y.X.env)::starEach [] Y.X.env:=by rfl):EvD Y (.Call (.Name "str" p) [e] [] pos) c (.str (toString i)):=
 qW S gi ZR hg hm Wv ha (fun vs F H Q f r q=>by
  obtain ⟨v,rfl,rv⟩:=inv1 r
  exact ⟨i,by rw [xD rv],hz,q _ F H (Ext.refl f) (.str _)⟩) he rfl
theorem X5 {X:Cx}:CallR X (.type "int") (fun xs H Q=>∃x n,xs=[.str x]/\PySem.intText? x=some n/\x.length<=640/\Q (.int n) H):=by
 intro pins s σ H xs us Q I r h
 obtain ⟨x,n,rfl,h1,h2,q⟩:=h
 obtain ⟨u,rfl,t,rfl⟩:=vals1 r
 exact PySem.W.KIN.call_text h1 h2 ⟨.int n,H,I.tok _,⟨_,rfl⟩,q⟩
theorem ZG (S:Se Y T k N G) (gi:Nat) {i:Int} {p:Pos} (ha:ArD Y [e] c [.str x]) (h1:PySem.intText? x=some i) (h2:x.length<=640) (hm:T.mg "int" =none) (hg:G[gi]? =some ("int" :Str):=by rfl) (he:starEach [e] Y.X.env=(false,eval e Y.X.env)::starEach [] Y.X.env:=by rfl):EvD Y (.Call (.Name "int" p) [e] [] pos) c (.int i):=
 qW S gi X5 hg hm qh ha (fun vs F H Q f r q=>by
  obtain ⟨v,rfl,rv⟩:=inv1 r
  exact ⟨x,i,by rw [xO rv],h1,h2,q _ F H (Ext.refl f) (.int _)⟩) he rfl
inductive FvK | int (i:Int) | str (x:Str) | rep (x:Str)
theorem We {i:Int} (h:EvD Y e c (.int i)) (hz:i.natAbs.log2<1920):EvD Y (.FormattedValue e (-1) none pos) c (.str (toString i)):=by
 intro pins s σ H Q I ⟨F,E,q⟩
 refine wpAny_FormattedValue_plain (thn (h pins s σ H (fun v H1=>v= .int i/\∃F1,Ext F H F1 H1) I ⟨F,E,fun v F1 H1 e1 r1=>⟨xD r1,F1,e1⟩⟩) fun u s1 ⟨v,H1,I1,r1,ev,F1,e1⟩=>?_)
 subst ev
 obtain ⟨t,rfl⟩:=r1
 exact wpAny_formatField_int hz ⟨.str _,H1,I1.tok _,⟨_,rfl⟩,q _ F1 H1 e1 (.str _)⟩
theorem Wc (h:EvD Y e c (.str x)) (hz:x.length<=1000000):EvD Y (.FormattedValue e (-1) none pos) c (.str x):=by
 intro pins s σ H Q I ⟨F,E,q⟩
 refine wpAny_FormattedValue_plain (thn (h pins s σ H (fun v H1=>v= .str x/\∃F1,Ext F H F1 H1) I ⟨F,E,fun v F1 H1 e1 r1=>⟨xO r1,F1,e1⟩⟩) fun u s1 ⟨v,H1,I1,r1,ev,F1,e1⟩=>?_)
 subst ev
 obtain ⟨t,rfl⟩:=r1
 exact wpAny_formatField_str ⟨.str _,H1,I1,⟨_,rfl⟩,q _ F1 H1 e1 (.str _)⟩ ⟨.str _,H1,I1.tok _,⟨_,rfl⟩,q _ F1 H1 e1 (.str _)⟩ (xT hz)
theorem Wd (h:EvD Y e c (.str x)) (hz:x.length<=10000) (hc:∀q∈x.cps.toList,q<16^8):EvD Y (.FormattedValue e 114 none pos) c (.str (reprText x)):=by
 have hl:=StrLaws.reprText_len x hc
 have hz2:(reprText x).length<=sizeLine:=xT (by omega)
 intro pins s σ H Q I ⟨F,E,q⟩
 refine wpAny_FormattedValue_repr (thn (h pins s σ H (fun v H1=>v= .str x/\∃F1,Ext F H F1 H1) I ⟨F,E,fun v F1 H1 e1 r1=>⟨xO r1,F1,e1⟩⟩) fun u s1 ⟨v,H1,I1,r1,ev,F1,e1⟩=>?_)
 subst ev
 obtain ⟨t,rfl⟩:=r1
 refine wpAny_pyReprObj_gives (typeIs_str s1 x t) PySem.F.slot_str_repr PySem.F.entry_str_repr (PySem.F.args_str_repr_1 _) (gives_str_repr x t) ?_ rfl hz2
 have I2:=I1.tok (s1.toks+1)
 exact wpAny_formatField_str ⟨.str _,H1,I2,⟨_,rfl⟩,q _ F1 H1 e1 (.str _)⟩ ⟨.str _,H1,I2.tok _,⟨_,rfl⟩,q _ F1 H1 e1 (.str _)⟩ hz2
def JsD (Y:Cy) (es:List Expr) (c:List Slot) (acc z:Str):Prop:=∀(pins:List (Addr×Obj)) (s:Shared) (σ:St) (F H:Hp) (Q:Str->Shared->Prop),Inv Y.X pins σ H s->EnvY Y F H σ c->
 (∀s' F' H',Ext F H F' H'->Inv Y.X pins σ H' s'->Q z s')->Joins (model Y.X.prog Y.X.w) Y.X.A Y.X.xe (evalEach es Y.X.env) acc Q s
theorem V6 {acc:Str}:JsD Y [] c acc acc:=fun pins s σ F H Q I E q=>q s F H (Ext.refl E.fh) I
theorem qc {acc z:Str} (h:EvD Y e c (.str x)) (hz:(acc++x).length<=1000000) (hr:JsD Y es c (acc++x) z) (he:evalEach (e::es) Y.X.env=eval e Y.X.env::evalEach es Y.X.env:=by rfl):JsD Y (e::es) c acc z:=by
 intro pins s σ F H Q I E q
 rw [he]
 refine thn (h pins s σ H (fun v H1=>v= .str x/\∃F1,Ext F H F1 H1) I ⟨F,E,fun v F1 H1 e1 r1=>⟨xO r1,F1,e1⟩⟩) fun u s1 ⟨v,H1,I1,r1,ev,F1,e1⟩=>?_
 subst ev
 obtain ⟨t,rfl⟩:=r1
 exact ⟨x,t,rfl,xT hz,hr pins s1 σ F1 H1 Q I1 (E.grow e1) fun s' F' H' e' I'=>q s' F' H' (e1.trans e') I'⟩
theorem Ju {z:Str} {e1 e2:Expr} (h:JsD Y (e1::e2::es) c Str.empty z) (hz:z.length<=1000000):EvD Y (.JoinedStr (e1::e2::es) pos) c (.str z):=by
 intro pins s σ H Q I ⟨F,E,q⟩
 exact wpAny_JoinedStr (h pins s σ F H _ I E fun s' F' H' e' I'=>⟨xT hz,.str z,H',I'.tok _,⟨_,rfl⟩,q _ F' H' e' (.str _)⟩)
end
end DL
namespace DL
open PySem L2
open Builtin Builtin.Str
def idx (c:Nat):List Nat->List Nat
 | []=>[]
 | a::r=>if a=c then 0::(idx c r).map (· +1) else (idx c r).map (· +1)
theorem vx (c:Nat):∀l:List Nat,(List.range l.length).filter (fun i=>decide (l[i]? =some c))=idx c l
 | []=>rfl
 | a::r=>by
  have ih:=vx c r
  rw [List.length_cons,List.range_succ_eq_map,List.filter_cons]
  have e:(List.map Nat.succ (List.range r.length)).filter (fun i=>decide ((a::r)[i]? =some c))=(idx c r).map (· +1):=by
   rw [List.filter_map,<-ih]
   congr 1
  rw [e,show idx c (a::r)=if a=c then 0::(idx c r).map (· +1) else (idx c r).map (· +1) from rfl]
  by_cases h:a=c
  ·simp [h]
  ·simp [h]
theorem Zt (s sub:Str) (hi limit:Nat):∀(m a:Nat) (arr:Array Nat) (free:Nat),free<=a->sub.length=1->
  (forIn (List.range' a m) (arr,free) (StrLaws.occBody s sub hi limit)).run.fst.toList=arr.toList++((List.range' a m).filter (fun i=>decide (i+1<=hi) && subAt s sub i)).take (limit - arr.size)
 | 0,a,arr,free,_,_=>by simp
 | m+1,a,arr,free,hf,h1=>by
  rw [List.range'_succ,List.forIn_cons]
  by_cases hc:((arr.size<limit/\free<=a)/\a+sub.length<=hi)/\subAt s sub a=true
  ·have eb:StrLaws.occBody s sub hi limit a (arr,free)=pure (ForInStep.yield (arr.push a,a+sub.length)):=by unfold StrLaws.occBody;rw [if_pos hc]
   rw [eb]
   have ih:=Zt s sub hi limit m (a+1) (arr.push a) (a+sub.length) (by omega) h1
   refine ih.trans ?_
   have hp:(decide (a+1<=hi) && subAt s sub a)=true:=by rw [h1] at hc;simp [hc.1.2,hc.2]
   rw [List.filter_cons,if_pos hp,show limit - arr.size=(limit - (arr.push a).size)+1 by simp;omega]
   simp
  ·have eb:StrLaws.occBody s sub hi limit a (arr,free)=pure (ForInStep.yield (arr,free)):=by unfold StrLaws.occBody;rw [if_neg hc]
   rw [eb]
   have ih:=Zt s sub hi limit m (a+1) arr free (by omega) h1
   refine ih.trans ?_
   by_cases hl:arr.size<limit
   ·have hp:¬(decide (a+1<=hi) && subAt s sub a)=true:=by
     intro z
     simp only [Bool.and_eq_true,decide_eq_true_eq] at z
     exact hc ⟨⟨⟨hl,hf⟩,by rw [h1];exact z.1⟩,z.2⟩
    rw [List.filter_cons,if_neg hp]
   ·rw [show limit - arr.size=0 by omega];simp
theorem Ya (x:Str) (c i:Nat):(decide (i+1<=x.length) && subAt x ⟨#[c]⟩ i)=decide (x.cps.toList[i]? =some c):=by
 unfold subAt
 have hl:(⟨#[c]⟩:Str).length=1:=rfl
 rw [hl]
 by_cases h:i+1<=x.length
 ·have hi:i<x.cps.size:=h
  have e:x.cps.extract i (i+1)= #[x.cps[i]]:=by
   apply Array.ext
   ·simp;omega
   ·intro j h1 h2
    have:j=0:=by simp at h2;omega
    subst this
    simp
  rw [e]
  have e2:x.cps.toList[i]? =some x.cps[i]:=by simp [hi]
  rw [e2]
  simp only [h,decide_true,Bool.true_and]
  by_cases z:x.cps[i]=c
  ·simp [z]
  ·simp [z]
 ·have:x.cps.toList[i]? =none:=by
   rw [List.getElem?_eq_none_iff];simp [Str.length] at h ⊢;omega
  rw [this]
  simp [h]
theorem WZ (x:Str) (c limit:Nat):occurrences x ⟨#[c]⟩ 0 x.length limit=(idx c x.cps.toList).take limit:=by
 rw [StrLaws.occ_eq,Zt _ _ _ _ _ _ _ _ (Nat.le_refl 0) rfl]
 have e:(List.range' 0 (x.length+1 - 0)).filter (fun i=>decide (i+1<=x.length) && subAt x ⟨#[c]⟩ i)=idx c x.cps.toList:=by
  rw [<-vx]
  have e1:List.range' 0 (x.length+1 - 0)=List.range x.cps.toList.length++ [x.length]:=by
   rw [<-xH,List.range_eq_range',Nat.sub_zero,List.range'_1_concat];simp
  rw [e1,List.filter_append]
  have e2:([x.length].filter fun i=>decide (i+1<=x.length) && subAt x ⟨#[c]⟩ i)=[]:=by
   simp
   intro h
   omega
  rw [e2,List.append_nil]
  congr 1
  funext i
  exact Ya x c i
 rw [e]
 simp
theorem Zx (c:Nat):∀l:List Nat,idx c l=[]↔c∉l
 | []=>by simp [idx]
 | a::r=>by
  unfold idx
  have ih:=Zx c r
  by_cases h:a=c
  ·simp [h]
  ·have h':¬c=a:=fun z=>h z.symm
   simp [h,h',ih]
def splitL (c:Nat):List Nat->List (List Nat)
 | []=>[[]]
 | a::r=>if a=c then []::splitL c r else match splitL c r with
  | h::t=>(a::h)::t
  | []=>[[a]]
theorem Yc (c:Nat):∀l,splitL c l≠[]
 | []=>by simp [splitL]
 | a::r=>by
  unfold splitL
  split
  ·simp
  ·split<;>simp
def zs (ks:List Nat) (n:Nat):List (Nat×Nat):=(0::ks.map (· +1)).zip (ks++ [n])
def subL (l:List Nat) (p:Nat×Nat):List Nat:=(l.drop p.1).take (p.2 - p.1)
theorem wm (f:Nat->Nat):∀(a b:List Nat),(a.map f).zip (b.map f)=(a.zip b).map fun p=>(f p.1,f p.2)
 | [],_=>rfl
 | _::_,[]=>rfl
 | x::a,y::b=>by simp [wm f a b]
theorem X9 (a:Nat) (r:List Nat) (p:Nat×Nat):subL (a::r) (p.1+1,p.2+1)=subL r p:=by
 unfold subL
 simp
theorem Z4 (c:Nat):∀l:List Nat,(zs (idx c l) l.length).map (subL l)=splitL c l
 | []=>by simp [zs,idx,splitL,subL]
 | a::r=>by
  have ih:=Z4 c r
  unfold idx splitL
  by_cases ha:a=c
  ·rw [if_pos ha,if_pos ha,<-ih]
   unfold zs
   have e1:(0::(0::(idx c r).map (· +1)).map (· +1))=0::((0::(idx c r).map (· +1)).map (· +1)):=rfl
   have e2:(0::(idx c r).map (· +1))++ [(a::r).length]=0::((idx c r++ [r.length]).map (· +1)):=by simp
   rw [e1,e2,List.zip_cons_cons,wm,List.map_cons,List.map_map]
   congr 1
   exact List.map_congr_left fun p _=>X9 a r p
  ·rw [if_neg ha,if_neg ha]
   unfold zs at ih ⊢
   cases q:idx c r with
   | nil=>
    rw [q] at ih
    simp [subL] at ih ⊢
    rw [<-ih]
   | cons k ks=>
    rw [q] at ih
    have e2:((k::ks).map (· +1)++ [(a::r).length])=(k+1)::((ks++ [r.length]).map (· +1)):=by simp
    have e3:(((k::ks).map (· +1)).map (· +1))=((k::ks).map (· +1)).map (· +1):=rfl
    rw [e2,List.zip_cons_cons,wm,List.map_cons,List.map_map]
    have ih':splitL c r=subL r (0,k)::(((k::ks).map (· +1)).zip (ks++ [r.length])).map (subL r):=by rw [<-ih];rfl
    rw [ih']
    have e4:subL (a::r) (0,k+1)=a::subL r (0,k):=by simp [subL]
    rw [e4]
    congr 1
    exact List.map_congr_left fun p _=>X9 a r p
theorem wq (x:Str) (i j:Nat):strSub x i j=tx (subL x.cps.toList (i,j)):=by
 unfold strSub tx subL
 congr 1
 apply Array.ext'
 simp [Array.toList_extract,List.extract_eq_drop_take]
theorem QB (x:Str) (c:Nat):partsBetween x (idx c x.cps.toList) 1=(splitL c x.cps.toList).map tx:=by
 rw [<-Z4]
 unfold partsBetween zs
 rw [List.map_map]
 have e:x.length=x.cps.toList.length:=xH x
 simp only [e]
 congr 1
 funext p
 exact wq x p.1 p.2
def mtS1 (g:Str->Str->V->Prop):V->List V->Hp->VK->Prop:=fun x vs H Q=>∃a b v,x= .str a/\vs=[.str b]/\g a b v/\Q v H
theorem UY {X:Cx}:MtR X "str.startswith" (mtS1 fun a b v=>v= .bl (decide (0+b.length<=a.length) && subAt a b 0)):=by
 intro pins s σ H x xs v us Q I rx r h
 obtain ⟨a,b,w',rfl,rfl,rfl,q⟩:=h
 obtain ⟨t,rfl⟩:=rx
 obtain ⟨u,rfl,t',rfl⟩:=vals1 r
 exact call_gives PySem.F.slot_str_startswith (typeIs_str s a t) PySem.F.entry_str_startswith (PySem.F.args_str_startswith_2 _ _) (gives_str_startswith a b t t') ⟨.bl _,H,I,rfl,q⟩
def partL (c:Nat) (l:List Nat):List Nat×List Nat×List Nat:=match idx c l with
 | []=>(l,[],[])
 | i::_=>(l.take i,[c],l.drop (i+1))
theorem Zw {X:Cx} {c:Nat}:MtR X "str.partition" (fun x vs H Q=>∃a,x= .str a/\vs=[.str ⟨#[c]⟩]/\a.length<=sizeLine/\∀p,H p=none->Q (.ref p) (upd H p (.tup [.str (tx (partL c a.cps.toList).1),.str (tx (partL c a.cps.toList).2.1),.str (tx (partL c a.cps.toList).2.2)]))):=by
 intro pins s σ H x xs v us Q I rx r h
 obtain ⟨a,rfl,rfl,hz,q⟩:=h
 obtain ⟨t,rfl⟩:=rx
 obtain ⟨u,rfl,t',rfl⟩:=vals1 r
 refine call_meets PySem.F.slot_str_partition (typeIs_str s a t) PySem.F.entry_str_partition (PySem.F.args_str_partition_2 _ _) (meets_str_partition a ⟨#[c]⟩ t t' rfl hz) ?_
 rw [WZ]
 have q':=q s.heap.objs.size I.fresh
 unfold partL at q'
 cases e:idx c a.cps.toList with
 | nil=>
  rw [e] at q'
  simp only [List.take_nil]
  rw [zg] at q'
  refine ⟨.ref _,_,I.laid (t':=s.toks+1) (a:=s.heap.objs.size) (o:= .tup _) (fun b o z=>Heap.get?_push_of_some _ z) (Nat.le_refl _) ?_,rfl,q'⟩
  exact ⟨of_decide_eq_true rfl,_,.cons ⟨_,rfl⟩ (.cons ⟨_,rfl⟩ (.cons ⟨_,rfl⟩ .nil)),_,Heap.get?_push_size _ rfl,rfl,_,rfl⟩
 | cons i rest=>
  rw [e] at q'
  simp only [List.take_succ_cons,List.take_zero]
  refine ⟨.ref _,_,I.laid (t':=s.toks+1+1) (a:=s.heap.objs.size) (o:= .tup _) (fun b o z=>Heap.get?_push_of_some _ z) (Nat.le_refl _) ?_,rfl,q'⟩
  have e1:strSub a 0 i=tx (a.cps.toList.take i):=by rw [wq];simp [subL]
  have e2:strSub a (i+(⟨#[c]⟩:Str).length) a.length=tx (a.cps.toList.drop (i+1)):=by
   rw [wq]
   show tx ((a.cps.toList.drop (i+1)).take (a.length - (i+1)))=_
   rw [List.take_of_length_le (by simp [Str.length])]
  exact ⟨of_decide_eq_true rfl,_,.cons ⟨_,by rw [<-e1]⟩ (.cons ⟨_,rfl⟩ (.cons ⟨_,by rw [<-e2]⟩ .nil)),_,Heap.get?_push_size _ rfl,rfl,_,rfl⟩
theorem wo:∀(k:Nat) (l:List Str),Vals (l.map V.str) (strsFrom k l)
 | _,[]=> .nil
 | k,x::r=> .cons ⟨k,rfl⟩ (wo (k+1) r)
theorem zx (c:Nat):∀l:List Nat,(splitL c l).length<=l.length+1
 | []=>by simp [splitL]
 | a::r=>by
  have ih:=zx c r
  unfold splitL
  split
  ·simp;exact ih
  ·split
   ·rename_i h t e;rw [e] at ih;simp at ih ⊢;omega
   ·simp
theorem qt (c:Nat):∀l:List Nat,c∉l->splitL c l=[l]
 | [],_=>rfl
 | a::r,h=>by
  simp only [List.mem_cons,not_or] at h
  unfold splitL
  rw [if_neg (fun z=>h.1 z.symm),qt c r h.2]
theorem Z2 (x:Str):1<=Builtin.Str.strKind x:=by
 unfold Builtin.Str.strKind
 split
 ·exact Nat.le_refl _
 ·split<;>omega
theorem kS {X:Cx} {c:Nat} (hc:c<256):MtR X "str.split" (fun x vs H Q=>∃a,x= .str a/\vs=[.str ⟨#[c]⟩]/\a.length+1<=sizeLine/\∀p,H p=none->Q (.ref p) (upd H p (.lst ((splitL c a.cps.toList).map fun l=> .str (tx l))))):=by
 intro pins s σ H x xs v us Q I rx r h
 obtain ⟨a,rfl,rfl,hz,q⟩:=h
 obtain ⟨t,rfl⟩:=rx
 obtain ⟨u,rfl,t',rfl⟩:=vals1 r
 have q':=q s.heap.objs.size I.fresh
 obtain ⟨raising,tree⟩:=split_sep_tree a ⟨#[c]⟩ t t'
 have one:idx c a.cps.toList=[]->EP X pins σ Q (.ref s.heap.objs.size) { s with heap:=s.heap.push { cls:= .type "list",data:= .seq [.str a t].toArray } }:=fun e=>by
  rw [qt c _ ((Zx c _).mp e)] at q'
  refine ⟨.ref _,_,I.laid (t':=s.toks) (a:=s.heap.objs.size) (o:= .lst _) (fun b o z=>Heap.get?_push_of_some _ z) (Nat.le_refl _) ?_,rfl,q'⟩
  exact ⟨of_decide_eq_true rfl,[.str a t],0,.cons ⟨_,by rw [zg]⟩ .nil,Heap.get?_push_size _ rfl⟩
 have occ:occurrences a ⟨#[c]⟩ 0 a.length (a.length+1)=idx c a.cps.toList:=by
  rw [WZ,List.take_of_length_le]
  have:=congrArg List.length (vx c a.cps.toList)
  rw [<-this]
  refine Nat.le_trans (List.length_filter_le _ _) ?_
  simp [Str.length]
 by_cases e:idx c a.cps.toList=[]
 ·refine wpAny_call (codeAny_call_builtin PySem.F.slot_str_split.plain PySem.F.entry_str_split (PySem.F.slot_str_split.check _ _ _ _ _ _ _ _ (typeIs_str s a t) (PySem.F.args_str_split_2 _ _) ?_))
  rw [tree]
  by_cases h1:(decide (a.length<(⟨#[c]⟩:Str).length) || decide (Builtin.Str.strKind a<Builtin.Str.strKind ⟨#[c]⟩))=true
  ·rw [if_pos h1]
   exact wpAny_bind (wpAny_rule (wpAny_bind (wpAny_newObj_type (wpAny_pure (one e)))))
  ·rw [if_neg h1,if_neg (show ¬((⟨#[c]⟩:Str).length==0)=true from Bool.false_ne_true),occ,e]
   exact wpAny_bind (wpAny_rule (wpAny_bind (wpAny_newObj_type (wpAny_pure (one e)))))
 ·have hne:a.cps.toList≠[]:=fun z=>e (by rw [z];rfl)
  have h1:(decide (a.length<(⟨#[c]⟩:Str).length) || decide (Builtin.Str.strKind a<Builtin.Str.strKind ⟨#[c]⟩))=false:=by
   have k1:Builtin.Str.strKind (⟨#[c]⟩:Str)=1:=by unfold Builtin.Str.strKind;simp [hc]
   have k2:=Z2 a
   have k3:1<=a.length:=by
    rw [xH]
    cases q:a.cps.toList with
    | nil=>exact absurd q hne
    | cons _ _=>simp
   have k4:(⟨#[c]⟩:Str).length=1:=rfl
   rw [k1,k4]
   simp;omega
  have hp:partsBetween a (idx c a.cps.toList) (⟨#[c]⟩:Str).length=(splitL c a.cps.toList).map tx:=QB a c
  have hn:((splitL c a.cps.toList).map tx).length<=sizeLine:=by
   rw [List.length_map]
   have:=zx c a.cps.toList
   rw [<-xH] at this
   omega
  refine call_meets PySem.F.slot_str_split (typeIs_str s a t) PySem.F.entry_str_split (PySem.F.args_str_split_2 _ _) (meets_str_split_sep a ⟨#[c]⟩ t t' h1 rfl (by rw [occ];simpa using e) (by omega) (by rw [occ,hp];exact hn)) ?_
  rw [occ,hp]
  refine ⟨.ref _,_,I.laid (a:=s.heap.objs.size) (o:= .lst _) (fun b o z=>Heap.get?_push_of_some _ z) (Nat.le_refl _) ?_,rfl,q'⟩
  refine ⟨by rw [List.length_map] at hn ⊢;exact hn,strsFrom s.toks ((splitL c a.cps.toList).map tx),0,?_,Heap.get?_push_size _ rfl⟩
  have:=wo s.toks ((splitL c a.cps.toList).map tx)
  rw [List.map_map] at this
  exact this
def Its (x:Str):It:=⟨fun i _=>i<x.cps.size,fun i H v H'=>H'=H/\∃q,x.cps.toList[i]? =some q/\v= .str ⟨#[q]⟩,fun i _=>x.cps.size<=i⟩
theorem jK {P:Program} {w:World} {K:PySem.W.Frag} {tg:Expr} (it:Addr) (x:Str) (t:Tok) {ty:String} (hty:ty= "str_ascii_iterator" ∨ty= "str_iterator"):Turn P w K tg (Its x) [it] it (fun i h=>h.IsStrIter it ty x t i) where
 mem:=by simp
 obj:=fun i h st b hb=>by
  have e:b=it:=by simpa using hb
  subst e
  obtain ⟨o,e,c,d⟩:=st
  exact ⟨o,e,fun v z=>by rw [d] at z;cases z⟩
 keep:=fun i h h' st k=>by
  obtain ⟨o,e,c,d⟩:=st
  exact ⟨o,k it (by simp) o e,c,d⟩
 item:=by
  intro X hP hw hK hc i pins s σ H E I hf st hg
  subst hP hw hK
  obtain ⟨f0,f1,f2,f3,f4,f5⟩:=hf it (by simp)
  have hi:i<x.cps.size:=hg
  have hx:x.cps[i]? =some x.cps[i]:=by simp [hi]
  have hx2:x.cps.toList[i]? =some x.cps[i]:=by simp [hi]
  have go:∀h',h'.IsStrIter it ty x t (i+1)->Heap.SameBut it s.heap h'->∃u,(some (Value.str ⟨#[x.cps[i]]⟩ s.toks))=some u/\wpAny (model X.prog X.w) X.A (letOwnedTupleGo tg (.ref it) u) (fun _ s2=>∃v H',Inv X pins σ H' s2/\RelV v u/\(Its x).yld i H v H'/\s2.heap.IsStrIter it ty x t (i+1)/\∀b∈[it],H' b=none) E { s with heap:=h',toks:=s.toks+1 }:=fun h' st' sb=>by
   have I1:Inv X pins σ H { s with heap:=h',toks:=s.toks+1 }:=I.turned (t':=s.toks+1) (fun b o hb e=>(sb.2 b hb).trans e) f0 f1 f3 f4 f5
   obtain ⟨o,e,c,d⟩:=id st'
   refine ⟨_,rfl,W5 (s:={ s with heap:=h',toks:=s.toks+1 }) e c d (by rcases hty with rfl | rfl<;>decide) ⟨.str _,H,I1,⟨_,rfl⟩,⟨rfl,_,hx2,rfl⟩,st',fun b hb=>(hf b hb).1⟩⟩
  rcases hty with rfl | rfl
  ·exact wpAny_pyNext_ascii_item st hx go
  ·exact wpAny_pyNext_wide_item st hx go
 done:=by
  intro X hP hw hK hc i pins s σ H E I hf st hg
  subst hP hw hK
  obtain ⟨f0,f1,f2,f3,f4,f5⟩:=hf it (by simp)
  have hi:x.cps.size<=i:=hg
  have hx:x.cps[i]? =none:=by simp [hi]
  rcases hty with rfl | rfl
  ·exact wpAny_pyNext_ascii_end (I.ok.hd hc) st hx fun h' eb=>⟨rfl,I.turned (t':=s.toks) (fun b o hb e=>eb b o hb e) f0 f1 f3 f4 f5⟩
  ·exact wpAny_pyNext_wide_end (I.ok.hd hc) st hx fun h' eb=>⟨rfl,I.turned (t':=s.toks) (fun b o hb e=>eb b o hb e) f0 f1 f3 f4 f5⟩
 self:=fun _ _ _ _ _ st h=>by
  rcases hty with rfl | rfl
  ·exact wpAny_pyIter_striter_ascii st h
  ·exact wpAny_pyIter_striter_wide st h
section
variable {Y:Cy} {T:Tx} {k:Nat} {N G:List Str} {c:List Slot} {a b e tg:Expr} {es:List Expr} {pos p2 apos:Pos} {d:D} {ds:List D} {x y:Str}
def signs (x:Str):List D:=x.cps.toList.map fun q=> .str ⟨#[q]⟩
theorem xbs (h:EvD Y e c (.str x)):ItD Y tg e c (signs x):=by
 intro pins s σ H R I ⟨F,E,q⟩
 refine thn (h pins s σ H (fun v H1=>v= .str x/\∃F1,Ext F H F1 H1) I ⟨F,E,fun v F1 H1 e1 r1=>⟨xO r1,F1,e1⟩⟩) fun u s1 ⟨v,H1,I1,r1,ev,F1,e1⟩=>?_
 subst ev
 obtain ⟨t,rfl⟩:=r1
 have yl:Yields Y.X.K F1 (Its x) (signs x):=fun i F2 H2 s1 s2=>⟨fun d hd=>by
   unfold signs at hd
   rw [List.getElem?_map] at hd
   cases q:x.cps.toList[i]? with
   | none=>rw [q] at hd;cases hd
   | some z=>
    rw [q] at hd
    cases hd
    have hi:i<x.cps.size:=by have:=(List.getElem?_eq_some_iff.mp q).1;simpa using this
    refine ⟨hi,fun v H' y=>?_⟩
    obtain ⟨rfl,z',hz,rfl⟩:=y
    rw [q] at hz;cases hz
    exact ⟨F2,Ext.refl s2,.str _⟩,fun hl=>by
    unfold signs at hl
    show x.cps.size<=i
    simpa using hl⟩
 have fin:∀ty,ty= "str_ascii_iterator" ∨ty= "str_iterator" ->PIE Y.X pins σ tg R (.ref s1.heap.objs.size) { s1 with heap:=s1.heap.push { cls:= .type ty,data:= .fields #[.str x t,.int 0 0] } }:=fun ty hty=>
  ⟨_,[s1.heap.objs.size],_,_,H1,rfl,I1.kept (t':=s1.toks) fun b o e=>Heap.get?_push_of_some _ e,jK _ x t hty,⟨_,Heap.get?_push_size _ rfl,rfl,rfl⟩,fun b hb=>by
   have e:b=s1.heap.objs.size:=by simpa using hb
   subst e
   exact I1.fpOk (Nat.le_refl _) (I1.hok.fresh (Nat.le_refl _)),q _ F1 H1 e1 yl⟩
 cases ha:x.cps.all (· <128)
 ·exact wpAny_pyIter_wide ha (fin _ (.inr rfl))
 ·exact wpAny_pyIter_ascii ha (fin _ (.inl rfl))
def cutL (l:List Nat) (lo hi:Option Int):List Nat:=(l.drop (HT.sIx l.length 0 lo)).take (HT.sIx l.length l.length hi - HT.sIx l.length 0 lo)
def clipI (n:Nat) (o:Option Int) (d:Int):Int:=match o with
 | none=>d
 | some i=>max 0 (min (if i<0 then i+(n:Int) else i) (n:Int))
theorem Ug (n:Nat) (o:Option Int) (d:Nat):clipI n o (d:Int)=((HT.sIx n d o:Nat):Int):=by
 cases o with
 | none=>rfl
 | some i=>
  show max 0 (min (if i<0 then i+(n:Int) else i) (n:Int))=(((if i<0 then (i+(n:Int)).toNat else min i.toNat n):Nat):Int)
  split<;>omega
theorem uS (a b:Nat):sliceRange (a:Int) (b:Int) 1=(List.range (b - a)).map fun (k:Nat)=>((a:Int)+1*(k:Int)).toNat:=by
 unfold sliceRange
 simp only [show (1:Int)>0 by decide,if_true]
 congr 2
 split<;>omega
theorem Vs (lo hi:Option Int) (n:Nat):strSliceIndices lo hi 1 n=sliceRange (clipI n lo 0) (clipI n hi n) 1:=by
 cases lo<;>cases hi<;>simp [strSliceIndices,clipI]
theorem uv (l:List Nat) (s m:Nat) (h:s+m<=l.length):((List.range m).map fun (k:Nat)=>((s:Int)+1*(k:Int)).toNat).filterMap (l[·]?)=(l.drop s).take m:=by
 rw [List.filterMap_map]
 apply List.ext_getElem?
 intro i
 have e:(fun (k:Nat)=>l[((s:Int)+1*(k:Int)).toNat]?)=fun k=>l[s+k]? :=by
  funext k;congr 1;omega
 have e':((fun x=>l[x]?)∘fun (k:Nat)=>((s:Int)+1*(k:Int)).toNat)=fun k=>l[s+k]? :=e
 rw [e']
 have gen:∀m,s+m<=l.length->(List.range m).filterMap (fun k=>l[s+k]?)=(l.drop s).take m:=by
  intro m
  induction m with
  | zero=>intro _;simp
  | succ m ih=>
   intro hm
   rw [List.range_succ,List.filterMap_append,ih (by omega)]
   have hl:s+m<l.length:=by omega
   have e1:l[s+m]? =some l[s+m]:=List.getElem?_eq_getElem hl
   rw [List.take_add_one,List.getElem?_drop]
   simp [e1]
 rw [gen m h]
theorem jX (x:Str) (lo hi:Option Int):((strSliceIndices lo hi 1 x.length).filterMap (x.cps[·]?))=cutL x.cps.toList lo hi/\(strSliceIndices lo hi 1 x.length).length=(cutL x.cps.toList lo hi).length:=by
 have hn:x.cps.toList.length=x.length:=(xH x).symm
 have h1:HT.sIx x.length 0 lo<=x.length:=HT.sIx_le _ _ (Nat.zero_le _) _
 have h2:HT.sIx x.length x.length hi<=x.length:=HT.sIx_le _ _ (Nat.le_refl _) _
 have e:strSliceIndices lo hi 1 x.length=(List.range (HT.sIx x.length x.length hi - HT.sIx x.length 0 lo)).map fun (k:Nat)=>(((HT.sIx x.length 0 lo:Nat):Int)+1*(k:Int)).toNat:=by
  have c1:=Ug x.length lo 0
  have c2:=Ug x.length hi x.length
  rw [Vs,show (0:Int)=((0:Nat):Int) from rfl,c1,c2,uS]
 rw [e]
 have e2:(fun k:Nat=>x.cps[k]?)=fun k:Nat=>x.cps.toList[k]? :=by funext k;simp
 refine ⟨?_,?_⟩
 ·show List.filterMap (fun k:Nat=>x.cps[k]?) _=_
  rw [e2,uv _ _ _ (by rw [hn];omega)]
  unfold cutL
  rw [hn]
 ·unfold cutL
  rw [hn,List.length_map,List.length_range,List.length_take,List.length_drop,hn]
  omega
theorem jq (l:List Nat) (lo hi:Option Int) (h:(cutL l lo hi).length=l.length):cutL l lo hi=l:=by
 unfold cutL at h ⊢
 have h1:HT.sIx l.length 0 lo<=l.length:=HT.sIx_le _ _ (Nat.zero_le _) _
 rw [List.length_take,List.length_drop] at h
 by_cases h0:HT.sIx l.length 0 lo=0
 ·rw [h0] at h ⊢
  rw [List.drop_zero,List.take_of_length_le (by omega)]
 ·have:l.length=0:=by omega
  rw [List.length_eq_zero_iff] at this
  subst this
  simp
def partOf:Option Int->Tok->Option (Int×Tok)
 | none,_=>none
 | some i,t=>some (i,t)
theorem WX {v:Value} {o:Option Int} (h:IsPart v o):∃t,v=partValue (partOf o t)/\(partOf o t).map (·.1)=o:=by
 cases h with
 | none=>exact ⟨0,rfl,rfl⟩
 | int i t=>exact ⟨t,rfl,rfl⟩
theorem xaS {X:Cx}:SlR X (fun x lo hi H Q=>∃z,x= .str z/\z.length<=sizeLine/\Q (.str (tx (cutL z.cps.toList lo hi))) H):=by
 intro pins s σ H x v vl vu lo hi sl Q I rx hs pl pu h
 obtain ⟨z,rfl,hz,q⟩:=h
 obtain ⟨t,rfl⟩:=rx
 obtain ⟨t1,e1,m1⟩:=WX pl
 obtain ⟨t2,e2,m2⟩:=WX pu
 refine ⟨"str",_,PySem.F.slot_str_getitem.lookup,typeIs_str s z t,?_⟩
 refine wpAny_getItem_str_slice (l:=partOf lo t1) (u:=partOf hi t2) (st:=none) (by subst e1 e2;exact hs) rfl ?_
 have sp:slicePicked z (partOf lo t1) (partOf hi t2) none=strSliceIndices lo hi 1 z.length:=by unfold slicePicked;rw [m1,m2];rfl
 have st:=jX z lo hi
 unfold sliceMade
 rw [sp]
 by_cases hc:((Option.map (fun x:Int×Tok=>x.1) none).getD 1==1 && (strSliceIndices lo hi 1 z.length).length==z.length)=true
 ·rw [if_pos hc]
  have hl:(strSliceIndices lo hi 1 z.length).length=z.length:=by simpa using hc
  have ew:cutL z.cps.toList lo hi=z.cps.toList:=jq _ _ _ (by rw [<-st.2,hl,xH])
  rw [ew,zg] at q
  exact ⟨.str z,H,I,⟨t,rfl⟩,q⟩
 ·rw [if_neg hc,st.1]
  refine ⟨?_,.str _,H,I.tok _,⟨_,rfl⟩,q⟩
  show (tx (cutL z.cps.toList lo hi)).length<=sizeLine
  rw [yL]
  unfold cutL
  rw [List.length_take,List.length_drop]
  have:=xH z
  omega
theorem xcv {e:Expr} {i:Int} (h:EvD Y e c (.int i)):PO Y.X (some e) (fun σ H Q=>∃F,EnvY Y F H σ c/\∀F' H',Ext F H F' H'->Q (some i) H'):=by
 have:=Kt h
 intro pins s σ H Q I ⟨F,E,q⟩
 exact this pins s σ H Q I ⟨F,E,fun v F1 H1 e1 r1=>⟨i,xD r1,q F1 H1 e1⟩⟩
theorem YC {i:Int} (ha:EvD Y a c (.str x)) (hb:EvD Y b c (.int i)) (hz:x.length<=1000000):EvD Y (.Subscript a (.Slice (some b) none none p2) pos) c (.str (tx (cutL x.cps.toList (some i) none))):=
 PE.imp (kE xaS ha (xcv hb) Ku) fun σ H Q ⟨F,E,q⟩=>⟨F,E,fun v F1 H1 e1 r1=>⟨F1,E.grow e1,fun F2 H2 e2=>⟨x,xO r1,xT hz,q _ F2 H2 (e1.trans e2) (.str _)⟩⟩⟩
theorem JF (l:List Nat) (n:Nat):cutL l (some (n:Int)) none=l.drop n:=by
 unfold cutL
 rw [HT.sIx_nat,HT.sIx_none]
 by_cases h:n<=l.length
 ·rw [Nat.min_eq_left h,List.take_of_length_le (by simp)]
 ·rw [Nat.min_eq_right (by omega)]
  simp
  omega
theorem xbN {id:String} {name:Str} {r:V->List V->Hp->VK->Prop} (slot:PySem.Slot "str" name id) (hty:typeOf (.builtin id)=pure (.type "method_descriptor")) (hm:MtR Y.X id r) (ho:EvD Y a c (.str x)) (ha:EvD Y b c (.str y))
  (hr:∀F H Q,Same F H->(∀v F' H',Ext F H F' H'->Rep Y.X.K F' v d->Q v H')->r (.str x) [.str y] H Q)
  (hbase:attributeBase a name Y.X.env (eval a Y.X.env)=eval a Y.X.env:=by rfl) (hfew:((backTo pos (starEach [b] Y.X.env)).all (fun x=> !x.1) && (backToKw pos (keywordEach [] Y.X.env)).all (fun x=>x.1.isSome)
   && decide ([b].length+([]:List Keyword).length+(if ([]:List Keyword).isEmpty then 0 else 1)<30))=true:=by rfl) (hline:(apos.endLine==pos.line)=true:=by rfl) (hs:starEach [b] Y.X.env=(false,eval b Y.X.env)::starEach [] Y.X.env:=by rfl):
  EvD Y (.Call (.Attribute a name apos) [b] [] pos) c d:=
 PE.imp (Yu PySem.F.plainAttrs_str slot hty hm ho (xJ ha yu hs) hbase hfew hline hs rfl) fun σ H Q ⟨F,E,q⟩=>⟨F,E,fun v F1 H1 e1 r1=>by
  cases xO r1
  exact ⟨rfl,F1,E.grow e1,fun w F2 H2 e2 r2=>by
   cases xO r2
   exact hr F2 H2 Q e2.fh fun v' F3 H3 e3 r3=>q v' F3 H3 (e1.trans (e2.trans e3)) r3⟩⟩
theorem jh {cd:Nat} (ho:EvD Y a c (.str x)) (ha:EvD Y b c (.str ⟨#[cd]⟩)) (hbase:attributeBase a "startswith" Y.X.env (eval a Y.X.env)=eval a Y.X.env:=by rfl) (hfew:((backTo pos (starEach [b] Y.X.env)).all (fun x=> !x.1) && (backToKw pos (keywordEach [] Y.X.env)).all (fun x=>x.1.isSome)
   && decide ([b].length+([]:List Keyword).length+(if ([]:List Keyword).isEmpty then 0 else 1)<30))=true:=by rfl) (hline:(apos.endLine==pos.line)=true:=by rfl) (hs:starEach [b] Y.X.env=(false,eval b Y.X.env)::starEach [] Y.X.env:=by rfl):
  EvD Y (.Call (.Attribute a "startswith" apos) [b] [] pos) c (.bl (decide (x.cps.toList[0]? =some cd))):=
 xbN PySem.F.slot_str_startswith PySem.F.type_str_startswith UY ho ha (fun F H Q f q=>⟨_,_,_,rfl,rfl,rfl,by
  have e:(decide (0+(⟨#[cd]⟩:Str).length<=x.length) && subAt x ⟨#[cd]⟩ 0)=decide (x.cps.toList[0]? =some cd):=Ya x cd 0
  rw [e]
  exact q _ F H (Ext.refl f) (.bl _)⟩) hbase hfew hline hs
theorem Ub {cd:Nat} (ho:EvD Y a c (.str x)) (ha:EvD Y b c (.str ⟨#[cd]⟩)) (hz:x.length<=1000000) (hbase:attributeBase a "partition" Y.X.env (eval a Y.X.env)=eval a Y.X.env:=by rfl) (hfew:((backTo pos (starEach [b] Y.X.env)).all (fun x=> !x.1) && (backToKw pos (keywordEach [] Y.X.env)).all (fun x=>x.1.isSome)
   && decide ([b].length+([]:List Keyword).length+(if ([]:List Keyword).isEmpty then 0 else 1)<30))=true:=by rfl) (hline:(apos.endLine==pos.line)=true:=by rfl) (hs:starEach [b] Y.X.env=(false,eval b Y.X.env)::starEach [] Y.X.env:=by rfl):
  EvD Y (.Call (.Attribute a "partition" apos) [b] [] pos) c (.tup [.str (tx (partL cd x.cps.toList).1),.str (tx (partL cd x.cps.toList).2.1),.str (tx (partL cd x.cps.toList).2.2)]):=
 xbN PySem.F.slot_str_partition PySem.F.type_str_partition (Zw (c:=cd)) ho ha (fun F H Q f q=>⟨x,rfl,rfl,xT hz,fun p hp=>q (.ref p) _ _ (Ext.new f hp _) (.tup (SqT.of xp) (.cons (.str _) (.cons (.str _) (.cons (.str _) .nil))))⟩) hbase hfew hline hs
theorem Ys {K:PySem.W.Frag} {F:Hp}:∀l:List (List Nat),Reps K F (l.map fun q=>V.str (tx q)) (l.map fun q=>D.str (tx q))
 | []=> .nil
 | _::r=> .cons (.str _) (Ys r)
theorem Jp {cd:Nat} (ho:EvD Y a c (.str x)) (ha:EvD Y b c (.str ⟨#[cd]⟩)) (hz:x.length+1<=1000000) (hcd:cd<256:=by decide) (hbase:attributeBase a "split" Y.X.env (eval a Y.X.env)=eval a Y.X.env:=by rfl) (hfew:((backTo pos (starEach [b] Y.X.env)).all (fun x=> !x.1) && (backToKw pos (keywordEach [] Y.X.env)).all (fun x=>x.1.isSome)
   && decide ([b].length+([]:List Keyword).length+(if ([]:List Keyword).isEmpty then 0 else 1)<30))=true:=by rfl) (hline:(apos.endLine==pos.line)=true:=by rfl) (hs:starEach [b] Y.X.env=(false,eval b Y.X.env)::starEach [] Y.X.env:=by rfl):
  EvD Y (.Call (.Attribute a "split" apos) [b] [] pos) c (.lst ((splitL cd x.cps.toList).map fun q=> .str (tx q))):=
 xbN PySem.F.slot_str_split PySem.F.type_str_split (kS hcd) ho ha (fun F H Q f q=>⟨x,rfl,rfl,xT hz,fun p hp=>q (.ref p) _ _ (Ext.new f hp _) (.lst (SqL.of xp) (Ys _))⟩) hbase hfew hline hs
def CstS (T:Tx) (x:Str) (z:Str):Prop:=∃t,T.mg x=some (.str z t)
def CstI (T:Tx) (x:Str) (i:Int):Prop:=∃t,T.mg x=some (.int i t)
theorem ZH (S:Sn Y T N G) (gi:Nat) {x z:Str} (h:CstS T x z) (hg:G[gi]? =some x:=by rfl):EvD Y (.Name x pos) c (.str z):=by
 obtain ⟨t,hm⟩:=h
 have gl:=S.gl x (List.mem_of_getElem? hg)
 exact PE.imp (vS (v:= .str z) gl.1 (by rw [S.eM];exact hm) ⟨t,rfl⟩ gl.2.1) fun σ H Q ⟨F,E,q⟩=>q _ F H (Ext.refl E.fh) (.str z)
theorem yW (S:Sn Y T N G) (gi:Nat) {x:Str} {i:Int} (h:CstI T x i) (hg:G[gi]? =some x:=by rfl):EvD Y (.Name x pos) c (.int i):=by
 obtain ⟨t,hm⟩:=h
 have gl:=S.gl x (List.mem_of_getElem? hg)
 exact PE.imp (vS (v:= .int i) gl.1 (by rw [S.eM];exact hm) ⟨t,rfl⟩ gl.2.1) fun σ H Q ⟨F,E,q⟩=>q _ F H (Ext.refl E.fh) (.int i)
end
section
variable {Y:Cy} {T:Tx} {k:Nat} {N G:List Str} {c:List Slot} {a b e tg:Expr} {es:List Expr} {pos p2 apos:Pos} {d:D} {ds:List D} {x y:Str}
inductive JsP (Y:Cy) (c:List Slot):List Expr->Prop
 | nil:JsP Y c []
 | cons {e:Expr} {es:List Expr} {x:Str} (h:EvD Y e c (.str x)) (hx:x.length<=100000) (r:JsP Y c es) (he:evalEach (e::es) Y.X.env=eval e Y.X.env::evalEach es Y.X.env:=by rfl):JsP Y c (e::es)
theorem JsP.run {es:List Expr} (h:JsP Y c es):∀acc:Str,acc.length+100000*es.length<=1000000->∃z,JsD Y es c acc z/\z.length<=1000000:=by
 induction h with
 | nil=>intro acc ha;exact ⟨acc,V6,by simpa using ha⟩
 | cons h hx r he ih=>
  rename_i e es x
  intro acc ha
  have e1:(acc++x).length=acc.length+x.length:=PySem.Str.length_append acc x
  rw [List.length_cons] at ha
  obtain ⟨z,hz,hl⟩:=ih (acc++x) (by omega)
  exact ⟨z,qc h (by omega) hz he,hl⟩
theorem xbz {e1 e2:Expr} (h:JsP Y c (e1::e2::es)) (hn:es.length<=8:=by exact of_decide_eq_true rfl):∃z,EvD Y (.JoinedStr (e1::e2::es) pos) c (.str z):=by
 obtain ⟨z,hz,hl⟩:=h.run Str.empty (by rw [show (Str.empty).length=0 from rfl,List.length_cons,List.length_cons];omega)
 exact ⟨z,Ju hz hl⟩
end
section
variable {Y:Cy} {T:Tx} {k:Nat} {N G:List Str} {c:List Slot} {a b e tg:Expr} {es:List Expr} {pos p p2 cpos jp:Pos} {d:D} {ds xs ys:List D} {x y:Str} {rest:List Stmt} {P:Out->Prop}
theorem wt {e1 e2:Expr} (S:Sc Y T k N G) (gi:Nat) (hC:ClsX T x) (h:JsP Y c (e1::e2::es)) (hz:RzMN Y T x c) (hn:es.length<=8:=by exact of_decide_eq_true rfl) (hg:G[gi]? =some x:=by rfl) (hpl:(backTo cpos (starEach [] Y.X.env)).any (·.1)=false:=by rfl):
  SsD Y (.Raise (some (.Call (.Name x p) [.JoinedStr (e1::e2::es) jp] [] cpos)) none pos::rest) c P:=by
 obtain ⟨z,q⟩:=xbz (pos:=jp) h hn
 exact zh S gi hC (xa q xc) hz (hg:=hg) (hpl:=hpl)
theorem xci (h:EvD Y e c (.lst xs)) (he:xs=ys):EvD Y e c (.lst ys):=he▸h
theorem Wh (h:EvD Y e c (.str x)) (he:x=y):EvD Y e c (.str y):=he▸h
theorem len_str (h:x.length<=1000000):lenD (.str x)=some x.length:=if_pos h
theorem jY {i:Nat} (h:(signs x)[i]? =some d):∃q,x.cps.toList[i]? =some q/\d= .str ⟨#[q]⟩:=by
 unfold signs at h
 rw [List.getElem?_map] at h
 cases q:x.cps.toList[i]? with
 | none=>rw [q] at h;cases h
 | some z=>rw [q] at h;cases h;exact ⟨z,rfl,rfl⟩
theorem Uu:(signs x).length=x.cps.toList.length:=by simp [signs]
end
def NoStar:Expr->Prop
 | .Starred .. =>False
 | _=>True
theorem Us {e:Expr} {es:List Expr} {env:PySem.Env} (h:NoStar e):starEach (e::es) env=(false,eval e env)::starEach es env:=by
 cases e<;>first | rfl | exact h.elim
def lits:List Expr->Option (List Str)
 | []=>some []
 | .Constant (.str x) _ _::es=>(lits es).map (x:: ·)
 | _=>none
theorem wk {Y:Cy} {c:List Slot}:∀{es:List Expr} {xs:List Str},lits es=some xs->ArD Y es c (xs.map D.str)
 | [],xs,h=>by cases h;exact xc
 | .Constant (.str x) j pos::es,xs,h=>by
  have h':(lits es).map (x:: ·)=some xs:=h
  cases q:lits es with
  | none=>rw [q] at h';cases h'
  | some ys=>
   rw [q] at h'
   cases h'
   exact xa xl (wk q) (Us True.intro)
section
variable {Y:Cy} {T:Tx} {k:Nat} {N G:List Str} {c:List Slot} {pos:Pos} {rest:List Stmt} {P:Out->Prop} {d1 d2 f1 f2:D}
end
section
variable {Y:Cy} {T:Tx} {k:Nat} {N G:List Str} {c:List Slot} {a b:Expr} {pos:Pos} {xs:List D} {l:List Int}
end
end DL
set_option maxHeartbeats 4000000
namespace R
open PySem L2 DL
def digs:List Nat:=[48,49,50,51,52,53,54,55,56,57]
theorem QI (q:Nat):q∈digs↔48<=q/\q<=57:=by
 unfold digs
 simp only [List.mem_cons,List.not_mem_nil,or_false]
 omega
def okFig (l:List Nat) (m:Nat):Bool:= !l.isEmpty && (decide (l.length<=m) && (!(decide (l[0]? =some 48) && decide (1<l.length)) && l.all fun q=>decide (q∈digs)))
def dv (l:List Nat):Nat:=l.foldl (fun n q=>n*10+(q - 48)) 0
def figs (l:List Nat) (m:Nat):Option Nat:=if okFig l m=true then some (dv l) else none
def sgn (l:List Nat) (m:Nat):Option Int:=if l[0]? =some 45 then (match figs (l.drop 1) m with
  | some n=>if n=0 then none else some (-(n:Int))
  | none=>none) else (match figs l m with
  | some n=>some (n:Int)
  | none=>none)
def frac (l:List Nat):Option (Int×Int):=match sgn (partL 47 l).1 60 with
 | none=>none
 | some t=>if (partL 47 l).2.1=[] then some (t,1) else match figs (partL 47 l).2.2 60 with
  | none=>none
  | some b=>if (b:Int)<2∨Int.gcd t b≠1 then none else some (t,(b:Int))
theorem zZ (x y:Str):(x==y)=decide (x.cps.toList=y.cps.toList):=by
 by_cases h:x=y
 ·subst h;simp
 ·have h2:¬x.cps.toList=y.cps.toList:=fun z=>h (by rw [<-zg x,<-zg y,z])
  rw [decide_eq_false h2]
  exact beq_eq_false_iff_ne.mpr h
theorem zm {l:List Nat} {m:Nat} (h:okFig l m=true):l≠[]/\l.length<=m/\∀q∈l,48<=q/\q<=57:=by
 unfold okFig at h
 simp only [Bool.and_eq_true,decide_eq_true_eq,List.all_eq_true,Bool.not_eq_true'] at h
 refine ⟨fun z=>?_,h.2.1,fun q hq=>(QI q).mp (h.2.2.2 q hq)⟩
 rw [z] at h
 exact absurd h.1 (by decide)
def nd (n:Nat):List Nat:=(Nat.toDigits 10 n).map Char.toNat
def wr (i:Int):List Nat:=if i<0 then 45::nd i.natAbs else nd i.natAbs
theorem xaE (i:Int):(Str.ofString (toString i)).cps.toList=wr i:=by
 unfold wr
 cases i with
 | ofNat n=>
  have h:¬(Int.ofNat n<0):=Int.not_lt.mpr (Int.natCast_nonneg n)
  rw [if_neg h]
  exact PySem.W.KIN.signs_num n
 | negSucc n=>
  have h:Int.negSucc n<0:=Int.negSucc_lt_zero n
  rw [if_pos h,PyProof.Rows.signs_ofString]
  show (("-" ++Nat.repr (n+1):String)).toList.map Char.toNat=45::nd (n+1)
  unfold nd
  rw [String.toList_append,List.map_append,Nat.toList_repr]
  rfl
theorem xbh (n:Nat):dv (nd n)=n:=PySem.W.KIN.val_back n
theorem XC (n:Nat):∀q∈nd n,48<=q/\q<=57:=by
 intro q hq
 obtain ⟨ch,hch,e⟩:=List.mem_map.mp hq
 have r:=PyProof.Rows.digit_range (Nat.isDigit_of_mem_toDigits (by decide) (by decide) hch)
 rw [<-e]
 exact r
theorem qF {n:Nat} (h:n<10):nd n=[n+48]:=by
 unfold nd
 rw [Nat.toDigits_of_lt_base h]
 rcases (show n=0∨n=1∨n=2∨n=3∨n=4∨n=5∨n=6∨n=7∨n=8∨n=9 by omega) with rfl | rfl | rfl | rfl | rfl | rfl | rfl | rfl | rfl | rfl<;>rfl
theorem W0 {n:Nat} (h:10<=n):nd n=nd (n / 10)++ [n%10+48]:=by
 have hm:n%10<10:=Nat.mod_lt n (by decide)
 have t:Nat.toDigits 10 (n / 10)++Nat.toDigits 10 (n%10)=Nat.toDigits 10 (10*(n / 10)+n%10):=Nat.toDigits_append_toDigits (by decide) (by omega) hm
 rw [Nat.div_add_mod] at t
 have e:=qF hm
 unfold nd at e ⊢
 rw [<-t,List.map_append,e]
theorem XB:∀(k n:Nat),n<10^(k+1)->1<=(nd n).length/\(nd n).length<=k+1:=by
 intro k
 induction k with
 | zero=>intro n h;rw [qF (by simpa using h)];simp
 | succ k ih=>
  intro n h
  by_cases hn:n<10
  ·rw [qF hn];simp
  ·rw [W0 (by omega)]
   have:=ih (n / 10) (by rw [Nat.div_lt_iff_lt_mul (by decide)];rw [Nat.pow_succ] at h;exact h)
   simp;omega
theorem KH:∀n:Nat,0<n->∃a r,nd n=a::r/\a≠48:=by
 intro n
 induction n using Nat.strongRecOn with
 | _ n ih=>
  intro h0
  by_cases hn:n<10
  ·rw [qF hn];exact ⟨_,_,rfl,by omega⟩
  ·obtain ⟨a,r,e,ha⟩:=ih (n / 10) (by omega) (by omega)
   rw [W0 (by omega),e]
   exact ⟨a,_,rfl,ha⟩
theorem xb5 {n m:Nat} (h:n<10^(m+1)):okFig (nd n) (m+1)=true:=by
 have hl:=XB m n h
 unfold okFig
 simp only [Bool.and_eq_true,decide_eq_true_eq,List.all_eq_true,Bool.not_eq_true']
 refine ⟨?_,hl.2,?_,fun q hq=>(QI q).mpr (XC n q hq)⟩
 ·cases q:nd n with
  | nil=>rw [q] at hl;simp at hl
  | cons _ _=>rfl
 ·by_cases h0:n=0
  ·subst h0;rw [qF (by decide)];rfl
  ·obtain ⟨a,r,e,ha⟩:=KH n (by omega)
   rw [e];simp [ha]
theorem ZC {n m:Nat} (h:n<10^(m+1)):figs (nd n) (m+1)=some n:=by unfold figs;rw [if_pos (xb5 h),xbh]
theorem Yx {n c:Nat} (h:c<48∨57<c):c∉nd n:=fun z=>by have:=XC n c z;omega
theorem Vt {i:Int} {m:Nat} (h:i.natAbs<10^(m+1)):sgn (wr i) (m+1)=some i:=by
 unfold wr sgn
 by_cases hi:i<0
 ·rw [if_pos hi,if_pos (by rfl)]
  have e:(45::nd i.natAbs).drop 1=nd i.natAbs:=rfl
  rw [e,ZC h]
  have:i.natAbs≠0:=by omega
  simp only [if_neg this]
  congr 1;omega
 ·rw [if_neg hi,if_neg,ZC h]
  ·simp;omega
  ·intro z
   have:45∈nd i.natAbs:=List.mem_of_getElem? z
   exact Yx (.inl (by decide)) this
theorem xap {i:Int}:47∉wr i:=by
 unfold wr
 split
 ·intro z
  rcases List.mem_cons.mp z with h | h
  ·cases h
  ·exact Yx (.inl (by decide)) h
 ·exact Yx (.inl (by decide))
theorem ZA {c:Nat}:∀{l r:List Nat},c∉l->idx c (l++c::r)=l.length::(idx c r).map (· +(l.length+1))
 | [],r,_=>by
  rw [List.nil_append,show idx c (c::r)=if c=c then 0::(idx c r).map (· +1) else (idx c r).map (· +1) from rfl,if_pos rfl]
  simp
 | a::l,r,h=>by
  simp only [List.mem_cons,not_or] at h
  have ih:=ZA (r:=r) h.2
  rw [List.cons_append,show idx c (a::(l++c::r))=if a=c then 0::(idx c (l++c::r)).map (· +1) else (idx c (l++c::r)).map (· +1) from rfl,if_neg (fun z=>h.1 z.symm),ih]
  simp
  intro x _
  omega
theorem Wf {i:Int} (h:i.natAbs<10^60):frac (wr i)=some (i,1):=by
 unfold frac partL
 rw [(Zx 47 _).mpr xap]
 simp only [Vt (m:=59) h,if_true]
theorem Jm {i:Int} {b:Nat} (h:i.natAbs<10^60) (hb:b<10^60) (h2:2<=b) (hg:Int.gcd i b=1):frac (wr i++47::nd b)=some (i,(b:Int)):=by
 unfold frac partL
 rw [ZA xap]
 simp only [List.take_left,Vt (m:=59) h]
 rw [if_neg (by simp)]
 have e:(wr i++47::nd b).drop ((wr i).length+1)=nd b:=by
  rw [<-List.drop_drop,List.drop_left];rfl
 rw [e,ZC (m:=59) hb]
 simp only
 rw [if_neg]
 intro z
 rcases z with z | z
 ·omega
 ·exact z hg
theorem yD {i:Int} {k:Nat} (h:i.natAbs<10^(k+1)):(wr i).length<=k+2:=by
 have:=XB k i.natAbs h
 unfold wr
 split<;>simp<;>omega
theorem Ve (i:Int):∀q∈wr i,q<128:=by
 intro q hq
 unfold wr at hq
 split at hq
 ·rcases List.mem_cons.mp hq with rfl | h
  ·decide
  ·have:=XC _ q h;omega
 ·have:=XC _ q hq;omega
def Tl (l:List Nat):Prop:=l.length<=3000/\∀q∈l,q<128
theorem Tl.sub {l r:List Nat} (h:Tl l) (s:r.Sublist l):Tl r:=⟨Nat.le_trans s.length_le h.1,fun q hq=>h.2 q (s.subset hq)⟩
theorem Tl.len {x:Str} (h:Tl x.cps.toList):x.length<=3000:=by rw [xH];exact h.1
theorem Tl.tx {l:List Nat} (h:Tl l):Tl (tx l).cps.toList:=by rw [xu];exact h
theorem Tl.part {l:List Nat} (h:Tl l) (c:Nat):Tl (partL c l).1/\Tl (partL c l).2.2:=by
 unfold partL
 cases idx c l with
 | nil=>exact ⟨h,by simp [Tl]⟩
 | cons i t=>exact ⟨h.sub (List.take_sublist _ _),h.sub (List.drop_sublist _ _)⟩
theorem okf1 {x:Str} {m:Nat} (h:(x==("" :Str) || decide ((m:Int)<(x.length:Int)))=true):okFig x.cps.toList m=false:=by
 rw [zZ,xH] at h
 unfold okFig
 have e0:("" :Str).cps.toList=[]:=by rfl
 rw [e0] at h
 rcases Bool.or_eq_true_iff.mp h with h | h
 ·have:x.cps.toList=[]:=by simpa using h
  rw [this];rfl
 ·have:m<x.cps.toList.length:=by simpa using h
  rw [decide_eq_false (show ¬x.cps.toList.length<=m by omega)]
  simp
theorem okf2 {x:Str} {m:Nat} (h:(x==("" :Str) || decide ((m:Int)<(x.length:Int)))=false):∃a r,x.cps.toList=a::r/\x.cps.toList.length<=m:=by
 rw [zZ,xH] at h
 have e0:("" :Str).cps.toList=[]:=by rfl
 rw [e0] at h
 obtain ⟨h1,h2⟩:=Bool.or_eq_false_iff.mp h
 have h1:¬x.cps.toList=[]:=by simpa using h1
 have h2:x.cps.toList.length<=m:=by simpa using h2
 cases q:x.cps.toList with
 | nil=>exact absurd q h1
 | cons a r=>exact ⟨a,r,rfl,by rw [<-q];exact h2⟩
theorem okf3 {x:Str} {a:Nat} {r:List Nat} (hx:x.cps.toList=a::r):(((⟨#[a]⟩:Str)==("0" :Str)) && !(x==("0" :Str)))=(decide (x.cps.toList[0]? =some 48) && decide (1<x.cps.toList.length)):=by
 rw [zZ,zZ]
 have e0:("0" :Str).cps.toList=[48]:=by rfl
 rw [e0,hx]
 by_cases h:a=48
 ·subst h
  cases r<;>simp
 ·simp [h]
def rsO {α:Type} (o:Option α) (f:α->D) (y:Str):Rs:=match o with
 | some a=> .ok (f a)
 | none=> .ex y
theorem XH {x:Str} {m n:Nat} (hm:m<=600) (h:figs x.cps.toList m=some n):PySem.intText? x=some (n:Int):=by
 unfold figs at h
 split at h
 ·rename_i k
  cases h
  have o:=zm k
  exact PySem.intText_digits o.2.2 o.1 (by rw [xH];omega)
 ·cases h
theorem xaD:∀(l:List Nat),(∀q∈l,48<=q/\q<=57)->∀a:Nat,l.foldl (fun n q=>n*10+(q - 48)) a<(a+1)*10^l.length
 | [],_,a=>by simp
 | q::r,h,a=>by
  have hq:=h q (by simp)
  have ih:=xaD r (fun z hz=>h z (List.mem_cons_of_mem _ hz)) (a*10+(q - 48))
  rw [List.foldl_cons,List.length_cons,Nat.pow_succ,Nat.mul_comm (10^r.length) 10,<-Nat.mul_assoc]
  refine Nat.lt_of_lt_of_le ih (Nat.mul_le_mul_right _ ?_)
  omega
theorem ZD {l:List Nat} {m n:Nat} (h:figs l m=some n):n<10^m:=by
 unfold figs at h
 split at h
 ·rename_i k
  cases h
  have o:=zm k
  have:=xaD l o.2.2 0
  rw [Nat.zero_add,Nat.one_mul] at this
  exact Nat.lt_of_lt_of_le this (Nat.pow_le_pow_right (by decide) o.2.1)
 ·cases h
theorem jZ {l:List Nat} {m:Nat} {t:Int} (h:sgn l m=some t):t.natAbs<10^m:=by
 unfold sgn at h
 split at h
 ·split at h
  ·rename_i n q
   split at h
   ·cases h
   ·cases h
    have:=ZD q
    omega
  ·cases h
 ·split at h
  ·rename_i n q
   cases h
   have:=ZD q
   omega
  ·cases h
theorem Vd {i:Int} {c:Nat} (h1:c≠45) (h2:c<48∨57<c):c∉wr i:=by
 unfold wr
 split
 ·intro z
  rcases List.mem_cons.mp z with h | h
  ·exact h1 h
  ·exact Yx h2 h
 ·exact Yx h2
theorem kI {c:Nat} {l r:List Nat} (h:c∉l):partL c (l++c::r)=(l,[c],r):=by
 unfold partL
 rw [ZA h]
 simp only [List.take_left]
 rw [<-List.drop_drop,List.drop_left]
 rfl
end R
namespace DL
open PySem L2
def bits (a:Int):Nat:=Builtin.Int.intBits a
theorem xac (a:Int):a.natAbs<2^bits a:=intBits_le_iff.mp (Nat.le_refl _)
theorem xad {n:Nat} {a:Int} (h:Bd n a):bits a<=n:=ZT h
theorem U2 {X:Cx}:MtR X "int.bit_length" (fun x xs H Q=>∃i,x= .int i/\xs=[]/\Q (.int ((bits i:Nat):Int)) H):=by
 intro pins s σ H x xs v us Q I rx r h
 obtain ⟨i,rfl,rfl,q⟩:=h
 obtain ⟨t,rfl⟩:=rx
 cases r
 exact call_gives PySem.F.slot_int_bit_length (typeIs_int s i t) PySem.F.entry_int_bit_length (PySem.F.args_int_bit_length_1 _) (PySem.AutoIntG2.int_bit_length_int_0 i t) ⟨.int _,H,I.tok _,⟨_,rfl⟩,q⟩
section
variable {Y:Cy} {c:List Slot} {a:Expr} {pos apos:Pos}
theorem jk {i:Int} (ho:EvD Y a c (.int i)) (hbase:attributeBase a "bit_length" Y.X.env (eval a Y.X.env)=eval a Y.X.env:=by rfl) (hline:(apos.endLine==pos.line)=true:=by rfl):EvD Y (.Call (.Attribute a "bit_length" apos) [] [] pos) c (.int ((bits i:Nat):Int)):=
 PE.imp (Zm PySem.F.plainAttrs_int PySem.F.slot_int_bit_length PySem.F.type_int_bit_length U2 ho hbase hline) fun σ H Q ⟨F,E,q⟩=>⟨F,E,fun v F1 H1 e1 r1=>by
  cases xD r1
  exact ⟨rfl,i,rfl,rfl,q _ F1 H1 e1 (.int _)⟩⟩
end
section
variable {Y:Cy} {T:Tx} {k:Nat} {N G:List Str} {c:List Slot} {a b:Expr} {pos apos:Pos} {d:D} {ds:List D}
def eqT93:Value->Bool
 | .bool a=>a==true
 | _=>false
theorem YT:∀{bs:List Bool} {its:List Value},Vals (bs.map V.bl) its->its=bs.map Value.bool
 | [],_,.nil=>rfl
 | b::bs,_,.cons r rs=>by rw [YT rs];rw [show _=Value.bool b from r];rfl
theorem wz {K:PySem.W.Frag} {F:Hp}:∀{bs:List Bool} {vs:List V},Reps K F vs (bs.map D.bl)->vs=bs.map V.bl
 | [],_,.nil=>rfl
 | b::bs,_,.cons r rs=>by rw [wz rs,y6 r];rfl
theorem Q3:∀bs:List Bool,(bs.map Value.bool).countP eqT93=bs.count true
 | []=>rfl
 | b::bs=>by
  have:=Q3 bs
  cases b
  ·simpa [eqT93] using this
  ·simp [eqT93,this]
theorem U1 {X:Cx}:MtR X "list.count" (fun x vs H Q=>∃(p:Addr) (bs:List Bool),x= .ref p/\vs=[.bl true]/\SqL X.K H p (bs.map V.bl)/\Q (.int (bs.count true:Nat)) H):=by
 intro pins s σ H x xs v us Q I rx r h
 obtain ⟨p,bs,rfl,rfl,hq,q⟩:=h
 cases rx
 obtain ⟨u,rfl,hu⟩:=vals1 r
 cases (show u=Value.bool true from hu)
 obtain ⟨its,r',pl,hz⟩:=I.list hq
 have e:=YT r'
 subst e
 obtain ⟨o,ho,hc,n,hd⟩:=pl.isList
 obtain ⟨oc,od,odt,osl⟩:=o
 have hc:oc= .type "list" :=hc
 have hd:odt= .seq (bs.map Value.bool).toArray n:=hd
 subst hc
 subst hd
 refine call_meets PySem.F.slot_list_count ⟨_,ho,rfl⟩ PySem.F.entry_list_count (PySem.F.args_list_count_2 _ _)
  (SeqAt.list_countAt p (bs.map Value.bool).toArray n od osl (.bool true) eqT93) ⟨ho,?_,?_⟩
 ·intro y hy
  obtain ⟨b,_,rfl⟩:=List.mem_map.mp (show y∈bs.map Value.bool by simpa using hy)
  exact SeqAt.EqAt.bool_bool _ _
 ·have e:(bs.map Value.bool).toArray.toList.countP eqT93=bs.count true:=by simpa using Q3 bs
  rw [e]
  exact ⟨.int _,H,I.tok _,⟨_,rfl⟩,q⟩
theorem U0 {X:Cx}:MtR X "list.index" (fun x vs H Q=>∃(p:Addr) (bs:List Bool) (j:Nat),x= .ref p/\vs=[.bl true]/\SqL X.K H p (bs.map V.bl)/\bs[j]? =some true/\(∀m,m<j->bs[m]?≠some true)/\Q (.int (j:Nat)) H):=by
 intro pins s σ H x xs v us Q I rx r h
 obtain ⟨p,bs,j,rfl,rfl,hq,hj,hno,q⟩:=h
 cases rx
 obtain ⟨u,rfl,hu⟩:=vals1 r
 cases (show u=Value.bool true from hu)
 obtain ⟨its,r',pl,hz⟩:=I.list hq
 have e:=YT r'
 subst e
 obtain ⟨o,ho,hc,n,hd⟩:=pl.isList
 obtain ⟨oc,od,odt,osl⟩:=o
 have hc:oc= .type "list" :=hc
 have hd:odt= .seq (bs.map Value.bool).toArray n:=hd
 subst hc
 subst hd
 rw [sizeLine_eq] at hz
 have jl:j<bs.length:=(List.getElem?_eq_some_iff.mp hj).1
 have hz:bs.length<=16777216:=by simpa using hz
 refine call_meets PySem.F.slot_list_index ⟨_,ho,rfl⟩ PySem.F.entry_list_index (PySem.F.args_list_index_2 _ _)
  (SeqAt.list_indexAt p (bs.map Value.bool).toArray n od osl (.bool true) eqT93 j (by simpa using jl) (by omega) ?_ ?_) ⟨ho,?_,⟨.int _,H,I.tok _,⟨_,rfl⟩,q⟩⟩
 ·have hj':=(List.getElem?_eq_some_iff.mp hj).2
  simp [eqT93,hj']
 ·intro m hm hlt
  have hm':m<bs.length:=by simpa using hm
  have:=hno m hlt
  rw [List.getElem?_eq_getElem hm'] at this
  cases hb:bs[m] with
  | true=>rw [hb] at this;exact absurd rfl this
  | false=>simp [eqT93,hb]
 ·intro y hy
  obtain ⟨b,_,rfl⟩:=List.mem_map.mp (show y∈bs.map Value.bool by simpa using hy)
  exact SeqAt.EqAt.bool_bool _ _
theorem wR {bs:List Bool} (ho:EvD Y a c (.lst (bs.map D.bl))) (ha:EvD Y b c (.bl true))
  (hbase:attributeBase a "count" Y.X.env (eval a Y.X.env)=eval a Y.X.env:=by rfl) (hfew:((backTo pos (starEach [b] Y.X.env)).all (fun x=> !x.1) && (backToKw pos (keywordEach [] Y.X.env)).all (fun x=>x.1.isSome)
   && decide ([b].length+([]:List Keyword).length+(if ([]:List Keyword).isEmpty then 0 else 1)<30))=true:=by rfl) (hline:(apos.endLine==pos.line)=true:=by rfl) (hs:starEach [b] Y.X.env=(false,eval b Y.X.env)::starEach [] Y.X.env:=by rfl):
  EvD Y (.Call (.Attribute a "count" apos) [b] [] pos) c (.int ((bs.count true:Nat):Int)):=
 PE.imp (Yu PySem.F.plainAttrs_list PySem.F.slot_list_count PySem.F.type_list_count U1 ho (xJ ha yu hs) hbase hfew hline hs rfl) fun σ H Q ⟨F,E,q⟩=>⟨F,E,fun v F1 H1 e1 r1=>by
  obtain ⟨p,vs,rfl,hp,rs⟩:=yV r1
  refine ⟨.inl ⟨rfl,vs,e1.fh.seq hp⟩,F1,E.grow e1,fun w F2 H2 e2 r2=>?_⟩
  cases y6 r2
  have e:=wz rs
  subst e
  exact ⟨p,bs,rfl,rfl,e2.fh.seq (e2.ff.seq hp),q _ F2 H2 (e1.trans e2) (.int _)⟩⟩
theorem wQ {bs:List Bool} {j:Nat} (ho:EvD Y a c (.lst (bs.map D.bl))) (ha:EvD Y b c (.bl true)) (hj:bs[j]? =some true) (hno:∀m,m<j->bs[m]?≠some true)
  (hbase:attributeBase a "index" Y.X.env (eval a Y.X.env)=eval a Y.X.env:=by rfl) (hfew:((backTo pos (starEach [b] Y.X.env)).all (fun x=> !x.1) && (backToKw pos (keywordEach [] Y.X.env)).all (fun x=>x.1.isSome)
   && decide ([b].length+([]:List Keyword).length+(if ([]:List Keyword).isEmpty then 0 else 1)<30))=true:=by rfl) (hline:(apos.endLine==pos.line)=true:=by rfl) (hs:starEach [b] Y.X.env=(false,eval b Y.X.env)::starEach [] Y.X.env:=by rfl):
  EvD Y (.Call (.Attribute a "index" apos) [b] [] pos) c (.int ((j:Nat):Int)):=
 PE.imp (Yu PySem.F.plainAttrs_list PySem.F.slot_list_index PySem.F.type_list_index U0 ho (xJ ha yu hs) hbase hfew hline hs rfl) fun σ H Q ⟨F,E,q⟩=>⟨F,E,fun v F1 H1 e1 r1=>by
  obtain ⟨p,vs,rfl,hp,rs⟩:=yV r1
  refine ⟨.inl ⟨rfl,vs,e1.fh.seq hp⟩,F1,E.grow e1,fun w F2 H2 e2 r2=>?_⟩
  cases y6 r2
  have e:=wz rs
  subst e
  exact ⟨p,bs,j,rfl,rfl,e2.fh.seq (e2.ff.seq hp),hj,hno,q _ F2 H2 (e1.trans e2) (.int _)⟩⟩
end
end DL
namespace DL
open PySem L2 PySem.Builtin PySem.Builtin.Str
def wordsS (a:Str):List Str:=if (spaceWords a (a.length+1)==[(0,a.length)])=true then [a] else wordsOf a
theorem UZ {X:Cx}:MtR X "str.split" (fun x vs H Q=>∃a,x= .str a/\vs=[]/\a.length<=sizeLine/\(spaceWords a (a.length+1)).length<=sizeLine/\∀p,H p=none->Q (.ref p) (upd H p (.lst ((wordsS a).map V.str)))):=by
 intro pins s σ H x xs v us Q I rx r h
 obtain ⟨a,rfl,rfl,hz,hn,q⟩:=h
 obtain ⟨t,rfl⟩:=rx
 cases r
 have q':=q s.heap.objs.size I.fresh
 refine call_meets PySem.F.slot_str_split (typeIs_str s a t) PySem.F.entry_str_split (PySem.F.args_str_split_1 _) (meets_str_split_space a t hz hn) ?_
 unfold wordsS at q'
 by_cases e:(spaceWords a (a.length+1)==[(0,a.length)])=true
 ·rw [if_pos e] at q' ⊢
  refine ⟨.ref _,_,I.laid (t':=s.toks) (a:=s.heap.objs.size) (o:= .lst _) (fun b o z=>Heap.get?_push_of_some _ z) (Nat.le_refl _) ?_,rfl,q'⟩
  exact ⟨of_decide_eq_true rfl,[.str a t],0,.cons ⟨_,rfl⟩ .nil,Heap.get?_push_size _ rfl⟩
 ·rw [if_neg e] at q' ⊢
  refine ⟨.ref _,_,I.laid (a:=s.heap.objs.size) (o:= .lst _) (fun b o z=>Heap.get?_push_of_some _ z) (Nat.le_refl _) ?_,rfl,q'⟩
  refine ⟨by rw [List.length_map];unfold wordsOf;rw [List.length_map];exact hn,strsFrom s.toks (wordsOf a),0,wo s.toks (wordsOf a),Heap.get?_push_size _ rfl⟩
section
variable {Y:Cy} {T:Tx} {k:Nat} {N G:List Str} {c:List Slot} {a b:Expr} {pos apos:Pos} {x:Str}
theorem Xm {K:PySem.W.Frag} {F:Hp}:∀ws:List Str,Reps K F (ws.map V.str) (ws.map D.str)
 | []=> .nil
 | w::r=> .cons (.str w) (Xm r)
theorem ji (ho:EvD Y a c (.str x)) (hz:x.length<=1000000) (hn:(spaceWords x (x.length+1)).length<=1000000) (hbase:attributeBase a "split" Y.X.env (eval a Y.X.env)=eval a Y.X.env:=by rfl) (hline:(apos.endLine==pos.line)=true:=by rfl):
  EvD Y (.Call (.Attribute a "split" apos) [] [] pos) c (.lst ((wordsS x).map D.str)):=
 PE.imp (Zm PySem.F.plainAttrs_str PySem.F.slot_str_split PySem.F.type_str_split UZ ho hbase hline) fun σ H Q ⟨F,E,q⟩=>⟨F,E,fun v F1 H1 e1 r1=>by
  cases xO r1
  exact ⟨rfl,x,rfl,rfl,xT hz,xT hn,fun p hp=>q (.ref p) _ _ (e1.trans (Ext.new e1.fh hp _)) (.lst (SqL.of xp) (Xm _))⟩⟩
end
end DL
namespace DL
open PySem L2
def isDsk:Slot->Bool
 | .dsk _ _ _ _ _ _=>true
 | _=>false
def rmD (H:Hp) (a l:Addr):Hp:=fun b=>if b=a∨b=l then none else H b
section
variable {K:PySem.W.Frag} {F₀ H₀ F H F' H':Hp} {σ:St} {c:List Slot} {i:Nat} {a l C b:Addr} {p s p' s':D} {past past':List D} {o:HO}
theorem yE (h:H b=some o) (ha:b≠a) (hl:b≠l):rmD H a l b=some o:=by
 unfold rmD
 rw [if_neg (fun z=>z.elim ha hl)]
 exact h
theorem z6 (h:rmD H a l b=some o):b≠a/\b≠l/\H b=some o:=by
 unfold rmD at h
 by_cases e:b=a∨b=l
 ·rw [if_pos e] at h;cases h
 ·rw [if_neg e] at h
  exact ⟨fun z=>e (.inl z),fun z=>e (.inr z),h⟩
theorem Qu:rmD H a l a=none:=by unfold rmD;rw [if_pos (.inl rfl)]
theorem xas:rmD H a l l=none:=by unfold rmD;rw [if_pos (.inr rfl)]
theorem KJ {dx:Option Addr} {vs:List V} (h:∃h,LstAt l vs h) (e:HO.ext (LstAt l vs)=HO.ext (ExcAt C dx l)):False:=by
 obtain ⟨h,t⟩:=h
 have e2:LstAt l vs=ExcAt C dx l:=by injection e
 have t2:ExcAt C dx l h:=by rw [<-e2];exact t
 obtain ⟨_,its,n,_,g1⟩:=t
 obtain ⟨o,ws,g2,_,g3,_⟩:=t2
 rw [g1] at g2
 cases g2
 cases g3
theorem JB:∀{c:List Slot} {i:Nat},slot c i= .dsk a l C p s past->i<c.length
 | [],_,h=>by cases h
 | _::_,0,_=>by simp
 | _::r,i+1,h=>by simpa using JB (c:=r) (i:=i) h
theorem Env.dsk_at (E:Env K F₀ H₀ F H σ c) (hs:slot c i= .dsk a l C p s past):σ[i]? =some (some (.ref a))/\DskOk K H₀ F H a l C p s past:=by
 have q:=E.sl i
 rw [hs] at q
 exact q
theorem Env.dsk_to (E:Env K F₀ H₀ F H σ c) (hs:slot c i= .dsk a l C p s past) (hno:∀j,j≠i->isDsk (slot c j)=false) (x:Ext F (rmD H a l) F' (rmD H' a l)) (hd:DskOk K H₀ F' H' a l C p' s' past'):
  Env K F₀ H₀ F' H' σ (put c i (.dsk a l C p' s' past')):=by
 obtain ⟨hσ,dx,vs,u,v,ha,hl,hw,fa,fl,h0a,h0l,_⟩:=E.dsk_at hs
 have hv:∀b o,H b=some o->b≠a->b≠l->H' b=some o:=fun b o h na nl=>(z6 (x.hh b o (yE h na nl))).2.2
 have fn:∀b o,H b=some o->b≠a->b≠l->F b=none->F' b=none:=fun b o h na nl hf=>x.fr b (by rw [yE h na nl];exact fun z=>nomatch z) hf
 have ap:∀b o,H b=some o->NotDsk b o->b≠a/\b≠l:=fun b o h n=>⟨fun z=>(by subst z;rw [ha] at h;cases h;exact n.1 _ _ _ rfl),fun z=>(by subst z;rw [hl] at h;cases h;exact n.2 _ rfl)⟩
 refine ⟨⟨E.ext.ff.trans x.ff,fun b o q=>(z6 (x.fh b o q)).2.2,fun b o q=>?_,fun b hb fb=>?_⟩,by rw [ya];exact E.len,fun j=>?_,fun j k b h1 h2 h3 h4=>?_⟩
 ·exact hv b o (E.ext.hh b o q) (fun z=>by rw [z,h0a] at q;cases q) (fun z=>by rw [z,h0l] at q;cases q)
 ·cases q:H₀ b with
  | none=>exact absurd q hb
  | some o=>exact fn b o (E.ext.hh b o q) (fun z=>by rw [z,h0a] at q;cases q) (fun z=>by rw [z,h0l] at q;cases q) (E.ext.fr b hb fb)
 ·by_cases e:i=j
  ·subst e
   rw [xY _ _ _ (JB hs)]
   exact ⟨hσ,hd⟩
  ·rw [xq _ _ _ _ e]
   have q:=E.sl j
   cases hj:slot c j with
   | un=>trivial
   | val d=>rw [hj] at q;obtain ⟨y,h,r⟩:=q;exact ⟨y,h,r.mono x.ff⟩
   | own ds=>
    rw [hj] at q
    obtain ⟨b,us,h,g1,g2,g3,r⟩:=q
    have ⟨n1,n2⟩:=ap b _ g1 Zu
    exact ⟨b,us,h,hv b _ g1 n1 n2,fn b _ g1 n1 n2 g2,g3,r.mono x.ff⟩
   | dic ds=>
    rw [hj] at q
    obtain ⟨b,us,h,g1,g2,g3,r⟩:=q
    have ⟨n1,n2⟩:=ap b _ g1 xb7
    exact ⟨b,us,h,hv b _ g1 n1 n2,fn b _ g1 n1 n2 g2,g3,r.mono x.ff⟩
   | thg t=>
    rw [hj] at q
    obtain ⟨b,us,h,g1,g2,g3,r⟩:=q
    have ⟨n1,n2⟩:=ap b _ g1 r.2
    exact ⟨b,us,h,hv b _ g1 n1 n2,fn b _ g1 n1 n2 g2,g3,r.mono x.ff⟩
   | bor t=>rw [hj] at q;obtain ⟨b,o,h,g1,r⟩:=q;exact ⟨b,o,h,g1,r.mono x.ff⟩
   | fnv f=>rw [hj] at q;exact q
   | dsk a' l' C' p' s' past'=>have:=hno j (Ne.symm e);rw [hj] at this;cases this
   | exc C dx=>
    rw [hj] at q
    obtain ⟨b,h,g1⟩:=q
    refine ⟨b,h,hv b _ g1 (fun z=>by subst z;rw [ha] at g1;cases g1) (fun z=>?_)⟩
    subst z
    rw [hl] at g1
    exact KJ hw (by injection g1)
 ·have own:∀m,isOwn (slot (put c i (.dsk a l C p' s' past')) m)=true->isOwn (slot c m)=true:=fun m hm=>by
   by_cases e:i=m
   ·subst e;rw [hs];rfl
   ·rw [xq _ _ _ _ e] at hm;exact hm
  exact E.inj j k b (own j h1) (own k h2) h3 h4
end
section
variable {X:Cx} {pins:List (Addr×Obj)} {σ:St} {H:Hp} {s:Shared} {l:Addr} {vs:List V} {e:Expr} {t:TE}
theorem _root_.L2.Inv.unl (I:Inv X pins σ H s) (h:H l=some (.ext (LstAt l vs))):Inv X pins σ (upd H l (.lst vs)) s:=by
 obtain ⟨hl,⟨o,ho⟩,_⟩:=I.hok l _ h
 exact I.write (h':=s.heap) (t':=s.toks) (by rw [h];trivial) (.inl rfl) (fun _ _ _ q=>q) ⟨o,ho⟩ hl
theorem _root_.L2.Inv.lstx (I:Inv X pins σ H s) (h:H l=some (.lst vs)):Inv X pins σ (upd H l (.ext (LstAt l vs))) s/\LstAt l vs s.heap:=by
 have hl:LstAt l vs s.heap:=I.hok l _ h
 have ho:∃o,s.heap.get? l=some o:=by obtain ⟨_,its,n,_,e⟩:=hl;exact ⟨_,e⟩
 refine ⟨I.write (h':=s.heap) (t':=s.toks) (by rw [h];trivial) (.inl rfl) (fun _ _ _ q=>q) ho ⟨hl,ho,fun h1 h2 g k=>?_⟩,hl⟩
 obtain ⟨h0,its,n,g1,g2⟩:=g
 exact ⟨h0,its,n,g1,k _ g2⟩
theorem PE.unl (h:PE X e t):PE X e (fun σ H Q=>∃l vs,H l=some (.ext (LstAt l vs))/\t σ (upd H l (.lst vs)) (fun v H'=>∃vs',H' l=some (.lst vs')/\((∃h,LstAt l vs' h)->Q v (upd H' l (.ext (LstAt l vs')))))):=by
 intro pins s σ H Q I ⟨l,vs,hl,q⟩
 refine thn (h pins s σ _ _ (I.unl hl) q) fun u s1 ⟨v,H',I',rv,vs',h',q'⟩=>?_
 have J:=I'.lstx h'
 exact ⟨v,_,J.1,rv,q' ⟨_,J.2⟩⟩
end
structure DskK (K:PySem.W.Frag) (C:Addr):Prop where
 cl:Cls K C
 np:NoAttr K C "prime"
 ns:NoAttr K C "spot"
 ne:NoAttr K C "earlier"
def dskKb (K:PySem.W.Frag) (C:Addr):Bool:=PySem.W.plainGet K C Str.empty && (PySem.W.hasDictIn K C && (PySem.W.plainOver K C && (PySem.W.findIn K (.ref C) "__setattr__" ==some (some (.builtin "object.__setattr__")) && (PySem.W.findIn K (.ref C) "prime" ==some none && (PySem.W.findIn K (.ref C) "spot" ==some none && PySem.W.findIn K (.ref C) "earlier" ==some none)))))
theorem K9 {K:PySem.W.Frag} {C:Addr} (h:dskKb K C=true):DskK K C:=by
 unfold dskKb at h
 simp only [Bool.and_eq_true,beq_iff_eq] at h
 obtain ⟨a,b,c,d,e,f,g⟩:=h
 exact ⟨⟨a,b,c,d⟩,e,f,g⟩
inductive RsM where
 | ok (d s:D) (past:List D) | ex (x:Str)
def spM (T:Tx) (R:D->D->List D->List D->RsM->Prop):Sp:=fun vs H Q E=>∃F a l C p s past ws ds r,vs= .ref a::ws/\Same F H/\Reps T.K F ws ds/\T.mg "Desk" =some (.ref C)/\DskOk T.K (rmD H a l) F H a l C p s past/\R p s past ds r/\(match r with
 | .ok d s' past'=>∀v F' H',Ext F (rmD H a l) F' (rmD H' a l)->DskOk T.K (rmD H a l) F' H' a l C p s' past'->Rep T.K F' v d->Q v H'
 | .ex x=>∀C' F' H',T.mg x=some (.ref C')->Ext F (rmD H a l) F' (rmD H' a l)->DskOk T.K (rmD H a l) F' H' a l C p s past->E (.ref C') none H')
structure FnS (T:Tx) (k:Nat) (x:Str) (R:D->D->List D->List D->RsM->Prop):Prop where
 ex:∃(f:Addr) (fd:FuncData) (ps:List Str),T.mg x=some (.ref f)/\PySem.W.keepIn T.K (.ref f)=true/\Binds T.K fd ps []/\FnOk T.prog T.w T.K T.mg T.base (CXE T.prog T.w) k f fd ps (spM T R)
structure FnMt (T:Tx) (k:Nat) (m:Str) (R:D->D->List D->List D->RsM->Prop):Prop where
 ex:∃(C f:Addr) (fd:FuncData) (ps:List Str),T.mg "Desk" =some (.ref C)/\Cls T.K C/\Meth T.K C m f/\Binds T.K fd ps []/\FnOk T.prog T.w T.K T.mg T.base (CXE T.prog T.w) k f fd ps (spM T R)
def ctxM (N:List Str) (a l C:Addr) (p s:D) (past ds:List D):List Slot:= .dsk a l C p s past::(ds.map Slot.val++List.replicate (N.length - (ds.length+1)) Slot.un)
def outM (Y:Cy) (a l C:Addr) (p s:D) (past:List D) (d:D):Out:= .rs fun K F H1 v H=>H=H1/\DskOk K Y.H0 F H a l C p s past/\Rep K F v d
def RetM (Y:Cy) (a l C:Addr) (p:D):RsM->Out->Prop
 | .ok d s past=>fun o=>o=outM Y a l C p s past d
 | .ex _=>fun _=>False
section
variable {K:PySem.W.Frag} {F₀ H₀ F H F' H' H2:Hp} {a l C:Addr} {p s:D} {past:List D}
theorem DskOk.base (h:DskOk K H₀ F H a l C p s past) (ha:H2 a=none) (hl:H2 l=none):DskOk K H2 F H a l C p s past:=by
 obtain ⟨dx,vs,x,y,h1,h2,h3,h4,h5,h6,h7,r⟩:=h
 exact ⟨dx,vs,x,y,h1,h2,h3,h4,h5,ha,hl,r⟩
theorem DskOk.fa (h:DskOk K H₀ F H a l C p s past):F a=none/\F l=none/\H₀ a=none/\H₀ l=none:=by
 obtain ⟨dx,vs,x,y,h1,h2,h3,h4,h5,h6,h7,r⟩:=h
 exact ⟨h4,h5,h6,h7⟩
theorem Ext.rm1 (x:Ext F (rmD H a l) F' H') (ha:F' a=none) (hl:F' l=none):Ext F (rmD H a l) F' (rmD H' a l) where
 ff:=x.ff
 fh:=fun b o q=>yE (x.fh b o q) (fun z=>by rw [z,ha] at q;cases q) (fun z=>by rw [z,hl] at q;cases q)
 hh:=fun b o q=>by
  obtain ⟨h1,h2,_⟩:=z6 q
  exact yE (x.hh b o q) h1 h2
 fr:=x.fr
theorem xab {n:Nat} (hd:DskOk K (rmD H a l) F H a l C p s past) {vs:List V} {ds:List D} (r:Reps K F vs ds):∀i,SlotOk K (rmD H a l) F H ((some (V.ref a)::(vs.map some++List.replicate n none))[i]?) (slot (.dsk a l C p s past::(ds.map Slot.val++List.replicate n Slot.un)) i)
 | 0=>⟨rfl,hd⟩
 | i+1=>by
  have q:=vJ (K:=K) (F:=F) (H0:=rmD H a l) (H:=H) (n:=n) r i
  exact q
theorem Wl {N:List Str} {vs:List V} {ds:List D} (f:Same F H) (r:Reps K F vs ds) (hd:DskOk K (rmD H a l) F H a l C p s past):Env K F (rmD H a l) F H (L2.start N (.ref a::vs)) (ctxM N a l C p s past ds) where
 ext:=⟨Same.refl F,f,fun b o q=>(z6 q).2.2,fun _ _ z=>z⟩
 len:=by
  unfold L2.start ctxM
  simp [r.length]
 sl:=fun i=>by
  unfold L2.start ctxM
  rw [List.length_cons,r.length]
  exact xab hd r i
 inj:=fun i j b h1 h2 _ _=>by
  have key:∀i,isOwn (slot (ctxM N a l C p s past ds) i)=true->i=0:=fun i h=>by
   cases i with
   | zero=>rfl
   | succ i=>
    exfalso
    have h:isOwn (slot (ds.map Slot.val++List.replicate (N.length - (ds.length+1)) Slot.un) i)=true:=h
    rw [zb] at h
    cases h
  rw [key i h1,key j h2]
end
section
variable {Y:Cy} {T:Tx} {k j:Nat} {N G ps:List Str} {c c' c'':List Slot} {e a b:Expr} {es:List Expr} {pos p:Pos} {d d1 d2:D} {ds:List D} {R:D->D->List D->List D->RsM->Prop} {x qual y m:Str} {P:Out->Prop} {rest:List Stmt}
theorem Yz {st:Stmt} {f:Addr} {fd:FuncData} (F:Fun T.K x qual st f fd) (B:ScB N ps G (defScope st)) (hlen:∀p s past ds r,R p s past ds r->ds.length+1=ps.length)
  (body:∀(Y:Cy) (S:Sc Y T k N G) (Z:Fx Y st) (a l C:Addr) (p s:D) (past ds:List D) (r:RsM),T.mg "Desk" =some (.ref C)->R p s past ds r->(∀y,r= .ex y->∀c,slot c 0= .dsk a l C p s past->RzN Y T y c/\RzMN Y T y c)->SsD Y (defBody st) (ctxM N a l C p s past ds) (RetM Y a l C p r)):
  FnOk T.prog T.w T.K T.mg T.base (CXE T.prog T.w) (k+1) f fd ps (spM T R):=by
 obtain ⟨oc,od,kV,doc,pm,an,cdv,ct,osl,rfl,lk,hcd⟩:=F.ex
 refine QQ lk hcd B.fs (fun vs H Q E h=>?_) fun A outer s H vs Q E hr h=>?_
 ·obtain ⟨F0,a,l,C,p,s,past,ws,ds,r,rfl,_,rs,_,_,hR,_⟩:=h
  rw [List.length_cons,rs.length];exact hlen _ _ _ _ _ hR
 ·obtain ⟨F0,a,l,C,p,s0,past,ws,ds,r,rfl,f0,rs,hC,hd,hR,q⟩:=h
  have S:Sc ⟨cxOf (CXE T.prog T.w) T.prog T.w T.K T.mg T.base N qual (defScope st) f cdv A outer s H E,F0,rmD H a l⟩ T k N G:=
   ⟨⟨⟨rfl,rfl,rfl,rfl,rfl,rfl,B.fs.nd,B.loc,B.gl⟩,rfl,hr⟩,fun _=>rfl,PassesOwn.leaving⟩
  refine ⟨_,body _ S ⟨rfl,rfl,rfl,rfl⟩ a l C p s0 past ds r hC hR (fun y hy c hc=>?_),F0,Wl f0 rs hd,fun o ho=>?_⟩
  ·subst hy
   have q:∀C' F' H',T.mg y=some (.ref C')->Ext F0 (rmD H a l) F' (rmD H' a l)->DskOk T.K (rmD H a l) F' H' a l C p s0 past->E (.ref C') none H':=q
   exact ⟨fun C' hC'=>⟨fun I _ _ En L=>v7 I rfl ⟨rfl,rfl⟩ L fun s' L=>⟨_,C',_,rfl,L,q C' _ _ hC' (Ext.rm1 En.ext (En.dsk_at hc).2.fa.1 (En.dsk_at hc).2.fa.2.1) (En.dsk_at hc).2⟩⟩,
    fun C' hC'=>⟨fun I En M=>qa I rfl ⟨rfl,rfl⟩ M fun s' L=>⟨_,C',_,rfl,L,q C' _ _ hC' (Ext.rm1 En.ext (En.dsk_at hc).2.fa.1 (En.dsk_at hc).2.fa.2.1) (En.dsk_at hc).2⟩⟩⟩
  ·cases r with
   | ex y=>exact False.elim ho
   | ok d s' past'=>
    cases ho
    rintro v F' H1 H2 _ ex ⟨rfl,hk,r'⟩
    exact q v F' H2 (Ext.rm1 ex hk.fa.1 hk.fa.2.1) hk r'
theorem xcw {st:Stmt} (A:At T x st) (B:ScB N ps G (defScope st)) (hb:∀f fd,Fun T.K x x st f fd->Binds T.K fd ps []) (hlen:∀p s past ds r,R p s past ds r->ds.length+1=ps.length)
  (body:∀(Y:Cy) (S:Sc Y T k N G) (Z:Fx Y st) (a l C:Addr) (p s:D) (past ds:List D) (r:RsM),T.mg "Desk" =some (.ref C)->R p s past ds r->(∀y,r= .ex y->∀c,slot c 0= .dsk a l C p s past->RzN Y T y c/\RzMN Y T y c)->SsD Y (defBody st) (ctxM N a l C p s past ds) (RetM Y a l C p r)):FnS T (k+1) x R:=
 let ⟨f,fd,F,hm⟩:=A
 ⟨f,fd,ps,hm,F.kp,hb f fd F,Yz F B hlen body⟩
def tE (Y:Cy) (c c':List Slot) (d:D):TE:=fun σ H Q=>∃F,EnvY Y F H σ c/\∀v F' H',Same F F'->EnvY Y F' H' σ c'->Rep Y.X.K F' v d->Q v H'
def EvS (Y:Cy) (e:Expr) (c:List Slot) (d:D) (c':List Slot):Prop:=PE Y.X e (tE Y c c' d)
def tTS (Y:Cy) (c c':List Slot) (b:Bool):TT:=fun σ H Q=>∃F,EnvY Y F H σ c/\∀F' H',Same F F'->EnvY Y F' H' σ c'->Q b H'
def TeS (Y:Cy) (e:Expr) (c:List Slot) (b:Bool) (c':List Slot):Prop:=PT Y.X e (tTS Y c c' b)
theorem zB (h:EvD Y e c d):EvS Y e c d c:=PE.imp h fun σ H Q ⟨F,E,q⟩=>⟨F,E,fun v F' H' x r=>q v F' H' x.ff (E.grow x) r⟩
theorem YW {v:Bool} (h:EvS Y e c (.bl v) c') (he:∀whole,isTrue e Y.X.env whole=(do let v <-whole;standAt e.pos;holding [v] (truthy v)):=by intro _;rfl):TeS Y e c v c':=
 PT.imp (ku h he) fun σ H Q ⟨F,E,q⟩=>⟨F,E,fun x F1 H1 e1 r1 r2=>⟨v,y6 r2,q F1 H1 e1 r1⟩⟩
theorem YY {v:Bool} (h:TeS Y a c v c'):TeS Y (.UnaryOp .Not a pos) c (!v) c':=
 PT.imp (kx h) fun σ H Q ⟨F,E,q⟩=>⟨F,E,fun F1 H1 e1 r1=>q F1 H1 e1 r1⟩
theorem J2 {op:CmpOp} {r:R2} {v:Bool} (ho:OpR Y.X (compareOp op) r) (hm:behindInMarks op b=false) (ha:EvS Y a c d1 c') (hb:EvD Y b c' d2)
  (hr:∀x y F H Q,Same F H->Rep Y.X.K F x d1->Rep Y.X.K F y d2->(∀F' H',Ext F H F' H'->Q (.bl v) H')->r x y H Q):TeS Y (.Compare a [op] [b] pos) c v c':=
 PT.imp (Zg ho ha hb hm) fun σ H Q ⟨F,E,q⟩=>⟨F,E,fun x F1 H1 s1 E1 r1=>⟨F1,E1,fun y F2 H2 e2 r2=>
  hr x y F2 H2 _ e2.fh (r1.mono e2.ff) r2 fun F3 H3 e3=>⟨v,rfl,q F3 H3 (s1.trans (e2.ff.trans e3.ff)) ((E1.grow e2).grow e3)⟩⟩⟩
theorem YZ (S:Se Y T k N G) (ha:EvS Y a c d1 c') (hb:EvD Y b c' d2) (h1:SeqAt.shaped (toPy d1)=true:=by rfl) (h2:SeqAt.shaped (toPy d2)=true:=by rfl):TeS Y (.Compare a [.NotEq] [b] pos) c (!eqD d1 d2) c':=
 J2 (kM S.room.units h1 h2) (nomark _) ha hb fun x y F H Q f rx ry q=>⟨F,f,rx,ry,q F H (Ext.refl f)⟩
theorem W9 (S:Se Y T k N G) (ha:EvS Y a c d1 c') (hb:EvD Y b c' d2) (h1:SeqAt.shaped (toPy d1)=true:=by rfl) (h2:SeqAt.shaped (toPy d2)=true:=by rfl):EvS Y (.Compare a [.Eq] [b] pos) c (.bl (eqD d1 d2)) c':=
 PE.imp (vT (Zo S.room.units h1 h2) ha hb (nomark _)) fun σ H Q ⟨F,E,q⟩=>⟨F,E,fun x F1 H1 s1 E1 r1=>⟨F1,E1,fun y F2 H2 e2 r2=>
  ⟨F2,e2.fh,r1.mono e2.ff,r2,q _ F2 H2 (s1.trans e2.ff) (E1.grow e2) (.bl _)⟩⟩⟩
theorem Vk {w:Bool} (ha:TeS Y a c false c') (hb:PW Y.X (.BoolOp .Or (b::es) pos) (tTS Y c' c'' w)):PW Y.X (.BoolOp .Or (a::b::es) pos) (tTS Y c c'' w):=by
 intro whole pins s σ H Q I h
 refine ko ha hb whole pins s σ H Q I ?_
 obtain ⟨F,E,q⟩:=h
 exact ⟨F,E,fun F1 H1 s1 E1=>L2.iteF ⟨F1,E1,fun F2 H2 s2 E2=>q F2 H2 (s1.trans s2) E2⟩⟩
theorem YX {v:Bool} (ha:TeS Y a c v c'):PW Y.X (.BoolOp .Or [a] pos) (tTS Y c c' v):=kn ha
theorem Vn {t:Expr} {sa sb:List Stmt} {v:Bool} (ht:TeS Y t c v c') (ha:v=true->SsD Y sa c' (Thn Y rest P)) (hb:v=false->SsD Y sb c' (Thn Y rest P)):SsD Y (.If t sa sb pos::rest) c P:=by
 refine xI ?_
 cases v with
 | true=>exact PS.imp (Qz ht (ha rfl) (zM (sts:=sb))) fun D σ H ⟨F,E,m⟩=>⟨F,E,fun F1 H1 s1 E1=>L2.iteT ⟨F1,E1,fun o ho=>(m o ho).grow s1⟩⟩
 | false=>exact PS.imp (Qz ht (zM (sts:=sa)) (hb rfl)) fun D σ H ⟨F,E,m⟩=>⟨F,E,fun F1 H1 s1 E1=>L2.iteF ⟨F1,E1,fun o ho=>(m o ho).grow s1⟩⟩
theorem WD (S:Sc Y T k N G) (i:Nat) {x:Str} {pos':Pos} (he:EvS Y e c d c')
  (hr:SsD Y rest (put c' i (.val d)) P) (hi:N[i]? =some x:=by rfl) (hlt:i<c'.length:=by first | exact of_decide_eq_true rfl | decide | omega) (hs:swapsWith e (some (.Name x pos')) pos.line Y.X.env=pure false:=by rfl):SsD Y (.Assign [.Name x pos'] e pos::rest) c P:=by
 have hx:=S.loc x (List.mem_of_getElem? hi)
 have hN:=S.nd
 rw [<-S.n] at hi hN
 refine xI (PS.imp (qy hN hi hx.1 he hs (.inl (S.fn x))) fun D σ H ⟨F,E,m⟩=>⟨F,E,fun v F' H' s' E' r'=>?_⟩)
 exact m (.nx (put c' i (.val d))) hr _ F' H' s' (E'.set hlt r')
theorem Kc (h:EvS Y e c d c') (hp:P (.rt d)):SsD Y (.Return (some e) pos::rest) c P:=
 xI (PS.imp (Zj h) fun D σ H ⟨F,E,m⟩=>⟨F,E,fun v F' H' s' E' r=>m (.rt d) hp v F' H' s' E'.ext r⟩)
theorem yt {ad l C:Addr} {pr s:D} {past:List D} {i:Nat} (h:EvS Y e c d c') (hs:slot c' i= .dsk ad l C pr s past) (hp:P (outM Y ad l C pr s past d)):SsD Y (.Return (some e) pos::rest) c P:=
 xI (PS.imp (Zj h) fun D σ H ⟨F,E,m⟩=>⟨F,E,fun v F' H' s' E' r=>m (outM Y ad l C pr s past d) hp v F' H' H' s' E'.ext ⟨rfl,(E'.dsk_at hs).2,r⟩⟩)
theorem qg {ad l C:Addr} {pr s:D} {past:List D} {i:Nat} {F1 H1:Hp} {σ:St} {vs:List V} {r:RsM} {Q:VK} {E:XK} (S:Sn Y T N G) (E1:EnvY Y F1 H1 σ c) (hs:slot c i= .dsk ad l C pr s past) (hC:T.mg "Desk" =some (.ref C)) (rs:Reps Y.X.K F1 vs ds) (hR:R pr s past ds r)
  (q:match r with
   | .ok d s' past'=>∀v F' H',Ext F1 (rmD H1 ad l) F' (rmD H' ad l)->DskOk Y.X.K Y.H0 F' H' ad l C pr s' past'->Rep Y.X.K F' v d->Q v H'
   | .ex x=>∀C' F' H',T.mg x=some (.ref C')->Ext F1 (rmD H1 ad l) F' (rmD H' ad l)->DskOk Y.X.K Y.H0 F' H' ad l C pr s past->E (.ref C') none H'):spM T R (.ref ad::vs) H1 Q E:=by
 have hd:=(E1.dsk_at hs).2
 refine ⟨F1,ad,l,C,pr,s,past,vs,ds,r,rfl,E1.fh,by rw [<-S.eK];exact rs,hC,by rw [<-S.eK];exact hd.base Qu xas,hR,?_⟩
 cases r with
 | ok d s' past'=>exact fun v F' H' x k r=>q v F' H' x (by rw [S.eK];exact k.base hd.fa.2.2.1 hd.fa.2.2.2) (by rw [S.eK];exact r)
 | ex z=>exact fun C' F' H' hm x k=>q C' F' H' hm x (by rw [S.eK];exact k.base hd.fa.2.2.1 hd.fa.2.2.2)
theorem wb {ad l C:Addr} {pr s s':D} {past past':List D} {q1:Pos} {z:Str} (S:Se Y T k N G) (gi i:Nat) (Fn:FnS T j x R) (hj:j<=k) (hs:slot c i= .dsk ad l C pr s past) (hno:∀j,j≠i->isDsk (slot c j)=false) (hC:T.mg "Desk" =some (.ref C)) (ha:ArD Y es c ds) (hR:R pr s past ds (.ok d s' past')) (hg:G[gi]? =some x:=by rfl) (hi:N[i]? =some z:=by rfl)
  (he:starEach (.Name z q1::es) Y.X.env=(false,eval (.Name z q1) Y.X.env)::starEach es Y.X.env:=by rfl) (hpl:(backTo pos (starEach es Y.X.env)).any (·.1)=false:=by rfl):EvS Y (.Call (.Name x p) (.Name z q1::es) [] pos) c d (put c i (.dsk ad l C pr s' past')):=by
 obtain ⟨f,fd,ps,hm,hk,hb,F⟩:=Fn.ex
 have F':FnOk Y.X.prog Y.X.w Y.X.K Y.X.mg Y.X.base (CXE Y.X.prog Y.X.w) j f fd ps (spM T R):=by rw [S.eP,S.eW,S.eK,S.eM,S.eB];exact F
 have gl:=S.gl x (List.mem_of_getElem? hg)
 have hx:=S.loc z (List.mem_of_getElem? hi)
 rw [<-S.n] at hi
 refine PE.imp (qO (E:=E0) F' (S.room.mono hj) gl.1 (by rw [S.eM];exact hm) (by rw [S.eK];exact hk) (by rw [S.eK];exact hb) .nil (fun _ _ _ _ _ _ _ ⟨_,_,_,_,_,z⟩=>z.elim) (xJ (xU hi (hx.1.elim .inl fun h=> .inr (.inl h)) hx.2.1 hx.2.2) ha he) gl.2.1 he hpl) fun σ H Q ⟨F,E,q⟩=>⟨.ref ad,(E.dsk_at hs).1,F,E,fun vs F1 H1 e1 r1=>?_⟩
 have E1:=E.grow e1
 show spM T R (.ref ad::vs++ []) H1 Q E0
 rw [List.append_nil]
 exact qg (r:= .ok d s' past') S.toSn E1 hs hC r1 hR fun v F2 H2 x2 k2 r2=>q v F2 H2 (e1.ff.trans x2.ff) (E1.dsk_to hs hno x2 k2) r2
theorem zQ {ad l C:Addr} {pr s s':D} {past past':List D} {q1 apos:Pos} {z:Str} {pl:Sem Bool} (S:Se Y T k N G) (i:Nat) (Fn:FnMt T j m R) (hj:j<=k) (hs:slot c i= .dsk ad l C pr s past) (hno:∀j,j≠i->isDsk (slot c j)=false) (hC:T.mg "Desk" =some (.ref C)) (hl0:∀x y l,(dskF x y l).lookup m=none) (ha:ArD Y (e::es) c ds) (hR:R pr s past ds (.ok d s' past')) (hi:N[i]? =some z:=by rfl)
  (hst:starEach (e::es) Y.X.env=(false,eval e Y.X.env)::starEach es Y.X.env:=by rfl) (hpl:(backTo pos (starEach es Y.X.env)).any (·.1)=false:=by rfl)
  (ht:eval (.Call (.Attribute (.Name z q1) m apos) (e::es) [] pos) Y.X.env=(do
   let ov <-eval (.Name z q1) Y.X.env
   standAt apos.atName
   let (f,first) <-holding [ov] (getMethod ov m pl)
   callWith pos f first (backTo pos (starEach (e::es) Y.X.env)) (backToKw pos (keywordEach [] Y.X.env))):=by rfl):EvS Y (.Call (.Attribute (.Name z q1) m apos) (e::es) [] pos) c d (put c i (.dsk ad l C pr s' past')):=by
 obtain ⟨C2,f,fd,ps,hm,hc,hmt,hb,F⟩:=Fn.ex
 rw [hC] at hm
 cases hm
 have F':FnOk Y.X.prog Y.X.w Y.X.K Y.X.mg Y.X.base (CXE Y.X.prog Y.X.w) j f fd ps (spM T R):=by rw [S.eP,S.eW,S.eK,S.eM,S.eB];exact F
 have hx:=S.loc z (List.mem_of_getElem? hi)
 rw [<-S.n] at hi
 refine PE.imp (qN (E:=E0) (pl:=pl) (xU hi (hx.1.elim .inl fun h=> .inr (.inl h)) hx.2.1 hx.2.2) (by rw [S.eK];exact hc) (by rw [S.eK];exact hmt) F' (S.room.mono hj) (by rw [S.eK];exact hb) .nil (fun _ _ _ _ _ _ _ ⟨_,_,_,_,_,z⟩=>z.elim) ha hst hpl ht) fun σ H Q ⟨F,E,q⟩=>?_
 obtain ⟨hσ,dx,vs0,u,w,h1,_⟩:=E.dsk_at hs
 refine ⟨.ref ad,hσ,ad,dx,_,rfl,h1,hl0 _ _ _,F,E,fun vs F1 H1 e1 r1=>?_⟩
 have E1:=E.grow e1
 show spM T R (.ref ad::(vs++ [])) H1 Q E0
 rw [List.append_nil]
 exact qg (r:= .ok d s' past') S.toSn E1 hs hC r1 hR fun v F2 H2 x2 k2 r2=>q v F2 H2 (e1.ff.trans x2.ff) (E1.dsk_to hs hno x2 k2) r2
theorem wN {ad l C:Addr} {pr s s':D} {past past':List D} {q1 apos:Pos} {z:Str} {pl:Sem Bool} (S:Se Y T k N G) (i:Nat) (Fn:FnMt T j m R) (hj:j<=k) (hs:slot c i= .dsk ad l C pr s past) (hno:∀j,j≠i->isDsk (slot c j)=false) (hC:T.mg "Desk" =some (.ref C)) (hl0:∀x y l,(dskF x y l).lookup m=none) (hR:R pr s past [] (.ok d s' past')) (hi:N[i]? =some z:=by rfl)
  (ht:eval (.Call (.Attribute (.Name z q1) m apos) [] [] pos) Y.X.env=(do
   let ov <-eval (.Name z q1) Y.X.env
   standAt apos.atName
   let (f,first) <-holding [ov] (getMethod ov m pl)
   callWith pos f first (backTo pos (starEach [] Y.X.env)) (backToKw pos (keywordEach [] Y.X.env))):=by rfl):EvS Y (.Call (.Attribute (.Name z q1) m apos) [] [] pos) c d (put c i (.dsk ad l C pr s' past')):=by
 obtain ⟨C2,f,fd,ps,hm,hc,hmt,hb,F⟩:=Fn.ex
 rw [hC] at hm
 cases hm
 have F':FnOk Y.X.prog Y.X.w Y.X.K Y.X.mg Y.X.base (CXE Y.X.prog Y.X.w) j f fd ps (spM T R):=by rw [S.eP,S.eW,S.eK,S.eM,S.eB];exact F
 have hx:=S.loc z (List.mem_of_getElem? hi)
 rw [<-S.n] at hi
 refine PE.imp (QA (E:=E0) (pl:=pl) (xU hi (hx.1.elim .inl fun h=> .inr (.inl h)) hx.2.1 hx.2.2) (by rw [S.eK];exact hc) (by rw [S.eK];exact hmt) F' (S.room.mono hj) (by rw [S.eK];exact hb) .nil (fun _ _ _ _ _ _ _ ⟨_,_,_,_,_,z⟩=>z.elim) ht) fun σ H Q ⟨F,E,q⟩=>?_
 obtain ⟨hσ,dx,vs0,u,w,h1,_⟩:=E.dsk_at hs
 refine ⟨.ref ad,hσ,ad,dx,_,rfl,h1,hl0 _ _ _,?_⟩
 exact qg (r:= .ok d s' past') S.toSn E hs hC .nil hR fun v F2 H2 x2 k2 r2=>q v F2 H2 x2.ff (E.dsk_to hs hno x2 k2) r2
end
section
variable {Y:Cy} {T:Tx} {k j:Nat} {N G ps:List Str} {c c' c'':List Slot} {e a b:Expr} {es:List Expr} {pos p:Pos} {d d1 d2:D} {ds:List D} {R:D->D->List D->List D->RsM->Prop} {x qual y m:Str} {P:Out->Prop} {rest:List Stmt} {ad l C:Addr} {pr s s':D} {past past':List D} {i:Nat}
theorem kj {pins:List (Addr×Obj)} {σ:St} {F1 H1:Hp} {s1:Shared} {us:List Value} {vs:List V} {f:Addr} {fd:FuncData} {Q:Value->Shared->Prop} (S:Se Y T k N G) (F':FnOk Y.X.prog Y.X.w Y.X.K Y.X.mg Y.X.base (CXE Y.X.prog Y.X.w) j f fd ps (spM T R)) (hj:j<=k) (hb:Binds Y.X.K fd ps [])
  (I1:Inv Y.X pins σ H1 s1) (E1:EnvY Y F1 H1 σ c) (r:Vals (.ref ad::vs) us) (rs:Reps Y.X.K F1 vs ds) (hs:slot c i= .dsk ad l C pr s past) (hno:∀j,j≠i->isDsk (slot c j)=false) (hC:T.mg "Desk" =some (.ref C)) (hR:R pr s past ds (.ex y)) (hz:RzN Y T y c):wpAny (model Y.X.prog Y.X.w) Y.X.A (call (.ref f) us) Q Y.X.xe s1:=by
 have h:spM T R (.ref ad::vs) H1 (fun _ _=>False) (fun cls _ H'=>∃C' F',cls= .ref C'/\T.mg y=some (.ref C')/\Ext F1 (rmD H1 ad l) F' (rmD H' ad l)/\DskOk Y.X.K Y.H0 F' H' ad l C pr s past):=
  qg (r:= .ex y) S.toSn E1 hs hC rs hR fun C' F' H' hm x k=>⟨C',F',rfl,hm,x,k⟩
 have hl:us.length=ps.length:=by rw [<-r.length];exact F'.len _ _ _ _ h
 have hb2:=hb s1 us I1.kIn (by rw [List.append_nil];exact hl)
 rw [List.append_nil] at hb2
 refine wpAny_call (codeAny_mono (F'.run Y.X.A Y.X.stack s1 H1 ⟨us,[]⟩ us _ _ _ (S.room.mono hj) I1.env0 hb2 r h) fun r s' hq=>?_)
 cases r with
 | error e=>
  obtain ⟨a,C',H',rfl,L,C2,F2,z,hC',x,k⟩:=hq
  cases z
  have E2:=E1.dsk_to hs hno x k
  rw [<-hs,Xo] at E2
  exact (hz C' hC').fly I1 E1 x.ff E2 L
 | ok fl=>
  cases fl with
  | ret u=>obtain ⟨_,_,_,_,_,_,_,z⟩:=hq;exact z.elim
  | next=>exact False.elim hq
  | brk=>exact False.elim hq
  | cont=>exact False.elim hq
theorem XI {q1 apos:Pos} {z:Str} {pl:Sem Bool} (S:Se Y T k N G) (i:Nat) (Fn:FnMt T j m R) (hj:j<=k) (hs:slot c i= .dsk ad l C pr s past) (hno:∀j,j≠i->isDsk (slot c j)=false) (hC:T.mg "Desk" =some (.ref C)) (hl0:∀x y l,(dskF x y l).lookup m=none) (ha:ArD Y (e::es) c ds) (hR:R pr s past ds (.ex y)) (hz:RzN Y T y c) (hi:N[i]? =some z:=by rfl)
  (hst:starEach (e::es) Y.X.env=(false,eval e Y.X.env)::starEach es Y.X.env:=by rfl) (hpl:(backTo pos (starEach es Y.X.env)).any (·.1)=false:=by rfl)
  (ht:eval (.Call (.Attribute (.Name z q1) m apos) (e::es) [] pos) Y.X.env=(do
   let ov <-eval (.Name z q1) Y.X.env
   standAt apos.atName
   let (f,first) <-holding [ov] (getMethod ov m pl)
   callWith pos f first (backTo pos (starEach (e::es) Y.X.env)) (backToKw pos (keywordEach [] Y.X.env))):=by rfl):EvX Y (.Call (.Attribute (.Name z q1) m apos) (e::es) [] pos) c:=by
 obtain ⟨C2,f,fd,ps,hm,hc,hmt,hb,F⟩:=Fn.ex
 rw [hC] at hm
 cases hm
 have F':FnOk Y.X.prog Y.X.w Y.X.K Y.X.mg Y.X.base (CXE Y.X.prog Y.X.w) j f fd ps (spM T R):=by rw [S.eP,S.eW,S.eK,S.eM,S.eB];exact F
 have hx:=S.loc z (List.mem_of_getElem? hi)
 rw [<-S.n] at hi
 intro pins s0 σ H Q I ⟨F0,E⟩
 obtain ⟨hσ,dx,vs0,u,w,h1,_⟩:=E.dsk_at hs
 refine ug (te:=tVar i) (xU hi (hx.1.elim .inl fun h=> .inr (.inl h)) hx.2.1 hx.2.2) I ⟨.ref ad,hσ,ad,C,dx,_,f,rfl,h1,by rw [S.eK];exact hc,by rw [S.eK];exact hmt,hl0 _ _ _,fun s1 I1=>?_⟩ ht
 refine PySem.W.callWith_K (first:=[.ref ad]) (h₀:=Y.X.base) I1.ok.mod.kin (by rw [S.eK];exact hmt.kp) (thn (ha pos pins s1 σ H (fun vs H1=>∃F1,Ext F0 H F1 H1/\Reps Y.X.K F1 vs ds) I1 ⟨F0,E,fun vs F1 H1 e1 r1=>⟨F1,e1,r1⟩⟩) fun us s2 ⟨vs,H2,I2,r,F1,e1,rs⟩=>⟨I2.kIn,?_⟩) hst hpl
 exact kj S F' hj (by rw [S.eK];exact hb) I2 (E.grow e1) (.cons rfl r) rs hs hno hC hR hz
theorem jg {q1 apos:Pos} {z:Str} {pl:Sem Bool} (S:Se Y T k N G) (i:Nat) (Fn:FnMt T j m R) (hj:j<=k) (hs:slot c i= .dsk ad l C pr s past) (hno:∀j,j≠i->isDsk (slot c j)=false) (hC:T.mg "Desk" =some (.ref C)) (hl0:∀x y l,(dskF x y l).lookup m=none) (hR:R pr s past [] (.ex y)) (hz:RzN Y T y c) (hi:N[i]? =some z:=by rfl)
  (ht:eval (.Call (.Attribute (.Name z q1) m apos) [] [] pos) Y.X.env=(do
   let ov <-eval (.Name z q1) Y.X.env
   standAt apos.atName
   let (f,first) <-holding [ov] (getMethod ov m pl)
   callWith pos f first (backTo pos (starEach [] Y.X.env)) (backToKw pos (keywordEach [] Y.X.env))):=by rfl):EvX Y (.Call (.Attribute (.Name z q1) m apos) [] [] pos) c:=by
 obtain ⟨C2,f,fd,ps,hm,hc,hmt,hb,F⟩:=Fn.ex
 rw [hC] at hm
 cases hm
 have F':FnOk Y.X.prog Y.X.w Y.X.K Y.X.mg Y.X.base (CXE Y.X.prog Y.X.w) j f fd ps (spM T R):=by rw [S.eP,S.eW,S.eK,S.eM,S.eB];exact F
 have hx:=S.loc z (List.mem_of_getElem? hi)
 rw [<-S.n] at hi
 intro pins s0 σ H Q I ⟨F0,E⟩
 obtain ⟨hσ,dx,vs0,u,w,h1,_⟩:=E.dsk_at hs
 refine ug (te:=tVar i) (xU hi (hx.1.elim .inl fun h=> .inr (.inl h)) hx.2.1 hx.2.2) I ⟨.ref ad,hσ,ad,C,dx,_,f,rfl,h1,by rw [S.eK];exact hc,by rw [S.eK];exact hmt,hl0 _ _ _,fun s1 I1=>?_⟩ ht
 refine PySem.W.callWith_K0 (first:=[.ref ad]) I1.kIn (by rw [S.eK];exact hmt.kp) ?_
 exact kj S F' hj (by rw [S.eK];exact hb) I1 E (.cons rfl .nil) .nil hs hno hC hR hz
theorem xaB {x y:V} {l:Addr}:(dskF x y l).lookup ("prime" :Str)=some x:=by rfl
theorem xaA {x y:V} {l:Addr}:(dskF x y l).lookup ("spot" :Str)=some y:=by rfl
theorem W7 {x y:V} {l:Addr}:(dskF x y l).lookup ("earlier" :Str)=some (V.ref l):=by rfl
theorem xau {x y z:V} {l:Addr}:putF "spot" z (dskF x y l)=dskF x z l:=by rfl
theorem zo {z:Str} {q1:Pos} (S:Sn Y T N G) (i:Nat) (hs:slot c i= .dsk ad l C pr s past) (Z:DskK T.K C) (hi:N[i]? =some z:=by rfl) (hb:attributeBase (.Name z q1) "prime" Y.X.env (eval (.Name z q1) Y.X.env)=eval (.Name z q1) Y.X.env:=by rfl):EvD Y (.Attribute (.Name z q1) "prime" pos) c pr:=by
 have hx:=S.loc z (List.mem_of_getElem? hi)
 rw [<-S.n] at hi
 refine PE.imp (z7 (xU hi (hx.1.elim .inl fun h=> .inr (.inl h)) hx.2.1 hx.2.2) hb) fun σ H Q ⟨F,E,q⟩=>?_
 obtain ⟨hσ,dx,vs,u,w,h1,h2,h3,h4,h5,h6,h7,r1,r2,r3⟩:=E.dsk_at hs
 exact ⟨.ref ad,hσ,ad,C,dx,_,u,rfl,h1,by rw [S.eK];exact Z.cl,by rw [S.eK];exact Z.np,xaB,q u F H (Ext.refl E.fh) r1⟩
theorem yP {z:Str} {q1:Pos} (S:Sn Y T N G) (i:Nat) (hs:slot c i= .dsk ad l C pr s past) (Z:DskK T.K C) (hi:N[i]? =some z:=by rfl) (hb:attributeBase (.Name z q1) "spot" Y.X.env (eval (.Name z q1) Y.X.env)=eval (.Name z q1) Y.X.env:=by rfl):EvD Y (.Attribute (.Name z q1) "spot" pos) c s:=by
 have hx:=S.loc z (List.mem_of_getElem? hi)
 rw [<-S.n] at hi
 refine PE.imp (z7 (xU hi (hx.1.elim .inl fun h=> .inr (.inl h)) hx.2.1 hx.2.2) hb) fun σ H Q ⟨F,E,q⟩=>?_
 obtain ⟨hσ,dx,vs,u,w,h1,h2,h3,h4,h5,h6,h7,r1,r2,r3⟩:=E.dsk_at hs
 exact ⟨.ref ad,hσ,ad,C,dx,_,w,rfl,h1,by rw [S.eK];exact Z.cl,by rw [S.eK];exact Z.ns,xaA,q w F H (Ext.refl E.fh) r2⟩
theorem jj {z:Str} {q1:Pos} (S:Sn Y T N G) (i:Nat) (hs:slot c i= .bor (DskT C pr s)) (Z:DskK T.K C) (hi:N[i]? =some z:=by rfl) (hb:attributeBase (.Name z q1) "prime" Y.X.env (eval (.Name z q1) Y.X.env)=eval (.Name z q1) Y.X.env:=by rfl):EvD Y (.Attribute (.Name z q1) "prime" pos) c pr:=by
 have hx:=S.loc z (List.mem_of_getElem? hi)
 rw [<-S.n] at hi
 refine PE.imp (z7 (xU hi (hx.1.elim .inl fun h=> .inr (.inl h)) hx.2.1 hx.2.2) hb) fun σ H Q ⟨F,E,q⟩=>?_
 obtain ⟨a,o,hσ,h1,dx,l,u,w,rfl,r1,r2⟩:=E.bor_at hs
 exact ⟨.ref a,hσ,a,C,dx,_,u,rfl,h1,by rw [S.eK];exact Z.cl,by rw [S.eK];exact Z.np,xaB,q u F H (Ext.refl E.fh) r1⟩
theorem Env.dsk_w {K:PySem.W.Frag} {F₀ H₀ F H H3:Hp} {σ:St} {dx:Addr} {vs:List V} {u w:V} {p':D} (E:Env K F₀ H₀ F H σ c) (hs:slot c i= .dsk ad l C pr s past) (hno:∀j,j≠i->isDsk (slot c j)=false) (h3:∀b,b≠ad->b≠l->H3 b=H b) (ha:H3 ad=some (.ins C dx (dskF u w l))) (hl:H3 l=some (.ext (LstAt l vs))) (hw:∃h,LstAt l vs h)
  (r1:Rep K F u p') (r2:Rep K F w s') (r3:Reps K F vs past'):Env K F₀ H₀ F H3 σ (put c i (.dsk ad l C p' s' past')):=by
 have hd:=(E.dsk_at hs).2
 refine E.dsk_to hs hno ⟨Same.refl F,fun b o q=>?_,fun b o q=>?_,fun _ _ z=>z⟩ ⟨dx,vs,u,w,ha,hl,hw,hd.fa.1,hd.fa.2.1,hd.fa.2.2.1,hd.fa.2.2.2,r1,r2,r3⟩
 ·have n1:b≠ad:=fun z=>by rw [z,hd.fa.1] at q;cases q
  have n2:b≠l:=fun z=>by rw [z,hd.fa.2.1] at q;cases q
  exact yE (by rw [h3 b n1 n2];exact E.fh b o q) n1 n2
 ·obtain ⟨n1,n2,h⟩:=z6 q
  exact yE (by rw [h3 b n1 n2];exact h) n1 n2
theorem PT.unl {X:Cx} {t:TT} (h:PT X e t):PT X e (fun σ H Q=>∃l vs,H l=some (.ext (LstAt l vs))/\t σ (upd H l (.lst vs)) (fun v H'=>∃vs',H' l=some (.lst vs')/\((∃h,LstAt l vs' h)->Q v (upd H' l (.ext (LstAt l vs')))))):=by
 intro pins s σ H Q I ⟨l,vs,hl,q⟩
 refine thn (h pins s σ _ _ (I.unl hl) q) fun v s1 ⟨H',I',vs',h',q'⟩=>?_
 have J:=I'.lstx h'
 exact ⟨_,J.1,q' ⟨_,J.2⟩⟩
theorem Kf {z:Str} {q1 q2 q3 q4 q5 q6:Pos} (S:Sc Y T k N G) (i:Nat) (hs:slot c i= .dsk ad l C pr s past) (hno:∀j,j≠i->isDsk (slot c j)=false) (Z:DskK T.K C) (hz:past.length<1000000) (hr:SsD Y rest (put c i (.dsk ad l C pr s (past++ [s]))) P) (hi:N[i]? =some z:=by rfl)
  (hb1:attributeBase (.Name z q1) "earlier" Y.X.env (eval (.Name z q1) Y.X.env)=eval (.Name z q1) Y.X.env:=by rfl) (hb2:attributeBase (.Name z q4) "spot" Y.X.env (eval (.Name z q4) Y.X.env)=eval (.Name z q4) Y.X.env:=by rfl)
  (hbase:attributeBase (.Attribute (.Name z q1) "earlier" q2) "append" Y.X.env (eval (.Attribute (.Name z q1) "earlier" q2) Y.X.env)=eval (.Attribute (.Name z q1) "earlier" q2) Y.X.env:=by rfl) (hfew:((backTo q6 (starEach [.Attribute (.Name z q4) "spot" q5] Y.X.env)).all (fun x=> !x.1) && (backToKw q6 (keywordEach [] Y.X.env)).all (fun x=>x.1.isSome)
   && decide ([Expr.Attribute (.Name z q4) "spot" q5].length+([]:List Keyword).length+(if ([]:List Keyword).isEmpty then 0 else 1)<30))=true:=by rfl) (hline:(q3.endLine==q6.line)=true:=by rfl) (hst:starEach [.Attribute (.Name z q4) "spot" q5] Y.X.env=(false,eval (.Attribute (.Name z q4) "spot" q5) Y.X.env)::starEach [] Y.X.env:=by rfl)
  (hsw:swapsWith (.Call (.Attribute (.Attribute (.Name z q1) "earlier" q2) "append" q3) [.Attribute (.Name z q4) "spot" q5] [] q6) none pos.line Y.X.env=pure false:=by rfl):
  SsD Y (.Expr (.Call (.Attribute (.Attribute (.Name z q1) "earlier" q2) "append" q3) [.Attribute (.Name z q4) "spot" q5] [] q6) pos::rest) c P:=by
 have hx:=S.loc z (List.mem_of_getElem? hi)
 rw [<-S.n] at hi
 have pv:∀{q:Pos},PE Y.X (.Name z q) (tVar i):=fun {q}=>xU (pos:=q) hi (hx.1.elim .inl fun h=> .inr (.inl h)) hx.2.1 hx.2.2
 refine xI (PS.imp (WR (PE.unl (Yu PySem.F.plainAttrs_list PySem.F.slot_list_append PySem.F.type_list_append wE (z7 pv hb1) (xJ (z7 pv hb2) yu hst) hbase hfew hline hst rfl)) hsw) fun D σ H ⟨F,E,m⟩=>?_)
 obtain ⟨hσ,dx,vs,u,w,h1,h2,h3,h4,h5,h6,h7,r1,r2,r3⟩:=E.dsk_at hs
 have al:ad≠l:=fun z=>by rw [z,h2] at h1;cases h1
 have cl:Cls Y.X.K C:=by rw [S.eK];exact Z.cl
 have ne:NoAttr Y.X.K C "earlier" :=by rw [S.eK];exact Z.ne
 have ns:NoAttr Y.X.K C "spot" :=by rw [S.eK];exact Z.ns
 have e1:upd H l (.lst vs) ad=some (.ins C dx (dskF u w l)):=by rw [xh al];exact h1
 have e2:upd H l (.lst vs) l=some (.lst vs):=xp
 refine ⟨l,vs,h2,.ref ad,hσ,ad,C,dx,_,.ref l,rfl,e1,cl,ne,W7,.inl ⟨rfl,vs,.inl (.inl e2)⟩,.ref ad,hσ,ad,C,dx,_,w,rfl,e1,cl,ns,xaA,l,vs,w,rfl,rfl,e2,?_,vs++ [w],xp,fun hw=>?_⟩
 ·rw [r3.length];exact Nat.lt_of_lt_of_le hz (xT (Nat.le_refl _))
 ·refine m (.nx _) hr _ F _ (Same.refl F) (E.dsk_w (dx:=dx) (u:=u) (w:=w) hs hno (fun b n1 n2=>?_) ?_ xp hw r1 r2 (r3.append (.cons r2 .nil)))
  ·rw [xh n2,xh n2,xh n2]
  ·rw [xh al,xh al,xh al];exact h1
theorem Ke {z:Str} {q1 q2:Pos} (S:Sc Y T k N G) (i:Nat) (hs:slot c i= .dsk ad l C pr s past) (hno:∀j,j≠i->isDsk (slot c j)=false) (Z:DskK T.K C) (he:EvD Y e c d) (hr:SsD Y rest (put c i (.dsk ad l C pr d past)) P) (hi:N[i]? =some z:=by rfl)
  (hsw:swapsWith e (some (.Attribute (.Name z q1) "spot" q2)) pos.line Y.X.env=pure false:=by rfl):SsD Y (.Assign [.Attribute (.Name z q1) "spot" q2] e pos::rest) c P:=by
 have hx:=S.loc z (List.mem_of_getElem? hi)
 rw [<-S.n] at hi
 refine xI (PS.imp (wA (xU hi (hx.1.elim .inl fun h=> .inr (.inl h)) hx.2.1 hx.2.2) he hsw) fun D σ H ⟨F,E,m⟩=>⟨F,E,fun v F1 H1 x1 rv=>?_⟩)
 have E1:=E.grow x1
 obtain ⟨hσ,dx,vs,u,w,h1,h2,h3,h4,h5,h6,h7,r1,r2,r3⟩:=E1.dsk_at hs
 have al:ad≠l:=fun z=>by rw [z,h2] at h1;cases h1
 refine ⟨.ref ad,hσ,ad,C,dx,_,rfl,h1,by rw [S.eK];exact Z.cl,by rw [S.eK];exact Z.ns,(by show 3<1000;decide),?_⟩
 rw [xau]
 exact m (.nx _) hr _ F1 _ x1.ff (E1.dsk_w (dx:=dx) (u:=u) (w:=v) hs hno (fun b n1 _=>xh n1) xp (by rw [xh (Ne.symm al)];exact h2) h3 r1 rv r3)
theorem Kd {z:Str} {q1 q2 q3 q4 q5 q6:Pos} (S:Sc Y T k N G) (i:Nat) (hs:slot c i= .dsk ad l C pr s (past++ [d])) (hno:∀j,j≠i->isDsk (slot c j)=false) (Z:DskK T.K C) (hr:SsD Y rest (put c i (.dsk ad l C pr d past)) P) (hi:N[i]? =some z:=by rfl)
  (hb1:attributeBase (.Name z q3) "earlier" Y.X.env (eval (.Name z q3) Y.X.env)=eval (.Name z q3) Y.X.env:=by rfl)
  (hbase:attributeBase (.Attribute (.Name z q3) "earlier" q4) "pop" Y.X.env (eval (.Attribute (.Name z q3) "earlier" q4) Y.X.env)=eval (.Attribute (.Name z q3) "earlier" q4) Y.X.env:=by rfl) (hline:(q5.endLine==q6.line)=true:=by rfl)
  (hsw:swapsWith (.Call (.Attribute (.Attribute (.Name z q3) "earlier" q4) "pop" q5) [] [] q6) (some (.Attribute (.Name z q1) "spot" q2)) pos.line Y.X.env=pure false:=by rfl):
  SsD Y (.Assign [.Attribute (.Name z q1) "spot" q2] (.Call (.Attribute (.Attribute (.Name z q3) "earlier" q4) "pop" q5) [] [] q6) pos::rest) c P:=by
 have hx:=S.loc z (List.mem_of_getElem? hi)
 rw [<-S.n] at hi
 have pv:∀{q:Pos},PE Y.X (.Name z q) (tVar i):=fun {q}=>xU (pos:=q) hi (hx.1.elim .inl fun h=> .inr (.inl h)) hx.2.1 hx.2.2
 refine xI (PS.imp (wA pv (PE.unl (Zm PySem.F.plainAttrs_list PySem.F.slot_list_pop PySem.F.type_list_pop kT (z7 pv hb1) hbase hline)) hsw) fun D σ H ⟨F,E,m⟩=>?_)
 obtain ⟨hσ,dx,vs,u,w,h1,h2,h3,h4,h5,h6,h7,r1,r2,r3⟩:=E.dsk_at hs
 have al:ad≠l:=fun z=>by rw [z,h2] at h1;cases h1
 have cl:Cls Y.X.K C:=by rw [S.eK];exact Z.cl
 have ne:NoAttr Y.X.K C "earlier" :=by rw [S.eK];exact Z.ne
 have ns:NoAttr Y.X.K C "spot" :=by rw [S.eK];exact Z.ns
 have e1:upd H l (.lst vs) ad=some (.ins C dx (dskF u w l)):=by rw [xh al];exact h1
 have e2:upd H l (.lst vs) l=some (.lst vs):=xp
 have n1:=r3.length
 rw [List.length_append,List.length_singleton] at n1
 obtain ⟨v,hv,rv⟩:=r3.get (i:=past.length) (d:=d) (by simp)
 refine ⟨l,vs,h2,.ref ad,hσ,ad,C,dx,_,.ref l,rfl,e1,cl,ne,W7,.inl ⟨rfl,vs,.inl (.inl e2)⟩,l,vs,v,rfl,rfl,e2,?_,vs.dropLast,xp,fun hw=>?_⟩
 ·rw [show vs.length - 1=past.length by omega];exact hv
 ·have e3:upd (upd (upd H l (.lst vs)) l (.lst vs.dropLast)) l (.ext (LstAt l vs.dropLast)) ad=some (.ins C dx (dskF u w l)):=by rw [xh al,xh al];exact e1
  refine ⟨.ref ad,hσ,ad,C,dx,_,rfl,e3,cl,ns,(by show 3<1000;decide),?_⟩
  rw [xau]
  have rd:=wy r3
  rw [List.dropLast_concat] at rd
  refine m (.nx _) hr _ F _ (Same.refl F) (E.dsk_w (dx:=dx) (u:=u) (w:=v) hs hno (fun b n1 n2=>?_) xp ?_ hw r1 rv rd)
  ·rw [xh n1,xh n2,xh n2,xh n2]
  ·rw [xh (Ne.symm al),xp]
end
def firstD:D:= .tup [.int 0,.tup [.int 0,.int 1]]
section
variable {Y:Cy} {T:Tx} {k j:Nat} {N G ps:List Str} {c c' c'':List Slot} {e b:Expr} {es:List Expr} {pos p:Pos} {d d1 d2:D} {ds:List D} {x qual y m:Str} {P:Out->Prop} {rest:List Stmt} {ad l C:Addr} {pr s s':D} {past past':List D} {i:Nat}
theorem Uo {z:Str} {q1 q2 q3:Pos} (S:Se Y T k N G) (i:Nat) (hs:slot c i= .dsk ad l C pr s past) (Z:DskK T.K C) (hsh:SeqAt.shaped (toPy (.lst past))=true) (hi:N[i]? =some z:=by rfl)
  (hb1:attributeBase (.Name z q1) "earlier" Y.X.env (eval (.Name z q1) Y.X.env)=eval (.Name z q1) Y.X.env:=by rfl):TeD Y (.Compare (.Attribute (.Name z q1) "earlier" q2) [.Eq] [.List [] q3] pos) c (eqD (.lst past) (.lst [])):=by
 have hx:=S.loc z (List.mem_of_getElem? hi)
 rw [<-S.n] at hi
 have pv:∀{q:Pos},PE Y.X (.Name z q) (tVar i):=fun {q}=>xU (pos:=q) hi (hx.1.elim .inl fun h=> .inr (.inl h)) hx.2.1 hx.2.2
 refine PT.imp (PT.unl (Zg (Zo (d1:= .lst past) (d2:= .lst []) S.room.units hsh rfl) (z7 pv hb1) (Zl yu) (nomark _))) fun σ H Q ⟨F,E,q⟩=>?_
 obtain ⟨hσ,dx,vs,u,w,h1,h2,h3,h4,h5,h6,h7,r1,r2,r3⟩:=E.dsk_at hs
 have al:ad≠l:=fun z=>by rw [z,h2] at h1;cases h1
 have e1:upd H l (.lst vs) ad=some (.ins C dx (dskF u w l)):=by rw [xh al];exact h1
 refine ⟨l,vs,h2,.ref ad,hσ,ad,C,dx,_,.ref l,rfl,e1,by rw [S.eK];exact Z.cl,by rw [S.eK];exact Z.ne,W7,Nat.zero_le _,fun p hp=>?_⟩
 have pl:p≠l:=fun z=>by rw [z,xp] at hp;cases hp
 have hp':H p=none:=by rw [xh pl] at hp;exact hp
 have fp:F p=none:=none_of E.fh hp'
 have s1:Same F (upd (upd F l (.lst vs)) p (.lst [])):=fun b o g=>by rw [xh (xk g fp),xh (xk g h5)];exact g
 refine ⟨upd (upd F l (.lst vs)) p (.lst []),fun b o g=>?_,.lst (SqL.of (by rw [xh (Ne.symm pl),xp])) (r3.mono s1),.lst (SqL.of xp) .nil,_,rfl,vs,?_,fun _=>q F _ ⟨Same.refl F,fun b o g=>?_,fun b o g=>?_,fun _ _ z=>z⟩⟩
 ·by_cases e:b=p
  ·subst e;rw [xp] at g ⊢;exact g
  ·rw [xh e] at g ⊢
   by_cases e2:b=l
   ·subst e2;rw [xp] at g ⊢;exact g
   ·rw [xh e2] at g ⊢;exact E.fh b o g
 ·rw [xh (Ne.symm pl),xp]
 ·rw [xh (xk g h5),xh (xk g fp),xh (xk g h5)];exact E.fh b o g
 ·by_cases e2:b=l
  ·subst e2;rw [xp];rw [h2] at g;exact g
  ·rw [xh e2,xh (xk g hp'),xh e2];exact g
theorem K2 {z:Str} {p q1 q2:Pos} (S:Se Y T k N G) (gi i:Nat) (hs:slot c i= .dsk ad l C pr s past) (Z:DskK T.K C) (hm:T.mg "len" =none) (hg:G[gi]? =some ("len" :Str):=by rfl) (hi:N[i]? =some z:=by rfl)
  (hb1:attributeBase (.Name z q1) "earlier" Y.X.env (eval (.Name z q1) Y.X.env)=eval (.Name z q1) Y.X.env:=by rfl) (hst:starEach [.Attribute (.Name z q1) "earlier" q2] Y.X.env=(false,eval (.Attribute (.Name z q1) "earlier" q2) Y.X.env)::starEach [] Y.X.env:=by rfl):
  EvD Y (.Call (.Name "len" p) [.Attribute (.Name z q1) "earlier" q2] [] pos) c (.int past.length):=by
 have hx:=S.loc z (List.mem_of_getElem? hi)
 have gl:=S.gl _ (List.mem_of_getElem? hg)
 rw [<-S.n] at hi
 have pv:∀{q:Pos},PE Y.X (.Name z q) (tVar i):=fun {q}=>xU (pos:=q) hi (hx.1.elim .inl fun h=> .inr (.inl h)) hx.2.1 hx.2.2
 refine PE.imp (PE.unl (zN XQ gl.1 (by rw [S.eM];exact hm) Ww (xJ (z7 pv hb1) yu hst) gl.2.2 gl.2.1 hst rfl)) fun σ H Q ⟨F,E,q⟩=>?_
 obtain ⟨hσ,dx,vs,u,w,h1,h2,h3,h4,h5,h6,h7,r1,r2,r3⟩:=E.dsk_at hs
 have al:ad≠l:=fun z=>by rw [z,h2] at h1;cases h1
 have e1:upd H l (.lst vs) ad=some (.ins C dx (dskF u w l)):=by rw [xh al];exact h1
 refine ⟨l,vs,h2,.ref ad,hσ,ad,C,dx,_,.ref l,rfl,e1,by rw [S.eK];exact Z.cl,by rw [S.eK];exact Z.ne,W7,.ref l,vs.length,rfl,.inl ⟨vs,.inl (.inl xp),rfl⟩,vs,xp,fun _=>?_⟩
 rw [r3.length]
 refine q _ F _ ⟨Same.refl F,fun b o g=>?_,fun b o g=>?_,fun _ _ z=>z⟩ (.int _)
 ·rw [xh (xk g h5),xh (xk g h5)];exact E.fh b o g
 ·by_cases e2:b=l
  ·subst e2;rw [xp];rw [h2] at g;exact g
  ·rw [xh e2,xh e2];exact g
end
def spN (T:Tx) (C:Addr):Sp:=fun vs H Q _=>∃F a dx x p,vs=[.ref a,x]/\Same F H/\Rep T.K F x p/\H a=some (.ins C dx [])/\F a=none/\∀F' H' l x' y,Ext F (rmD H a a) F' H'->F' a=none->H' a=some (.ins C dx (dskF x' y l))->H' l=some (.lst [])->F' l=none->rmD H a a l=none->Rep T.K F' x' p->Rep T.K F' y firstD->Q .non H'
def tN (Y:Cy) (C:Addr) (p:D):TS:=fun D σ H=>∃F a dx,EnvY Y F H σ [.un,.val p]/\σ[0]? =some (some (.ref a))/\H a=some (.ins C dx [])/\F a=none/\Y.H0 a=none/\∀F' H' l x' y,Ext Y.F0 Y.H0 F' H'->F' a=none->H' a=some (.ins C dx (dskF x' y l))->H' l=some (.lst [])->F' l=none->Y.H0 l=none->Rep Y.X.K F' x' p->Rep Y.X.K F' y firstD->D.nx σ H'
section
variable {K:PySem.W.Frag} {F₀ H₀ F H:Hp} {σ:St} {c:List Slot} {a:Addr} {o:HO}
theorem Env.wr (E:Env K F₀ H₀ F H σ c) (h0:H₀ a=none) (hf:F a=none) (hv:∀j,slot c j= .un∨∃d,slot c j= .val d):Env K F₀ H₀ F (upd H a o) σ c where
 ext:=⟨E.ext.ff,fun b u q=>by rw [xh (xk q hf)];exact E.ext.fh b u q,fun b u q=>by rw [xh (xk q h0)];exact E.ext.hh b u q,E.ext.fr⟩
 len:=E.len
 sl:=fun j=>by
  have q:=E.sl j
  rcases hv j with h | ⟨d,h⟩
  ·rw [h];trivial
  ·rw [h] at q ⊢;exact q
 inj:=E.inj
end
section
variable {Y:Cy} {T:Tx} {k j:Nat} {N G ps:List Str} {c c' c'':List Slot} {e b:Expr} {es:List Expr} {pos p:Pos} {d d1 d2:D} {ds:List D} {x qual y m:Str} {P:Out->Prop} {rest:List Stmt} {ad l C:Addr} {pr s s':D} {past past':List D} {i:Nat}
theorem ky {sf fr z:Str} {q1 q2 q3 q4 r1 r2 r3 r4 t1 t2 t3 t4:Pos} (S:Sc Y T k [sf,fr] G) (Z:DskK T.K C) (hF:EvD Y (.Name z r3) [.un,.val pr] firstD)
  (hs1:swapsWith (.Name fr q3) (some (.Attribute (.Name sf q1) "prime" q2)) q4.line Y.X.env=pure false:=by rfl) (hs2:swapsWith (.Name z r3) (some (.Attribute (.Name sf r1) "spot" r2)) r4.line Y.X.env=pure false:=by rfl) (hs3:swapsWith (.List [] t3) (some (.Attribute (.Name sf t1) "earlier" t2)) t4.line Y.X.env=pure false:=by rfl):
  PSs Y.X [.Assign [.Attribute (.Name sf q1) "prime" q2] (.Name fr q3) q4,.Assign [.Attribute (.Name sf r1) "spot" r2] (.Name z r3) r4,.Assign [.Attribute (.Name sf t1) "earlier" t2] (.List [] t3) t4] (tN Y C pr):=by
 have hx:=S.loc sf (by simp)
 have hi:Y.X.N[0]? =some sf:=by rw [S.n];rfl
 have pv:∀{q:Pos},PE Y.X (.Name sf q) (tVar 0):=fun {q}=>xU (pos:=q) hi (hx.1.elim .inl fun h=> .inr (.inl h)) hx.2.1 hx.2.2
 have hp:EvD Y (.Name fr q3) [.un,.val pr] pr:=xb S.toSe 1
 have cl:Cls Y.X.K C:=by rw [S.eK];exact Z.cl
 have np:NoAttr Y.X.K C "prime" :=by rw [S.eK];exact Z.np
 have ne:NoAttr Y.X.K C "earlier" :=by rw [S.eK];exact Z.ne
 have ns:NoAttr Y.X.K C "spot" :=by rw [S.eK];exact Z.ns
 have hv:∀j,slot [Slot.un,.val pr] j= .un∨∃d,slot [Slot.un,.val pr] j= .val d:=fun j=>by
  match j with
  | 0=>exact .inl rfl
  | 1=>exact .inr ⟨pr,rfl⟩
  | j+2=>exact .inl rfl
 refine PSs.imp (vQ (wA pv hp hs1) (vQ (wA pv hF hs2) (Zh (wA pv (Zl yu) hs3)))) fun D σ H ⟨F,a,dx,E,hσ,ha,fa,h0,q⟩=>?_
 refine ⟨F,E,fun x1 F1 H1 e1 rx=>?_⟩
 have f1:F1 a=none:=e1.fr a (by rw [ha];exact fun z=>nomatch z) fa
 have E1:EnvY Y F1 (upd H1 a (.ins C dx (putF "prime" x1 []))) σ [.un,.val pr]:=(E.grow e1).wr h0 f1 hv
 refine ⟨.ref a,hσ,a,C,dx,[],rfl,e1.hh _ _ ha,cl,np,(by show 0<1000;decide),F1,E1,fun y1 F2 H2 e2 ry=>?_⟩
 have f2:F2 a=none:=e2.fr a (by rw [xp];exact fun z=>nomatch z) f1
 have a2:=e2.hh a _ xp
 have E2:EnvY Y F2 (upd H2 a (.ins C dx (putF "spot" y1 (putF "prime" x1 [])))) σ [.un,.val pr]:=(E1.grow e2).wr h0 f2 hv
 refine ⟨.ref a,hσ,a,C,dx,_,rfl,a2,cl,ns,(by show 1<1000;decide),Nat.zero_le _,fun l hl=>?_⟩
 have la:l≠a:=fun z=>by rw [z,xp] at hl;cases hl
 have l0:Y.H0 l=none:=none_of E2.ext.hh hl
 have fl:F2 l=none:=none_of E2.ext.fh hl
 refine ⟨.ref a,hσ,a,C,dx,_,rfl,by rw [xh (Ne.symm la),xp],cl,ne,(by show 2<1000;decide),?_⟩
 exact q F2 _ l x1 y1 ((E2.wr (o:= .lst []) l0 fl hv).wr (a:=a) h0 f2 hv).ext f2 xp (by rw [xh la,xp]) fl l0 (rx.mono e2.ff) ry
theorem xcx {fI:Addr} {fd:FuncData} {sf fr:Str} {st:Stmt} (F:Fun T.K x qual st fI fd) (B:ScB [sf,fr] [sf,fr] G (defScope st))
  (body:∀(Y:Cy) (S:Sc Y T k [sf,fr] G) (p:D),PSs Y.X (defBody st) (tN Y C p)):FnOk T.prog T.w T.K T.mg T.base CX0 (k+1) fI fd [sf,fr] (spN T C):=by
 refine F.ok B.fs (fun vs H Q E h=>?_) fun cdv A outer s H vs Q E hr h=>?_
 ·obtain ⟨F0,a,dx,x,p,rfl,_⟩:=h;rfl
 ·obtain ⟨F0,a,dx,x,p,rfl,f0,rx,ha,fa,q⟩:=h
  have S:Sc ⟨(cxOf CX0 T.prog T.w T.K T.mg T.base [sf,fr] qual (defScope st) fI cdv A outer s H E).nox,F0,rmD H a a⟩ T k [sf,fr] G:=
   ⟨⟨⟨rfl,rfl,rfl,rfl,rfl,rfl,B.fs.nd,B.loc,B.gl⟩,rfl,hr⟩,fun _=>rfl,PassesOwn.never⟩
  refine ⟨_,body _ S p,F0,a,dx,⟨⟨Same.refl F0,f0,fun b o g=>(z6 g).2.2,fun _ _ z=>z⟩,rfl,fun i=>?_,fun i j a h1 _ _ _=>?_⟩,rfl,ha,fa,Qu,fun F' H' l x' y h1 h2 h3 h4 h5 h6 h7 h8=>q F' H' l x' y h1 h2 h3 h4 h5 h6 h7 h8⟩
  ·cases i with
   | zero=>exact trivial
   | succ i=>
    cases i with
    | zero=>exact ⟨_,rfl,rx⟩
    | succ i=>show SlotOk T.K _ F0 H _ (slot [] i);exact trivial
  ·cases i with
   | zero=>cases h1
   | succ i=>
    cases i with
    | zero=>cases h1
    | succ i=>cases h1
theorem PE.lstx {X:Cx} {t:TE} (h:PE X e t):PE X e (fun σ H Q=>t σ H (fun v H'=>∃l vs,H' l=some (.lst vs)/\((∃h,LstAt l vs h)->Q v (upd H' l (.ext (LstAt l vs)))))):=by
 intro pins s σ H Q I q
 refine thn (h pins s σ _ _ I q) fun u s1 ⟨v,H',I',rv,l,vs',h',q'⟩=>?_
 have J:=I'.lstx h'
 exact ⟨v,_,J.1,rv,q' ⟨_,J.2⟩⟩
theorem Env.dsk_put {K:PySem.W.Frag} {F₀ H₀ F H:Hp} {σ:St} (E:Env K F₀ H₀ F H σ c) (hi:i<c.length) (hd:DskOk K H₀ F H ad l C pr s past) (ap:∀j,isOwn (slot c j)=true->σ[j]? =some (some (V.ref ad))->False):Env K F₀ H₀ F H (σ.set i (some (.ref ad))) (put c i (.dsk ad l C pr s past)) where
 ext:=E.ext
 len:=by rw [List.length_set,ya];exact E.len
 sl:=fun j=>by
  by_cases e:i=j
  ·subst e
   rw [xY _ _ _ hi,List.getElem?_set_self (by rw [E.len];exact hi)]
   exact ⟨rfl,hd⟩
  ·rw [xq _ _ _ _ e,List.getElem?_set_ne e]
   exact E.sl j
 inj:=fun j k b h1 h2 h3 h4=>by
  by_cases e:i=j
  ·subst e
   by_cases e2:i=k
   ·exact e2
   ·rw [List.getElem?_set_self (by rw [E.len];exact hi)] at h3
    cases h3
    rw [List.getElem?_set_ne e2] at h4
    rw [xq _ _ _ _ e2] at h2
    exact (ap k h2 h4).elim
  ·by_cases e2:i=k
   ·subst e2
    rw [List.getElem?_set_self (by rw [E.len];exact hi)] at h4
    cases h4
    rw [List.getElem?_set_ne e] at h3
    rw [xq _ _ _ _ e] at h1
    exact (ap j h1 h3).elim
   ·rw [xq _ _ _ _ e] at h1
    rw [xq _ _ _ _ e2] at h2
    rw [List.getElem?_set_ne e] at h3
    rw [List.getElem?_set_ne e2] at h4
    exact E.inj j k b h1 h2 h3 h4
theorem Env.own_some {K:PySem.W.Frag} {F₀ H₀ F H:Hp} {σ:St} {a:Addr} (E:Env K F₀ H₀ F H σ c) {j:Nat} (h:isOwn (slot c j)=true) (hσ:σ[j]? =some (some (V.ref a))):∃o,H a=some o:=by
 have q:=E.sl j
 cases hs:slot c j with
 | own ds'=>rw [hs] at q;obtain ⟨b,ws,h,h1,_⟩:=q;rw [hσ] at h;cases h;exact ⟨_,h1⟩
 | dic ds'=>rw [hs] at q;obtain ⟨b,ws,h,h1,_⟩:=q;rw [hσ] at h;cases h;exact ⟨_,h1⟩
 | thg ds'=>rw [hs] at q;obtain ⟨b,ws,h,h1,_⟩:=q;rw [hσ] at h;cases h;exact ⟨_,h1⟩
 | dsk a' l' C p' s' past=>rw [hs] at q;obtain ⟨h,_,_,_,_,h1,_⟩:=q;rw [hσ] at h;cases h;exact ⟨_,h1⟩
 | bor t=>rw [hs] at h;cases h
 | fnv t=>rw [hs] at h;cases h
 | un=>rw [hs] at h;cases h
 | val d=>rw [hs] at h;cases h
 | exc C dx=>rw [hs] at h;cases h
theorem xbZ {z:Str} {p pos':Pos} {f:Addr} {fd:FuncData} (S:Sc Y T k N G) (i gi:Nat) (M:Mk T.K C f) (F:FnOk T.prog T.w T.K T.mg T.base CX0 j f fd ps (spN T C)) (hj:j+1<=k) (hb:Binds T.K fd ps []) (hC:T.mg "Desk" =some (.ref C)) (he:EvD Y e c d) (hr:∀a l,SsD Y rest (put c i (.dsk a l C d firstD [])) P)
  (hg:G[gi]? =some ("Desk" :Str):=by rfl) (hi:N[i]? =some z:=by rfl) (hlt:i<c.length:=by first | exact of_decide_eq_true rfl | decide | omega) (hst:starEach [e] Y.X.env=(false,eval e Y.X.env)::starEach [] Y.X.env:=by rfl)
  (hsw:swapsWith (.Call (.Name "Desk" p) [e] [] pos) (some (.Name z pos')) pos.line Y.X.env=pure false:=by rfl):SsD Y (.Assign [.Name z pos'] (.Call (.Name "Desk" p) [e] [] pos) pos::rest) c P:=by
 have F':FnOk Y.X.prog Y.X.w Y.X.K Y.X.mg Y.X.base CX0 j f fd ps (spN T C):=by rw [S.eP,S.eW,S.eK,S.eM,S.eB];exact F
 have gl:=S.gl _ (List.mem_of_getElem? hg)
 have hx:=S.loc z (List.mem_of_getElem? hi)
 have hN:=S.nd
 rw [<-S.n] at hi hN
 refine xI (PS.imp (qy hN hi hx.1 (PE.lstx (Zk (by rw [S.eK];exact M) F' (S.room.mono hj) gl.1 (by rw [S.eM];exact hC) (by rw [S.eK];exact hb) .nil pass0 (xJ he yu hst) gl.2.1 hst rfl)) hsw (.inl (S.fn z))) fun D σ H ⟨F,E,m⟩=>⟨F,E,fun v F1 H1 e1 r1 a dx ha hdx hne=>?_⟩)
 have E1:=E.grow e1
 have B1:∀b o,H1 b=some o->upd (upd H1 dx (.own a)) a (.ins C dx []) b=some o/\b≠a:=fun b o g=>⟨by rw [xh (xk g ha),xh (xk g hdx)];exact g,xk g ha⟩
 refine ⟨F1,a,dx,v,d,rfl,fun b o g=>(B1 b o (e1.fh b o g)).1,by rw [<-S.eK];exact r1,xp,none_of e1.fh ha,fun F2 H2 l x' y h1 h2 h3 h4 h5 h6 h7 h8=>⟨rfl,l,[],h4,fun hw=>?_⟩⟩
 have la:l≠a:=fun z=>by rw [z,h3] at h4;cases h4
 have lH:H1 l=none:=by
  cases q:H1 l with
  | none=>rfl
  | some o=>
   have:=yE (B1 l o q).1 la la
   rw [h6] at this
   cases this
 have X:Ext F1 H1 F2 (upd H2 l (.ext (LstAt l []))):=by
  refine ⟨h1.ff,fun b o g=>?_,fun b o g=>?_,fun b hb fb=>?_⟩
  ·rw [xh (xk g h5)];exact h1.fh b o g
  ·obtain ⟨g1,g2⟩:=B1 b o g
   rw [xh (xk g lH)]
   exact h1.hh b o (yE g1 g2 g2)
  ·cases q:H1 b with
   | none=>exact absurd q hb
   | some o=>
    obtain ⟨g1,g2⟩:=B1 b o q
    exact h1.fr b (by rw [yE g1 g2 g2];exact fun z=>nomatch z) fb
 have E2:=E1.grow X
 refine m (.nx _) (hr a l) _ F2 _ (e1.ff.trans h1.ff) (E2.dsk_put hlt ⟨dx,[],x',y,by rw [xh (Ne.symm la)];exact h3,xp,hw,h2,h5,none_of E1.ext.hh ha,none_of E1.ext.hh lH,by rw [S.eK];exact h7,by rw [S.eK];exact h8,.nil⟩ fun j hj hσ=>?_)
 obtain ⟨o,ho⟩:=E1.own_some hj hσ
 rw [ha] at ho
 cases ho
end
structure DicT (T:Tx) (x:Str) (kvs:List (Str×Value)):Prop where
 ex:∃a o es ep,T.mg x=some (.ref a)/\(a==sysModules)=false/\T.K.lookup a=some o/\o.ExactDict/\o.data= .dict es ep/\KeysOf (strKind T.prog T.w) es/\Pairs (strKind T.prog T.w) es.toList kvs/\(kvs.map (·.1)).Nodup
section
variable {Y:Cy} {T:Tx} {k j:Nat} {N G:List Str} {c:List Slot} {a b e:Expr} {es:List Expr} {pos p:Pos} {d:D} {ds:List D} {x z w:Str} {P:Out->Prop} {rest:List Stmt} {kvs:List (Str×Value)} {u:Value} {v:V} {i:Nat} {f:Addr}
theorem Xp (S:Se Y T k N G) (gi:Nat) (Dc:DicT T x kvs) (hb:EvD Y b c (.str w)) (hv:valueAt kvs w=some u) (hr:RelV v u) (hs:NoSl b) (hg:G[gi]? =some x:=by rfl):
  PE Y.X (.Subscript (.Name x p) b pos) (fun σ H Q=>∃F,EnvY Y F H σ c/\∀F' H',Ext F H F' H'->Q v H'):=by
 obtain ⟨ad,o,es',ep,hm,hsm,hlk,h1,h2,h3,h4,h5⟩:=Dc.ex
 have gl:=S.gl x (List.mem_of_getElem? hg)
 intro pins s σ H Q I ⟨F,E,q⟩
 refine J7 PySem.F.slot_dict_getitem.lookup hs (yG I gl.1 (by rw [S.eM];exact hm) ?_ gl.2.1)
 refine thn (hb pins s σ H (fun y H1=>y= .str w/\∃F1,Ext F H F1 H1) I ⟨F,E,fun y F1 H1 e1 r1=>⟨xO r1,F1,e1⟩⟩) fun iv s2 ⟨y,H2,I2,ry,ey,F1,e1⟩=>?_
 subst ey
 obtain ⟨t,rfl⟩:=(show ∃t,iv=Value.str w t from ry)
 have dd:s2.heap.DictOf (strKind Y.X.prog Y.X.w) ad kvs:=by
  rw [S.eP,S.eW]
  exact ⟨o,es',ep,I2.kIn ad o (by rw [S.eK];exact hlk),h1,h2,h3,h4,h5⟩
 exact ⟨dd.typeIs,wpAny_getItem_of (knd:=strKind Y.X.prog Y.X.w) (k:=w) (by show Value.isStrOf w (.str w t)=true;simp [Value.isStrOf]) dd.mapOf hv ⟨v,H2,I2.tok _,hr,q F1 H2 e1⟩⟩
theorem xbF {y:Str} {t:Tok} (S:Se Y T k N G) (gi:Nat) (Dc:DicT T x kvs) (hb:EvD Y b c (.str w)) (hv:valueAt kvs w=some (.str y t)) (hs:NoSl b) (hg:G[gi]? =some x:=by rfl):EvD Y (.Subscript (.Name x p) b pos) c (.str y):=
 PE.imp (Xp (v:= .str y) S gi Dc hb hv ⟨t,rfl⟩ hs hg) fun σ H Q ⟨F,E,q⟩=>⟨F,E,fun F' H' x=>q _ F' H' x (.str y)⟩
theorem xbG {n:Int} {t:Tok} (S:Se Y T k N G) (gi:Nat) (Dc:DicT T x kvs) (hb:EvD Y b c (.str w)) (hv:valueAt kvs w=some (.int n t)) (hs:NoSl b) (hg:G[gi]? =some x:=by rfl):EvD Y (.Subscript (.Name x p) b pos) c (.int n):=
 PE.imp (Xp (v:= .int n) S gi Dc hb hv ⟨t,rfl⟩ hs hg) fun σ H Q ⟨F,E,q⟩=>⟨F,E,fun F' H' x=>q _ F' H' x (.int n)⟩
theorem Ky (S:Se Y T k N G) (gi:Nat) (Dc:DicT T x kvs) (ha:EvD Y a c (.str w)) (hg:G[gi]? =some x:=by rfl):
  PC Y.X .In a (.Name x p) (fun σ H Q=>∃F,EnvY Y F H σ c/\∀F' H',Ext F H F' H'->Q (.bl (valueAt kvs w).isSome) H'):=by
 obtain ⟨ad,o,es',ep,hm,hsm,hlk,h1,h2,h3,h4,h5⟩:=Dc.ex
 have gl:=S.gl x (List.mem_of_getElem? hg)
 intro pins s σ H Q I ⟨F,E,q⟩
 refine thn (ha pins s σ H (fun y H1=>y= .str w/\∃F1,Ext F H F1 H1) I ⟨F,E,fun y F1 H1 e1 r1=>⟨xO r1,F1,e1⟩⟩) fun iv s2 ⟨y,H2,I2,ry,ey,F1,e1⟩=>yG I2 gl.1 (by rw [S.eM];exact hm) ?_ gl.2.1
 subst ey
 obtain ⟨t,rfl⟩:=(show ∃t,iv=Value.str w t from ry)
 have dd:s2.heap.DictOf (strKind Y.X.prog Y.X.w) ad kvs:=by
  rw [S.eP,S.eW]
  exact ⟨o,es',ep,I2.kIn ad o (by rw [S.eK];exact hlk),h1,h2,h3,h4,h5⟩
 exact wpAny_in_of (knd:=strKind Y.X.prog Y.X.w) (k:=w) (by show Value.isStrOf w (.str w t)=true;simp [Value.isStrOf]) hsm dd.mapOf ⟨.bl _,H2,I2.tok _,rfl,q F1 H2 e1⟩
theorem kH (S:Se Y T k N G) (gi:Nat) (Dc:DicT T x kvs) (ha:EvD Y a c (.str w)) (hg:G[gi]? =some x:=by rfl):
  PC Y.X .NotIn a (.Name x p) (fun σ H Q=>∃F,EnvY Y F H σ c/\∀F' H',Ext F H F' H'->Q (.bl (!(valueAt kvs w).isSome)) H'):=by
 obtain ⟨ad,o,es',ep,hm,hsm,hlk,h1,h2,h3,h4,h5⟩:=Dc.ex
 have gl:=S.gl x (List.mem_of_getElem? hg)
 intro pins s σ H Q I ⟨F,E,q⟩
 refine thn (ha pins s σ H (fun y H1=>y= .str w/\∃F1,Ext F H F1 H1) I ⟨F,E,fun y F1 H1 e1 r1=>⟨xO r1,F1,e1⟩⟩) fun iv s2 ⟨y,H2,I2,ry,ey,F1,e1⟩=>yG I2 gl.1 (by rw [S.eM];exact hm) ?_ gl.2.1
 subst ey
 obtain ⟨t,rfl⟩:=(show ∃t,iv=Value.str w t from ry)
 have dd:s2.heap.DictOf (strKind Y.X.prog Y.X.w) ad kvs:=by
  rw [S.eP,S.eW]
  exact ⟨o,es',ep,I2.kIn ad o (by rw [S.eK];exact hlk),h1,h2,h3,h4,h5⟩
 exact wpAny_notIn_of (knd:=strKind Y.X.prog Y.X.w) (k:=w) (by show Value.isStrOf w (.str w t)=true;simp [Value.isStrOf]) hsm dd.mapOf ⟨.bl _,H2,I2.tok _,rfl,q F1 H2 e1⟩
theorem J5 (S:Se Y T k N G) (gi:Nat) (Dc:DicT T x kvs) (ha:EvD Y a c (.str w)) (hg:G[gi]? =some x:=by rfl) (hm:behindInMarks .In (.Name x p)=false:=by rfl):TeD Y (.Compare a [.In] [.Name x p] pos) c (valueAt kvs w).isSome:=
 PT.imp (VO (Ky S gi Dc ha hg) hm) fun σ H Q ⟨F,E,q⟩=>⟨F,E,fun F' H' x=>⟨_,rfl,q F' H' x⟩⟩
theorem jO (S:Se Y T k N G) (gi:Nat) (Dc:DicT T x kvs) (ha:EvD Y a c (.str w)) (hg:G[gi]? =some x:=by rfl) (hm:behindInMarks .NotIn (.Name x p)=false:=by rfl):TeD Y (.Compare a [.NotIn] [.Name x p] pos) c (!(valueAt kvs w).isSome):=
 PT.imp (VO (kH S gi Dc ha hg) hm) fun σ H Q ⟨F,E,q⟩=>⟨F,E,fun F' H' x=>⟨_,rfl,q F' H' x⟩⟩
theorem Env.setF {K:PySem.W.Frag} {F₀ H₀ F H:Hp} {σ:St} (E:Env K F₀ H₀ F H σ c) (hi:i<c.length):Env K F₀ H₀ F H (σ.set i (some (.ref f))) (put c i (.fnv f)) where
 ext:=E.ext
 len:=by rw [List.length_set,ya];exact E.len
 sl:=fun j=>by
  by_cases e:i=j
  ·subst e
   rw [xY _ _ _ hi,List.getElem?_set_self (by rw [E.len];exact hi)]
   rfl
  ·rw [xq _ _ _ _ e,List.getElem?_set_ne e]
   exact E.sl j
 inj:=fun j k a h1 h2 h3 h4=>by
  by_cases e:i=j
  ·subst e;rw [xY _ _ _ hi] at h1;cases h1
  ·by_cases e2:i=k
   ·subst e2;rw [xY _ _ _ hi] at h2;cases h2
   ·rw [xq _ _ _ _ e] at h1
    rw [xq _ _ _ _ e2] at h2
    rw [List.getElem?_set_ne e] at h3
    rw [List.getElem?_set_ne e2] at h4
    exact E.inj j k a h1 h2 h3 h4
theorem Ka {pos':Pos} (S:Sc Y T k N G) (i gi:Nat) (Dc:DicT T x kvs) (hb:EvD Y b c (.str w)) (hv:valueAt kvs w=some (.ref f)) (hn:NoSl b) (hr:SsD Y rest (put c i (.fnv f)) P) (hg:G[gi]? =some x:=by rfl) (hi:N[i]? =some z:=by rfl) (hlt:i<c.length:=by first | exact of_decide_eq_true rfl | decide | omega)
  (hs:swapsWith (.Subscript (.Name x p) b pos) (some (.Name z pos')) pos.line Y.X.env=pure false:=by rfl):SsD Y (.Assign [.Name z pos'] (.Subscript (.Name x p) b pos) pos::rest) c P:=by
 have hx:=S.loc z (List.mem_of_getElem? hi)
 have hN:=S.nd
 rw [<-S.n] at hi hN
 refine xI (PS.imp (qy hN hi hx.1 (Xp (v:= .ref f) S.toSe gi Dc hb hv rfl hn hg) hs (.inl (S.fn z))) fun D σ H ⟨F,E,m⟩=>⟨F,E,fun F' H' e'=>?_⟩)
 exact m (.nx _) hr _ F' H' e'.ff ((E.grow e').setF hlt)
theorem XM {R:List D->D->Prop} (S:Se Y T k N G) (i:Nat) (hsl:slot c i= .fnv f) (Fn:FnD T j x R) (hf:T.mg x=some (.ref f)) (hj:j<=k) (ha:ArD Y (e::es) c ds) (hR:R ds d) (hi:N[i]? =some z:=by rfl)
  (he:starEach (e::es) Y.X.env=(false,eval e Y.X.env)::starEach es Y.X.env:=by rfl) (hpl:(backTo pos (starEach es Y.X.env)).any (·.1)=false:=by rfl):EvD Y (.Call (.Name z p) (e::es) [] pos) c d:=by
 obtain ⟨f',fd,ps,hm,hk,hb,F⟩:=Fn.ex
 rw [hf] at hm
 cases hm
 have hx:=S.loc z (List.mem_of_getElem? hi)
 rw [<-S.n] at hi
 have F':FnOk Y.X.prog Y.X.w Y.X.K Y.X.mg Y.X.base CX0 j f fd ps (spD Y.X.K R):=by rw [S.eP,S.eW,S.eK,S.eM,S.eB];exact F
 intro pins s σ H Q I ⟨F0,E,q⟩
 have hσ:σ[i]? =some (some (.ref f)):=by have:=E.sl i;rw [hsl] at this;exact this
 refine wpAny_Call_Name_kw (thn (xU hi (hx.1.elim .inl fun h=> .inr (.inl h)) hx.2.1 hx.2.2 pins s σ H (fun v H1=>v= .ref f/\H1=H) I ⟨.ref f,hσ,rfl,rfl⟩) fun fv s1 ⟨v,H1,I1,rv,ev,eh⟩=>?_)
 subst ev eh
 cases (show fv=Value.ref f from rv)
 refine PySem.W.callWith_K (h₀:=Y.X.base) I1.ok.mod.kin (by rw [S.eK];exact hk) (thn (ha pos pins s1 σ H1 (fun vs H2=>∃F1,Ext F0 H1 F1 H2/\Reps Y.X.K F1 vs ds) I1 ⟨F0,E,fun vs F1 H2 e1 r1=>⟨F1,e1,r1⟩⟩) fun us s2 ⟨vs,H2,I2,r,F1,e1,rs⟩=>⟨I2.kIn,?_⟩) he hpl
 exact Xl (dvs:=[]) (ds:=[]) F' (S.room.mono hj) (by rw [S.eK];exact hb) .nil pass0 I2 r (by rw [List.append_nil];exact ⟨F1,ds,d,e1.fh,rs,hR,fun v F2 H3 e2 r2=>q v F2 H3 (e1.trans e2) r2⟩)
end
inductive VD where
 | s (x:Str) | i (n:Int) | f (g:Str)
def RV (T:Tx):VD->Value->Prop
 | .s x,v=>∃t,v= .str x t
 | .i n,v=>∃t,v= .int n t
 | .f g,v=>∃a,T.mg g=some (.ref a)/\v= .ref a
inductive PV (T:Tx):List (Str×VD)->List (Str×Value)->Prop
 | nil:PV T [] []
 | cons {x:Str} {d:VD} {v:Value} {l:List (Str×VD)} {m:List (Str×Value)}:RV T d v->PV T l m->PV T ((x,d)::l) ((x,v)::m)
def DicV (T:Tx) (x:Str) (l:List (Str×VD)):Prop:=∃kvs,DicT T x kvs/\PV T l kvs
def lkD:List (Str×VD)->Str->Option VD
 | [],_=>none
 | (y,d)::r,x=>if y=x then some d else lkD r x
theorem vH {x w:Str} {v:Value} {m:List (Str×Value)}:valueAt ((x,v)::m) w=if x=w then some v else valueAt m w:=by
 unfold valueAt
 rw [List.find?_cons]
 by_cases h:x=w
 ·rw [if_pos h];simp [h]
 ·rw [if_neg h];simp [h]
theorem uA {T:Tx} {w:Str} {d:VD}:∀{l:List (Str×VD)} {m:List (Str×Value)},PV T l m->lkD l w=some d->∃v,valueAt m w=some v/\RV T d v
 | _,_,.nil,h=>by cases h
 | _,_,.cons (x:=x) r t,h=>by
  rw [vH]
  unfold lkD at h
  by_cases e:x=w
  ·rw [if_pos e] at h ⊢
   cases h
   exact ⟨_,rfl,r⟩
  ·rw [if_neg e] at h ⊢
   exact uA t h
theorem kr {T:Tx} {w:Str}:∀{l:List (Str×VD)} {m:List (Str×Value)},PV T l m->(valueAt m w).isSome=(lkD l w).isSome
 | _,_,.nil=>rfl
 | _,_,.cons (x:=x) r t=>by
  rw [vH]
  unfold lkD
  by_cases e:x=w
  ·rw [if_pos e,if_pos e];rfl
  ·rw [if_neg e,if_neg e]
   exact kr t
def dicE (P:Params) (l:List (Str×Tok×Value)):Array DictEntry:=(l.map fun q=>(⟨PyData.keyHash P q.1,.str q.1 q.2.1,q.2.2⟩:DictEntry)).toArray
theorem Xr {pr:Program} {w:World}:∀l:List (Str×Tok×Value),Pairs (strKind pr w) (l.map fun q=>(⟨PyData.keyHash w.params q.1,.str q.1 q.2.1,q.2.2⟩:DictEntry)) (l.map fun q=>(q.1,q.2.2))
 | []=> .nil
 | q::r=> .cons (by show Value.isStrOf q.1 (.str q.1 q.2.1)=true;simp [Value.isStrOf]) rfl (Xr r)
theorem uH {T:Tx} {x:Str} {ca:Addr} {l:List (Str×Tok×Value)} {n:Nat} (hm:T.mg x=some (.ref ca)) (hs:(ca==sysModules)=false) (hl:T.K.lookup ca=some ⟨.type "dict",none,.dict (dicE T.w.params l) n,#[]⟩) (hn:(l.map (·.1)).Nodup):DicT T x (l.map fun q=>(q.1,q.2.2)):=by
 refine ⟨ca,_,_,_,hm,hs,hl,⟨rfl,rfl,rfl⟩,rfl,fun e he=>?_,Xr l,by rw [List.map_map];exact hn⟩
 unfold dicE at he
 obtain ⟨q,_,rfl⟩:=List.mem_map.mp (List.mem_toArray.mp he)
 exact ⟨q.1,by show Value.isStrOf q.1 (.str q.1 q.2.1)=true;simp [Value.isStrOf],rfl⟩
section
variable {Y:Cy} {T:Tx} {k j:Nat} {N G:List Str} {c:List Slot} {a b e:Expr} {es:List Expr} {pos p:Pos} {d:D} {ds:List D} {x z w g:Str} {P:Out->Prop} {rest:List Stmt} {l:List (Str×VD)} {i:Nat} {f:Addr}
theorem xbD {y:Str} (S:Se Y T k N G) (gi:Nat) (Dc:DicV T x l) (hb:EvD Y b c (.str w)) (hv:lkD l w=some (.s y)) (hs:NoSl b) (hg:G[gi]? =some x:=by rfl):EvD Y (.Subscript (.Name x p) b pos) c (.str y):=by
 obtain ⟨kvs,D1,D2⟩:=Dc
 obtain ⟨v,h1,t,rfl⟩:=uA D2 hv
 exact xbF S gi D1 hb h1 hs hg
theorem xbE {n:Int} (S:Se Y T k N G) (gi:Nat) (Dc:DicV T x l) (hb:EvD Y b c (.str w)) (hv:lkD l w=some (.i n)) (hs:NoSl b) (hg:G[gi]? =some x:=by rfl):EvD Y (.Subscript (.Name x p) b pos) c (.int n):=by
 obtain ⟨kvs,D1,D2⟩:=Dc
 obtain ⟨v,h1,t,rfl⟩:=uA D2 hv
 exact xbG S gi D1 hb h1 hs hg
theorem zW (S:Se Y T k N G) (gi:Nat) (Dc:DicV T x l) (ha:EvD Y a c (.str w)) (hg:G[gi]? =some x:=by rfl) (hm:behindInMarks .In (.Name x p)=false:=by rfl):TeD Y (.Compare a [.In] [.Name x p] pos) c (lkD l w).isSome:=by
 obtain ⟨kvs,D1,D2⟩:=Dc
 rw [<-kr D2]
 exact J5 S gi D1 ha hg hm
theorem jN (S:Se Y T k N G) (gi:Nat) (Dc:DicV T x l) (ha:EvD Y a c (.str w)) (hg:G[gi]? =some x:=by rfl) (hm:behindInMarks .NotIn (.Name x p)=false:=by rfl):TeD Y (.Compare a [.NotIn] [.Name x p] pos) c (!(lkD l w).isSome):=by
 obtain ⟨kvs,D1,D2⟩:=Dc
 rw [<-kr D2]
 exact jO S gi D1 ha hg hm
theorem xaQ {pos':Pos} (S:Sc Y T k N G) (i gi:Nat) (Dc:DicV T x l) (hb:EvD Y b c (.str w)) (hv:lkD l w=some (.f g)) (hn:NoSl b) (hr:∀f,T.mg g=some (.ref f)->SsD Y rest (put c i (.fnv f)) P) (hg:G[gi]? =some x:=by rfl) (hi:N[i]? =some z:=by rfl) (hlt:i<c.length:=by first | exact of_decide_eq_true rfl | decide | omega)
  (hs:swapsWith (.Subscript (.Name x p) b pos) (some (.Name z pos')) pos.line Y.X.env=pure false:=by rfl):SsD Y (.Assign [.Name z pos'] (.Subscript (.Name x p) b pos) pos::rest) c P:=by
 obtain ⟨kvs,D1,D2⟩:=Dc
 obtain ⟨v,h1,f,hf,rfl⟩:=uA D2 hv
 exact Ka S i gi D1 hb h1 hn (hr f hf) hg hi hlt hs
end
def DeedT (C:Addr) (fs:List (Str×D)):Thing:=
 ⟨fun K F _ o=>∃(dx:Addr) (ws:List (Str×V)),o= .ins C dx ws/\ws.map Prod.fst=fs.map Prod.fst/\Reps K F (ws.map Prod.snd) (fs.map Prod.snd),fun e ⟨dx,ws,h1,h2,h3⟩=>⟨dx,ws,h1,h2,h3.mono e⟩⟩
theorem W1 {K:PySem.W.Frag} {F:Hp} {x:Str} {d:D}:∀{ws:List (Str×V)} {fs:List (Str×D)},ws.map Prod.fst=fs.map Prod.fst->Reps K F (ws.map Prod.snd) (fs.map Prod.snd)->fs.lookup x=some d->∃v,ws.lookup x=some v/\Rep K F v d
 | [],[],_,_,h=>by cases h
 | [],_::_,e,_,_=>by cases e
 | _::_,[],e,_,_=>by cases e
 | (y,v)::ws,(z,d')::fs,e,r,h=>by
  have e1:y=z:=by injection e
  have e2:ws.map Prod.fst=fs.map Prod.fst:=by injection e
  subst e1
  have r:Reps K F (v::ws.map Prod.snd) (d'::fs.map Prod.snd):=r
  cases r with
  | cons r1 r2=>
   rw [List.lookup_cons] at h ⊢
   cases q:x==y with
   | true=>rw [q] at h;cases h;exact ⟨v,rfl,r1⟩
   | false=>rw [q] at h;exact W1 e2 r2 h
theorem W2:∀{ws:List (Str×V)} {fs:List (Str×D)} {x:Str},ws.map Prod.fst=fs.map Prod.fst->fs.lookup x=none->ws.lookup x=none
 | [],[],_,_,_=>rfl
 | [],_::_,_,e,_=>by cases e
 | _::_,[],_,e,_=>by cases e
 | (y,v)::ws,(z,d')::fs,x,e,h=>by
  have e1:y=z:=by injection e
  have e2:ws.map Prod.fst=fs.map Prod.fst:=by injection e
  subst e1
  rw [List.lookup_cons] at h ⊢
  cases q:x==y with
  | true=>rw [q] at h;cases h
  | false=>rw [q] at h;exact W2 e2 h
def spE (T:Tx) (cn:Str) (R:List (Str×D)->List D->D->Prop):Sp:=fun vs H Q _=>∃F a o C fs ws ds d,vs= .ref a::ws/\Same F H/\T.mg cn=some (.ref C)/\H a=some o/\ThgOk (DeedT C fs) T.K F a o/\Reps T.K F ws ds/\R fs ds d/\∀v F' H',Ext F H F' H'->Rep T.K F' v d->Q v H'
structure FnE (T:Tx) (k:Nat) (cn m:Str) (R:List (Str×D)->List D->D->Prop):Prop where
 ex:∃(C f:Addr) (fd:FuncData) (ps:List Str),T.mg cn=some (.ref C)/\Cls T.K C/\Meth T.K C m f/\Binds T.K fd ps []/\FnOk T.prog T.w T.K T.mg T.base CX0 k f fd ps (spE T cn R)
def ctxE (N:List Str) (C:Addr) (fs:List (Str×D)) (ds:List D):List Slot:= .bor (DeedT C fs)::(ds.map Slot.val++List.replicate (N.length - (ds.length+1)) Slot.un)
theorem Wn {K:PySem.W.Frag} {F H:Hp} {N:List Str} {vs:List V} {ds:List D} {a C:Addr} {o:HO} {fs:List (Str×D)} (f:Same F H) (r:Reps K F vs ds) (h1:H a=some o) (h2:ThgOk (DeedT C fs) K F a o):Env K F H F H (L2.start N (.ref a::vs)) (ctxE N C fs ds) where
 ext:=Ext.refl f
 len:=by
  unfold L2.start ctxE
  simp [r.length]
 sl:=fun i=>by
  unfold L2.start ctxE
  rw [List.length_cons,r.length]
  cases i with
  | zero=>exact ⟨a,o,rfl,h1,h2⟩
  | succ i=>exact vJ (K:=K) (F:=F) (H0:=H) (H:=H) (n:=N.length - (ds.length+1)) r i
 inj:=fun i j b h1 _ _ _=>by
  exfalso
  cases i with
  | zero=>cases h1
  | succ i=>
   have h:isOwn (slot (ds.map Slot.val++List.replicate (N.length - (ds.length+1)) Slot.un) i)=true:=h1
   rw [zb] at h
   cases h
section
variable {Y:Cy} {T:Tx} {k j:Nat} {N G ps:List Str} {c:List Slot} {e a b:Expr} {es:List Expr} {pos p:Pos} {d:D} {ds:List D} {R:List (Str×D)->List D->D->Prop} {x qual m cn:Str} {P:Out->Prop} {rest:List Stmt} {C:Addr} {fs:List (Str×D)} {i:Nat}
theorem YA {st:Stmt} {f:Addr} {fd:FuncData} (F:Fun T.K x qual st f fd) (B:ScB N ps G (defScope st)) (hlen:∀fs ds d,R fs ds d->ds.length+1=ps.length)
  (body:∀(Y:Cy) (S:Sc Y T k N G) (Z:Fx Y st) (C:Addr) (fs:List (Str×D)) (ds:List D) (d:D),T.mg cn=some (.ref C)->R fs ds d->SsD Y (defBody st) (ctxE N C fs ds) (Ret d)):FnOk T.prog T.w T.K T.mg T.base CX0 (k+1) f fd ps (spE T cn R):=by
 refine F.ok B.fs (fun vs H Q E h=>?_) fun cdv A outer s H vs Q E hr h=>?_
 ·obtain ⟨F0,a,o,C,fs,ws,ds,d,rfl,_,_,_,_,r,hR,_⟩:=h
  rw [List.length_cons,r.length];exact hlen fs ds d hR
 ·obtain ⟨F0,a,o,C,fs,ws,ds,d,rfl,f0,hC,h1,h2,r,hR,q⟩:=h
  have S:Sc ⟨(cxOf CX0 T.prog T.w T.K T.mg T.base N qual (defScope st) f cdv A outer s H E).nox,F0,H⟩ T k N G:=
   ⟨⟨⟨rfl,rfl,rfl,rfl,rfl,rfl,B.fs.nd,B.loc,B.gl⟩,rfl,hr⟩,fun _=>rfl,PassesOwn.never⟩
  refine ⟨_,body _ S ⟨rfl,rfl,rfl,rfl⟩ C fs ds d hC hR,F0,Wn f0 r h1 h2,fun o ho=>?_⟩
  cases o with
  | rt e=>cases ho;exact fun v F' H' _ x r'=>q v F' H' x r'
  | nx c=>cases ho;exact fun σ F' H' _ E'=>q .non F' H' E'.ext .non
  | ro e=>exact False.elim ho
  | bk c=>exact False.elim ho
  | ct c=>exact False.elim ho
  | rs R=>exact False.elim ho
theorem Uc {z:Str} {q1:Pos} (S:Sn Y T N G) (i:Nat) (hs:slot c i= .bor (DeedT C fs)) (cl:Cls T.K C) (na:NoAttr T.K C x) (hf:fs.lookup x=some d) (hi:N[i]? =some z:=by rfl) (hb:attributeBase (.Name z q1) x Y.X.env (eval (.Name z q1) Y.X.env)=eval (.Name z q1) Y.X.env:=by rfl):EvD Y (.Attribute (.Name z q1) x pos) c d:=by
 have hx:=S.loc z (List.mem_of_getElem? hi)
 rw [<-S.n] at hi
 refine PE.imp (z7 (xU hi (hx.1.elim .inl fun h=> .inr (.inl h)) hx.2.1 hx.2.2) hb) fun σ H Q ⟨F,E,q⟩=>?_
 obtain ⟨a,o,hσ,h1,dx,ws,rfl,e1,r1⟩:=E.bor_at hs
 obtain ⟨v,hv,rv⟩:=W1 e1 r1 hf
 exact ⟨.ref a,hσ,a,C,dx,ws,v,rfl,h1,by rw [S.eK];exact cl,by rw [S.eK];exact na,hv,q v F H (Ext.refl E.fh) rv⟩
theorem wP {z:Str} {q1 apos:Pos} {pl:Sem Bool} (S:Se Y T k N G) (i:Nat) (Fn:FnE T j cn m R) (hj:j<=k) (hs:slot c i= .bor (DeedT C fs)) (hC:T.mg cn=some (.ref C)) (hl0:fs.lookup m=none) (hR:R fs [] d) (hi:N[i]? =some z:=by rfl)
  (ht:eval (.Call (.Attribute (.Name z q1) m apos) [] [] pos) Y.X.env=(do
   let ov <-eval (.Name z q1) Y.X.env
   standAt apos.atName
   let (f,first) <-holding [ov] (getMethod ov m pl)
   callWith pos f first (backTo pos (starEach [] Y.X.env)) (backToKw pos (keywordEach [] Y.X.env))):=by rfl):EvD Y (.Call (.Attribute (.Name z q1) m apos) [] [] pos) c d:=by
 obtain ⟨C2,f,fd,ps,hm,hc,hmt,hb,F⟩:=Fn.ex
 rw [hC] at hm
 cases hm
 have F':FnOk Y.X.prog Y.X.w Y.X.K Y.X.mg Y.X.base CX0 j f fd ps (spE T cn R):=by rw [S.eP,S.eW,S.eK,S.eM,S.eB];exact F
 have hx:=S.loc z (List.mem_of_getElem? hi)
 rw [<-S.n] at hi
 refine PE.imp (QA (pl:=pl) (xU hi (hx.1.elim .inl fun h=> .inr (.inl h)) hx.2.1 hx.2.2) (by rw [S.eK];exact hc) (by rw [S.eK];exact hmt) F' (S.room.mono hj) (by rw [S.eK];exact hb) .nil pass0 ht) fun σ H Q ⟨F,E,q⟩=>?_
 obtain ⟨a,o,hσ,h1,hT⟩:=E.bor_at hs
 obtain ⟨dx,ws,rfl,e1,r1⟩:=id hT
 refine ⟨.ref a,hσ,a,dx,ws,rfl,h1,W2 e1 hl0,F,a,_,C,fs,[],[],d,rfl,E.fh,hC,h1,by rw [<-S.eK];exact hT,.nil,hR,fun v F' H' x r=>q v F' H' x (by rw [S.eK];exact r)⟩
end
def spD1 (T:Tx) (C:Addr) (g:Str) (P:D->Prop):Sp:=fun vs H Q _=>∃F a dx x q,vs=[.ref a,x]/\Same F H/\Rep T.K F x q/\P q/\H a=some (.ins C dx [])/\F a=none/\∀F' H' x',Ext F (rmD H a a) F' H'->F' a=none->H' a=some (.ins C dx [(g,x')])->Rep T.K F' x' q->Q .non H'
def tD1 (Y:Cy) (C:Addr) (g:Str) (q:D):TS:=fun D σ H=>∃F a dx,EnvY Y F H σ [.un,.val q]/\σ[0]? =some (some (.ref a))/\H a=some (.ins C dx [])/\F a=none/\Y.H0 a=none/\∀F' H' x',Ext Y.F0 Y.H0 F' H'->F' a=none->H' a=some (.ins C dx [(g,x')])->Rep Y.X.K F' x' q->D.nx σ H'
section
variable {Y:Cy} {T:Tx} {k j j2:Nat} {N G ps ps2:List Str} {c:List Slot} {e a b:Expr} {es:List Expr} {pos p:Pos} {d q:D} {ds:List D} {R:List (Str×D)->List D->D->Prop} {x qual m cn g:Str} {P:Out->Prop} {rest:List Stmt} {C:Addr} {fs:List (Str×D)} {i:Nat}
theorem xbu {q:D}:∀j,slot [Slot.un,.val q] j= .un∨∃d,slot [Slot.un,.val q] j= .val d:=fun j=>by
 match j with
 | 0=>exact .inl rfl
 | 1=>exact .inr ⟨q,rfl⟩
 | j+2=>exact .inl rfl
theorem kA {sf fr:Str} {q1 q2 q3 q4:Pos} (S:Sc Y T k [sf,fr] G) (cl:Cls T.K C) (na:NoAttr T.K C g)
  (hs1:swapsWith (.Name fr q3) (some (.Attribute (.Name sf q1) g q2)) q4.line Y.X.env=pure false:=by rfl):
  PS Y.X (.Assign [.Attribute (.Name sf q1) g q2] (.Name fr q3) q4) (tD1 Y C g q):=by
 have hx:=S.loc sf (by simp)
 have hi:Y.X.N[0]? =some sf:=by rw [S.n];rfl
 have hp:EvD Y (.Name fr q3) [.un,.val q] q:=xb S.toSe 1
 refine PS.imp (wA (xU hi (hx.1.elim .inl fun h=> .inr (.inl h)) hx.2.1 hx.2.2) hp hs1) fun D σ H ⟨F,a,dx,E,hσ,ha,fa,h0,r⟩=>⟨F,E,fun x1 F1 H1 e1 rx=>?_⟩
 have f1:F1 a=none:=e1.fr a (by rw [ha];exact fun z=>nomatch z) fa
 refine ⟨.ref a,hσ,a,C,dx,[],rfl,e1.hh _ _ ha,by rw [S.eK];exact cl,by rw [S.eK];exact na,(by show 0<1000;decide),?_⟩
 exact r F1 _ x1 ((E.grow e1).wr h0 f1 xbu).ext f1 xp rx
theorem xch {fI:Addr} {fd:FuncData} {sf fr:Str} {st:Stmt} {P:D->Prop} (F:Fun T.K x qual st fI fd) (B:ScB [sf,fr] [sf,fr] G (defScope st))
  (body:∀(Y:Cy) (S:Sc Y T k [sf,fr] G) (q:D),P q->PSs Y.X (defBody st) (tD1 Y C g q)):FnOk T.prog T.w T.K T.mg T.base CX0 (k+1) fI fd [sf,fr] (spD1 T C g P):=by
 refine F.ok B.fs (fun vs H Q E h=>?_) fun cdv A outer s H vs Q E hr h=>?_
 ·obtain ⟨F0,a,dx,x,q,rfl,_⟩:=h;rfl
 ·obtain ⟨F0,a,dx,x,q,rfl,f0,rx,hP,ha,fa,r⟩:=h
  have S:Sc ⟨(cxOf CX0 T.prog T.w T.K T.mg T.base [sf,fr] qual (defScope st) fI cdv A outer s H E).nox,F0,rmD H a a⟩ T k [sf,fr] G:=
   ⟨⟨⟨rfl,rfl,rfl,rfl,rfl,rfl,B.fs.nd,B.loc,B.gl⟩,rfl,hr⟩,fun _=>rfl,PassesOwn.never⟩
  refine ⟨_,body _ S q hP,F0,a,dx,⟨⟨Same.refl F0,f0,fun b o g=>(z6 g).2.2,fun _ _ z=>z⟩,rfl,fun i=>?_,fun i j a h1 _ _ _=>?_⟩,rfl,ha,fa,Qu,fun F' H' x' h1 h2 h3 h4=>r F' H' x' h1 h2 h3 h4⟩
  ·cases i with
   | zero=>exact trivial
   | succ i=>
    cases i with
    | zero=>exact ⟨_,rfl,rx⟩
    | succ i=>show SlotOk T.K _ F0 H _ (slot [] i);exact trivial
  ·cases i with
   | zero=>cases h1
   | succ i=>
    cases i with
    | zero=>cases h1
    | succ i=>cases h1
theorem XL {P1:D->Prop} {f:Addr} {fd:FuncData} {p1 p2 apos:Pos} {e1:Expr} {pl:Sem Bool} (S:Se Y T k N G) (gi:Nat) (M:Mk T.K C f) (F:FnOk T.prog T.w T.K T.mg T.base CX0 j f fd ps (spD1 T C g P1)) (hj:j+1<=k) (hb:Binds T.K fd ps []) (hC:T.mg cn=some (.ref C)) (Fn:FnE T j2 cn m R) (hj2:j2<=k) (hgm:(g==m)=false)
  (he:EvD Y e c q) (hP:P1 q) (ha:ArD Y (e1::es) c ds) (hR:R [(g,q)] ds d) (hg:G[gi]? =some cn:=by rfl) (hst:starEach [e] Y.X.env=(false,eval e Y.X.env)::starEach [] Y.X.env:=by rfl)
  (hst2:starEach (e1::es) Y.X.env=(false,eval e1 Y.X.env)::starEach es Y.X.env:=by rfl) (hpl:(backTo pos (starEach es Y.X.env)).any (·.1)=false:=by rfl)
  (ht:eval (.Call (.Attribute (.Call (.Name cn p1) [e] [] p2) m apos) (e1::es) [] pos) Y.X.env=(do
   let ov <-eval (.Call (.Name cn p1) [e] [] p2) Y.X.env
   standAt apos.atName
   let (f,first) <-holding [ov] (getMethod ov m pl)
   callWith pos f first (backTo pos (starEach (e1::es) Y.X.env)) (backToKw pos (keywordEach [] Y.X.env))):=by rfl):EvD Y (.Call (.Attribute (.Call (.Name cn p1) [e] [] p2) m apos) (e1::es) [] pos) c d:=by
 obtain ⟨C2,f2,fd2,ps2,hm,hc,hmt,hb2,F2⟩:=Fn.ex
 rw [hC] at hm
 cases hm
 have F':FnOk Y.X.prog Y.X.w Y.X.K Y.X.mg Y.X.base CX0 j f fd ps (spD1 T C g P1):=by rw [S.eP,S.eW,S.eK,S.eM,S.eB];exact F
 have F2':FnOk Y.X.prog Y.X.w Y.X.K Y.X.mg Y.X.base CX0 j2 f2 fd2 ps2 (spE T cn R):=by rw [S.eP,S.eW,S.eK,S.eM,S.eB];exact F2
 have gl:=S.gl _ (List.mem_of_getElem? hg)
 refine PE.imp (qN (pl:=pl) (Zk (by rw [S.eK];exact M) F' (S.room.mono hj) gl.1 (by rw [S.eM];exact hC) (by rw [S.eK];exact hb) .nil pass0 (xJ he yu hst) gl.2.1 hst rfl) (by rw [S.eK];exact hc) (by rw [S.eK];exact hmt) F2' (S.room.mono hj2) (by rw [S.eK];exact hb2) .nil pass0 ha hst2 hpl ht) fun σ H Q ⟨F0,E,r⟩=>⟨F0,E,fun v F1 H1 e1 r1 a dx ha hdx hne=>?_⟩
 have E1:=E.grow e1
 have B1:∀b o,H1 b=some o->upd (upd H1 dx (.own a)) a (.ins C dx []) b=some o/\b≠a:=fun b o g=>⟨by rw [xh (xk g ha),xh (xk g hdx)];exact g,xk g ha⟩
 refine ⟨F1,a,dx,v,q,rfl,fun b o g=>(B1 b o (e1.fh b o g)).1,by rw [<-S.eK];exact r1,hP,xp,none_of e1.fh ha,fun F2 H2 x' h1 h2 h3 h4=>⟨rfl,a,dx,[(g,x')],rfl,h3,?_,?_⟩⟩
 ·show List.lookup m [(g,x')]=none
  rw [List.lookup_cons]
  have:(m==g)=false:=by rw [Bool.beq_comm];exact hgm
  rw [this]
  rfl
 have X:Ext F1 H1 F2 H2:=by
  refine ⟨h1.ff,fun b o g=>h1.fh b o g,fun b o g=>?_,fun b hb fb=>?_⟩
  ·obtain ⟨g1,g2⟩:=B1 b o g
   exact h1.hh b o (yE g1 g2 g2)
  ·cases q:H1 b with
   | none=>exact absurd q hb
   | some o=>
    obtain ⟨g1,g2⟩:=B1 b o q
    exact h1.fr b (by rw [yE g1 g2 g2];exact fun z=>nomatch z) fb
 have E2:=E1.grow X
 refine ⟨F2,E2,fun vs F3 H3 e3 r3=>?_⟩
 have h4':Rep T.K F3 x' q:=h4.mono e3.ff
 exact ⟨F3,a,_,C,[(g,q)],vs++ [],ds,d,rfl,e3.fh,hC,e3.hh _ _ h3,⟨dx,[(g,x')],rfl,rfl,.cons h4' .nil⟩,by rw [List.append_nil,<-S.eK];exact r3,hR,fun v F4 H4 e4 r4=>r v F4 H4 (e1.trans (X.trans (e3.trans e4))) (by rw [S.eK];exact r4)⟩
end
section
open PySem.W
theorem _root_.L2.pe_mk0 {X:Cx} {C:Addr} {x:Str} {p pos:Pos} (mk:makesIn X.K C=true) (hi:findIn X.K (.ref C) "__init__" =some (some (.builtin "object.__init__"))) (kp:keepIn X.K (.ref C)=true) (hg:Gl X x) (hm:X.mg x=some (.ref C)) (hdb:(x==("__debug__" :Str))=false:=by decide):
  PE X (.Call (.Name x p) [] [] pos) (fun _ H Q=>∀a dx,H a=none->H dx=none->dx≠a->Q (.ref a) (upd (upd H dx (.own a)) a (.ins C dx []))):=by
 intro pins s σ H Q I h
 refine wpAny_Call_Name_kw (yG I hg hm ?_ hdb)
 refine PySem.W.callWith_K0 I.kIn kp ?_
 have hq:=h (s.heap.objs.size+1) s.heap.objs.size (I.hok.fresh (Nat.le_succ _)) (I.hok.fresh (Nat.le_refl _)) (Nat.ne_of_lt (Nat.lt_succ_self _))
 have I2:=Inv.made (C:=C) I
 have Y:=makes_of (M:=model X.prog X.w) I.kIn mk
 refine wpAny_call (U3 I.kIn mk hi (fun self=>Looks.of_pure (oi_bind self)) ?_)
 have g:((s.heap.push emptyDict).push (instObj C s.heap.objs.size)).get? (s.heap.objs.size+1)=some (instObj C s.heap.objs.size):=by
  have:=Heap.get?_push_size (s.heap.push emptyDict) (o:=instObj C s.heap.objs.size) rfl
  rwa [Heap.size_push] at this
 have t1:Looks (model X.prog X.w) ((s.heap.push emptyDict).push (instObj C s.heap.objs.size)) (typeOf (.ref (s.heap.objs.size+1))) (.ref C):=(Looks.ld g).andThen .now
 have t2:Looks (model X.prog X.w) ((s.heap.push emptyDict).push (instObj C s.heap.objs.size)) (isInstance (.ref (s.heap.objs.size+1)) (.type "object")) true:=t1.andThen (Y.top.keeps fun b o e=>Heap.get?_push_of_some _ (Heap.get?_push_of_some _ e))
 refine codeAny_call_builtin oi_plain entry_oi (@check_slot (model X.prog X.w) _ _ _ "object.__init__" "object" "__init__" (.ref (s.heap.objs.size+1)) [] [] _ oi_kind oi_split t2 (oi_args (.ref (s.heap.objs.size+1))) ?_)
 rw [oi_run]
 exact wpAny_pure (And.intro rfl ⟨.ref (s.heap.objs.size+1),_,I2,rfl,hq⟩)
end
section
variable {Y:Cy} {T:Tx} {k j j2:Nat} {N G ps:List Str} {c:List Slot} {e a b:Expr} {es:List Expr} {pos p:Pos} {d q:D} {ds:List D} {R:List (Str×D)->List D->D->Prop} {x qual m cn g:Str} {C:Addr}
theorem QX {p1 p2 apos:Pos} {e1:Expr} {pl:Sem Bool} (S:Se Y T k N G) (gi:Nat) (mk:PySem.W.makesIn T.K C=true) (hin:PySem.W.findIn T.K (.ref C) "__init__" =some (some (.builtin "object.__init__"))) (kp:PySem.W.keepIn T.K (.ref C)=true) (hC:T.mg cn=some (.ref C)) (Fn:FnE T j2 cn m R) (hj2:j2<=k)
  (ha:ArD Y (e1::es) c ds) (hR:R [] ds d) (hg:G[gi]? =some cn:=by rfl)
  (hst2:starEach (e1::es) Y.X.env=(false,eval e1 Y.X.env)::starEach es Y.X.env:=by rfl) (hpl:(backTo pos (starEach es Y.X.env)).any (·.1)=false:=by rfl)
  (ht:eval (.Call (.Attribute (.Call (.Name cn p1) [] [] p2) m apos) (e1::es) [] pos) Y.X.env=(do
   let ov <-eval (.Call (.Name cn p1) [] [] p2) Y.X.env
   standAt apos.atName
   let (f,first) <-holding [ov] (getMethod ov m pl)
   callWith pos f first (backTo pos (starEach (e1::es) Y.X.env)) (backToKw pos (keywordEach [] Y.X.env))):=by rfl):EvD Y (.Call (.Attribute (.Call (.Name cn p1) [] [] p2) m apos) (e1::es) [] pos) c d:=by
 obtain ⟨C2,f2,fd2,ps2,hm,hc,hmt,hb2,F2⟩:=Fn.ex
 rw [hC] at hm
 cases hm
 have F2':FnOk Y.X.prog Y.X.w Y.X.K Y.X.mg Y.X.base CX0 j2 f2 fd2 ps2 (spE T cn R):=by rw [S.eP,S.eW,S.eK,S.eM,S.eB];exact F2
 have gl:=S.gl _ (List.mem_of_getElem? hg)
 refine PE.imp (qN (pl:=pl) (pe_mk0 (C:=C) (by rw [S.eK];exact mk) (by rw [S.eK];exact hin) (by rw [S.eK];exact kp) gl.1 (by rw [S.eM];exact hC) gl.2.1) (by rw [S.eK];exact hc) (by rw [S.eK];exact hmt) F2' (S.room.mono hj2) (by rw [S.eK];exact hb2) .nil pass0 ha hst2 hpl ht) fun σ H Q ⟨F1,E1,r⟩ a dx ha hdx hne=>?_
 refine ⟨a,dx,[],rfl,xp,rfl,?_⟩
 have X:Ext F1 H F1 (upd (upd H dx (.own a)) a (.ins C dx [])):=by
  refine ⟨Same.refl _,fun b o g=>?_,fun b o g=>?_,fun _ _ z=>z⟩
  ·have g':=E1.fh b o g
   rw [xh (xk g' ha),xh (xk g' hdx)];exact g'
  ·rw [xh (xk g ha),xh (xk g hdx)];exact g
 have E2:=E1.grow X
 refine ⟨F1,E2,fun vs F3 H3 e3 r3=>?_⟩
 exact ⟨F3,a,_,C,[],vs++ [],ds,d,rfl,e3.fh,hC,e3.hh _ _ xp,⟨dx,[],rfl,rfl,.nil⟩,by rw [List.append_nil,<-S.eK];exact r3,hR,fun v F4 H4 e4 r4=>r v F4 H4 (X.trans (e3.trans e4)) (by rw [S.eK];exact r4)⟩
end
end DL
namespace DMX
open PySem PySem.Spec PyProof.Rows L2
section
open PySem.SeqAt
open PySem.AutoSeq1 (wpAny_loadPart')
open PySem.MeetsSeq PySem.MeetsSeq2 PySem.MeetsSeq3
end
end DMX
namespace DL
open PySem L2
section
variable {prog:Program} {w:World} {A:Around} {E Q:Value->Shared->Prop} {s:Shared} {x y:Value}
end
section
variable {X:Cx} {pins:List (Addr×Obj)} {σ:St} {H F:Hp} {s:Shared} {v:V} {u:Value}
end
section
variable {Y:Cy} {T:Tx} {k:Nat} {N G:List Str} {c:List Slot} {e a b o:Expr} {pos apos:Pos} {ds:List D}
theorem kU {X:Cx}:MtR X "str.join" (fun x vs H Q=>∃sep p xs,x= .str sep/\vs=[.ref p]/\SqL X.K H p (xs.map V.str)/\JoinOk sep xs=true/\Q (.str (Txt.join sep xs)) H):=by
 intro pins s σ H x xs v us Q I rx r h
 obtain ⟨sep,p,ys,rfl,rfl,hp,hok,q⟩:=h
 obtain ⟨t,rfl⟩:=rx
 obtain ⟨u,rfl,ru⟩:=vals1 r
 cases (show u=Value.ref p from ru)
 obtain ⟨its,r',pl,hz2⟩:=I.list hp
 obtain ⟨ls,el,ex⟩:=vg r'
 subst el ex
 unfold JoinOk at hok
 rw [Bool.not_eq_true'] at hok
 refine call_meets PySem.F.slot_str_join (typeIs_str s sep t) PySem.F.entry_str_join (PySem.F.args_str_join_2 _ _) (meets_str_join_list sep t p ls hok) ⟨pl.isList,post_join ls ⟨joinFit_length hok,fun t' k=>⟨.str _,H,I.kept (t':=k) (fun _ _ z=>z),⟨t',rfl⟩,q⟩⟩⟩
theorem Jv {sep:Str} {xs:List Str} (ho:EvD Y o c (.str sep)) (ha:EvD Y b c (.lst (xs.map D.str))) (hok:JoinOk sep xs=true)
  (hbase:attributeBase o "join" Y.X.env (eval o Y.X.env)=eval o Y.X.env:=by rfl) (hfew:((backTo pos (starEach [b] Y.X.env)).all (fun x=> !x.1) && (backToKw pos (keywordEach [] Y.X.env)).all (fun x=>x.1.isSome)
   && decide ([b].length+([]:List Keyword).length+(if ([]:List Keyword).isEmpty then 0 else 1)<30))=true:=by rfl) (hline:(apos.endLine==pos.line)=true:=by rfl) (hs:starEach [b] Y.X.env=(false,eval b Y.X.env)::starEach [] Y.X.env:=by rfl):
  EvD Y (.Call (.Attribute o "join" apos) [b] [] pos) c (.str (Txt.join sep xs)):=
 PE.imp (Yu PySem.F.plainAttrs_str PySem.F.slot_str_join PySem.F.type_str_join kU ho (xJ ha yu hs) hbase hfew hline hs rfl) fun σ H Q ⟨F,E,q⟩=>⟨F,E,fun v F1 H1 e1 r1=>by
  cases xO r1
  exact ⟨rfl,F1,E.grow e1,fun w F2 H2 e2 r2=>by
   obtain ⟨p,ws,rfl,hp,rs⟩:=yV r2
   have:=uO rs
   subst this
   exact ⟨sep,p,xs,rfl,rfl,e2.fh.seq hp,hok,q _ F2 H2 (e1.trans e2) (.str _)⟩⟩⟩
end
section
variable {Y:Cy} {T:Tx} {k:Nat} {G:List Str} {pos p:Pos} {q:D} {g:Str} {C:Addr} {t:Expr} {sa:List Stmt}
theorem UJ {sf fr:Str} {q1 q2 q3 q4:Pos} (S:Sc Y T k [sf,fr] G) (cl:Cls T.K C) (na:NoAttr T.K C g)
  (hs1:swapsWith (.Name fr q3) (some (.Attribute (.Name sf q1) g q2)) q4.line Y.X.env=pure false:=by rfl):
  PSs Y.X [.Assign [.Attribute (.Name sf q1) g q2] (.Name fr q3) q4] (tD1 Y C g q):=Zh (kA S cl na hs1)
theorem UK {sf fr:Str} {q1 q2 q3 q4:Pos} (S:Sc Y T k [sf,fr] G) (cl:Cls T.K C) (na:NoAttr T.K C g) (ht:TeD Y t [.un,.val q] false)
  (hs1:swapsWith (.Name fr q3) (some (.Attribute (.Name sf q1) g q2)) q4.line Y.X.env=pure false:=by rfl):
  PSs Y.X [.If t sa [] p,.Assign [.Attribute (.Name sf q1) g q2] (.Name fr q3) q4] (tD1 Y C g q):=by
 refine PSs.imp (vQ (Qz ht (zM (sts:=sa)) WQ) (Zh (kA (q:=q) S cl na hs1))) fun D σ H ⟨F,a,dx,E,hσ,ha,fa,h0,r⟩=>⟨F,E,fun F1 H1 e1=>L2.iteF ?_⟩
 exact ⟨F1,a,dx,E.grow e1,hσ,e1.hh _ _ ha,e1.fr a (by rw [ha];exact fun z=>nomatch z) fa,h0,r⟩
end
def deKb (K:PySem.W.Frag) (C:Addr):Bool:=PySem.W.plainGet K C Str.empty && (PySem.W.hasDictIn K C && (PySem.W.plainOver K C && (PySem.W.findIn K (.ref C) "__setattr__" ==some (some (.builtin "object.__setattr__")) && PySem.W.findIn K (.ref C) "number" ==some none)))
theorem Wt {K:PySem.W.Frag} {C:Addr} (h:deKb K C=true):Cls K C/\NoAttr K C "number" :=by
 unfold deKb at h
 simp only [Bool.and_eq_true,beq_iff_eq] at h
 obtain ⟨a,b,c,d,e⟩:=h
 exact ⟨⟨a,b,c,d⟩,e⟩
theorem QZ {Y:Cy} {T:Tx} {k j:Nat} {N G:List Str} {c:List Slot} {e:Expr} {es:List Expr} {pos p:Pos} {x:Str} {R:List D->D->Prop} (S:Se Y T k N G) (gi:Nat) (Fn:FnD T j x R) (hj:j<=k) (ha:ArX Y (e::es) c) (hg:G[gi]? =some x:=by rfl)
  (he:starEach (e::es) Y.X.env=(false,eval e Y.X.env)::starEach es Y.X.env:=by rfl) (hpl:(backTo pos (starEach es Y.X.env)).any (·.1)=false:=by rfl):EvX Y (.Call (.Name x p) (e::es) [] pos) c:=by
 obtain ⟨f,fd,ps,hm,hk,hb,F⟩:=Fn.ex
 have F':FnOk Y.X.prog Y.X.w Y.X.K Y.X.mg Y.X.base CX0 j f fd ps (spD Y.X.K R):=by rw [S.eP,S.eW,S.eK,S.eM,S.eB];exact F
 have gl:=S.gl x (List.mem_of_getElem? hg)
 exact PE.imp (qO F' (S.room.mono hj) gl.1 (by rw [S.eM];exact hm) (by rw [S.eK];exact hk) (by rw [S.eK];exact hb) .nil pass0 ha gl.2.1 he hpl) fun σ H Q ⟨F,E⟩=>⟨F,E⟩
def ndK (K:PySem.W.Frag):Bool:=match K.lookup cStatics with
 | some ⟨_,_,.dict es _,_⟩=>es.toList.all (fun e=>match e.key with | .str _ _=>true | _=>false) && (es.toList.find? (·.key.isStr "sys.int_max_str_digits")).isNone
 | _=>false
theorem xb6 {K:PySem.W.Frag} {h:Heap} (X:K.In h) (e:ndK K=true):h.NoDigits:=by
 unfold ndK at e
 split at e
 ·rename_i c d es n sl q
  have g:=X _ _ q
  obtain ⟨e1,e2⟩:=Bool.and_eq_true_iff.mp e
  refine ⟨fun x=>nsFind es x,⟨_,es,n,g,rfl,fun u hu=>?_,fun _=>rfl⟩,?_⟩
  ·have:=List.all_eq_true.mp e1 u (by simpa using hu)
   cases hk:u.key with
   | str a t=>exact ⟨a,t,rfl⟩
   | _=>rw [hk] at this;cases this
  ·show nsFind es "sys.int_max_str_digits" =none
   unfold nsFind findBy
   rw [<-Array.find?_toList,Option.isNone_iff_eq_none.mp e2]
   rfl
 ·cases e
theorem X4 {X:Cx} (hh:X.A.handled=none) (nd:ndK X.K=true):CallR X (.type "str") (fun xs H Q=>∃i,xs=[.int i]/\i.natAbs<10^4300/\Q (.str (toString i)) H):=by
 intro pins s σ H xs us Q I r h
 obtain ⟨i,rfl,hz,q⟩:=h
 obtain ⟨u,rfl,t,rfl⟩:=vals1 r
 exact PyProof.Rows.str_of_int_or hh (xb6 I.kIn nd) (fun _=>⟨.str _,H,I.tok _,⟨_,rfl⟩,q⟩) (fun hge=>absurd hz (Nat.not_lt.mpr hge))
section
variable {Y:Cy} {T:Tx} {k:Nat} {N G:List Str} {c:List Slot} {e:Expr} {pos:Pos}
theorem uG (S:Se Y T k N G) (gi:Nat) {i:Int} {p:Pos} (nd:ndK T.K=true) (ha:ArD Y [e] c [.int i]) (hz:i.natAbs<10^4300) (hm:T.mg "str" =none) (hg:G[gi]? =some ("str" :Str):=by rfl) (he:starEach [e] Y.X.env=(false,eval e Y.X.env)::starEach [] Y.X.env:=by rfl):EvD Y (.Call (.Name "str" p) [e] [] pos) c (.str (toString i)):=
 qW S gi (X4 S.room.hd (by rw [S.eK];exact nd)) hg hm Wv ha (fun vs F H Q f r q=>by
  obtain ⟨v,rfl,rv⟩:=inv1 r
  exact ⟨i,by rw [xD rv],hz,q _ F H (Ext.refl f) (.str _)⟩) he rfl
end
def spD1X (T:Tx) (C:Addr) (g:Str) (P Pe:D->Prop) (y:Str):Sp:=fun vs H Q E=>∃F a dx x q,vs=[.ref a,x]/\Same F H/\Rep T.K F x q/\H a=some (.ins C dx [])/\F a=none/\
 ((P q/\∀F' H' x',Ext F (rmD H a a) F' H'->F' a=none->H' a=some (.ins C dx [(g,x')])->Rep T.K F' x' q->Q .non H')∨(Pe q/\∀C' F' H',T.mg y=some (.ref C')->Ext F (rmD H a a) F' H'->E (.ref C') none H'))
section
variable {Y:Cy} {T:Tx} {k j j2:Nat} {N G ps ps2:List Str} {c:List Slot} {e a b:Expr} {es:List Expr} {pos p:Pos} {d q:D} {ds:List D} {R:List (Str×D)->List D->D->Prop} {x qual m cn g y:Str} {P:Out->Prop} {rest:List Stmt} {C:Addr} {fs:List (Str×D)} {i:Nat}
theorem xbx {fI:Addr} {fd:FuncData} {sf fr:Str} {st:Stmt} {P Pe:D->Prop} (F:Fun T.K x qual st fI fd) (B:ScB [sf,fr] [sf,fr] G (defScope st))
  (body:∀(Y:Cy) (S:Sc Y T k [sf,fr] G) (q:D),(P q->PSs Y.X (defBody st) (tD1 Y C g q))/\(Pe q->(∀c,RzN Y T y c/\RzMN Y T y c)->SsD Y (defBody st) [.un,.val q] (fun _=>False))):FnOk T.prog T.w T.K T.mg T.base (CXE T.prog T.w) (k+1) fI fd [sf,fr] (spD1X T C g P Pe y):=by
 obtain ⟨oc,od,kV,doc,pm,an,cdv,ct,osl,rfl,lk,hcd⟩:=F.ex
 refine QQ lk hcd B.fs (fun vs H Q E h=>?_) fun A outer s H vs Q E hr h=>?_
 ·obtain ⟨F0,a,dx,x,q,rfl,_⟩:=h;rfl
 ·obtain ⟨F0,a,dx,x,q,rfl,f0,rx,ha,fa,r⟩:=h
  have S:Sc ⟨cxOf (CXE T.prog T.w) T.prog T.w T.K T.mg T.base [sf,fr] qual (defScope st) fI cdv A outer s H E,F0,rmD H a a⟩ T k [sf,fr] G:=
   ⟨⟨⟨rfl,rfl,rfl,rfl,rfl,rfl,B.fs.nd,B.loc,B.gl⟩,rfl,hr⟩,fun _=>rfl,PassesOwn.leaving⟩
  have En:EnvY ⟨cxOf (CXE T.prog T.w) T.prog T.w T.K T.mg T.base [sf,fr] qual (defScope st) fI cdv A outer s H E,F0,rmD H a a⟩ F0 H (L2.start [sf,fr] [.ref a,x]) [.un,.val q]:=by
   refine ⟨⟨Same.refl F0,f0,fun b o g=>(z6 g).2.2,fun _ _ z=>z⟩,rfl,fun i=>?_,fun i j a h1 _ _ _=>?_⟩
   ·cases i with
    | zero=>exact trivial
    | succ i=>
     cases i with
     | zero=>exact ⟨_,rfl,rx⟩
     | succ i=>show SlotOk T.K _ F0 H _ (slot [] i);exact trivial
   ·cases i with
    | zero=>cases h1
    | succ i=>
     cases i with
     | zero=>cases h1
     | succ i=>cases h1
  rcases r with ⟨hP,r⟩ | ⟨hP,r⟩
  ·exact ⟨_,(body _ S q).1 hP,F0,a,dx,En,rfl,ha,fa,Qu,fun F' H' x' h1 h2 h3 h4=>r F' H' x' h1 h2 h3 h4⟩
  ·refine ⟨_,(body _ S q).2 hP (fun c=>?_),F0,En,fun o ho=>ho.elim⟩
   exact ⟨fun C hC=>⟨fun I _ _ En L=>v7 I rfl ⟨rfl,rfl⟩ L fun s' L=>⟨_,C,_,rfl,L,r C _ _ hC En.ext⟩⟩,fun C hC=>⟨fun I En M=>qa I rfl ⟨rfl,rfl⟩ M fun s' L=>⟨_,C,_,rfl,L,r C _ _ hC En.ext⟩⟩⟩
theorem YE {P1 Pe:D->Prop} {f:Addr} {fd:FuncData} {p1 p2 apos:Pos} {e1:Expr} {pl:Sem Bool} (S:Se Y T k N G) (gi:Nat) (M:Mk T.K C f) (F:FnOk T.prog T.w T.K T.mg T.base (CXE T.prog T.w) j f fd ps (spD1X T C g P1 Pe y)) (hj:j+1<=k) (hb:Binds T.K fd ps []) (hC:T.mg cn=some (.ref C)) (Fn:FnE T j2 cn m R) (hj2:j2<=k) (hgm:(g==m)=false)
  (he:EvD Y e c q) (hP:P1 q) (ha:ArD Y (e1::es) c ds) (hR:R [(g,q)] ds d) (hg:G[gi]? =some cn:=by rfl) (hst:starEach [e] Y.X.env=(false,eval e Y.X.env)::starEach [] Y.X.env:=by rfl)
  (hst2:starEach (e1::es) Y.X.env=(false,eval e1 Y.X.env)::starEach es Y.X.env:=by rfl) (hpl:(backTo pos (starEach es Y.X.env)).any (·.1)=false:=by rfl)
  (ht:eval (.Call (.Attribute (.Call (.Name cn p1) [e] [] p2) m apos) (e1::es) [] pos) Y.X.env=(do
   let ov <-eval (.Call (.Name cn p1) [e] [] p2) Y.X.env
   standAt apos.atName
   let (f,first) <-holding [ov] (getMethod ov m pl)
   callWith pos f first (backTo pos (starEach (e1::es) Y.X.env)) (backToKw pos (keywordEach [] Y.X.env))):=by rfl):EvD Y (.Call (.Attribute (.Call (.Name cn p1) [e] [] p2) m apos) (e1::es) [] pos) c d:=by
 obtain ⟨C2,f2,fd2,ps2,hm,hc,hmt,hb2,F2⟩:=Fn.ex
 rw [hC] at hm
 cases hm
 have F':FnOk Y.X.prog Y.X.w Y.X.K Y.X.mg Y.X.base (CXE Y.X.prog Y.X.w) j f fd ps (spD1X T C g P1 Pe y):=by rw [S.eP,S.eW,S.eK,S.eM,S.eB];exact F
 have F2':FnOk Y.X.prog Y.X.w Y.X.K Y.X.mg Y.X.base CX0 j2 f2 fd2 ps2 (spE T cn R):=by rw [S.eP,S.eW,S.eK,S.eM,S.eB];exact F2
 have gl:=S.gl _ (List.mem_of_getElem? hg)
 refine PE.imp (qN (pl:=pl) (Zk (E:=E0) (by rw [S.eK];exact M) F' (S.room.mono hj) gl.1 (by rw [S.eM];exact hC) (by rw [S.eK];exact hb) .nil (fun _ _ _ _ _ _ _ ⟨_,_,_,_,_,z⟩=>z.elim) (xJ he yu hst) gl.2.1 hst rfl) (by rw [S.eK];exact hc) (by rw [S.eK];exact hmt) F2' (S.room.mono hj2) (by rw [S.eK];exact hb2) .nil pass0 ha hst2 hpl ht) fun σ H Q ⟨F0,E,r⟩=>⟨F0,E,fun v F1 H1 e1 r1 a dx ha hdx hne=>?_⟩
 have E1:=E.grow e1
 have B1:∀b o,H1 b=some o->upd (upd H1 dx (.own a)) a (.ins C dx []) b=some o/\b≠a:=fun b o g=>⟨by rw [xh (xk g ha),xh (xk g hdx)];exact g,xk g ha⟩
 refine ⟨F1,a,dx,v,q,rfl,fun b o g=>(B1 b o (e1.fh b o g)).1,by rw [<-S.eK];exact r1,xp,none_of e1.fh ha,.inl ⟨hP,fun F2 H2 x' h1 h2 h3 h4=>⟨rfl,a,dx,[(g,x')],rfl,h3,?_,?_⟩⟩⟩
 ·show List.lookup m [(g,x')]=none
  rw [List.lookup_cons]
  have:(m==g)=false:=by rw [Bool.beq_comm];exact hgm
  rw [this]
  rfl
 have X:Ext F1 H1 F2 H2:=by
  refine ⟨h1.ff,fun b o g=>h1.fh b o g,fun b o g=>?_,fun b hb fb=>?_⟩
  ·obtain ⟨g1,g2⟩:=B1 b o g
   exact h1.hh b o (yE g1 g2 g2)
  ·cases q:H1 b with
   | none=>exact absurd q hb
   | some o=>
    obtain ⟨g1,g2⟩:=B1 b o q
    exact h1.fr b (by rw [yE g1 g2 g2];exact fun z=>nomatch z) fb
 have E2:=E1.grow X
 refine ⟨F2,E2,fun vs F3 H3 e3 r3=>?_⟩
 have h4':Rep T.K F3 x' q:=h4.mono e3.ff
 exact ⟨F3,a,_,C,[(g,q)],vs++ [],ds,d,rfl,e3.fh,hC,e3.hh _ _ h3,⟨dx,[(g,x')],rfl,rfl,.cons h4' .nil⟩,by rw [List.append_nil,<-S.eK];exact r3,hR,fun v F4 H4 e4 r4=>r v F4 H4 (e1.trans (X.trans (e3.trans e4))) (by rw [S.eK];exact r4)⟩
theorem QT {P1 Pe:D->Prop} {f:Addr} {fd:FuncData} {p1 p2:Pos} (S:Se Y T k N G) (gi:Nat) (M:Mk T.K C f) (F:FnOk T.prog T.w T.K T.mg T.base (CXE T.prog T.w) j f fd ps (spD1X T C g P1 Pe y)) (hj:j+1<=k) (hb:Binds T.K fd ps []) (hC:T.mg cn=some (.ref C))
  (he:EvD Y e c q) (hP:Pe q) (hz:RzN Y T y c) (hg:G[gi]? =some cn:=by rfl) (hst:starEach [e] Y.X.env=(false,eval e Y.X.env)::starEach [] Y.X.env:=by rfl):EvX Y (.Call (.Name cn p1) [e] [] p2) c:=by
 have F':FnOk Y.X.prog Y.X.w Y.X.K Y.X.mg Y.X.base (CXE Y.X.prog Y.X.w) j f fd ps (spD1X T C g P1 Pe y):=by rw [S.eP,S.eW,S.eK,S.eM,S.eB];exact F
 have M':Mk Y.X.K C f:=by rw [S.eK];exact M
 have gl:=S.gl _ (List.mem_of_getElem? hg)
 intro pins s σ H Q I ⟨F0,E⟩
 refine wpAny_Call_Name_kw (yG I gl.1 (by rw [S.eM];exact hC) ?_ gl.2.1)
 refine PySem.W.callWith_K (h₀:=Y.X.base) I.ok.mod.kin M'.kp (thn ((xa he xc hst:ArD Y [e] c [q]) p2 pins s σ H (fun vs H1=>∃F1,Ext F0 H F1 H1/\Reps Y.X.K F1 vs [q]) I ⟨F0,E,fun vs F1 H1 e1 r1=>⟨F1,e1,r1⟩⟩) fun us s1 ⟨vs,H1,I1,r,F1,e1,rs⟩=>⟨I1.kIn,?_⟩) hst rfl
 obtain ⟨v,rfl,rv⟩:=inv1 rs
 have I2:=Inv.made (C:=C) I1
 have ha:H1 (s1.heap.objs.size+1)=none:=I1.hok.fresh (Nat.le_succ _)
 have hdx:H1 s1.heap.objs.size=none:=I1.hok.fresh (Nat.le_refl _)
 generalize hA:s1.heap.objs.size+1=A at ha I2
 generalize hD:s1.heap.objs.size=dx at hdx I2
 have B1:∀b o,H1 b=some o->upd (upd H1 dx (.own A)) A (.ins C dx []) b=some o/\b≠A:=fun b o g=>⟨by rw [xh (xk g ha),xh (xk g hdx)];exact g,xk g ha⟩
 have E1:=E.grow e1
 have h:spD1X T C g P1 Pe y [.ref A,v] (upd (upd H1 dx (.own A)) A (.ins C dx [])) (fun _ _=>False) (fun cls _ H'=>∃C' F',cls= .ref C'/\T.mg y=some (.ref C')/\Ext F1 (rmD (upd (upd H1 dx (.own A)) A (.ins C dx [])) A A) F' H'):=
  ⟨F1,A,dx,v,q,rfl,fun b o g=>(B1 b o (e1.fh b o g)).1,by rw [<-S.eK];exact rv,xp,none_of e1.fh ha,.inr ⟨hP,fun C' F' H' hC' ex=>⟨C',F',rfl,hC',ex⟩⟩⟩
 have r2:Vals (V.ref A::[v]) (Value.ref A::us):= .cons rfl r
 have hl:(Value.ref A::us).length=ps.length:=by rw [<-r2.length];exact F'.len _ _ _ _ h
 have hb':Binds Y.X.K fd ps []:=by rw [S.eK];exact hb
 have hb2:=hb' _ (Value.ref A::us) I2.kIn (by rw [List.append_nil];exact hl)
 rw [List.append_nil] at hb2
 subst hA hD
 refine wpAny_call (QJ (f:=f) I1.kIn M'.makes M'.init (beq_iff_eq.mp M'.fn) (codeAny_mono (F'.run _ Y.X.stack _ _ ⟨Value.ref (s1.heap.objs.size+1)::us,[]⟩ (Value.ref (s1.heap.objs.size+1)::us) _ _ _ ((S.room.mono hj).make C us []) (I2.env0.make C us []) hb2 r2 h) fun r s' hq=>?_))
 cases r with
 | error e=>
  obtain ⟨a,C',H',rfl,L,C'',F',z,hC',ex⟩:=hq
  cases z
  have X:Ext F1 H1 F' H':=by
   refine ⟨ex.ff,fun b o g=>ex.fh b o g,fun b o g=>?_,fun b hb fb=>?_⟩
   ·obtain ⟨g1,g2⟩:=B1 b o g
    exact ex.hh b o (yE g1 g2 g2)
   ·cases q:H1 b with
    | none=>exact absurd q hb
    | some o=>
     obtain ⟨g1,g2⟩:=B1 b o q
     exact ex.fr b (by rw [yE g1 g2 g2];exact fun z=>nomatch z) fb
  have X0:Ext F1 H1 F1 (upd (upd H1 s1.heap.objs.size (.own (s1.heap.objs.size+1))) (s1.heap.objs.size+1) (.ins C s1.heap.objs.size [])):=⟨Same.refl _,fun b o g=>(B1 b o (e1.fh b o g)).1,fun b o g=>(B1 b o g).1,fun _ _ z=>z⟩
  exact (hz C' hC').fly I2 (E1.grow X0) ex.ff (E1.grow X) L
 | ok fl=>
  cases fl with
  | ret u=>obtain ⟨_,_,_,_,_,_,_,z⟩:=hq;exact z.elim
  | next=>exact False.elim hq
  | brk=>exact False.elim hq
  | cont=>exact False.elim hq
theorem QW {apos:Pos} {o:Expr} {e1:Expr} {pl:Sem Bool} (S:Se Y T k N G) (ho:EvX Y o c) (Fn:FnE T j2 cn m R) (hj2:j2<=k)
  (hst2:starEach (e1::es) Y.X.env=(false,eval e1 Y.X.env)::starEach es Y.X.env:=by rfl) (hpl:(backTo pos (starEach es Y.X.env)).any (·.1)=false:=by rfl)
  (ht:eval (.Call (.Attribute o m apos) (e1::es) [] pos) Y.X.env=(do
   let ov <-eval o Y.X.env
   standAt apos.atName
   let (f,first) <-holding [ov] (getMethod ov m pl)
   callWith pos f first (backTo pos (starEach (e1::es) Y.X.env)) (backToKw pos (keywordEach [] Y.X.env))):=by rfl):EvX Y (.Call (.Attribute o m apos) (e1::es) [] pos) c:=by
 obtain ⟨C2,f2,fd2,ps2,hm,hc,hmt,hb2,F2⟩:=Fn.ex
 have F2':FnOk Y.X.prog Y.X.w Y.X.K Y.X.mg Y.X.base CX0 j2 f2 fd2 ps2 (spE T cn R):=by rw [S.eP,S.eW,S.eK,S.eM,S.eB];exact F2
 exact PE.imp (qN (pl:=pl) ho (by rw [S.eK];exact hc) (by rw [S.eK];exact hmt) F2' (S.room.mono hj2) (by rw [S.eK];exact hb2) .nil pass0 (qP (es:=e1::es)) hst2 hpl ht) fun σ H Q ⟨F,E⟩=>⟨F,E⟩
theorem YG {f:Addr} {z:Str} {R:List D->Rs->Prop} (S:Se Y T k N G) (i:Nat) (hsl:slot c i= .fnv f) (Fn:FnX T j x R) (hf:T.mg x=some (.ref f)) (hj:j<=k) (ha:ArD Y (e::es) c ds) (hR:R ds (.ok d)) (hi:N[i]? =some z:=by rfl)
  (he:starEach (e::es) Y.X.env=(false,eval e Y.X.env)::starEach es Y.X.env:=by rfl) (hpl:(backTo pos (starEach es Y.X.env)).any (·.1)=false:=by rfl):EvD Y (.Call (.Name z p) (e::es) [] pos) c d:=by
 obtain ⟨f',fd,ps,hm,hk,hb,F⟩:=Fn.ex
 rw [hf] at hm
 cases hm
 have hx:=S.loc z (List.mem_of_getElem? hi)
 rw [<-S.n] at hi
 have F':FnOk Y.X.prog Y.X.w Y.X.K Y.X.mg Y.X.base (CXE Y.X.prog Y.X.w) j f fd ps (spX T R):=by rw [S.eP,S.eW,S.eK,S.eM,S.eB];exact F
 intro pins s σ H Q I ⟨F0,E,q⟩
 have hσ:σ[i]? =some (some (.ref f)):=by have:=E.sl i;rw [hsl] at this;exact this
 refine wpAny_Call_Name_kw (thn (xU hi (hx.1.elim .inl fun h=> .inr (.inl h)) hx.2.1 hx.2.2 pins s σ H (fun v H1=>v= .ref f/\H1=H) I ⟨.ref f,hσ,rfl,rfl⟩) fun fv s1 ⟨v,H1,I1,rv,ev,eh⟩=>?_)
 subst ev eh
 cases (show fv=Value.ref f from rv)
 refine PySem.W.callWith_K (h₀:=Y.X.base) I1.ok.mod.kin (by rw [S.eK];exact hk) (thn (ha pos pins s1 σ H1 (fun vs H2=>∃F1,Ext F0 H1 F1 H2/\Reps Y.X.K F1 vs ds) I1 ⟨F0,E,fun vs F1 H2 e1 r1=>⟨F1,e1,r1⟩⟩) fun us s2 ⟨vs,H2,I2,r,F1,e1,rs⟩=>⟨I2.kIn,?_⟩) he hpl
 exact Xl (E:=E0) (dvs:=[]) (ds:=[]) F' (S.room.mono hj) (by rw [S.eK];exact hb) .nil (fun _ _ _ _ _ _ _ ⟨_,_,_,_,_,z⟩=>z.elim) I2 r (by rw [List.append_nil];exact ⟨F1,ds,.ok d,e1.fh,by rw [<-S.eK];exact rs,hR,fun v F2 H3 e2 r2=>q v F2 H3 (e1.trans e2) (by rw [S.eK];exact r2)⟩)
theorem YF {f:Addr} {z:Str} {R:List D->Rs->Prop} (S:Se Y T k N G) (i:Nat) (hsl:slot c i= .fnv f) (Fn:FnX T j x R) (hf:T.mg x=some (.ref f)) (hj:j<=k) (ha:ArD Y (e::es) c ds) (hR:R ds (.ex y)) (hz:RzN Y T y c) (hi:N[i]? =some z:=by rfl)
  (he:starEach (e::es) Y.X.env=(false,eval e Y.X.env)::starEach es Y.X.env:=by rfl) (hpl:(backTo pos (starEach es Y.X.env)).any (·.1)=false:=by rfl):EvX Y (.Call (.Name z p) (e::es) [] pos) c:=by
 obtain ⟨f',fd,ps,hm,hk,hb,F⟩:=Fn.ex
 rw [hf] at hm
 cases hm
 have hx:=S.loc z (List.mem_of_getElem? hi)
 rw [<-S.n] at hi
 have F':FnOk Y.X.prog Y.X.w Y.X.K Y.X.mg Y.X.base (CXE Y.X.prog Y.X.w) j f fd ps (spX T R):=by rw [S.eP,S.eW,S.eK,S.eM,S.eB];exact F
 intro pins s0 σ H0 Q I0 ⟨F0,E⟩
 have hσ:σ[i]? =some (some (.ref f)):=by have:=E.sl i;rw [hsl] at this;exact this
 refine wpAny_Call_Name_kw (thn (xU hi (hx.1.elim .inl fun h=> .inr (.inl h)) hx.2.1 hx.2.2 pins s0 σ H0 (fun v H1=>v= .ref f/\H1=H0) I0 ⟨.ref f,hσ,rfl,rfl⟩) fun fv s ⟨v,H,I,rv,ev,eh⟩=>?_)
 subst ev eh
 cases (show fv=Value.ref f from rv)
 refine PySem.W.callWith_K (h₀:=Y.X.base) I.ok.mod.kin (by rw [S.eK];exact hk) (thn (ha pos pins s σ H (fun vs H1=>∃F1,Ext F0 H F1 H1/\Reps Y.X.K F1 vs ds) I ⟨F0,E,fun vs F1 H1 e1 r1=>⟨F1,e1,r1⟩⟩) fun us s1 ⟨vs,H1,I1,r,F1,e1,rs⟩=>⟨I1.kIn,?_⟩) he hpl
 have h:spX T R vs H1 (fun _ _=>False) (fun cls _ H'=>∃C F',cls= .ref C/\T.mg y=some (.ref C)/\Ext F1 H1 F' H'):=
  ⟨F1,ds,.ex y,e1.fh,by rw [<-S.eK];exact rs,hR,fun C F' H' hC ex=>⟨C,F',rfl,hC,ex⟩⟩
 have hl:us.length=ps.length:=by rw [<-r.length];exact F'.len _ _ _ _ h
 have hb':Binds Y.X.K fd ps []:=by rw [S.eK];exact hb
 have hb2:=hb' s1 us I1.kIn (by rw [List.append_nil];exact hl)
 rw [List.append_nil] at hb2
 refine wpAny_call (codeAny_mono (F'.run Y.X.A Y.X.stack s1 H1 ⟨us,[]⟩ us vs _ _ (S.room.mono hj) I1.env0 hb2 r h) fun r s' hq=>?_)
 cases r with
 | error e=>
  obtain ⟨a,C,H',rfl,L,C',F',z,hC,ex⟩:=hq
  cases z
  exact (hz C hC).fly I1 (E.grow e1) ex.ff ((E.grow e1).grow ex) L
 | ok fl=>
  cases fl with
  | ret u=>obtain ⟨_,_,_,_,_,_,_,z⟩:=hq;exact z.elim
  | next=>exact False.elim hq
  | brk=>exact False.elim hq
  | cont=>exact False.elim hq
theorem YB {ad l:Addr} {pr s:D} {past:List D} {q1 apos:Pos} {z:Str} {pl:Sem Bool} {R:D->D->List D->List D->RsM->Prop} (S:Se Y T k N G) (i:Nat) (Fn:FnMt T j m R) (hj:j<=k) (hs:slot c i= .dsk ad l C pr s past) (hC:T.mg "Desk" =some (.ref C)) (hl0:∀x y l,(dskF x y l).lookup m=none) (ha:ArX Y (e::es) c) (hi:N[i]? =some z:=by rfl)
  (hst:starEach (e::es) Y.X.env=(false,eval e Y.X.env)::starEach es Y.X.env:=by rfl) (hpl:(backTo pos (starEach es Y.X.env)).any (·.1)=false:=by rfl)
  (ht:eval (.Call (.Attribute (.Name z q1) m apos) (e::es) [] pos) Y.X.env=(do
   let ov <-eval (.Name z q1) Y.X.env
   standAt apos.atName
   let (f,first) <-holding [ov] (getMethod ov m pl)
   callWith pos f first (backTo pos (starEach (e::es) Y.X.env)) (backToKw pos (keywordEach [] Y.X.env))):=by rfl):EvX Y (.Call (.Attribute (.Name z q1) m apos) (e::es) [] pos) c:=by
 obtain ⟨C2,f,fd,ps,hm,hc,hmt,hb,F⟩:=Fn.ex
 rw [hC] at hm
 cases hm
 have F':FnOk Y.X.prog Y.X.w Y.X.K Y.X.mg Y.X.base (CXE Y.X.prog Y.X.w) j f fd ps (spM T R):=by rw [S.eP,S.eW,S.eK,S.eM,S.eB];exact F
 have hx:=S.loc z (List.mem_of_getElem? hi)
 rw [<-S.n] at hi
 refine PE.imp (qN (E:=E0) (pl:=pl) (xU hi (hx.1.elim .inl fun h=> .inr (.inl h)) hx.2.1 hx.2.2) (by rw [S.eK];exact hc) (by rw [S.eK];exact hmt) F' (S.room.mono hj) (by rw [S.eK];exact hb) .nil (fun _ _ _ _ _ _ _ ⟨_,_,_,_,_,z⟩=>z.elim) ha hst hpl ht) fun σ H Q ⟨F,E⟩=>?_
 obtain ⟨hσ,dx,vs0,u,w,h1,_⟩:=E.dsk_at hs
 exact ⟨.ref ad,hσ,ad,dx,_,rfl,h1,hl0 _ _ _,F,E⟩
end
section
variable {Y:Cy} {T:Tx} {k j:Nat} {N G ps:List Str} {c c' c'':List Slot} {e a b:Expr} {es:List Expr} {pos p p0 p1 p2 p3:Pos} {d:D} {ds:List D} {x y qual z:Str} {P:Out->Prop} {rest:List Stmt} {i:Nat}
theorem WE (S:Sc Y T k N G) (i j:Nat) (hs:slot c i= .own (ds++ [d])) (hr:SsD Y rest (put (put c i (.own ds)) j (.val d)) P) (hi:N[i]? =some x:=by rfl) (hj:N[j]? =some y:=by rfl) (hlt:j<c.length:=by first | exact of_decide_eq_true rfl | decide | omega)
  (hbase:attributeBase (.Name x p1) "pop" Y.X.env (eval (.Name x p1) Y.X.env)=eval (.Name x p1) Y.X.env:=by rfl) (hline:(p2.endLine==p3.line)=true:=by rfl)
  (hsw:swapsWith (.Call (.Attribute (.Name x p1) "pop" p2) [] [] p3) (some (.Name y p0)) pos.line Y.X.env=pure false:=by rfl):
  SsD Y (.Assign [.Name y p0] (.Call (.Attribute (.Name x p1) "pop" p2) [] [] p3) pos::rest) c P:=by
 have hx:=S.loc x (List.mem_of_getElem? hi)
 have hy:=S.loc y (List.mem_of_getElem? hj)
 have hN:=S.nd
 rw [<-S.n] at hi hj hN
 refine xI (PS.imp (qy hN hj hy.1 (Zm PySem.F.plainAttrs_list PySem.F.slot_list_pop PySem.F.type_list_pop kT (xU hi (hx.1.elim .inl fun h=> .inr (.inl h)) hx.2.1 hx.2.2) hbase hline) hsw (.inl (S.fn y))) fun D σ H ⟨F,E,m⟩=>?_)
 obtain ⟨l,vs,hσ,h1,h2,h3,r⟩:=E.own_at hs
 have n1:=r.length
 rw [List.length_append,List.length_singleton] at n1
 obtain ⟨v,hv,rv⟩:=r.get (i:=ds.length) (d:=d) (by simp)
 have rd:=wy r
 rw [List.dropLast_concat] at rd
 refine ⟨.ref l,hσ,.inl ⟨rfl,vs,.inl (.inl h1)⟩,l,vs,v,rfl,rfl,h1,by rw [show vs.length - 1=ds.length by omega];exact hv,?_⟩
 exact m (.nx _) hr _ F _ (Same.refl F) ((E.own_set hs hσ h1 h2 h3 rd).set (by rw [ya];exact hlt) rv)
theorem Ua (ha:EvS Y a c (.bl true) c') (hb:EvS Y (.BoolOp .And (b::es) pos) c' d c''):EvS Y (.BoolOp .And (a::b::es) pos) c d c'':=
 PE.imp (VQ ha hb) fun σ H Q ⟨F,E,q⟩=>⟨F,E,fun x F1 H1 s1 E1 r1=>⟨true,y6 r1,L2.iteT ⟨F1,E1,fun v F2 H2 s2 E2 r2=>q v F2 H2 (s1.trans s2) E2 r2⟩⟩⟩
theorem KY {op} (h:EvS Y a c d c'):EvS Y (.BoolOp op [a] pos) c d c':=kF h
end
def LstT (es:List D):Thing:=⟨fun K F _ o=>∃us,o= .lst us/\Reps K F us es,fun e ⟨us,h,r⟩=>⟨us,h,r.mono e⟩⟩
def spMB (T:Tx) (R:D->D->List D->List D->List D->RsM->Prop):Sp:=fun vs H Q E=>∃F a l C p s past ws b us ds es r,vs= .ref a::(ws++ [.ref b])/\Same F H/\Reps T.K F ws ds/\T.mg "Desk" =some (.ref C)/\DskOk T.K (rmD H a l) F H a l C p s past/\rmD H a l b=some (.lst us)/\Reps T.K F us es/\R p s past ds es r/\(match r with
 | .ok d s' past'=>∀v F' H',Ext F (rmD H a l) F' (rmD H' a l)->DskOk T.K (rmD H a l) F' H' a l C p s' past'->Rep T.K F' v d->Q v H'
 | .ex _=>False)
structure FnSB (T:Tx) (k:Nat) (x:Str) (R:D->D->List D->List D->List D->RsM->Prop):Prop where
 ex:∃(f:Addr) (fd:FuncData) (ps:List Str),T.mg x=some (.ref f)/\PySem.W.keepIn T.K (.ref f)=true/\Binds T.K fd ps []/\FnOk T.prog T.w T.K T.mg T.base CX0 k f fd ps (spMB T R)
def ctxMB (N:List Str) (a l C:Addr) (p s:D) (past ds es:List D):List Slot:= .dsk a l C p s past::(ds.map Slot.val++(.bor (LstT es)::List.replicate (N.length - (ds.length+2)) Slot.un))
section
variable {K:PySem.W.Frag} {F H H0:Hp}
theorem uR:∀{xs ys:List Slot} {i:Nat},slot (xs++ys) i=if i<xs.length then slot xs i else slot ys (i - xs.length)
 | [],ys,i=>by simp
 | x::xs,ys,0=>by simp [slot]
 | x::xs,ys,i+1=>by
  show slot (xs++ys) i=_
  rw [uR]
  simp only [List.length_cons]
  by_cases h:i<xs.length
  ·rw [if_pos h,if_pos (by omega)];rfl
  ·rw [if_neg h,if_neg (by omega)];congr 1;omega
theorem Q1 {N:List Str} {vs us:List V} {ds es:List D} {a l C b:Addr} {p s:D} {past:List D} (f:Same F H) (r:Reps K F vs ds) (hd:DskOk K (rmD H a l) F H a l C p s past) (hb:rmD H a l b=some (.lst us)) (ru:Reps K F us es) (hN:ds.length+2<=N.length):Env K F (rmD H a l) F H (L2.start N (.ref a::(vs++ [.ref b]))) (ctxMB N a l C p s past ds es):=by
 have n1:=r.length
 refine ⟨⟨Same.refl F,f,fun b o q=>(z6 q).2.2,fun _ _ z=>z⟩,?_,fun i=>?_,fun i j q h1 h2 _ _=>?_⟩
 ·unfold L2.start ctxMB
  simp [r.length]
 ·unfold L2.start ctxMB
  cases i with
  | zero=>exact ⟨rfl,hd⟩
  | succ i=>
   show SlotOk K (rmD H a l) F H (((vs++ [V.ref b]).map some++List.replicate (N.length - (V.ref a::(vs++ [V.ref b])).length) none)[i]?) (slot (ds.map Slot.val++(.bor (LstT es)::List.replicate (N.length - (ds.length+2)) Slot.un)) i)
   rw [uR,List.length_map]
   by_cases h:i<ds.length
   ·rw [if_pos h]
    have hv:i<vs.length:=by omega
    obtain ⟨v,hv1,hv2⟩:=r.get (i:=i) (List.getElem?_eq_getElem h)
    have es1:slot (ds.map Slot.val) i= .val ds[i]:=by
     have:∀(l:List D) (i:Nat) (h:i<l.length),slot (l.map Slot.val) i= .val l[i]:=by
      intro l
      induction l with
      | nil=>intro i h;cases h
      | cons x r ih=>
       intro i h
       cases i with
       | zero=>rfl
       | succ i=>exact ih i (by simpa using h)
     exact this ds i h
    rw [es1]
    refine ⟨v,?_,hv2⟩
    rw [List.map_append,List.append_assoc,List.getElem?_append_left (by rw [List.length_map];exact hv),List.getElem?_map,hv1]
    rfl
   ·rw [if_neg h]
    by_cases h2:i=ds.length
    ·subst h2
     rw [Nat.sub_self]
     refine ⟨b,.lst us,?_,hb,us,rfl,ru⟩
     rw [List.map_append,List.append_assoc,List.getElem?_append_right (by rw [List.length_map];omega),List.length_map,n1,Nat.sub_self]
     rfl
    ·obtain ⟨m,hm⟩:∃m,i - ds.length=m+1:=⟨i - ds.length - 1,by omega⟩
     rw [hm]
     show SlotOk K _ F H _ (slot (List.replicate _ Slot.un) m)
     have:∀(n m:Nat),slot (List.replicate n Slot.un) m= .un:=by
      intro n
      induction n with
      | zero=>intro m;rfl
      | succ n ih=>
       intro m
       cases m with
       | zero=>rfl
       | succ m=>exact ih m
     rw [this]
     trivial
 ·have key:∀i,isOwn (slot (ctxMB N a l C p s past ds es) i)=true->i=0:=fun i h=>by
   cases i with
   | zero=>rfl
   | succ i=>
    exfalso
    have h:isOwn (slot (ds.map Slot.val++(.bor (LstT es)::List.replicate (N.length - (ds.length+2)) Slot.un)) i)=true:=h
    rw [uR,List.length_map] at h
    by_cases hi:i<ds.length
    ·rw [if_pos hi] at h
     have:=zb (n:=0) ds i
     rw [List.replicate_zero,List.append_nil] at this
     rw [this] at h
     cases h
    ·rw [if_neg hi] at h
     cases hm:i - ds.length with
     | zero=>rw [hm] at h;cases h
     | succ m=>
      rw [hm] at h
      have h:isOwn (slot (List.replicate (N.length - (ds.length+2)) Slot.un) m)=true:=h
      have:=zb (n:=N.length - (ds.length+2)) [] m
      rw [List.map_nil,List.nil_append] at this
      rw [this] at h
      cases h
  rw [key i h1,key j h2]
end
section
variable {Y:Cy} {T:Tx} {k j:Nat} {N G ps:List Str} {c:List Slot} {e:Expr} {es:List Expr} {pos p:Pos} {d:D} {ds:List D} {x qual y:Str} {R:D->D->List D->List D->List D->RsM->Prop}
theorem xcg {st:Stmt} (A:At T x st) (B:ScB N ps G (defScope st)) (hb:∀f fd,Fun T.K x x st f fd->Binds T.K fd ps []) (hps:ps.length<=N.length) (hlen:∀p s past ds es r,R p s past ds es r->ds.length+2=ps.length)
  (body:∀(Y:Cy) (S:Sc Y T k N G) (Z:Fx Y st) (a l C:Addr) (p s:D) (past ds es:List D) (r:RsM),T.mg "Desk" =some (.ref C)->R p s past ds es r->SsD Y (defBody st) (ctxMB N a l C p s past ds es) (RetM Y a l C p r)):FnSB T (k+1) x R:=by
 obtain ⟨f,fd,F,hm⟩:=A
 refine ⟨f,fd,ps,hm,F.kp,hb f fd F,?_⟩
 refine F.ok B.fs (fun vs H Q E h=>?_) fun cdv A outer s H vs Q E hr h=>?_
 ·obtain ⟨F0,a,l,C,p,s,past,ws,b,us,ds,es,r,rfl,_,rs,_,_,_,_,hR,_⟩:=h
  have:=hlen _ _ _ _ _ _ hR
  simp only [List.length_cons,List.length_append,List.length_singleton,rs.length]
  omega
 ·obtain ⟨F0,a,l,C,p,s0,past,ws,b,us,ds,es,r,rfl,f0,rs,hC,hd,hbb,ru,hR,q⟩:=h
  have S:Sc ⟨(cxOf CX0 T.prog T.w T.K T.mg T.base N x (defScope st) f cdv A outer s H E).nox,F0,rmD H a l⟩ T k N G:=
   ⟨⟨⟨rfl,rfl,rfl,rfl,rfl,rfl,B.fs.nd,B.loc,B.gl⟩,rfl,hr⟩,fun _=>rfl,PassesOwn.never⟩
  refine ⟨_,body _ S ⟨rfl,rfl,rfl,rfl⟩ a l C p s0 past ds es r hC hR,F0,Q1 f0 rs hd hbb ru (by have:=hlen _ _ _ _ _ _ hR;omega),fun o ho=>?_⟩
  cases r with
  | ex y=>exact q.elim
  | ok d s' past'=>
   cases ho
   rintro v F' H1 H2 _ ex ⟨rfl,hk,r'⟩
   exact q v F' H2 (Ext.rm1 ex hk.fa.1 hk.fa.2.1) hk r'
theorem wO {ad l C:Addr} {pr s s':D} {past past' us:List D} {q1 q2:Pos} {z z2:Str} {e1:Expr} (S:Se Y T k N G) (gi i i2:Nat) (Fn:FnSB T j x R) (hj:j<=k) (hs:slot c i= .dsk ad l C pr s past) (hno:∀j,j≠i->isDsk (slot c j)=false) (hC:T.mg "Desk" =some (.ref C)) (h1:EvD Y e1 c d) (hs2:slot c i2= .own us) {dr:D} (hR:R pr s past [d] us (.ok dr s' past')) (hg:G[gi]? =some x:=by rfl) (hi:N[i]? =some z:=by rfl) (hi2:N[i2]? =some z2:=by rfl)
  (he:starEach [.Name z q1,e1,.Name z2 q2] Y.X.env=(false,eval (.Name z q1) Y.X.env)::starEach [e1,.Name z2 q2] Y.X.env:=by rfl) (he1:starEach [e1,.Name z2 q2] Y.X.env=(false,eval e1 Y.X.env)::starEach [.Name z2 q2] Y.X.env:=by rfl) (he2:starEach [.Name z2 q2] Y.X.env=(false,eval (.Name z2 q2) Y.X.env)::starEach [] Y.X.env:=by rfl) (hpl:(backTo pos (starEach [e1,.Name z2 q2] Y.X.env)).any (·.1)=false:=by rfl):
  EvS Y (.Call (.Name x p) [.Name z q1,e1,.Name z2 q2] [] pos) c dr (put c i (.dsk ad l C pr s' past')):=by
 obtain ⟨f,fd,ps,hm,hk,hb,F⟩:=Fn.ex
 have F':FnOk Y.X.prog Y.X.w Y.X.K Y.X.mg Y.X.base CX0 j f fd ps (spMB T R):=by rw [S.eP,S.eW,S.eK,S.eM,S.eB];exact F
 have gl:=S.gl x (List.mem_of_getElem? hg)
 have hx:=S.loc z (List.mem_of_getElem? hi)
 have hx2:=S.loc z2 (List.mem_of_getElem? hi2)
 rw [<-S.n] at hi hi2
 refine PE.imp (qO F' (S.room.mono hj) gl.1 (by rw [S.eM];exact hm) (by rw [S.eK];exact hk) (by rw [S.eK];exact hb) .nil pass0 (xJ (xU hi (hx.1.elim .inl fun h=> .inr (.inl h)) hx.2.1 hx.2.2) (xJ h1 (xJ (xU hi2 (hx2.1.elim .inl fun h=> .inr (.inl h)) hx2.2.1 hx2.2.2) yu he2) he1) he) gl.2.1 he hpl) fun σ H Q ⟨F,E,q⟩=>⟨.ref ad,(E.dsk_at hs).1,F,E,fun v F1 H1 e1 r1=>?_⟩
 have E1:=E.grow e1
 obtain ⟨b,vs,hσ,g1,g2,g3,r⟩:=E1.own_at hs2
 refine ⟨.ref b,hσ,?_⟩
 have hd:=(E1.dsk_at hs).2
 obtain ⟨dx,vs0,u,w,ha,hl,_⟩:=id hd
 have na:b≠ad:=fun z=>by rw [z,ha] at g1;cases g1
 have nl:b≠l:=fun z=>by rw [z,hl] at g1;cases g1
 refine ⟨F1,ad,l,C,pr,s,past,[v],b,vs,[d],us,.ok dr s' past',rfl,E1.fh,.cons (by rw [<-S.eK];exact r1) .nil,hC,by rw [<-S.eK];exact hd.base Qu xas,yE g1 na nl,by rw [<-S.eK];exact r,hR,fun v' F2 H2 x2 k2 r2=>?_⟩
 exact q v' F2 H2 (e1.ff.trans x2.ff) (E1.dsk_to hs hno x2 (by rw [S.eK];exact k2.base hd.fa.2.2.1 hd.fa.2.2.2)) (by rw [S.eK];exact r2)
theorem K3 (S:Se Y T k N G) (gi i:Nat) {y:Str} {p q1:Pos} {us:List D} (hs:slot c i= .bor (LstT us)) (hm:T.mg "len" =none) (hg:G[gi]? =some ("len" :Str):=by rfl) (hi:N[i]? =some y:=by rfl)
  (he:starEach [.Name y q1] Y.X.env=(false,eval (.Name y q1) Y.X.env)::starEach [] Y.X.env:=by rfl) (hpl:(backTo pos (starEach [] Y.X.env)).any (·.1)=false:=by rfl):EvD Y (.Call (.Name "len" p) [.Name y q1] [] pos) c (.int (us.length:Int)):=by
 have hx:=S.loc y (List.mem_of_getElem? hi)
 have gl:=S.gl "len" (List.mem_of_getElem? hg)
 rw [<-S.n] at hi
 refine PE.imp (zN XQ gl.1 (by rw [S.eM];exact hm) Ww (xJ (xU (pos:=q1) hi (hx.1.elim .inl fun h=> .inr (.inl h)) hx.2.1 hx.2.2) yu he) gl.2.2 gl.2.1 he hpl) fun σ H Q ⟨F,E,q⟩=>?_
 obtain ⟨a,o,hσ,h1,vs,rfl,r⟩:=E.bor_at hs
 exact ⟨.ref a,hσ,.ref a,vs.length,rfl,.inl ⟨vs,.inl (.inl h1),rfl⟩,by rw [r.length];exact q _ F H (Ext.refl E.fh) (.int _)⟩
end
end DL
namespace R
open PySem L2 DL
local macro_rules | `(tactic| walk_at "S")=> `(tactic| exact ⟨⟨rfl,rfl,rfl,by decide+kernel,rfl,by decide+kernel,by decide+kernel⟩,by decide+kernel,by decide+kernel⟩)
local macro_rules | `(tactic| walk_at "1")=> `(tactic| exact fun f fd F=>F.binds fun _ _ _ _ _ _ us hl=>match us,hl with | [_],_=>rfl)
local macro_rules | `(tactic| walk_at "2")=> `(tactic| exact fun f fd F=>F.binds fun _ _ _ _ _ _ us hl=>match us,hl with | [_,_],_=>rfl)
local macro_rules | `(tactic| walk_at "3")=> `(tactic| exact fun f fd F=>F.binds fun _ _ _ _ _ _ us hl=>match us,hl with | [_,_,_],_=>rfl)
local macro_rules | `(tactic| walk_at "4")=> `(tactic| exact fun f fd F=>F.binds fun _ _ _ _ _ _ us hl=>match us,hl with | [_,_,_,_],_=>rfl)
local macro_rules | `(tactic| walk_at "5")=> `(tactic| exact fun f fd F=>F.binds fun _ _ _ _ _ _ us hl=>match us,hl with | [_,_,_,_,_],_=>rfl)
def isW:D->Bool
 | .int _=>true
 | _=>false
def xcq (ds:List D) (d:D):Prop:=∃x:D,ds=[x]/\d= .bl (isW x)
theorem QN (x y:Int):Int.gcd y (x.fmod y)=Int.gcd x y:=by
 rw [Int.fmod_def,Int.gcd_sub_mul_left_right,Int.gcd_comm]
theorem XG (x:Int) {y:Int} (h:y≠0):(x.fmod y).natAbs<y.natAbs:=by
 rcases Int.lt_or_gt_of_ne h with h | h
 ·have h1:=Int.fmod_def x y
  have e:=Int.neg_fmod_neg x y
  have h2:=Int.fmod_nonneg_of_pos (-x) (show 0< -y by omega)
  have h3:=Int.fmod_lt_of_pos (-x) (show 0< -y by omega)
  omega
 ·have h2:=Int.fmod_nonneg_of_pos x h
  have h3:=Int.fmod_lt_of_pos x h
  omega
def JP (ds:List D) (d:D):Prop:=∃a b:Int,ds=[.int a,.int b]/\d= .int (Int.gcd a b)
def Pr (p:Int):Prop:=p=2∨p=3∨p=5∨p=7
theorem Wa {p n:Int} (hp:Pr p) (hn:¬n%p=0):∃b,1<=b/\b<=p - 1/\n*b%p=1:=by
 rcases hp with rfl | rfl | rfl | rfl
 ·exact ⟨1,by omega,by omega,by omega⟩
 ·rcases (show n%3=1∨n%3=2 by omega) with h | h
  ·exact ⟨1,by omega,by omega,by omega⟩
  ·exact ⟨2,by omega,by omega,by omega⟩
 ·rcases (show n%5=1∨n%5=2∨n%5=3∨n%5=4 by omega) with h | h | h | h
  ·exact ⟨1,by omega,by omega,by omega⟩
  ·exact ⟨3,by omega,by omega,by omega⟩
  ·exact ⟨2,by omega,by omega,by omega⟩
  ·exact ⟨4,by omega,by omega,by omega⟩
 ·rcases (show n%7=1∨n%7=2∨n%7=3∨n%7=4∨n%7=5∨n%7=6 by omega) with h | h | h | h | h | h
  ·exact ⟨1,by omega,by omega,by omega⟩
  ·exact ⟨4,by omega,by omega,by omega⟩
  ·exact ⟨5,by omega,by omega,by omega⟩
  ·exact ⟨2,by omega,by omega,by omega⟩
  ·exact ⟨3,by omega,by omega,by omega⟩
  ·exact ⟨6,by omega,by omega,by omega⟩
theorem U8 {p n a:Int} (hp:Pr p) (hn:¬n%p=0) (h0:1<=a) (h1:a<=p - 1) (h:∀b,1<=b->b<a->n*b%p≠1) (he:¬a<p - 1∨n*a%p=1):n*a%p=1:=by
 obtain ⟨b,b0,b1,hb⟩:=Wa hp hn
 rcases he with he | he
 ·have e:a=b:=by
   rcases Int.lt_trichotomy a b with l | l | l
   ·omega
   ·exact l
   ·exact absurd hb (h b b0 l)
  rw [e];exact hb
 ·exact he
theorem WS (p:Int) {m n:Nat} (h:m<=n):p^m∣p^n:=⟨p^(n - m),by rw [<-Int.pow_add];congr 1;omega⟩
theorem newton {p n a:Int} {s k:Nat} (h:p^(min s k)∣n*a - 1):p^(min (2*s) k)∣n*(a*(2 - n*a)%p^k) - 1:=by
 have e:a*(2 - n*a)%p^k=a*(2 - n*a) - p^k*(a*(2 - n*a) / p^k):=Int.emod_def _ _
 have e2:n*(a*(2 - n*a)%p^k) - 1= -((n*a - 1)*(n*a - 1)) - p^k*(n*(a*(2 - n*a) / p^k)):=by
  rw [e];grind
 rw [e2]
 have d1:p^(min (2*s) k)∣(n*a - 1)*(n*a - 1):=by
  have q:p^(min s k)*p^(min s k)∣(n*a - 1)*(n*a - 1):=Int.mul_dvd_mul h h
  rw [<-Int.pow_add] at q
  exact Int.dvd_trans (WS p (by omega)) q
 have d2:p^(min (2*s) k)∣p^k:=WS p (by omega)
 exact Int.dvd_sub (Int.dvd_neg.mpr d1) (Int.dvd_trans d2 (Int.dvd_mul_right _ _))
theorem Pr.two_le {p:Int} (h:Pr p):2<=p/\p<=7:=by rcases h with rfl | rfl | rfl | rfl<;>omega
theorem yb {p:Int} (hp:Pr p) (k:Nat):0<p^k:=Int.pow_pos (by have:=hp.two_le;omega)
theorem XF {p n:Int} (hp:Pr p) (hn:¬n%p=0):∀k:Nat,∃x,p^k∣n*x - 1
 | 0=>⟨0,by simp⟩
 | 1=>by
  obtain ⟨b,_,_,hb⟩:=Wa hp hn
  refine ⟨b,?_⟩
  rw [Int.pow_one]
  have:=Int.emod_add_mul_ediv (n*b) p
  exact ⟨n*b / p,by omega⟩
 | k+2=>by
  obtain ⟨x,hx⟩:=XF hp hn (k+1)
  have h:p^(min (k+1) (k+2))∣n*x - 1:=by rw [show min (k+1) (k+2)=k+1 by omega];exact hx
  have:=newton h
  rw [show min (2*(k+1)) (k+2)=k+2 by omega] at this
  exact ⟨_,this⟩
def IsOver (p n:Int) (k:Nat) (x:Int):Prop:=0<=x/\x<p^k/\p^k∣n*x - 1
theorem wB {p n:Int} {k:Nat} {x y:Int} (hx:IsOver p n k x) (hy:IsOver p n k y):x=y:=by
 obtain ⟨x0,x1,xd⟩:=hx
 obtain ⟨y0,y1,yd⟩:=hy
 have d:p^k∣x - y:=by
  have e:x - y=x*(n*y - 1)*(-1)+y*(n*x - 1):=by grind
  rw [e]
  exact Int.dvd_add (Int.dvd_mul_of_dvd_left (Int.dvd_mul_of_dvd_right yd)) (Int.dvd_mul_of_dvd_right xd)
 have:x - y=0:=by
  rcases Int.lt_trichotomy (x - y) 0 with h | h | h
  ·have:=Int.le_of_dvd (show 0< -(x - y) by omega) (Int.dvd_neg.mpr d);omega
  ·exact h
  ·have:=Int.le_of_dvd h d;omega
 omega
theorem Kz {p n:Int} (hp:Pr p) (hn:¬n%p=0) (k:Nat):∃x,IsOver p n k x:=by
 obtain ⟨x,hx⟩:=XF hp hn k
 have pp:=yb hp k
 refine ⟨x%p^k,Int.emod_nonneg _ (by omega),Int.emod_lt_of_pos _ pp,?_⟩
 have e:n*(x%p^k) - 1=(n*x - 1) - p^k*(n*(x / p^k)):=by rw [Int.emod_def];grind
 rw [e]
 exact Int.dvd_sub hx (Int.dvd_mul_right _ _)
noncomputable def overBy (p n:Int) (k:Nat):Int:=Classical.epsilon (IsOver p n k)
theorem zd {p n:Int} (hp:Pr p) (hn:¬n%p=0) (k:Nat):IsOver p n k (overBy p n k):=Classical.epsilon_spec (Kz hp hn k)
theorem xat {p:Int} (hp:Pr p):∀k:Nat,p^k<2^(3*k+1)
 | 0=>by rw [Int.pow_zero];decide
 | k+1=>by
  have h:=xat hp k
  have q:=yb hp k
  have h7:=hp.two_le
  rw [Int.pow_succ,show 3*(k+1)+1=3*k+1+3 by omega,Int.pow_add]
  have:p^k*p<=p^k*7:=Int.mul_le_mul_of_nonneg_left h7.2 (by omega)
  have e:(2:Int)^3=8:=by decide
  rw [e];omega
theorem Kg {x y p:Int} {k k0:Nat} (h:x*y^k=p^k0):(if k%2=1 then x*y else x)*(y*y)^(k / 2)=p^k0:=by
 rw [<-h,Int.mul_pow,<-Int.pow_add]
 split
 ·rw [Int.mul_assoc,<-Int.pow_succ']
  congr 2;omega
 ·congr 2;omega
theorem zv {y:Int} (h:1<=y):∀{k:Nat},1<=k->y<=y^k
 | 1,_=>by rw [Int.pow_one];exact Int.le_refl y
 | k+2,_=>by
  have:=zv h (show 1<=k+1 by omega)
  rw [Int.pow_succ]
  have q:y^(k+1)*1<=y^(k+1)*y:=Int.mul_le_mul_of_nonneg_left h (by omega)
  omega
theorem qb {x y:Int} (hx:1<=x) (hy:1<=y):x<=x*y/\y<=x*y:=by
 have h1:x*1<=x*y:=Int.mul_le_mul_of_nonneg_left hy (by omega)
 have h2:1*y<=x*y:=Int.mul_le_mul_of_nonneg_right hx (by omega)
 omega
theorem vP {p:Int} (hp:Pr p) (k:Nat):Bd (3*k+1) (p^k):=by
 have h:=xat hp k
 have q:=yb hp k
 unfold Bd
 have e:((2^(3*k+1):Nat):Int)=(2:Int)^(3*k+1):=by simp
 omega
theorem Bd.of_le {n:Nat} {x y:Int} (h0:0<=x) (h1:x<=y) (h:Bd n y):Bd n x:=by unfold Bd at*;omega
theorem xb0 {x y p:Int} {k' k0:Nat} (hp:Pr p) (hx:1<=x) (hy:1<=y) (hk:1<=k') (h0:k0<=1000000) (h:x*y^k'=p^k0):IntMulOk x y/\IntMulOk y y:=by
 have b:=vP hp k0
 have y1:=zv hy hk
 have z:=qb hx (show 1<=y^k' by omega)
 rw [h] at z
 have bx:Bd (3*k0+1) x:=Bd.of_le (by omega) z.1 b
 have by':Bd (3*k0+1) y:=Bd.of_le (by omega) (by omega) b
 exact ⟨mulOk bx by' (by omega),mulOk by' by' (by omega)⟩
def xcp (ds:List D) (d:D):Prop:=∃p n:Int,ds=[.int p,.int n]/\Pr p/\¬n%p=0/\Bd 1000000 n/\d= .int (overBy p n 1)
def jB (ds:List D) (d:D):Prop:=∃p n k:Int,ds=[.int p,.int n,.int k]/\Pr p/\¬n%p=0/\0<=k/\k<=1000000/\Bd 1000000 n/\d= .int (overBy p n k.toNat)
theorem v6 (t:Int) {b:Int} (hb:b≠0):t.fdiv (if b<0 then -(Int.gcd t b:Int) else (Int.gcd t b:Int))=(Rat.divInt t b).num/\b.fdiv (if b<0 then -(Int.gcd t b:Int) else (Int.gcd t b:Int))=((Rat.divInt t b).den:Int):=by
 have hg:0<Int.gcd t b:=Int.gcd_pos_of_ne_zero_right t hb
 have dt:=Int.gcd_dvd_left t b
 have db:=Int.gcd_dvd_right t b
 rw [Rat.num_divInt,Rat.den_divInt,if_neg hb,Int.gcd_comm b t]
 obtain ⟨u,hu⟩:=dt
 obtain ⟨v,hv⟩:=db
 have g0:(Int.gcd t b:Int)≠0:=by omega
 generalize hgg:(Int.gcd t b:Int)=g at*
 have hgn:Int.gcd t b=g.toNat:=by omega
 have gp:0<g:=by omega
 rw [hgn]
 have fm:∀x:Int,(g*x).fdiv g=x:=fun x=>by rw [Int.mul_comm];exact Int.mul_fdiv_cancel x g0
 have fm':∀x:Int,(g*x).fdiv (-g)= -x:=fun x=>by rw [show g*x=(-x)*(-g) by grind];exact Int.mul_fdiv_cancel (-x) (by omega)
 have em:∀x:Int,(g*x) / g=x:=fun x=>Int.mul_ediv_cancel_left x g0
 by_cases hb0:b<0
 ·rw [if_pos hb0]
  have s:b.sign= -1:=Int.sign_eq_neg_one_of_neg hb0
  rw [s]
  constructor
  ·rw [hu,fm',show -1*(g*u)=g*(-u) by grind,em]
  ·rw [hv,fm']
   have vn:v<0:=by
    by_cases h:v<0
    ·exact h
    ·have:=Int.mul_nonneg (show 0<=g by omega) (show 0<=v by omega);omega
   have:(g*v).natAbs / g.toNat=v.natAbs:=by
    rw [Int.natAbs_mul,show g.natAbs=g.toNat by omega]
    exact Nat.mul_div_cancel_left _ (by omega)
   rw [this];omega
 ·rw [if_neg hb0]
  have s:b.sign=1:=Int.sign_eq_one_of_pos (by omega)
  rw [s]
  constructor
  ·rw [hu,fm,Int.one_mul,em]
  ·rw [hv,fm]
   have vn:0<=v:=by
    by_cases h:v<0
    ·have:=Int.mul_nonneg (show 0<=g by omega) (show 0<= -v by omega)
     rw [show g* -v= -(g*v) by grind] at this;
     have:g*v=0:=by omega
     omega
    ·omega
   have:(g*v).natAbs / g.toNat=v.natAbs:=by
    rw [Int.natAbs_mul,show g.natAbs=g.toNat by omega]
    exact Nat.mul_div_cancel_left _ (by omega)
   rw [this];omega
def vp (p n:Int):Nat:=if h:2<=p/\n≠0/\n%p=0 then vp p (n / p)+1 else 0
termination_by n.natAbs
decreasing_by
 have e:=Int.emod_add_mul_ediv n p
 rw [h.2.2,Int.zero_add] at e
 have h1:n / p≠0:=fun z=>h.2.1 (by rw [<-e,z,Int.mul_zero])
 have:(p*(n / p)).natAbs=n.natAbs:=by rw [e]
 rw [Int.natAbs_mul] at this
 have h2:2*(n / p).natAbs<=p.natAbs*(n / p).natAbs:=Nat.mul_le_mul_right _ (by omega)
 omega
theorem uw {p n:Int} (hp:2<=p) (hn:n≠0) (h:n%p=0):vp p n=vp p (n / p)+1:=by rw [vp,dif_pos ⟨hp,hn,h⟩]
theorem vG {p n:Int} (h:¬n%p=0):vp p n=0:=by rw [vp,dif_neg (fun z=>h z.2.2)]
theorem YH {p n:Int} (hp:2<=p) (hn:n≠0) (h:n%p=0):n=p*(n / p)/\n / p≠0/\(n / p).natAbs<n.natAbs:=by
 have e:=Int.emod_add_mul_ediv n p
 rw [h,Int.zero_add] at e
 have h1:n / p≠0:=fun z=>hn (by rw [<-e,z,Int.mul_zero])
 have:(p*(n / p)).natAbs=n.natAbs:=by rw [e]
 rw [Int.natAbs_mul] at this
 have h2:2*(n / p).natAbs<=p.natAbs*(n / p).natAbs:=Nat.mul_le_mul_right _ (by omega)
 exact ⟨e.symm,h1,by omega⟩
theorem J0 {p n:Int} (hp:2<=p) (hn:n≠0):vp p (p*n)=vp p n+1:=by
 rw [uw hp (Int.mul_ne_zero (by omega) hn) (Int.mul_emod_right p n),Int.mul_ediv_cancel_left n (by omega)]
theorem vf {p:Int} (hp:2<=p):∀k:Nat,vp p (p^k)=k
 | 0=>by
  rw [Int.pow_zero,vG]
  rw [Int.emod_eq_of_lt (by omega) (by omega)];decide
 | k+1=>by
  rw [Int.pow_succ',J0 hp (Int.ne_of_gt (Int.pow_pos (by omega))),vf hp k]
theorem Vf {p:Int} (hp:2<=p):vp p 1=0:=by have:=vf hp 0;rw [Int.pow_zero] at this;exact this
def vq (p:Int) (r:Rat):Option Int:=if r.num=0 then none else some ((vp p r.num:Int) - (vp p r.den:Int))
abbrev frD (r:Rat):D:= .tup [.int r.num,.int (r.den:Int)]
def optI:Option Int->D
 | none=> .non
 | some i=> .int i
theorem Xy (t:Int) {b:Int} (hb:b≠0):(Rat.divInt t b).num.natAbs<=t.natAbs/\(Rat.divInt t b).den<=b.natAbs:=by
 have h:=v6 t hb
 have hg:0<Int.gcd t b:=Int.gcd_pos_of_ne_zero_right t hb
 rw [Rat.num_divInt,Rat.den_divInt,if_neg hb]
 refine ⟨?_,Nat.div_le_self _ _⟩
 rw [Int.gcd_comm] at hg
 refine Nat.le_trans (Int.natAbs_ediv_le_natAbs _ _) ?_
 rw [Int.natAbs_mul]
 have:b.sign.natAbs<=1:=by
  rcases Int.lt_trichotomy b 0 with h | h | h
  ·rw [Int.sign_eq_neg_one_of_neg h];decide
  ·exact absurd h hb
  ·rw [Int.sign_eq_one_of_pos h];decide
 calc b.sign.natAbs*t.natAbs<=1*t.natAbs:=Nat.mul_le_mul_right _ this
  _=t.natAbs:=Nat.one_mul _
def Fb (n:Nat) (r:Rat):Prop:=Bd n r.num/\Bd n (r.den:Int)
theorem Fb.mono {m n:Nat} {r:Rat} (h:Fb m r) (l:m<=n):Fb n r:=⟨h.1.mono l,h.2.mono l⟩
theorem Fb.divInt {m:Nat} {t b:Int} (hb:b≠0) (h1:Bd m t) (h2:Bd m b):Fb m (Rat.divInt t b):=by
 have q:=Xy t hb
 refine ⟨Nat.lt_of_le_of_lt q.1 h1,?_⟩
 show ((Rat.divInt t b).den:Int).natAbs<2^m
 rw [Int.natAbs_natCast]
 exact Nat.lt_of_le_of_lt q.2 h2
theorem yn (r:Rat):(r.den:Int)≠0:=by have:=r.den_nz;omega
theorem ZO (r:Rat):0<(r.den:Int):=by have:=r.den_nz;omega
theorem WN (a b:Rat):Rat.divInt (a.num*b.num) ((a.den:Int)*(b.den:Int))=a*b:=by
 rw [Rat.mul_def',<-Rat.divInt_ofNat];simp
theorem WO (a b:Rat):Rat.divInt (a.num*(b.den:Int)+b.num*(a.den:Int)) ((a.den:Int)*(b.den:Int))=a+b:=by
 rw [Rat.add_def',<-Rat.divInt_ofNat];simp
theorem WM (a b:Rat):Rat.divInt (a.num*(b.den:Int) - b.num*(a.den:Int)) ((a.den:Int)*(b.den:Int))=a - b:=by
 rw [Rat.sub_def',<-Rat.divInt_ofNat];simp
theorem Fb.mul {m n:Nat} {a b:Rat} (h1:Fb m a) (h2:Fb n b):Fb (m+n) (a*b):=by
 rw [<-WN]
 exact Fb.divInt (Int.mul_ne_zero (yn a) (yn b)) (h1.1.mul h2.1) (h1.2.mul h2.2)
theorem Fb.add {m n:Nat} {a b:Rat} (h1:Fb m a) (h2:Fb n b):Fb (m+n+1) (a+b):=by
 rw [<-WO]
 refine Fb.divInt (Int.mul_ne_zero (yn a) (yn b)) ?_ ((h1.2.mul h2.2).mono (by omega))
 have q:=(h1.1.mul h2.2).add (h2.1.mul h1.2)
 rw [show max (m+n) (n+m)+1=m+n+1 by omega] at q
 exact q
theorem Fb.sub {m n:Nat} {a b:Rat} (h1:Fb m a) (h2:Fb n b):Fb (m+n+1) (a - b):=by
 rw [<-WM]
 refine Fb.divInt (Int.mul_ne_zero (yn a) (yn b)) ?_ ((h1.2.mul h2.2).mono (by omega))
 have q:=(h1.1.mul h2.2).sub (h2.1.mul h1.2)
 rw [show max (m+n) (n+m)+1=m+n+1 by omega] at q
 exact q
def ppw (p k:Int):Rat:=(p:Rat)^k
theorem qA {p k:Int} (h:0<=k):(ppw p k).num=p^k.toNat/\(ppw p k).den=1:=by
 unfold ppw
 have e:k=((k.toNat:Nat):Int):=by omega
 rw [e,Rat.zpow_natCast,Rat.num_pow,Rat.den_pow]
 constructor
 ·rfl
 ·show (1:Nat)^_=1
  simp
theorem uB {p k:Int} (hp:0<p) (h:k<0):(ppw p k).num=1/\((ppw p k).den:Int)=p^(-k).toNat:=by
 have q:=qA (p:=p) (k:= -k) (by omega)
 have e:ppw p k=(ppw p (-k))⁻¹:=by
  unfold ppw
  rw [Rat.zpow_neg,Rat.inv_inv]
 have pp:0<p^(-k).toNat:=Int.pow_pos hp
 rw [e,Rat.num_inv,Rat.den_inv,q.1,q.2,Int.sign_eq_one_of_pos pp,if_neg (by omega)]
 constructor
 ·rfl
 ·omega
theorem YR {p k:Int} (hp:Pr p):vq p (ppw p k)=some k:=by
 have p2:=hp.two_le
 unfold vq
 by_cases h:0<=k
 ·have q:=qA (p:=p) h
  have pp:0<p^k.toNat:=Int.pow_pos (by omega)
  rw [q.1,q.2,if_neg (by omega),vf p2.1,show ((1:Nat):Int)=1 from rfl,Vf p2.1]
  congr 1;omega
 ·have q:=uB (p:=p) (k:=k) (by omega) (by omega)
  rw [q.1,q.2,if_neg (by decide),vf p2.1,Vf p2.1]
  congr 1;omega
def Wx (ds:List D) (d:D):Prop:=∃p n:Int,ds=[.int p,.int n]/\Pr p/\d=(if n=0 then .non else .int (vp p n:Int))
def Wy (ds:List D) (d:D):Prop:=∃(p:Int) (a:Rat),ds=[.int p,frD a]/\Pr p/\d=optI (vq p a)
def xco (ds:List D) (d:D):Prop:=∃p k:Int,ds=[.int p,.int k]/\Pr p/\ -1000000<=k/\k<=1000000/\d=frD (ppw p k)
def JV (ds:List D) (d:D):Prop:=∃t b:Int,ds=[.int t,.int b]/\b≠0/\Bd 8900 b/\d=frD (Rat.divInt t b)
def xbQ (ds:List D) (d:D):Prop:=∃a b:Rat,ds=[frD a,frD b]/\Fb 4400 a/\Fb 4400 b/\d=frD (a*b)
def xbR (ds:List D) (d:D):Prop:=∃a b:Rat,ds=[frD a,frD b]/\Fb 4400 a/\Fb 4400 b/\d=frD (a+b)
def xbP (ds:List D) (d:D):Prop:=∃a b:Rat,ds=[frD a,frD b]/\Fb 4400 a/\Fb 4400 b/\d=frD (a - b)
theorem kY {t b:Int} (hb:b≠0) (h:Bd 8900 b):(if b<0 then -(Int.gcd t b:Int) else (Int.gcd t b:Int))≠0/\Bd 9000 (if b<0 then -(Int.gcd t b:Int) else (Int.gcd t b:Int)):=by
 have hg:0<Int.gcd t b:=Int.gcd_pos_of_ne_zero_right t hb
 have hl:=Int.gcd_le_natAbs_right t hb
 have h':=h.mono (show 8900<=9000 by decide)
 unfold Bd at*
 refine ⟨by split<;>omega,?_⟩
 refine Nat.lt_of_le_of_lt ?_ h'
 split<;>omega
def nTop (n:Int):Int:=if decide (n%4=1)=true then n / 4%(2*10^Int.toNat 20+1) - 10^Int.toNat 20 else n / 4%41 - 20
def nPow (n:Int):Int:=if decide (n%4=3)=true then n / 4 / 500%81 - 40 else n / 4 / 500%13 - 6
def nBot (n:Int):Int:=1+n / 4 / 41%12
def xcr (ds:List D) (d:D):Prop:=∃(x:Str) (m:Nat),ds=[.str x,.int (m:Int)]/\Tl x.cps.toList/\d= .bl (okFig x.cps.toList m)
def JR (ds:List D) (r:Rs):Prop:=∃(x:Str) (m:Nat),ds=[.str x,.int (m:Int)]/\Tl x.cps.toList/\m<=600/\r=rsO (figs x.cps.toList m) (fun n=> .int (n:Int)) "NoText"
def XW (ds:List D) (r:Rs):Prop:=∃(x:Str) (m:Nat),ds=[.str x,.int (m:Int)]/\Tl x.cps.toList/\m<=600/\r=rsO (sgn x.cps.toList m) D.int "NoText"
def wl (ds:List D) (r:Rs):Prop:=∃(x:Str),ds=[.str x]/\Tl x.cps.toList/\r=rsO (frac x.cps.toList) (fun p=> .tup [.int p.1,.int p.2]) "NoText"
def ftx (a:Rat):List Nat:=if a.den=1 then wr a.num else wr a.num++47::nd a.den
def B60 (a:Rat):Prop:=a.num.natAbs<10^60/\a.den<10^60
def B500 (a:Rat):Prop:=a.num.natAbs<10^850/\a.den<10^850
theorem B60.up {a:Rat} (h:B60 a):B500 a:=⟨Nat.lt_of_lt_of_le h.1 (by decide+kernel),Nat.lt_of_lt_of_le h.2 (by decide+kernel)⟩
def Uj (ds:List D) (d:D):Prop:=∃a:Rat,ds=[frD a]/\B500 a/\d= .str (tx (ftx a))
theorem yY (i:Int):(toString i:Str)=tx (wr i):=by rw [<-xaE i,zg]
theorem jG (n:Nat):wr (n:Int)=nd n:=by
 unfold wr
 rw [if_neg (by omega)]
 rfl
theorem xbj {i:Int} (h:i.natAbs<10^60):i.natAbs.log2<1920:=by
 by_cases h0:i.natAbs=0
 ·rw [h0];decide
 ·rw [Nat.log2_lt h0]
  exact Nat.lt_of_lt_of_le h (by decide+kernel)
theorem QP {a:Rat} (h:B60 a):frac (ftx a)=some (a.num,(a.den:Int)):=by
 unfold ftx
 split
 ·rename_i e
  rw [Wf h.1,e];rfl
 ·rename_i e
  have h0:=a.den_nz
  exact Jm h.1 h.2 (by omega) (by
   have:=a.reduced
   unfold Nat.Coprime at this
   unfold Int.gcd
   exact this)
theorem Zy {i:Int} (h:i.natAbs<10^500):i.natAbs.log2<1920:=by
 by_cases h0:i.natAbs=0
 ·rw [h0];decide
 ·rw [Nat.log2_lt h0]
  exact Nat.lt_of_lt_of_le h (by decide+kernel)
theorem qH {a:Rat} (h:B500 a):(ftx a).length<=1710:=by
 have h1:=yD (k:=849) h.1
 have h2:=XB 849 a.den h.2
 unfold ftx
 split
 ·omega
 ·rw [List.length_append,List.length_cons];omega
theorem W6 {a:Rat} (h:B500 a):Tl (ftx a):=by
 refine ⟨by have:=qH h;omega,?_⟩
 unfold ftx
 split
 ·exact Ve _
 ·intro q hq
  rcases List.mem_append.mp hq with h | h
  ·exact Ve _ q h
  ·rcases List.mem_cons.mp h with rfl | h
   ·decide
   ·have:=XC _ q h;omega
theorem Jl {a:Rat} (h:B60 a):Tl (ftx a):=W6 h.up
theorem xaN {y:Str} {l:List Nat} (h:y.cps.toList=l):D.str y=D.str (tx l):=by rw [<-h,zg]
theorem WP:∀k:Nat,Bd (4*k+1) ((10:Int)^k)
 | 0=>by decide
 | k+1=>by
  have h:=WP k
  unfold Bd at*
  rw [Int.natAbs_pow] at*
  rw [Nat.pow_succ,show 4*(k+1)+1=4*k+1+4 by omega,Nat.pow_add]
  exact Nat.mul_lt_mul_of_lt_of_le h (by decide) (by decide)
theorem Kh {x y:Int} {k' k0:Nat} (hx:1<=x) (hy:1<=y) (hk:1<=k') (h0:k0<=1000000) (h:x*y^k'=10^k0):IntMulOk x y/\IntMulOk y y:=by
 have b:=WP k0
 have y1:=zv hy hk
 have z:=qb hx (show 1<=y^k' by omega)
 rw [h] at z
 have bx:Bd (4*k0+1) x:=Bd.of_le (by omega) z.1 b
 have by':Bd (4*k0+1) y:=Bd.of_le (by omega) (by omega) b
 exact ⟨mulOk bx by' (by omega),mulOk by' by' (by omega)⟩
def xaf (ds:List D) (d:D):Prop:=∃i:Int,ds=[.int i]/\i.natAbs<10^850/\d= .str (tx (wr i))
theorem Ks:(10:Int)^850<=10^(1000:Int).toNat:=by
 rw [show (1000:Int).toNat=850+150 from rfl,Int.pow_add]
 have:(1:Int)<=10^150:=by decide+kernel
 have h0:(0:Int)<=10^850:=by decide+kernel
 calc (10:Int)^850=10^850*1:=(Int.mul_one _).symm
  _<=10^850*10^150:=Int.mul_le_mul_of_nonneg_left this h0
theorem Pr8.le {p:Int} (h:Pr p∨p=10):2<=p/\p<=10:=by
 rcases h with h | rfl
 ·have:=h.two_le;omega
 ·decide
theorem xaR {x y p:Int} {k' k0:Nat} (hp:Pr p∨p=10) (hx:1<=x) (hy:1<=y) (hk:1<=k') (h0:k0<=1000000) (h:x*y^k'=p^k0):IntMulOk x y/\IntMulOk y y:=by
 rcases hp with hp | rfl
 ·exact xb0 hp hx hy hk h0 h
 ·exact Kh hx hy hk h0 h
def jz (ds:List D) (d:D):Prop:=∃p k:Int,ds=[.int p,.int k]/\(Pr p∨p=10)/\k<=1000000/\d= .int (p^k.toNat)
theorem KZ {Y:Cy} {es:List Expr} {c:List Slot} {x1:Nat} {pos:Pos} (h:ArX Y es c):EvX Y (.Tuple es x1 pos) c:=PE.imp (kD h) fun σ H Q ⟨F,E⟩=>⟨F,E⟩
def qL (ds:List D) (r:Rs):Prop:=∃t b:Int,ds=[.int t,.int b]/\((b≠0/\Bd 8900 b/\r= .ok (frD (Rat.divInt t b)))∨(b=0/\r= .ex "NoFraction"))
def xbS (ds:List D) (r:Rs):Prop:=∃a b:Rat,ds=[frD a,frD b]/\Fb 4400 a/\Fb 4400 b/\((b.num≠0/\r= .ok (frD (Rat.divInt (a.num*(b.den:Int)) ((a.den:Int)*b.num))))∨(b.num=0/\r= .ex "NoFraction"))
@[ext] structure Tb where
 a:Rat
 b:Rat
 c:Rat
 d:Rat
abbrev tbD (t:Tb):D:= .tup [frD t.a,frD t.b,frD t.c,frD t.d]
def Tb.det (t:Tb):Rat:=t.a*t.d - t.b*t.c
def Tb.mul (s t:Tb):Tb:=⟨s.a*t.a+s.b*t.c,s.a*t.b+s.b*t.d,s.c*t.a+s.d*t.c,s.c*t.b+s.d*t.d⟩
def Tb.scale (t:Tb) (r:Rat):Tb:=⟨t.a*r,t.b*r,t.c*r,t.d*r⟩
def Tb.turn (t:Tb):Tb:=⟨t.d,0 - t.b,0 - t.c,t.a⟩
def Tb.one:Tb:=⟨1,0,0,1⟩
def Tb.inv (t:Tb):Tb:=t.turn.scale (t.det⁻¹)
structure Tbb (n:Nat) (t:Tb):Prop where
 a:Fb n t.a
 b:Fb n t.b
 c:Fb n t.c
 d:Fb n t.d
theorem Tbb.mono {m n:Nat} {t:Tb} (h:Tbb m t) (l:m<=n):Tbb n t:=⟨h.a.mono l,h.b.mono l,h.c.mono l,h.d.mono l⟩
theorem Fb.inv {m:Nat} {a:Rat} (h:Fb m a) (h0:a≠0):Fb m a⁻¹:=by
 have hn:a.num≠0:=fun z=>h0 (Rat.num_eq_zero.mp z)
 refine ⟨?_,?_⟩
 ·rw [Rat.num_inv]
  have q:=h.2
  unfold Bd at*
  rw [Int.natAbs_mul]
  have:a.num.sign.natAbs<=1:=by
   rcases Int.lt_trichotomy a.num 0 with h | h | h
   ·rw [Int.sign_eq_neg_one_of_neg h];decide
   ·exact absurd h hn
   ·rw [Int.sign_eq_one_of_pos h];decide
  calc a.num.sign.natAbs*(a.den:Int).natAbs<=1*(a.den:Int).natAbs:=Nat.mul_le_mul_right _ this
   _=(a.den:Int).natAbs:=Nat.one_mul _
   _<2^m:=q
 ·rw [Rat.den_inv,if_neg hn]
  have q:=h.1
  unfold Bd at*
  rw [Int.natAbs_natCast]
  exact q
theorem fb_zero:Fb 1 0:=⟨by decide+kernel,by decide+kernel⟩
theorem fb_one:Fb 1 1:=⟨by decide+kernel,by decide+kernel⟩
theorem Tbb.det {m:Nat} {t:Tb} (h:Tbb m t):Fb (4*m+1) t.det:=((h.a.mul h.d).sub (h.b.mul h.c)).mono (by omega)
structure MOk (t:Tb):Prop where
 ht:Tbb 4400 t
 ad:Fb 4400 (t.a*t.d)
 bc:Fb 4400 (t.b*t.c)
structure POk (s t:Tb):Prop where
 hs:Tbb 4400 s
 ht:Tbb 4400 t
 aa:Fb 4400 (s.a*t.a)
 bc:Fb 4400 (s.b*t.c)
 ab:Fb 4400 (s.a*t.b)
 bd:Fb 4400 (s.b*t.d)
 ca:Fb 4400 (s.c*t.a)
 dc:Fb 4400 (s.d*t.c)
 cb:Fb 4400 (s.c*t.b)
 dd:Fb 4400 (s.d*t.d)
theorem Tbb.mok {m:Nat} {t:Tb} (h:Tbb m t) (l:m+m<=4400):MOk t:=⟨h.mono (by omega),(h.a.mul h.d).mono l,(h.b.mul h.c).mono l⟩
theorem Tbb.pok {m n:Nat} {s t:Tb} (h:Tbb m s) (h':Tbb n t) (l:m+n<=4400):POk s t:=
 ⟨h.mono (by omega),h'.mono (by omega),(h.a.mul h'.a).mono l,(h.b.mul h'.c).mono l,(h.a.mul h'.b).mono l,(h.b.mul h'.d).mono l,(h.c.mul h'.a).mono l,(h.d.mul h'.c).mono l,(h.c.mul h'.b).mono l,(h.d.mul h'.d).mono l⟩
def jD (ds:List D) (d:D):Prop:=∃t:Tb,ds=[tbD t]/\MOk t/\d=frD t.det
def XT (ds:List D) (r:Rs):Prop:=∃t:Tb,ds=[frD t.a,frD t.b,frD t.c,frD t.d]/\MOk t/\((t.det≠0/\r= .ok (tbD t))∨(t.det=0/\r= .ex "NoTable"))
def JQ (ds:List D) (d:D):Prop:=∃a b c e:Rat,ds=[.tup [frD a,frD b],.tup [frD c,frD e]]/\Fb 4400 a/\Fb 4400 b/\Fb 4400 c/\Fb 4400 e/\Fb 4400 (a*c)/\Fb 4400 (b*e)/\d=frD (a*c+b*e)
def jA (ds:List D) (d:D):Prop:=∃s t:Tb,ds=[tbD s,tbD t]/\POk s t/\d=tbD (s.mul t)
theorem Zn (a:Rat) {b:Rat} (h0:b≠0):Rat.divInt (a.num*(b.den:Int)) ((a.den:Int)*b.num)=a*b⁻¹:=by
 have hn:b.num≠0:=fun z=>h0 (Rat.num_eq_zero.mp z)
 have e:b⁻¹=Rat.divInt (b.den:Int) b.num:=by rw [Rat.inv_def]
 have ea:a=Rat.divInt a.num (a.den:Int):=by rw [Rat.divInt_ofNat];exact (Rat.mkRat_self a).symm
 rw [e]
 conv=>rhs;rw [ea]
 rw [Rat.divInt_mul_divInt]
theorem ZL (a b:Rat):eqD (frD a) (frD b)=decide (a=b):=by
 have e:eqD (frD a) (frD b)=((a.num==b.num) && (((a.den:Int)==(b.den:Int)) && true)):=rfl
 rw [e,Bool.eq_iff_iff]
 simp only [Bool.and_true,Bool.and_eq_true,beq_iff_eq,decide_eq_true_eq]
 constructor
 ·intro h;exact Rat.ext h.1 (by omega)
 ·rintro rfl;exact ⟨rfl,rfl⟩
theorem Ue (s t:Tb):(s.mul t).det=s.det*t.det:=by
 unfold Tb.mul Tb.det
 simp only []
 grind
theorem qz {p a b:Int} (hp:Pr p) (ha:¬a%p=0) (hb:¬b%p=0):¬a*b%p=0:=by
 intro h
 obtain ⟨c,_,_,hc⟩:=Wa hp hb
 have h1:=Int.dvd_of_emod_eq_zero h
 have h2:p∣a*(b*c):=by rw [<-Int.mul_assoc];exact Int.dvd_mul_of_dvd_left h1
 have e:b*c=1+p*(b*c / p):=by have:=Int.emod_add_mul_ediv (b*c) p;omega
 rw [e,Int.mul_add,Int.mul_one,Int.mul_left_comm] at h2
 have h3:p∣a:=(Int.dvd_add_left (Int.dvd_mul_right p _)).mp h2
 exact ha (Int.emod_eq_zero_of_dvd h3)
theorem Z0 {p:Int} (hp:Pr p):∀(m:Nat) (n:Int),n.natAbs<=m->n≠0->∃u,n=p^(vp p n)*u/\¬u%p=0
 | 0,n,hm,hn=>by omega
 | m+1,n,hm,hn=>by
  have p2:=hp.two_le
  by_cases h:n%p=0
  ·have f:=YH p2.1 hn h
   obtain ⟨u,hu,hup⟩:=Z0 hp m (n / p) (by omega) f.2.1
   refine ⟨u,?_,hup⟩
   rw [uw p2.1 hn h,Int.pow_succ',Int.mul_assoc,<-hu]
   exact f.1
  ·exact ⟨n,by rw [vG h,Int.pow_zero,Int.one_mul],h⟩
theorem wX {p:Int} (hp:Pr p) {n:Int} (hn:n≠0):∃u,n=p^(vp p n)*u/\¬u%p=0:=Z0 hp _ n (Nat.le_refl _) hn
theorem Xn {p w:Int} (hp:Pr p) (hw:¬w%p=0):∀(n:Nat) (m:Int),p^n∣m*w->p^n∣m
 | 0,m,_=>by rw [Int.pow_zero];exact Int.one_dvd m
 | n+1,m,h=>by
  have p2:=hp.two_le
  have hm:p∣m:=by
   have h1:p∣m*w:=Int.dvd_trans (by rw [Int.pow_succ'];exact Int.dvd_mul_right _ _) h
   by_cases z:m%p=0
   ·exact Int.dvd_of_emod_eq_zero z
   ·exact absurd (Int.emod_eq_zero_of_dvd h1) (qz hp z hw)
  obtain ⟨q,rfl⟩:=hm
  rw [Int.pow_succ',Int.mul_assoc] at h
  have h2:p^n∣q*w:=Int.dvd_of_mul_dvd_mul_left (by omega) h
  rw [Int.pow_succ']
  exact Int.mul_dvd_mul_left p (Xn hp hw n q h2)
theorem xbV {p u:Int} (hp:Pr p) (hu:¬u%p=0) (n:Nat):vp p (p^n*u)=n:=by
 have p2:=hp.two_le
 have u0:u≠0:=fun z=>hu (by rw [z];simp)
 induction n with
 | zero=>rw [Int.pow_zero,Int.one_mul,vG hu]
 | succ n ih=>
  have e:p^(n+1)*u=p*(p^n*u):=by rw [Int.pow_succ',Int.mul_assoc]
  have pp:=yb hp n
  rw [e,uw p2.1 (Int.mul_ne_zero (by omega) (Int.mul_ne_zero (by omega) u0)) (Int.mul_emod_right p _),Int.mul_ediv_cancel_left _ (by omega),ih]
theorem jH {p a b:Int} (hp:Pr p) (ha:a≠0) (hb:b≠0):vp p (a*b)=vp p a+vp p b:=by
 obtain ⟨u,hu,hup⟩:=wX hp ha
 obtain ⟨v,hv,hvp⟩:=wX hp hb
 have e:a*b=p^(vp p a+vp p b)*(u*v):=by rw [Int.pow_add];grind
 rw [e,xbV hp (qz hp hup hvp)]
theorem yg {p:Int} (hp:Pr p) (a b:Int):ppw p (a+b)=ppw p a*ppw p b:=by
 have p2:=hp.two_le
 exact Rat.zpow_add (by intro z;have:p=0:=(by exact_mod_cast z);omega) a b
theorem xN (p:Int) (n:Nat):ppw p (n:Int)=((p^n:Int):Rat):=by
 have q:=qA (p:=p) (k:=(n:Int)) (by omega)
 apply Rat.ext
 ·rw [q.1];simp
 ·rw [q.2];simp
theorem vR (p:Int):ppw p 0=1:=by have:=xN p 0;simpa using this
theorem vt {p:Int} (hp:Pr p) (k:Int):ppw p k≠0:=by
 intro z
 have h:=yg hp k (-k)
 rw [z,Rat.zero_mul,show k+ -k=0 by omega,vR] at h
 exact absurd h (by decide)
theorem uC {p:Int} (hp:Pr p) (k:Int):ppw p (-k)*ppw p k=1:=by
 rw [<-yg hp,show -k+k=0 by omega,vR]
theorem VM {a:Rat} (h:0<a.num):0<a:=by
 rw [Rat.lt_iff];simpa using h
theorem yU {p:Int} (hp:Pr p) (k:Int):0<ppw p k:=by
 have p2:=hp.two_le
 have nat:∀n:Nat,0<ppw p (n:Int):=fun n=>by
  apply VM
  rw [(qA (p:=p) (k:=(n:Int)) (by omega)).1]
  exact yb hp _
 by_cases h:0<=k
 ·have:=nat k.toNat
  rw [show ((k.toNat:Nat):Int)=k by omega] at this
  exact this
 ·have h1:=nat (-k).toNat
  rw [show (((-k).toNat:Nat):Int)= -k by omega] at h1
  have e:=uC hp k
  by_cases z:0<ppw p k
  ·exact z
  ·exfalso
   have z':ppw p k<=0:=Rat.not_lt.mp z
   have:ppw p (-k)*ppw p k<=ppw p (-k)*0:=Rat.mul_le_mul_of_nonneg_left z' (Rat.le_of_lt h1)
   rw [e,Rat.mul_zero] at this
   exact absurd this (by decide)
def Dv (p k:Int) (r:Rat):Prop:=∃u w:Int,¬w%p=0/\r*(w:Rat)=(u:Rat)*ppw p k
theorem yk (p k:Int) (hp:Pr p):Dv p k 0:=⟨0,1,by rcases hp with rfl | rfl | rfl | rfl<;>decide,by simp⟩
theorem qJ {p k:Int} (hp:Pr p) {r s:Rat} (hr:Dv p k r) (hs:Dv p k s):Dv p k (r+s):=by
 obtain ⟨u,w,hw,h⟩:=hr
 obtain ⟨u',w',hw',h'⟩:=hs
 refine ⟨u*w'+u'*w,w*w',qz hp hw hw',?_⟩
 push_cast
 grind
theorem ZM {p k:Int} {r:Rat} (hr:Dv p k r):Dv p k (-r):=by
 obtain ⟨u,w,hw,h⟩:=hr
 refine ⟨-u,w,hw,?_⟩
 push_cast
 grind
theorem Wo {p k:Int} (hp:Pr p) {r s:Rat} (hr:Dv p k r) (hs:Dv p k s):Dv p k (r - s):=by
 rw [Rat.sub_eq_add_neg];exact qJ hp hr (ZM hs)
theorem K8 {p k:Int} {r s:Rat} (h:Dv p k (r - s)):Dv p k (s - r):=by
 have:=ZM h
 rw [show -(r - s)=s - r by grind] at this
 exact this
theorem Q2 {p k:Int} (hp:Pr p) {r s t:Rat} (h:Dv p k (r - s)) (h':Dv p k (s - t)):Dv p k (r - t):=by
 have:=qJ hp h h'
 rw [show r - s+(s - t)=r - t by grind] at this
 exact this
theorem zL (r:Rat):r*(r.den:Rat)=(r.num:Rat):=by
 have h:=Rat.num_divInt_den r
 rw [Rat.divInt_eq_div] at h
 have d0:((r.den:Int):Rat)≠0:=by
  intro z
  have:(r.den:Int)=0:=by exact_mod_cast z
  exact yn r this
 conv=>lhs;lhs;rw [<-h]
 exact Rat.div_mul_cancel d0
theorem vF {p k:Int} (hp:Pr p) (r:Rat):Dv p k r↔(match vq p r with | none=>True | some v=>k<=v):=by
 by_cases h0:r.num=0
 ·have z:r=0:=Rat.num_eq_zero.mp h0
  have e:vq p r=none:=by unfold vq;rw [if_pos h0]
  rw [e,z]
  exact ⟨fun _=>trivial,fun _=>yk p k hp⟩
 ·have e:vq p r=some ((vp p r.num:Int) - (vp p r.den:Int)):=by unfold vq;rw [if_neg h0]
  rw [e]
  obtain ⟨n,hn,np⟩:=wX hp h0
  obtain ⟨d,hd,dp⟩:=wX hp (yn r)
  generalize vp p r.num=a at*
  generalize vp p r.den=b at*
  have s:=zL r
  have hn':(r.num:Rat)=ppw p (a:Int)*(n:Rat):=by rw [xN,hn];push_cast;rfl
  have hd':(r.den:Rat)=ppw p (b:Int)*(d:Rat):=by
   rw [xN]
   have:((r.den:Int):Rat)=((p^b*d:Int):Rat):=by rw [<-hd]
   push_cast at this ⊢
   exact this
  rw [hn',hd'] at s
  have pb:=vt hp (b:Int)
  have key:r*(d:Rat)=(n:Rat)*ppw p ((a:Int) - (b:Int)):=by
   have e2:ppw p (a:Int)=ppw p ((a:Int) - (b:Int))*ppw p (b:Int):=by rw [<-yg hp];congr 1;omega
   rw [e2] at s
   grind
  constructor
  ·rintro ⟨u,w,hw,h⟩
   show k<=(a:Int) - (b:Int)
   by_cases z:k<=(a:Int) - (b:Int)
   ·exact z
   ·exfalso
    have e3:ppw p k=ppw p (k - ((a:Int) - (b:Int)))*ppw p ((a:Int) - (b:Int)):=by rw [<-yg hp];congr 1;omega
    have pk:=vt hp ((a:Int) - (b:Int))
    obtain ⟨m,hm⟩:∃m:Nat,k - ((a:Int) - (b:Int))=((m+1:Nat):Int):=⟨(k - ((a:Int) - (b:Int))).toNat - 1,by omega⟩
    have e4:(n:Rat)*(w:Rat)=(u:Rat)*(d:Rat)*ppw p (k - ((a:Int) - (b:Int))):=by
     rw [e3] at h
     grind
    rw [hm,xN] at e4
    have e5:n*w=u*d*p^(m+1):=by exact_mod_cast e4
    have:n*w%p=0:=Int.emod_eq_zero_of_dvd (by rw [e5,Int.pow_succ',Int.mul_left_comm];exact Int.dvd_mul_right _ _)
    exact qz hp np hw this
  ·intro h
   have h:k<=(a:Int) - (b:Int):=h
   obtain ⟨m,hm⟩:∃m:Nat,(a:Int) - (b:Int) - k=(m:Int):=⟨((a:Int) - (b:Int) - k).toNat,by omega⟩
   refine ⟨n*p^m,d,dp,?_⟩
   rw [key]
   have e3:ppw p ((a:Int) - (b:Int))=ppw p (m:Int)*ppw p k:=by rw [<-yg hp];congr 1;omega
   rw [e3,xN]
   push_cast
   grind
theorem xx {p j k:Int} (hp:Pr p) (h:j<=k) {r:Rat} (hr:Dv p k r):Dv p j r:=by
 obtain ⟨u,w,hw,e⟩:=hr
 obtain ⟨m,hm⟩:∃m:Nat,k - j=(m:Int):=⟨(k - j).toNat,by omega⟩
 refine ⟨u*p^m,w,hw,?_⟩
 rw [e,show k=(m:Int)+j by omega,yg hp,xN]
 push_cast
 grind
def PDen (p:Int) (r:Rat):Prop:=∃n:Nat,(r.den:Int)=p^n
theorem Xq {p:Int} (hp:Pr p) {r:Rat} (h:PDen p r):∃(n:Nat) (m:Int),r*ppw p (n:Int)=(m:Rat):=by
 obtain ⟨n,hn⟩:=h
 refine ⟨n,r.num,?_⟩
 rw [xN,<-hn,<-zL r]
 first | rfl | norm_cast
theorem uT {p:Int} (hp:Pr p) {r:Rat} {n:Nat} {m:Int} (h:r*ppw p (n:Int)=(m:Rat)) {l:Nat} (hl:n<=l):∃m':Int,r*ppw p (l:Int)=(m':Rat):=by
 refine ⟨m*p^(l - n),?_⟩
 have e:ppw p (l:Int)=ppw p (n:Int)*ppw p ((l - n:Nat):Int):=by rw [<-yg hp];congr 1;omega
 rw [e,<-Rat.mul_assoc,h,xN]
 push_cast
 rfl
theorem Jz {p:Int} (hp:Pr p):∀(n:Nat) (d:Int),0<d->d∣p^n->∃m:Nat,d=p^m
 | 0,d,h0,h=>⟨0,by
  rw [Int.pow_zero] at h ⊢
  have:=Int.le_of_dvd (by decide) h
  omega⟩
 | n+1,d,h0,h=>by
  have p2:=hp.two_le
  by_cases z:d%p=0
  ·obtain ⟨q,rfl⟩:=Int.dvd_of_emod_eq_zero z
   rw [Int.pow_succ'] at h
   have q0:0<q:=by
    by_cases hq:0<q
    ·exact hq
    ·have:=Int.mul_nonneg (show 0<=p by omega) (show 0<= -q by omega)
     rw [Int.mul_neg] at this
     omega
   obtain ⟨m,rfl⟩:=Jz hp n q q0 (Int.dvd_of_mul_dvd_mul_left (by omega) h)
   exact ⟨m+1,by rw [Int.pow_succ']⟩
  ·obtain ⟨c,hc⟩:=h
   have h1:p^(n+1)∣c*d:=⟨1,by rw [Int.mul_one,Int.mul_comm];exact hc.symm⟩
   have h2:=Xn hp z (n+1) c h1
   obtain ⟨e,rfl⟩:=h2
   have pp:=yb hp (n+1)
   have:d*e=1:=by
    have h3:p^(n+1)*(d*e)=p^(n+1)*1:=by rw [Int.mul_one];grind
    exact Int.eq_of_mul_eq_mul_left (by omega) h3
   have:d∣1:=⟨e,this.symm⟩
   have:=Int.le_of_dvd (by decide) this
   exact ⟨0,by rw [Int.pow_zero];omega⟩
theorem WW {p:Int} (hp:Pr p) {r:Rat} {n:Nat} {m:Int} (h:r*ppw p (n:Int)=(m:Rat)):PDen p r:=by
 have e:r.num*p^n=m*(r.den:Int):=by
  have s:=zL r
  rw [xN] at h
  have q:(r.num:Rat)*((p^n:Int):Rat)=(m:Rat)*((r.den:Int):Rat):=by
   rw [<-s,<-h]
   push_cast
   grind
  exact_mod_cast q
 have hc:Int.gcd (r.den:Int) r.num=1:=by
  rw [Int.gcd_comm,Int.gcd_eq_natAbs_gcd_natAbs,Int.natAbs_natCast];exact r.reduced
 have d:(r.den:Int)∣r.num*p^n:=⟨m,by rw [e,Int.mul_comm]⟩
 have d2:(r.den:Int)∣p^n:=by
  have g:=Int.gcd_mul_right_right_of_gcd_eq_one (k:=p^n) hc
  have:(Int.gcd (r.den:Int) (r.num*p^n):Int)=(r.den:Int):=by
   rw [Int.gcd_eq_left (by omega) d]
  rw [g] at this
  have h3:=Int.gcd_dvd_right (r.den:Int) (p^n)
  rw [this] at h3
  exact h3
 obtain ⟨k,hk⟩:=Jz hp n _ (ZO r) d2
 exact ⟨k,hk⟩
structure IsRest (p k:Int) (a r:Rat):Prop where
 den:PDen p r
 nn:0<=r
 lt:r<ppw p k
 dv:Dv p k (a - r)
theorem rat_lt_int {a b:Int}:(a:Rat)<(b:Rat)↔a<b:=by
 rw [Rat.lt_iff];simp
theorem rat_le_int {a b:Int}:(a:Rat)<=(b:Rat)↔a<=b:=by
 rw [Rat.le_iff];simp
theorem Zv {a b c:Rat} (h:a<b) (hc:0<c):a*c<b*c:=(Rat.mul_lt_mul_right hc).mpr h
theorem zK {p k:Int} (hp:Pr p) {a b r s:Rat} (hr:IsRest p k a r) (hs:IsRest p k b s) (h:Dv p k (a - b)):r=s:=by
 have d:Dv p k (r - s):=Q2 hp (K8 hr.dv) (Q2 hp h hs.dv)
 obtain ⟨n1,m1,e1⟩:=Xq hp hr.den
 obtain ⟨n2,m2,e2⟩:=Xq hp hs.den
 obtain ⟨L,hL⟩:∃L:Nat,n1<=L/\n2<=L/\ -k<=(L:Int):=⟨n1+n2+(-k).toNat,by omega,by omega,by omega⟩
 obtain ⟨x,hx⟩:=uT hp e1 hL.1
 obtain ⟨y,hy⟩:=uT hp e2 hL.2.1
 obtain ⟨K,hK⟩:∃K:Nat,k+(L:Int)=(K:Int):=⟨(k+L).toNat,by omega⟩
 have pL:=yU hp (L:Int)
 have eK:ppw p k*ppw p (L:Int)=((p^K:Int):Rat):=by rw [<-yg hp,hK,xN]
 have bd:∀{t:Rat} {z:Int},0<=t->t<ppw p k->t*ppw p (L:Int)=(z:Rat)->0<=z/\z<p^K:=fun {t z} h0 h1 hz=>by
  constructor
  ·have:(0:Rat)<=(z:Rat):=by rw [<-hz];exact Rat.mul_nonneg h0 (Rat.le_of_lt pL)
   exact rat_le_int.mp (by simpa using this)
  ·have:=Zv h1 pL
   rw [hz,eK] at this
   exact rat_lt_int.mp this
 have bx:=bd hr.nn hr.lt hx
 have by':=bd hs.nn hs.lt hy
 obtain ⟨u,w,hw,hd⟩:=d
 have e:(x - y)*w=u*p^K:=by
  have q:((x:Rat) - (y:Rat))*(w:Rat)=(u:Rat)*((p^K:Int):Rat):=by
   rw [<-hx,<-hy,<-eK]
   grind
  exact_mod_cast q
 have dd:=Xn hp hw K (x - y) ⟨u,by rw [e,Int.mul_comm]⟩
 have:x - y=0:=by
  rcases Int.lt_trichotomy (x - y) 0 with h | h | h
  ·have:=Int.le_of_dvd (show 0< -(x - y) by omega) (Int.dvd_neg.mpr dd);omega
  ·exact h
  ·have:=Int.le_of_dvd h dd;omega
 have exy:x=y:=by omega
 rw [exy,<-hy] at hx
 have pn:=vt hp (L:Int)
 grind
noncomputable def restQ (p k:Int) (a:Rat):Rat:=if k+(vp p a.den:Int)<=0 then 0 else
 Rat.divInt (a.num*overBy p ((a.den:Int) / p^(vp p a.den)) (k+(vp p a.den:Int)).toNat%p^(k+(vp p a.den:Int)).toNat) (p^(vp p a.den))
theorem y7 {p:Int} (hp:Pr p) (k:Int) (a:Rat):IsRest p k a (restQ p k a):=by
 obtain ⟨d,hd,dp⟩:=wX hp (yn a)
 unfold restQ
 have s:=zL a
 generalize vp p a.den=e at*
 have pe:=yb hp e
 have hdiv:(a.den:Int) / p^e=d:=by rw [hd];exact Int.mul_ediv_cancel_left d (by omega)
 have hd':(a.den:Rat)=ppw p (e:Int)*(d:Rat):=by
  rw [xN]
  have:((a.den:Int):Rat)=((p^e*d:Int):Rat):=by rw [<-hd]
  push_cast at this ⊢
  exact this
 rw [hd'] at s
 have pne:=vt hp (e:Int)
 split
 ·rename_i h
  refine ⟨⟨0,by simp⟩,Rat.le_refl,yU hp k,?_⟩
  obtain ⟨m,hm⟩:∃m:Nat,-(e:Int) - k=(m:Int):=⟨(-(e:Int) - k).toNat,by omega⟩
  refine ⟨a.num*p^m,d,dp,?_⟩
  have e1:ppw p (-(e:Int))*ppw p (e:Int)=1:=uC hp _
  have e2:ppw p (-(e:Int))=ppw p (m:Int)*ppw p k:=by rw [<-yg hp];congr 1;omega
  rw [xN] at e2
  push_cast at e2 ⊢
  grind
 ·rename_i h
  obtain ⟨K,hK⟩:∃K:Nat,k+(e:Int)=(K:Int):=⟨(k+e).toNat,by omega⟩
  rw [hdiv,hK,Int.toNat_natCast]
  have ov:=zd hp dp K
  generalize overBy p d K=x at ov
  have pK:=yb hp K
  have w0:=Int.emod_nonneg (a.num*x) (show p^K≠0 by omega)
  have w1:=Int.emod_lt_of_pos (a.num*x) pK
  have dw:p^K∣a.num - (a.num*x%p^K)*d:=by
   have e1:a.num - (a.num*x%p^K)*d= -(a.num*(d*x - 1))+p^K*(a.num*x / p^K*d):=by rw [Int.emod_def];grind
   rw [e1]
   exact Int.dvd_add (Int.dvd_neg.mpr (Int.dvd_mul_of_dvd_right ov.2.2)) (Int.dvd_mul_right _ _)
  generalize a.num*x%p^K=W at*
  have hr:Rat.divInt W (p^e)*ppw p (e:Int)=(W:Rat):=by
   rw [Rat.divInt_eq_div,xN]
   refine Rat.div_mul_cancel ?_
   intro z
   have:p^e=0:=by exact_mod_cast z
   omega
  generalize Rat.divInt W (p^e)=r at hr
  have pp:=yU hp (e:Int)
  refine ⟨WW hp hr,?_,?_,?_⟩
  ·by_cases z:0<=r
   ·exact z
   ·exfalso
    have:=Zv (Rat.not_le.mp z) pp
    rw [hr,Rat.zero_mul] at this
    have:=rat_lt_int.mp (by simpa using this:(W:Rat)<((0:Int):Rat))
    omega
  ·by_cases z:r<ppw p k
   ·exact z
   ·exfalso
    have h1:ppw p k*ppw p (e:Int)<=r*ppw p (e:Int):=Rat.mul_le_mul_of_nonneg_right (Rat.not_lt.mp z) (Rat.le_of_lt pp)
    rw [hr,<-yg hp,hK,xN] at h1
    have:=rat_le_int.mp h1
    omega
  ·obtain ⟨t,ht⟩:=dw
   refine ⟨t,d,dp,?_⟩
   have e1:ppw p (e:Int)*ppw p k=((p^K:Int):Rat):=by rw [<-yg hp,show (e:Int)+k=(K:Int) by omega,xN]
   have e2:(a.num:Rat) - (W:Rat)*(d:Rat)=((p^K:Int):Rat)*(t:Rat):=by exact_mod_cast ht
   grind
theorem jI {p:Int} (hp:Pr p) {n:Int} (hn:n≠0) {m:Nat} (h:Bd m n):vp p n<m:=by
 obtain ⟨u,hu,up⟩:=wX hp hn
 have p2:=hp.two_le
 have u0:u≠0:=fun z=>up (by rw [z];simp)
 unfold Bd at h
 by_cases z:vp p n<m
 ·exact z
 ·exfalso
  have e:n.natAbs=(p^vp p n).natAbs*u.natAbs:=by rw [<-Int.natAbs_mul,<-hu]
  have h1:2^m<=(p^vp p n).natAbs:=by
   rw [Int.natAbs_pow]
   exact Nat.le_trans (Nat.pow_le_pow_right (by decide) (by omega)) (Nat.pow_le_pow_left (by omega) _)
  have h2:(p^vp p n).natAbs*1<=(p^vp p n).natAbs*u.natAbs:=Nat.mul_le_mul_left _ (by omega)
  omega
def alk (p k:Int) (a b:Rat):Bool:=match vq p (a - b) with
 | none=>true
 | some v=>decide (k<=v)
def xbO (ds:List D) (d:D):Prop:=∃(p k:Int) (a:Rat),ds=[.int p,.int k,frD a]/\Pr p/\k<=900000/\ -900000<=k/\Fb 4400 a/\d=frD (restQ p k a)
theorem vq_none {p:Int} {r:Rat}:vq p r=none↔r=0:=by
 unfold vq
 rw [<-Rat.num_eq_zero]
 split<;>simp [*]
theorem yv {p:Int} (hp:Pr p) {r:Rat} {v:Int}:vq p r=some v↔(r≠0/\∀k,Dv p k r↔k<=v):=by
 constructor
 ·intro h
  refine ⟨fun z=>?_,fun k=>?_⟩
  ·rw [vq_none.mpr z] at h;cases h
  ·rw [vF hp,h]
 ·rintro ⟨h0,h⟩
  cases e:vq p r with
  | none=>exact absurd (vq_none.mp e) h0
  | some w=>
   have q:∀k,Dv p k r↔k<=w:=fun k=>by rw [vF hp,e]
   have h1:=(h w).mp ((q w).mpr (Int.le_refl _))
   have h2:=(q v).mp ((h v).mpr (Int.le_refl _))
   congr 1;omega
theorem xaF {p:Int} (hp:Pr p) (r:Rat):vq p (-r)=vq p r:=by
 cases e:vq p r with
 | none=>rw [vq_none.mp e];exact vq_none.mpr rfl
 | some v=>
  obtain ⟨h0,h⟩:=(yv hp).mp e
  refine (yv hp).mpr ⟨fun z=>h0 (by grind),fun k=>?_⟩
  rw [<-h k]
  exact ⟨fun z=>by have:=ZM z;rwa [Rat.neg_neg] at this,ZM⟩
theorem YS {p:Int} (hp:Pr p):vq p 1=some 0:=by have:=YR (k:=0) hp;rwa [vR] at this
def leastV (p:Int) (rs:List Rat):Int:=match rs.filterMap (vq p) with
 | []=>0
 | x::xs=>xs.foldl min x
abbrev spotD (k:Int) (q:Rat):D:= .tup [.int k,frD q]
def tabS (p k:Int) (q:Rat):Tb:=⟨ppw p k,q,0,1⟩
theorem uM (p k:Int) (q:Rat):(tabS p k q).det=ppw p k:=by unfold tabS Tb.det;simp only [];grind
def Sz (p:Int) (M B:Nat) (r:Rat):Prop:=∃m:Int,r*ppw p (M:Int)=(m:Rat)/\Bd B m
structure Sp (p:Int) (k:Int) (q:Rat):Prop where
 k0: -310<=k
 k1:k<=310
 q:Sz p 310 1862 q
def xam (ds:List D) (d:D):Prop:=∃(p:Int) (rs:List Rat),ds=[.int p,.tup (rs.map frD)]/\Pr p/\rs.length<=10/\(∃r∈rs,r≠0)/\d= .int (leastV p rs)
def xah (ds:List D) (d:D):Prop:=∃(p k:Int) (q:Rat),ds=[.int p,spotD k q]/\Pr p/\ -1000000<=k/\k<=1000000/\d=tbD (tabS p k q)
def cellOf (ns:List Int) (k:Int):Int:=if k<(ns.length:Int) then ns.getD k.toNat 0%10^60 else 0
def drawn (ns:List Int) (k:Int):Int:=if 0<(ns.length:Int)/\ns.getD 0 0%2=1 then cellOf ns k / (1+if k=0 then 1 else 0)
 else cellOf ns k*2147483629+(cellOf ns k+7919*k+13)*48271%2147483647*69621%2147483629
theorem Uh {ns:List Int} {k:Int} (h0:0<=k) (h:k<(ns.length:Int)):atI (ns.map D.int) k=some (.int (ns.getD k.toNat 0)):=by
 have hk:k.toNat<ns.length:=by omega
 have ek:k=((k.toNat:Nat):Int):=by omega
 have q:atI (ns.map D.int) ((k.toNat:Nat):Int)=some (.int (ns.getD k.toNat 0)):=Ui (by
  rw [List.getElem?_map,List.getElem?_eq_getElem hk]
  simp [hk])
 rw [<-ek] at q
 exact q
structure Spt (p K k:Int) (q:Rat):Prop where
 k0: -K<=k
 k1:k<=K
 nn:0<=q
 lt:q<ppw p k
 sc:∃m:Int,q*ppw p ((310:Nat):Int)=(m:Rat)
theorem xa1 {p:Int} (hp:Pr p) {k:Int} (n:Nat) (h0: -(n:Int)<=k) (h1:k<=n):Fb (3*n+1) (ppw p k):=by
 by_cases h:0<=k
 ·have q:=qA (p:=p) h
  refine ⟨?_,?_⟩
  ·rw [q.1];exact (vP hp _).mono (by omega)
  ·rw [q.2]
   have:1<2^(3*n+1):=Nat.one_lt_two_pow (by omega)
   unfold Bd;simpa using this
 ·have q:=uB (p:=p) (k:=k) (by have:=hp.two_le;omega) (by omega)
  refine ⟨?_,?_⟩
  ·rw [q.1]
   have:1<2^(3*n+1):=Nat.one_lt_two_pow (by omega)
   unfold Bd;simpa using this
  ·rw [q.2];exact (vP hp _).mono (by omega)
theorem kB {i:Int} (h0:0<=i) (h1:i<4):∃p,Pr p/\atI [D.int 2,D.int 3,D.int 5,D.int 7] i=some (.int p):=by
 rcases (show i=0∨i=1∨i=2∨i=3 by omega) with rfl | rfl | rfl | rfl
 ·exact ⟨2,.inl rfl,rfl⟩
 ·exact ⟨3,.inr (.inl rfl),rfl⟩
 ·exact ⟨5,.inr (.inr (.inl rfl)),rfl⟩
 ·exact ⟨7,.inr (.inr (.inr rfl)),rfl⟩
def isF:D->Bool
 | .tup [.int a,.int b]=>decide (1<=b) && decide ((Int.gcd a b:Int)=1)
 | _=>false
noncomputable def isS (p:Int):D->Bool
 | .tup [.int k,.tup [.int a,.int b]]=>isF (.tup [.int a,.int b]) && decide (restQ p (min k (bits a:Int)) (Rat.divInt a b)=Rat.divInt a b)
 | _=>false
def okS (x:D):Prop:=∀k a b:Int,x= .tup [.int k,.tup [.int a,.int b]]-> -900000<=k/\Bd 4400 a/\Bd 4400 b
def SpP (p k a b:Int):Prop:=1<=b/\0<=a/\(Int.gcd a b:Int)=1/\(∃n:Nat,b=p^n)/\Rat.divInt a b<ppw p k
def xct (ds:List D) (d:D):Prop:=∃x:D,ds=[x]/\d= .bl (isF x)
def xcs (ds:List D) (d:D):Prop:=∃(p:Int) (x:D),ds=[.int p,x]/\Pr p/\okS x/\d= .bl (isS p x)
theorem V4 {a b:Int} (h1:1<=b) (h:(Int.gcd a b:Int)=1):(Rat.divInt a b).num=a/\((Rat.divInt a b).den:Int)=b:=by
 have hb:b≠0:=by omega
 have hn:¬b<0:=by omega
 have l:=v6 a hb
 rw [if_neg hn,h] at l
 rw [Int.fdiv_one,Int.fdiv_one] at l
 exact ⟨l.1.symm,l.2.symm⟩
theorem KQ {p k a b:Int} (hp:Pr p):isS p (.tup [.int k,.tup [.int a,.int b]])=true↔SpP p k a b:=by
 have p2:=hp.two_le
 show (isF (.tup [.int a,.int b]) && decide (restQ p (min k (bits a:Int)) (Rat.divInt a b)=Rat.divInt a b))=true↔_
 show ((decide (1<=b) && decide ((Int.gcd a b:Int)=1)) && decide (restQ p (min k (bits a:Int)) (Rat.divInt a b)=Rat.divInt a b))=true↔_
 simp only [Bool.and_eq_true,decide_eq_true_eq]
 have mono:∀i j:Int,i<=j->ppw p i<=ppw p j:=by
  intro i j h
  have e:ppw p j=ppw p i*ppw p (j - i):=by rw [<-yg hp];congr 1;omega
  have h1:(1:Rat)<=ppw p (j - i):=by
   rw [show j - i=(((j - i).toNat:Nat):Int) by omega,xN]
   have:=yb hp (j - i).toNat
   exact_mod_cast (show (1:Int)<=p^(j - i).toNat by omega)
  rw [e]
  have:=Rat.mul_le_mul_of_nonneg_left h1 (Rat.le_of_lt (yU hp i))
  rwa [Rat.mul_one] at this
 constructor
 ·rintro ⟨⟨h1,hg⟩,hr⟩
  have l:=V4 h1 hg
  have ir:=y7 hp (min k (bits a:Int)) (Rat.divInt a b)
  rw [hr] at ir
  refine ⟨h1,?_,hg,?_,?_⟩
  ·have:=Rat.num_nonneg.mpr ir.nn
   rw [l.1] at this
   exact this
  ·obtain ⟨n,e⟩:=ir.den
   exact ⟨n,by rw [<-l.2];exact e⟩
  ·exact Std.lt_of_lt_of_le ir.lt (mono _ _ (by omega))
 ·rintro ⟨h1,h0,hg,⟨n,hn⟩,hlt⟩
  have l:=V4 h1 hg
  refine ⟨⟨h1,hg⟩,?_⟩
  have nn:(0:Rat)<=Rat.divInt a b:=Rat.num_nonneg.mp (by rw [l.1];exact h0)
  have lt2:Rat.divInt a b<ppw p (bits a:Int):=by
   rw [Rat.lt_iff,l.1,l.2]
   have q:=qA (p:=p) (k:=(bits a:Int)) (by omega)
   rw [q.1,q.2,Int.toNat_natCast]
   have hb:=xac a
   have h2:(2:Int)^bits a<=p^bits a:=by
    have:(2:Int)^bits a=((2^bits a:Nat):Int):=by simp
    have h3:(2^bits a:Nat)<=(p.toNat)^bits a:=Nat.pow_le_pow_left (by omega) _
    have h4:(p^bits a:Int)=((p.toNat^bits a:Nat):Int):=by
     rw [Int.natCast_pow,show (p.toNat:Int)=p by omega]
    rw [this,h4]
    exact_mod_cast h3
   have h5:a<p^bits a:=by
    have:(2:Int)^bits a=((2^bits a:Nat):Int):=by simp
    omega
   have pp:=yb hp (bits a)
   have:p^bits a*1<=p^bits a*b:=Int.mul_le_mul_of_nonneg_left h1 (by omega)
   show a*((1:Nat):Int)<p^bits a*b
   omega
  have lt3:Rat.divInt a b<ppw p (min k (bits a:Int)):=by
   by_cases h:k<=(bits a:Int)
   ·rw [show min k (bits a:Int)=k by omega];exact hlt
   ·rw [show min k (bits a:Int)=(bits a:Int) by omega];exact lt2
  have z:Dv p (min k (bits a:Int)) (Rat.divInt a b - Rat.divInt a b):=by rw [Rat.sub_self];exact yk p _ hp
  have i2:IsRest p (min k (bits a:Int)) (Rat.divInt a b) (Rat.divInt a b):=⟨⟨n,by rw [l.2];exact hn⟩,nn,lt3,z⟩
  exact zK hp (y7 hp _ _) i2 z
theorem xcb {a b:D} (h:(!isW a || !isW b)=true):isF (.tup [a,b])=false:=by
 cases a<;>cases b<;>first | rfl | (simp [isW] at h)
theorem V8 {a:D} (h:isW a=true):∃i,a= .int i:=by
 cases a<;>first | exact ⟨_,rfl⟩ | cases h
theorem xbt {x:D} (h:isF x=true):∃a b:Int,x= .tup [.int a,.int b]/\1<=b/\(Int.gcd a b:Int)=1:=by
 unfold isF at h
 split at h
 ·rename_i a b
  have h:=Bool.and_eq_true_iff.mp h
  exact ⟨a,b,rfl,of_decide_eq_true h.1,of_decide_eq_true h.2⟩
 ·cases h
theorem xb8 {p:Int} {a b:D} (h:(!isW a || !isF b)=true):isS p (.tup [a,b])=false:=by
 cases hs:isS p (.tup [a,b]) with
 | false=>rfl
 | true=>
  exfalso
  unfold isS at hs
  split at hs
  ·rename_i k x y e
   have e:=D.tup.inj e
   simp only [List.cons.injEq,and_true] at e
   obtain ⟨rfl,rfl⟩:=e
   rw [(Bool.and_eq_true_iff.mp hs).1] at h
   simp [isW] at h
  ·cases hs
def things (k:Int) (q:Rat):List D:=[.lst [.int k,frD q],.tup [.int k,.lst [.int q.num,.int (q.den:Int)]],.tup [.int k,frD q,.int 0],.tup [.int k],.tup [.int k,.tup [.int q.num]],.tup [.int k,.tup [.int q.num,.int (q.den:Int),.int 1]]]++
 [.tup [.non,frD q],.tup [.str "1",frD q],.tup [.int k,.tup [.str (toString q.num),.int (q.den:Int)]],.tup [.int k,.tup [.int q.num,.non]],.int k,.non]++
 [.str "0:0",.tup [.bl true,.tup [.int 0,.int 1]],.tup [.int 3,.tup [.bl true,.int 1]],.tup [.int 3,.tup [.int 0,.bl true]],.tup [.int k,.int q.num],.tup [frD q,.int k],.tup [],.lst []]
theorem xcd (a:D):isF (.tup [a])=false:=by cases a<;>rfl
theorem xcc (a b e:D) (r:List D):isF (.tup (a::b::e::r))=false:=by cases a<;>cases b<;>rfl
theorem xca (p:Int) (a:D):isS p (.tup [a])=false:=by cases a<;>rfl
theorem xb9 (p:Int) (a b e:D) (r:List D):isS p (.tup (a::b::e::r))=false:=by
 cases hs:isS p (.tup (a::b::e::r)) with
 | false=>rfl
 | true=>
  unfold isS at hs
  split at hs
  ·rename_i e2
   have e2:=D.tup.inj e2
   simp at e2
  ·cases hs
theorem vB {p j k:Int} (hp:Pr p) {r s:Rat} (h:Dv p j r) (h':Dv p k s):Dv p (j+k) (r*s):=by
 obtain ⟨u,w,hw,e⟩:=h
 obtain ⟨u',w',hw',e'⟩:=h'
 refine ⟨u*u',w*w',qz hp hw hw',?_⟩
 rw [yg hp]
 push_cast
 grind
theorem WA {p k u w:Int} (hp:Pr p) {r:Rat} (hu:¬u%p=0) (hw:¬w%p=0) (h:r*(w:Rat)=(u:Rat)*ppw p k):vq p r=some k:=by
 have w0:(w:Rat)≠0:=fun z=>hw (by have:w=0:=(by exact_mod_cast z);rw [this];simp)
 have u0:(u:Rat)≠0:=fun z=>hu (by have:u=0:=(by exact_mod_cast z);rw [this];simp)
 have pk:=vt hp k
 refine (yv hp).mpr ⟨fun z=>?_,fun j=>⟨fun hd=>?_,fun hj=>xx hp hj ⟨u,w,hw,h⟩⟩⟩
 ·rw [z,Rat.zero_mul] at h
  exact (Rat.mul_eq_zero.mp h.symm).elim u0 pk
 ·by_cases z:j<=k
  ·exact z
  exfalso
  obtain ⟨u',w',hw',e'⟩:=xx hp (show k+1<=j by omega) hd
  have e1:ppw p (k+1)=ppw p k*(p:Rat):=by
   rw [yg hp]
   congr 1
   have:=xN p 1
   simpa using this
  rw [e1] at e'
  have e2:(u:Rat)*(w':Rat)=(u':Rat)*(w:Rat)*(p:Rat):=by grind
  have e3:u*w'=u'*w*p:=by exact_mod_cast e2
  exact qz hp hu hw' (by rw [e3];exact Int.mul_emod_left _ _)
theorem uK {p k:Int} (hp:Pr p) {r:Rat} (h:vq p r=some k):∃u w:Int,¬u%p=0/\¬w%p=0/\r*(w:Rat)=(u:Rat)*ppw p k:=by
 obtain ⟨h0,hk⟩:=(yv hp).mp h
 obtain ⟨u,w,hw,e⟩:=(hk k).mpr (Int.le_refl _)
 refine ⟨u,w,fun z=>?_,hw,e⟩
 have e1:ppw p (k+1)=ppw p k*(p:Rat):=by
  rw [yg hp]
  congr 1
  have:=xN p 1
  simpa using this
 have p2:=hp.two_le
 have:Dv p (k+1) r:=⟨u / p,w,hw,by
  have hu:u=u / p*p:=by have:=Int.emod_add_mul_ediv u p;rw [z,Int.zero_add,Int.mul_comm] at this;exact this.symm
  rw [e,e1]
  have hu':(u:Rat)=((u / p:Int):Rat)*(p:Rat):=by exact_mod_cast hu
  rw [hu']
  grind⟩
 have:=(hk (k+1)).mp this
 omega
theorem qq {p j k:Int} (hp:Pr p) {r s:Rat} (h:vq p r=some j) (h':vq p s=some k):vq p (r*s)=some (j+k):=by
 obtain ⟨u,w,hu,hw,e⟩:=uK hp h
 obtain ⟨u',w',hu',hw',e'⟩:=uK hp h'
 refine WA hp (qz hp hu hu') (qz hp hw hw') ?_
 rw [yg hp]
 push_cast
 grind
theorem xaG {p j:Int} (hp:Pr p) {r:Rat} (h:vq p r=some j):vq p r⁻¹=some (-j):=by
 obtain ⟨u,w,hu,hw,e⟩:=uK hp h
 have h0:=((yv hp).mp h).1
 have i:=Rat.mul_inv_cancel _ h0
 have pi:=uC hp j
 refine WA hp hw hu ?_
 grind
theorem y4 {p k v:Int} (hp:Pr p) {r:Rat} (h:vq p r=some v) (hk:k<=v):Dv p k r:=by rw [vF hp,h];exact hk
structure Dv4 (p k:Int) (t:Tb):Prop where
 a:Dv p k t.a
 b:Dv p k t.b
 c:Dv p k t.c
 d:Dv p k t.d
structure Glp (p:Int) (t:Tb):Prop where
 w:Dv4 p 0 t
 d:vq p t.det=some 0
theorem uj:∀(l:List Int) (x n:Int),n<=l.foldl min x↔n<=x/\∀y∈l,n<=y
 | [],x,n=>by simp
 | y::l,x,n=>by
  rw [List.foldl_cons,uj l (min x y) n]
  simp only [List.mem_cons,forall_eq_or_imp]
  rw [<-and_assoc]
  exact and_congr_left fun _=>by omega
theorem wF {p:Int} (hp:Pr p) {rs:List Rat} (hr:∃r∈rs,r≠0) (n:Int):n<=leastV p rs↔ ∀r∈rs,Dv p n r:=by
 obtain ⟨r0,hm,h0⟩:=hr
 unfold leastV
 cases e:rs.filterMap (vq p) with
 | nil=>exact absurd (vq_none.mp (List.filterMap_eq_nil_iff.mp e r0 hm)) h0
 | cons x l=>
  show n<=l.foldl min x↔_
  rw [uj]
  have key:(n<=x/\∀y∈l,n<=y)↔ ∀y∈rs.filterMap (vq p),n<=y:=by rw [e];simp
  rw [key]
  constructor
  ·intro h r hr
   rw [vF hp]
   cases hv:vq p r with
   | none=>trivial
   | some v=>exact h v (List.mem_filterMap.mpr ⟨r,hr,hv⟩)
  ·intro h y hy
   obtain ⟨r,hr,hv⟩:=List.mem_filterMap.mp hy
   have:=h r hr
   rw [vF hp,hv] at this
   exact this
theorem ZK {a b:Int} (h:∀n,n<=a↔n<=b):a=b:=by
 have h1:=(h a).mp (Int.le_refl _)
 have h2:=(h b).mpr (Int.le_refl _)
 omega
def XU (ds:List D) (d:D):Prop:=∃(p:Int) (t:Tb) (v:Int),ds=[.int p,tbD t]/\Pr p/\MOk t/\vq p t.det=some v/\ -900000<=v - 2*leastV p [t.c,t.d]/\v - 2*leastV p [t.c,t.d]<=900000/\
 (vq p t.c=some (leastV p [t.c,t.d])->Fb 4400 (t.a*t.c⁻¹))/\(¬vq p t.c=some (leastV p [t.c,t.d])->t.d≠0/\Fb 4400 (t.b*t.d⁻¹))/\
 d=spotD (v - 2*leastV p [t.c,t.d]) (if vq p t.c=some (leastV p [t.c,t.d]) then restQ p (v - 2*leastV p [t.c,t.d]) (t.a*t.c⁻¹) else restQ p (v - 2*leastV p [t.c,t.d]) (t.b*t.d⁻¹))
theorem xaa {t:Tb} {p v:Int} (h:vq p t.det=some v):∃r∈[t.c,t.d],r≠0:=by
 by_cases ha:t.c=0
 ·by_cases hb:t.d=0
  ·exfalso
   have:t.det=0:=by unfold Tb.det;rw [ha,hb];grind
   rw [vq_none.mpr this] at h;cases h
  ·exact ⟨t.d,by simp,hb⟩
 ·exact ⟨t.c,by simp,ha⟩
theorem k7 {p:Int} (hp:Pr p):leastV p [0,1]=0:=by
 unfold leastV
 have h0:vq p 0=none:=vq_none.mpr rfl
 simp [List.filterMap_cons,h0,YS hp]
def isSp (p k:Int) (r:Rat):Bool:=decide (0<=r.num) && (decide (r.num*((ppw p k).den:Int)<(ppw p k).num*(r.den:Int)) && decide (p^(vp p r.den)=(r.den:Int)))
theorem wI {p:Int} (hp:Pr p) (k:Int) (r:Rat):restQ p k r=r↔isSp p k r=true:=by
 unfold isSp
 simp only [Bool.and_eq_true,decide_eq_true_eq]
 constructor
 ·intro h
  have ir:=y7 hp k r
  rw [h] at ir
  obtain ⟨n,hn⟩:=ir.den
  refine ⟨Rat.num_nonneg.mpr ir.nn,by simpa using (Rat.lt_iff _ _).mp ir.lt,?_⟩
  rw [hn,vf hp.two_le.1]
 ·rintro ⟨h1,h2,h3⟩
  have z:Dv p k (r - r):=by rw [Rat.sub_self];exact yk p k hp
  exact zK hp (y7 hp k r) ⟨⟨_,h3.symm⟩,Rat.num_nonneg.mp h1,(Rat.lt_iff _ _).mpr (by simpa using h2),z⟩ z
theorem B60.fb {a:Rat} (h:B60 a):Fb 4400 a:=by
 have e:(10:Nat)^60<=2^4400:=by decide+kernel
 exact ⟨Nat.lt_of_lt_of_le h.1 e,Nat.lt_of_lt_of_le (show ((a.den:Int)).natAbs<10^60 from h.2) e⟩
abbrev sptD (k:Int) (a:Rat):D:= .tup [.int k,frD a]
def stx (k:Int) (a:Rat):List Nat:=wr k++58::ftx a
def xai (ds:List D) (d:D):Prop:=∃(k:Int) (a:Rat),ds=[sptD k a]/\k.natAbs<10^4/\B500 a/\d= .str (tx (stx k a))
def frR (q:Int×Int):Rat:=Rat.divInt q.1 q.2
theorem xbv {l:List Nat} {q:Int×Int} (h:frac l=some q):(D.tup [.int q.1,.int q.2])=frD (frR q)/\B60 (frR q):=by
 have key:∀t b:Int,0<b->Int.gcd t b=1->t.natAbs<10^60->b.natAbs<10^60->(D.tup [.int t,.int b])=frD (Rat.divInt t b)/\B60 (Rat.divInt t b):=fun t b hb hg h1 h2=>by
  have hn:=Xy t (show b≠0 by omega)
  refine ⟨?_,Nat.lt_of_le_of_lt hn.1 h1,Nat.lt_of_le_of_lt hn.2 h2⟩
  have l:=v6 t (show b≠0 by omega)
  rw [if_neg (by omega),hg] at l
  obtain ⟨l1,l2⟩:=l
  show D.tup [.int t,.int b]=D.tup [.int (Rat.divInt t b).num,.int ((Rat.divInt t b).den:Int)]
  rw [<-l1,<-l2]
  simp
 unfold frac at h
 split at h
 ·cases h
 ·rename_i t ht
  have b1:=jZ ht
  split at h
  ·cases h;exact key t 1 (by decide) (by simp) b1 (by decide+kernel)
  ·split at h
   ·cases h
   ·rename_i b hb
    have b2:=ZD hb
    split at h
    ·cases h
    ·rename_i z
     cases h
     exact key t b (by omega) (Decidable.byContradiction fun y=>z (.inr y)) b1 (by simpa using b2)
def rd8 (p:Int) (l:List Nat):Except Bool (Int×Rat):=match sgn (partL 58 l).1 3 with
 | none=> .error false
 | some k=>match frac (partL 58 l).2.2 with
  | none=> .error false
  | some q=>if 300<k.natAbs∨isSp p k (frR q)=false then .error true else .ok (k,frR q)
def ZX (ds:List D) (r:Rs):Prop:=∃(p:Int) (x:Str),ds=[.int p,.str x]/\Pr p/\Tl x.cps.toList/\r=(match rd8 p x.cps.toList with
 | .error false=> .ex "NoText"
 | .error true=> .ex "NoSpot"
 | .ok z=> .ok (sptD z.1 z.2))
theorem Zz {p k:Int} (hp:Pr p) {q:Rat} (nn:0<=q) (lt:q<ppw p k) (den:PDen p q):isSp p k q=true:=by
 have z:Dv p k (q - q):=by rw [Rat.sub_self];exact yk p k hp
 exact (wI hp k q).mp (zK hp (y7 hp k q) ⟨den,nn,lt,z⟩ z)
theorem we (t:Int) {b:Int} (hb:b≠0):Rat.divInt t b*(b:Rat)=(t:Rat):=by
 rw [Rat.divInt_eq_div]
 refine Rat.div_mul_cancel ?_
 intro z
 exact hb (by simpa using z)
theorem xaT {k:Int} (h:k.natAbs<10^(3+1)):(toString k:Str).length+(":" :Str).length<=1000000:=by
 have:=yD h
 rw [yY,yL,show (":" :Str).length=1 from rfl]
 omega
theorem Kj {k:Int} (h:k.natAbs<10^(3+1)) {y:Str} (hy:y.length<=5000):((toString k:Str)++(":" :Str)).length+y.length<=1000000:=by
 have:=yD h
 rw [xH,xw,yY,xu,show (":" :Str).cps.toList=[58] from rfl,List.length_append,List.length_cons,List.length_nil]
 omega
theorem xb1 {k:Int} {l:List Nat}:(toString k:Str)++(":" :Str)++tx l=tx (wr k++58::l):=by
 rw [<-zg ((toString k:Str)++(":" :Str)++tx l),xw,xw,yY,xu,xu,show (":" :Str).cps.toList=[58] from rfl]
 simp
theorem xbJ {a b:List Nat} (ha:Tl a) (hb:Tl b) (hl:a.length+b.length+1<=3000):Tl (a++58::b):=by
 refine ⟨by rw [List.length_append,List.length_cons];omega,fun q hq=>?_⟩
 rcases List.mem_append.mp hq with h | h
 ·exact ha.2 q h
 ·rcases List.mem_cons.mp h with rfl | h
  ·decide
  ·exact hb.2 q h
theorem xbU {k:Int} (h:k.natAbs<10^(3+1)):Tl (wr k):=⟨by have:=yD h;omega,Ve k⟩
theorem uN {k:Int} {a:Rat} (h:k.natAbs<10^(3+1)) (hB:B500 a):Tl (stx k a):=xbJ (xbU h) (W6 hB) (by have:=yD h;have:=qH hB;omega)
theorem J8 {k:Int} {a:Rat} (h:k.natAbs<10^(3+1)) (hB:B500 a):(stx k a).length<=2000:=by
 have:=yD h
 have:=qH hB
 unfold stx
 rw [List.length_append,List.length_cons];omega
theorem xbH (k:Int) (q:Rat):eqD (sptD k q) (sptD k q)=true:=by
 unfold eqD
 simp [toPy,toPys,PyData.eqv,PyData.eqvAll]
theorem Je {p:Int} (hp:Pr p) (k:Int) (a:Rat):isS p (.tup [.int k,frD a])=isSp p k a:=by
 have rs:=wI hp k a
 have l:Rat.divInt a.num (a.den:Int)=a:=Rat.num_divInt_den a
 have i:=KQ (k:=k) (a:=a.num) (b:=(a.den:Int)) hp
 have d0:a.den≠0:=a.den_nz
 have e:isS p (.tup [.int k,frD a])=true↔isSp p k a=true:=by
  refine Iff.trans i ?_
  rw [<-rs]
  constructor
  ·rintro ⟨_,h0,_,hd,hl⟩
   have z:Dv p k (a - a):=by rw [Rat.sub_self];exact yk p k hp
   rw [l] at hl
   exact zK hp (y7 hp k a) ⟨hd,Rat.num_nonneg.mp h0,hl,z⟩ z
  ·intro h
   have ir:=y7 hp k a
   rw [h] at ir
   refine ⟨by omega,Rat.num_nonneg.mpr ir.nn,?_,ir.den,by rw [l];exact ir.lt⟩
   have r:=a.reduced
   unfold Nat.Coprime at r
   rw [Int.gcd_eq_natAbs_gcd_natAbs,Int.natAbs_natCast,r]
   rfl
 exact Bool.eq_iff_iff.mpr e
def farL:List Nat:=[102,97,114]
theorem KU:("far" :Str).cps.toList=farL:=by rfl
theorem W8 (x:Str):(x==("far" :Str))=decide (x.cps.toList=farL):=by rw [zZ,KU]
def JS (ds:List D) (r:Rs):Prop:=∃(x:Str),ds=[.str x]/\Tl x.cps.toList/\r=(if x.cps.toList=farL then .ok (.str "far") else rsO (frac x.cps.toList) (fun p=> .tup [.int p.1,.int p.2]) "NoText")
def Okd (s:D):Prop:=∃(k:Int) (a:Rat),s=sptD k a/\k.natAbs<10^4/\B500 a
def txD:D->Str
 | .tup [.int k,.tup [.int n,.int m]]=>tx (stx k (Rat.divInt n m))
 | _=>Str.empty
theorem Vh (k:Int) (a:Rat):txD (sptD k a)=tx (stx k a):=by
 show tx (stx k (Rat.divInt a.num (a.den:Int)))=_
 rw [Rat.num_divInt_den]
def ShL (past:List D):Prop:=SeqAt.shaped (toPy (.lst past))=true
def JW (_ s:D) (past ds:List D) (r:RsM):Prop:=ds=[]/\r= .ok s s past
def jy (_ s:D) (past ds:List D) (r:RsM):Prop:=ds=[]/\r= .ok (.int past.length) s past
def xan (_ s:D) (past ds:List D) (r:RsM):Prop:=∃d,ds=[d]/\Okd d/\past.length<1000000/\r= .ok (.str (txD d)) d (past++ [s])
def XS (_ s:D) (past ds:List D) (r:RsM):Prop:=ds=[]/\ShL past/\((past=[]/\r= .ex "NothingDone")∨∃d past',past=past'++ [d]/\Okd d/\r= .ok (.str (txD d)) d past')
theorem Ud (past:List D):eqD (.lst past) (.lst [])=decide (past=[]):=by
 cases past with
 | nil=>rfl
 | cons x r=>rfl
theorem qe {Y:Cy} {t:Expr} {c:List Slot} {v w:D} (h:EvD Y t c v) (e:v=w):EvD Y t c w:=e▸h
theorem Z1 {x:Str} (h:Tl x.cps.toList):PyData.canLay0 (toPy (.str x))=true:=by
 show x.cps.all (fun q=>decide (q<0x110000))=true
 rw [<-Array.all_toList]
 exact List.all_eq_true.mpr fun q hq=>decide_eq_true (by have:=h.2 q hq;omega)
theorem Yd:∀l:List Str,(∀w∈l,Tl w.cps.toList)->PyData.canLayAll0 (toPys (l.map D.str))=true/\PyData.depthAll (toPys (l.map D.str))<=3
 | [],_=>⟨rfl,Nat.zero_le _⟩
 | t::r,h=>by
  have ih:=Yd r fun w hw=>h w (List.mem_cons_of_mem _ hw)
  have e2:PyData.depth (toPy (.str t))=0:=rfl
  refine ⟨?_,?_⟩
  ·show (PyData.canLay0 (toPy (.str t)) && PyData.canLayAll0 (toPys (r.map D.str)))=true
   rw [Z1 (h t (List.mem_cons_self ..)),ih.1]
   rfl
  ·show max (PyData.depth (toPy (.str t))) (PyData.depthAll (toPys (r.map D.str)))<=3
   rw [e2]
   omega
theorem Uv {l:List Str} (h:∀w∈l,Tl w.cps.toList):SeqAt.shaped (toPy (.lst (l.map D.str)))=true:=by
 have k:=Yd l h
 show (PyData.canLayAll0 (toPys (l.map D.str)) && decide (PyData.depthAll (toPys (l.map D.str))+1<=64))=true
 rw [k.1,decide_eq_true (by omega)]
 rfl
theorem jn (a b:Str):eqD (.str a) (.str b)=(a==b):=rfl
def numTo (m:Int) (l:List Nat):Bool:=match figs l 3 with
 | some n=>decide ((n:Int)<=m)
 | none=>false
def jC (ds:List D) (d:D):Prop:=∃(m:Int) (x:Str),ds=[.int m,.str x]/\Tl x.cps.toList/\d= .bl (numTo m x.cps.toList)
def Va (ds:List D) (d:D):Prop:=∃(p s:D) (r:List D),ds=[p,s,.lst (d::r)]
def formsL:List (Str×VD):=[("go",.s "SPOT"),("move",.s "A B C D"),("scale",.s "F"),("shift",.s "F"),("flip",.s ""),("undo",.s ""),("ties",.s ""),("road",.s "SPOT"),("towards",.s "END STEPS"),("way",.s "SPOT"),("meet",.s "SPOT SPOT"),("near",.s "END END"),("within",.s "REACH"),("kind",.s "A B C D"),("numbers",.s "A B C D"),("figures",.s "F")]
def mostL:List (Str×VD):=[("STEPS",.i 300),("REACH",.i 7)]
theorem XE {w:Str} {v:VD}:∀{l:List (Str×VD)},lkD l w=some v->(w,v)∈l
 | [],h=>by cases h
 | (y,d)::r,h=>by
  unfold lkD at h
  by_cases e:y=w
  ·rw [if_pos e] at h
   cases h
   rw [e]
   exact List.mem_cons_self ..
  ·rw [if_neg e] at h
   exact List.mem_cons_of_mem _ (XE h)
def okV93:VD->Bool
 | .s y=>decide (y.length<=20) && (decide ((Builtin.Str.spaceWords y (y.length+1)).length<=10) && decide ((wordsS y).length<=4))
 | _=>false
theorem jb {w:Str} {v:VD} (h:lkD formsL w=some v):∃y,v= .s y/\y.length<=20/\(Builtin.Str.spaceWords y (y.length+1)).length<=10/\(wordsS y).length<=4:=by
 have a:formsL.all (fun q=>okV93 q.2)=true:=by decide+kernel
 have b:=List.all_eq_true.mp a _ (XE h)
 cases v with
 | s y=>
  have b:(decide (y.length<=20) && (decide ((Builtin.Str.spaceWords y (y.length+1)).length<=10) && decide ((wordsS y).length<=4)))=true:=b
  simp only [Bool.and_eq_true,decide_eq_true_eq] at b
  exact ⟨y,rfl,b.1,b.2.1,b.2.2⟩
 | i n=>cases b
 | f g=>cases b
theorem kW {w:Str} {v:VD} (h:lkD mostL w=some v):∃n,v= .i n:=by
 have a:mostL.all (fun q=>match q.2 with | .i _=>true | _=>false)=true:=by decide+kernel
 have b:=List.all_eq_true.mp a _ (XE h)
 cases v with
 | s y=>cases b
 | i n=>exact ⟨n,rfl⟩
 | f g=>cases b
def badN (f ws:List Str) (i:Nat):Bool:=match f[i]?,ws[i+1]? with
 | some g,some x=>(match lkD mostL g with
  | some (.i m)=> !numTo m x.cps.toList
  | _=>false)
 | _,_=>false
def formS (ws:List Str):Option (List Str):=match ws with
 | []=>none
 | w::r=>if (w::r).contains ("" :Str) then none else match lkD formsL w with
  | some (.s y)=>if r.length=(wordsS y).length then (if (List.range (wordsS y).length).any (badN (wordsS y) (w::r)) then none else some (wordsS y)) else none
  | _=>none
theorem zn (w:Str) (r:List Str):formS (w::r)=if (w::r).contains ("" :Str) then none else match lkD formsL w with
  | some (.s y)=>if r.length=(wordsS y).length then (if (List.range (wordsS y).length).any (badN (wordsS y) (w::r)) then none else some (wordsS y)) else none
  | _=>none:=rfl
def Vc (ds:List D) (r:Rs):Prop:=∃ws:List Str,ds=[.lst (ws.map D.str)]/\ws≠[]/\ws.length<=4000/\(∀w∈ws,Tl w.cps.toList)/\r=(match formS ws with
 | some f=> .ok (.lst (f.map D.str))
 | none=> .ex "NoRow")
theorem YM (l:List Str):((l.map D.str).any fun y=>eqD y (.str ""))=l.contains ("" :Str):=by
 induction l with
 | nil=>rfl
 | cons a r ih=>
  rw [List.map_cons,List.any_cons,ih,List.contains_cons,jn]
  congr 1
  exact Bool.beq_comm ..
theorem Q6 {l:List D} {i:Int} (h0:0<=i) (h1:i<l.length):atI l i=l[i.toNat]? :=by
 unfold atI ixN
 rw [if_pos h0,if_pos h1]
 rfl
theorem zU {l:List Str} {m:Nat} {x:Str} (h:l[m]? =some x) {i:Int} (hi:i=(m:Int)):atI (l.map D.str) i=some (.str x):=by
 have hl:=(List.getElem?_eq_some_iff.mp h).1
 subst hi
 rw [Q6 (by omega) (by rw [List.length_map];omega),List.getElem?_map]
 rw [show ((m:Int)).toNat=m by omega,h]
 rfl
def splitS (x:Str):List Str:=(splitL 32 x.cps.toList).map tx
theorem vi {c:Nat}:∀{l q:List Nat},q∈splitL c l->q.length<=l.length/\∀e∈q,e∈l
 | [],q,h=>by
  unfold splitL at h
  cases List.mem_singleton.mp h
  exact ⟨Nat.le_refl _,fun _ h=>h⟩
 | a::r,q,h=>by
  unfold splitL at h
  by_cases e:a=c
  ·rw [if_pos e] at h
   rcases List.mem_cons.mp h with rfl | h
   ·exact ⟨Nat.zero_le _,fun _ h=>by cases h⟩
   ·obtain ⟨h1,h2⟩:=vi h
    exact ⟨Nat.le_trans h1 (Nat.le_succ _),fun e he=>List.mem_cons_of_mem _ (h2 e he)⟩
  ·rw [if_neg e] at h
   have ih:∀q∈splitL c r,q.length<=r.length/\∀e∈q,e∈r:=fun q hq=>vi hq
   cases hs:splitL c r with
   | nil=>exact absurd hs (Yc c r)
   | cons p s=>
    rw [hs] at h ih
    rcases List.mem_cons.mp (show q∈(a::p)::s from h) with rfl | hq
    ·obtain ⟨h1,h2⟩:=ih p (List.mem_cons_self ..)
     refine ⟨by simpa using h1,fun e he=>?_⟩
     rcases List.mem_cons.mp he with rfl | he
     ·exact List.mem_cons_self ..
     ·exact List.mem_cons_of_mem _ (h2 e he)
    ·obtain ⟨h1,h2⟩:=ih q (List.mem_cons_of_mem _ hq)
     exact ⟨Nat.le_trans h1 (Nat.le_succ _),fun e he=>List.mem_cons_of_mem _ (h2 e he)⟩
theorem Z5 {x:Str} (h:Tl x.cps.toList):splitS x≠[]/\(splitS x).length<=4000/\∀w∈splitS x,Tl w.cps.toList:=by
 refine ⟨fun z=>Yc 32 x.cps.toList (List.map_eq_nil_iff.mp z),?_,fun w hw=>?_⟩
 ·unfold splitS
  rw [List.length_map]
  have:=zx 32 x.cps.toList
  have:=h.1
  omega
 ·obtain ⟨q,hq,rfl⟩:=List.mem_map.mp hw
  obtain ⟨h1,h2⟩:=vi hq
  rw [xu]
  exact ⟨Nat.le_trans h1 h.1,fun e he=>h.2 e (h2 e he)⟩
def changesL:List (Str×VD):=[("go",.f "gone"),("move",.f "moved_by"),("scale",.f "scaled"),("shift",.f "shifted"),("flip",.f "flipped")]
theorem uk:formS (["undo"]:List Str)=some []:=by decide+kernel
theorem vK:splitS "undo" =(["undo"]:List Str):=by decide+kernel
theorem jd {t:Str} (h:t≠ ""):formS (["go",t]:List Str)=some (["SPOT"]:List Str):=by
 have e1:lkD formsL "go" =some (.s "SPOT"):=by unfold formsL lkD;rw [if_pos rfl]
 have e2:wordsS "SPOT" =(["SPOT"]:List Str):=by decide+kernel
 have e3:lkD mostL "SPOT" =none:=by unfold mostL lkD lkD lkD;rw [if_neg (by decide+kernel),if_neg (by decide+kernel)]
 have e4:(["go",t]:List Str).contains ("" :Str)=false:=by
  rw [List.contains_cons,List.contains_cons]
  have:(("" :Str)== "go")=false:=by decide+kernel
  have h2:(("" :Str)==t)=false:=by simpa using fun z=>h z.symm
  rw [this,h2]
  rfl
 rw [zn,e4,e1]
 dsimp only
 rw [e2]
 have e5:(List.range (["SPOT"]:List Str).length).any (badN (["SPOT"]:List Str) (["go",t]:List Str))=false:=by
  show (badN (["SPOT"]:List Str) (["go",t]:List Str) 0 || false)=false
  unfold badN
  show ((match lkD mostL "SPOT" with | some (.i m)=> !numTo m t.cps.toList | _=>false) || false)=false
  rw [e3]
  rfl
 rw [e5]
 rfl
def xaj (p s:D) (past ds:List D) (r:RsM):Prop:=∃(pr:Int) (x:Str),p= .int pr/\Pr pr/\ds=[.str x]/\Tl x.cps.toList/\past.length<1000000/\
 ((formS (splitS x)=none/\r= .ex "NoRow")∨(x= "undo" /\XS p s past [] r)∨∃(t:Str) (k:Int) (a:Rat),splitS x=(["go",t]:List Str)/\t≠ "" /\rd8 pr t.cps.toList= .ok (k,a)/\r= .ok (.str (txD (sptD k a))) (sptD k a) (past++ [s]))
abbrev spE (k:Int) (q:Rat):D:= .tup [.int k,frD q]
def figR (p B c A:Int):Nat->Int×Int
 | 0=>(0,A)
 | m+1=>((figR p B c A m).1+(figR p B c A m).2*c%p*p^m,((figR p B c A m).2 - (figR p B c A m).2*c%p*B) / p)
noncomputable def nxt (p k:Int) (q:Rat):Option Rat->Int×Rat
 | none=>(k - 1,restQ p (k - 1) q)
 | some x=>if alk p k x q=true then (k+1,restQ p (k+1) x) else (k - 1,restQ p (k - 1) q)
def eK (n:Int):Int:=if decide (n / 25%8=1)=true then n / 200%401 - 200 else n%25 - 12
theorem Kr {p:Int} (hp:Pr p) {k:Int} (n:Nat) (h0: -(n:Int)<=k) (h1:k<=n):Fb (3*n+1) (ppw p k):=by
 by_cases h:0<=k
 ·have q:=qA (p:=p) h
  refine ⟨?_,?_⟩
  ·rw [q.1];exact (vP hp _).mono (by omega)
  ·rw [q.2]
   have:1<2^(3*n+1):=Nat.one_lt_two_pow (by omega)
   unfold Bd;simpa using this
 ·have q:=uB (p:=p) (k:=k) (by have:=hp.two_le;omega) (by omega)
  refine ⟨?_,?_⟩
  ·rw [q.1]
   have:1<2^(3*n+1):=Nat.one_lt_two_pow (by omega)
   unfold Bd;simpa using this
  ·rw [q.2];exact (vP hp _).mono (by omega)
def Sim (p:Int) (s t:Tb):Prop:=∃(u:Tb) (r:Rat) (j:Int),Glp p u/\vq p r=some j/\s=(t.mul u).scale r
def Own (p k:Int) (q:Rat):Prop:=IsRest p k q q
theorem Xs {p:Int} (hp:Pr p) (k:Int) (a:Rat):Own p k (restQ p k a):=by
 have r:=y7 hp k a
 refine ⟨r.den,r.nn,r.lt,?_⟩
 rw [Rat.sub_self]
 exact yk p k hp
noncomputable def spotS (p:Int) (t:Tb):Int×Rat:=((vq p t.det).getD 0 - 2*leastV p [t.c,t.d],if vq p t.c=some (leastV p [t.c,t.d]) then restQ p ((vq p t.det).getD 0 - 2*leastV p [t.c,t.d]) (t.a*t.c⁻¹) else restQ p ((vq p t.det).getD 0 - 2*leastV p [t.c,t.d]) (t.b*t.d⁻¹))
theorem Ut {p:Int} (hp:Pr p) (t:Tb):Own p (spotS p t).1 (spotS p t).2:=by
 unfold spotS
 split<;>exact Xs hp _ _
theorem Ws {t:Tb} (h:t.det≠0):∃r∈[t.c,t.d],r≠0:=by
 by_cases ha:t.c=0
 ·by_cases hb:t.d=0
  ·exfalso
   exact h (by unfold Tb.det;rw [ha,hb];grind)
  ·exact ⟨t.d,by simp,hb⟩
 ·exact ⟨t.c,by simp,ha⟩
def ToE (n:Tb) (μ:Rat):Option Rat->Prop
 | none=>n.a=μ/\n.c=0
 | some x=>n.a=μ*x/\n.c=μ
def Tb.dg (p:Int):Tb:=⟨1,0,0,(p:Rat)⟩
def To (p:Int) (m:Tb) (e:Option Rat) (t:Tb):Prop:=∃(f:Tb) (μ:Rat),Glp p f/\μ≠0/\ToE (m.mul f) μ e/\Sim p ((m.mul f).mul (Tb.dg p)) t
noncomputable def movS (p:Int) (a:Tb) (s:Int×Rat):Int×Rat:=spotS p (a.mul (tabS p s.1 s.2))
theorem WC {p:Int} (hp:Pr p) (k:Int) (q:Rat):(tabS p k q).det≠0:=by rw [uM];exact vt hp k
theorem kR {a b:Tb} (ha:a.det≠0) (hb:b.det≠0):(a.mul b).det≠0:=by rw [Ue];exact fun z=>(Rat.mul_eq_zero.mp z).elim ha hb
noncomputable def road (p:Int) (e:Option Rat) (s:Int×Rat):Nat->Int×Rat
 | 0=>s
 | n+1=>nxt p (road p e s n).1 (road p e s n).2 e
theorem ZY {p:Int} (hp:Pr p) {m:Nat} {r:Rat} (h:Fb m r) {v:Int} (hv:vq p r=some v): -(m:Int)<=v/\v<=m:=by
 have r0:=((yv hp).mp hv).1
 have n0:r.num≠0:=fun z=>r0 (Rat.num_eq_zero.mp z)
 have a:=jI hp n0 h.1
 have b:=jI hp (yn r) h.2
 unfold vq at hv
 rw [if_neg n0] at hv
 have:=Option.some.inj hv
 omega
theorem kZ {p:Int} (hp:Pr p) {m:Nat} {c d:Rat} (hc:Fb m c) (hd:Fb m d) (h:∃r∈[c,d],r≠0): -(m:Int)<=leastV p [c,d]/\leastV p [c,d]<=m:=by
 have l:=wF hp h
 constructor
 ·rw [l]
  intro r hr
  rw [vF hp]
  cases hv:vq p r with
  | none=>trivial
  | some v=>
   simp at hr
   rcases hr with rfl | rfl
   ·exact (ZY hp hc hv).1
   ·exact (ZY hp hd hv).1
 ·obtain ⟨r,hr,r0⟩:=h
  have q:=(l (leastV p [c,d])).mp (Int.le_refl _) r hr
  rw [vF hp] at q
  cases hv:vq p r with
  | none=>exact absurd (vq_none.mp hv) r0
  | some v=>
   rw [hv] at q
   have q:leastV p [c,d]<=v:=q
   simp at hr
   rcases hr with rfl | rfl
   ·have:=(ZY hp hc hv).2;omega
   ·have:=(ZY hp hd hv).2;omega
theorem jW {p:Int} (hp:Pr p) {t:Tb} (h:t.det≠0) {n:Nat} (hb:Tbb n t) (hn:n+n<=4400):XU [.int p,tbD t] (spotD (spotS p t).1 (spotS p t).2):=by
 obtain ⟨v,hv⟩:∃v,vq p t.det=some v:=by
  cases e:vq p t.det with
  | none=>exact absurd (vq_none.mp e) h
  | some v=>exact ⟨v,rfl⟩
 have vb:=ZY hp hb.det hv
 have lb:=kZ hp hb.c hb.d (Ws h)
 refine ⟨p,t,v,rfl,hp,hb.mok hn,hv,by omega,by omega,fun hc=>?_,fun hc=>?_,?_⟩
 ·have c0:=((yv hp).mp hc).1
  exact (hb.a.mul (hb.c.inv c0)).mono hn
 ·have d0:t.d≠0:=fun z=>by
   have c0:t.c≠0:=fun y=>h (by unfold Tb.det;rw [y,z];grind)
   cases ec:vq p t.c with
   | none=>exact c0 (vq_none.mp ec)
   | some w=>
    refine hc ?_
    rw [ec]
    congr 1
    refine ZK fun j=>?_
    rw [wF hp (Ws h)]
    constructor
    ·intro hj r hr
     simp at hr
     rcases hr with rfl | rfl
     ·exact y4 hp ec hj
     ·rw [z];exact yk p j hp
    ·intro hj
     have:=hj t.c (by simp)
     rw [vF hp,ec] at this
     exact this
  exact ⟨d0,(hb.b.mul (hb.d.inv d0)).mono hn⟩
 ·unfold spotS
  rw [hv]
  rfl
theorem J6 {p:Int} (hp:Pr p) {k:Int} {q:Rat} {K m:Nat} (hq:Fb m q) (h0: -(K:Int)<=k) (h1:k<=K) (hm:3*K+1<=m):Tbb m (tabS p k q):=⟨(Kr hp K h0 h1).mono hm,hq,fb_zero.mono (by omega),fb_one.mono (by omega)⟩
theorem KI {p:Int} {k:Int} {q:Rat} {a:Tb} {n m:Nat} (ha:Tbb n a) (hs:Tbb m (tabS p k q)):Tbb (2*n+m+1) (a.mul (tabS p k q)):=by
 have hp:=hs.a
 have hq:=hs.b
 have hp:Fb m (ppw p k):=hp
 have hq:Fb m q:=hq
 refine ⟨?_,?_,?_,?_⟩
 ·show Fb _ (a.a*ppw p k+a.b*0)
  rw [Rat.mul_zero,Rat.add_zero];exact (ha.a.mul hp).mono (by omega)
 ·show Fb _ (a.a*q+a.b*1)
  rw [Rat.mul_one];exact ((ha.a.mul hq).add ha.b).mono (by omega)
 ·show Fb _ (a.c*ppw p k+a.d*0)
  rw [Rat.mul_zero,Rat.add_zero];exact (ha.c.mul hp).mono (by omega)
 ·show Fb _ (a.c*q+a.d*1)
  rw [Rat.mul_one];exact ((ha.c.mul hq).add ha.d).mono (by omega)
def fmix (x k:Int):Int:=(x%2305843009213693951+7919*k*k+104729*k+17)*1442695040888963407%2305843009213693951*1181783497276652981%2305843009213693921
def fcell (ns:List Int) (k:Int):Int:=if k<(ns.length:Int) then (if 0<k/\ns.getD 0 0%2=1 then ((ns.getD k.toNat 0).natAbs:Int) else fmix (ns.getD k.toNat 0) k) else fmix 0 k
theorem QR (ns:List Int) (k:Int):0<=fcell ns k:=by
 unfold fcell fmix
 repeat' split
 all_goals omega
def xao (ds:List D) (d:D):Prop:=∃(ns:List Int) (k:Int),ds=[.lst (ns.map D.int),.int k]/\ns.length<=63/\0<=k/\k<1000/\d= .int (fcell ns k)
def xcu (ds:List D) (d:D):Prop:=∃p n:Int,ds=[.int p,.int n]/\Pr p/\0<=n/\n<=3000/\d= .int (p^n.toNat)
def xbT (ds:List D) (d:D):Prop:=∃t b:Int,ds=[.int t,.int b]/\0<b/\Bd 8900 b/\d=frD (Rat.divInt t b)
abbrev stD (s:Int×Rat):D:=spotD s.1 s.2
def x9 (ds:List D) (d:D):Prop:=∃(p:Int) (a:Tb) (k:Int) (q:Rat),ds=[.int p,tbD a,spotD k q]/\Pr p/\ -1000000<=k/\k<=1000000/\POk a (tabS p k q)/\XU [.int p,tbD (a.mul (tabS p k q))] d
theorem J3 {Y:Cy} {t:Expr} {c:List Slot} {v w:Bool} (h:TeD Y t c v) (e:v=w):TeD Y t c w:=e▸h
def dtab96 (cn:Str) (fs:List (Str×D)) (t:Tb):Prop:=(cn= "Scale" /\∃a:Rat,fs=[(("number" :Str),frD a)]/\t=⟨a,0,0,1⟩)∨(cn= "Shift" /\∃a:Rat,fs=[(("number" :Str),frD a)]/\t=⟨1,a,0,1⟩)∨(cn= "Flip" /\fs=[]/\t=⟨0,1,1,0⟩)
def ZW (cn:Str) (fs:List (Str×D)) (ds:List D) (d:D):Prop:=∃t,dtab96 cn fs t/\ds=[]/\d=tbD t
def XX (cn:Str) (fs:List (Str×D)) (ds:List D) (d:D):Prop:=∃t p s,dtab96 cn fs t/\ds=[p,s]/\x9 [p,tbD t,s] d
def jF (q:D):Prop:=∃a:Rat,q=frD a/\a≠0
def jE (q:D):Prop:=∃a:Rat,q=frD a
def jx (ds:List D) (r:Rs):Prop:=∃t:Tb,ds=[.lst [frD t.a,frD t.b,frD t.c,frD t.d]]/\XT [frD t.a,frD t.b,frD t.c,frD t.d] r
def YQ (ds:List D) (r:Rs):Prop:=∃(t:Tb) (p s:D),ds=[p,s,.lst [frD t.a,frD t.b,frD t.c,frD t.d]]/\MOk t/\((t.det≠0/\∃d,x9 [p,tbD t,s] d/\r= .ok d)∨(t.det=0/\r= .ex "NoTable"))
def ul (ds:List D) (d:D):Prop:=∃(a:Rat) (p s:D),ds=[p,s,.lst [frD a]]/\x9 [p,tbD ⟨1,a,0,1⟩,s] d
def um (ds:List D) (d:D):Prop:=∃(p s:D),ds=[p,s,.lst []]/\x9 [p,tbD ⟨0,1,1,0⟩,s] d
def YO (ds:List D) (r:Rs):Prop:=∃(p:Int) (n x:Str),ds=[.int p,.str n,.str x]/\
 ((n= "SPOT" /\ZX [.int p,.str x] r)∨(n= "END" /\JS [.str x] r)∨(n∈(["F","A","B","C","D"]:List Str)/\wl [.str x] r)∨(n∈(["STEPS","REACH"]:List Str)/\∃v:Nat,figs x.cps.toList 3=some v/\r= .ok (.int v)))
def Wz (q:D):Prop:=q=frD 0
def XV (ds:List D) (r:Rs):Prop:=∃(a:Rat) (p s:D),ds=[p,s,.lst [frD a]]/\((a≠0/\∃d,x9 [p,tbD ⟨a,0,0,1⟩,s] d/\r= .ok d)∨(a=0/\r= .ex "NoFraction"))
def uJ (g:Str) (ds:List D) (r:Rs):Prop:=(g= "gone" /\∃d,Va ds d/\r= .ok d)∨(g= "moved_by" /\YQ ds r)∨(g= "scaled" /\XV ds r)∨(g= "shifted" /\∃d,ul ds d/\r= .ok d)∨(g= "flipped" /\∃d,um ds d/\r= .ok d)
def qi (p s:D) (past ds:List D) (r:RsM):Prop:=∃(pr:Int) (x w:Str) (ts fs:List Str) (rd:List D),p= .int pr/\ds=[.str x]/\Tl x.cps.toList/\past.length<1000000/\splitS x=w::ts/\formS (w::ts)=some fs/\rd.length=fs.length/\
 (∀(i:Nat) (f t:Str) (d:D),fs[i]? =some f->ts[i]? =some t->rd[i]? =some d->YO [p,.str f,.str t] (.ok d))/\
 ((w= "undo" /\XS p s past [] r)∨(w≠ "undo" /\∃g rs,lkD changesL w=some (.f g)/\uJ g [p,s,.lst rd] rs/\((∃s',rs= .ok s'/\Okd s'/\r= .ok (.str (txD s')) s' (past++ [s]))∨∃y,rs= .ex y/\r= .ex y)))
def names93:List D:=(["prime","fraction","text","spot","table","many","line","row","nothing","far"]:List Str).map D.str
def Q8 (y:Str) (d:D):Prop:=(y= "NoRow" /\d= .str "row")∨(y= "NothingDone" /\d= .str "nothing")
def xcn (p s:D) (past ds:List D) (r:RsM):Prop:=∃(x:Str) (rs:RsM),ds=[.str x]/\xaj p s past [.str x] rs/\(match rs with
 | .ok d s' past'=>(∃y,d= .str y)/\r= .ok (.tup [.str "",d]) s' past'
 | .ex y=>∃z,Q8 y (.str z)/\z≠ "" /\r= .ok (.tup [.str z,.non]) s past)
structure Gs (p:Int) (u:Int×Rat):Prop where
 kb:u.1.natAbs<=300
 sp:isSp p u.1 u.2=true
 b:B60 u.2
abbrev sp93 (u:Int×Rat):D:=sptD u.1 u.2
def fk93 (c:Int):Int:=(200+c / 25 / 16%101)*(1 - 2*(c / 25 / 8%2))
def dp93 (c:Int):Int:=max 0 (-(c%25 - 12))+c / 25 / 8%7
def nm93 (c:Int):Int:=if c / 25 / 56<2^61 then (if c / 25 / 56%5=1 then c / 25 / 56 / 5%9 else (c / 25 / 56+1)*1442695040888963407^2+c / 25 / 56) else c / 25 / 56
def spt93 (p c:Int):Int×Rat:=if c / 25%8=1 then (fk93 c,((c / 25 / 1616%9*(if 0<fk93 c then 1 else 0):Int):Rat)) else (c%25 - 12,Rat.divInt (nm93 c%p^(c%25 - 12+dp93 c).toNat) (p^(dp93 c).toNat))
def JO (ds:List D) (d:D):Prop:=∃p c:Int,ds=[.int p,.int c]/\Pr p/\0<=c/\d=sp93 (spt93 p c)
theorem KT (c:Int):(200<=fk93 c/\fk93 c<=300)∨(-300<=fk93 c/\fk93 c<= -200):=by
 unfold fk93
 rcases (show c / 25 / 8%2=0∨c / 25 / 8%2=1 by omega) with h | h
 ·rw [h];omega
 ·rw [h];omega
theorem ZN (c:Int):0<=dp93 c/\dp93 c<=18/\0<=c%25 - 12+dp93 c/\c%25 - 12+dp93 c<=18:=by
 unfold dp93
 omega
theorem Z3 {p:Int} (hp:Pr p) (c:Int):Gs p (spt93 p c):=by
 unfold spt93
 split
 ·have fk:=KT c
  generalize fk93 c=k at fk ⊢
  obtain ⟨n,hn,n0,n8,nk⟩:∃n:Int,c / 25 / 1616%9*(if 0<k then 1 else 0)=n/\0<=n/\n<=8/\(k<0->n=0):=by
   refine ⟨_,rfl,?_⟩
   split
   ·exact ⟨by omega,by omega,fun h=>by omega⟩
   ·exact ⟨by omega,by omega,fun h=>by omega⟩
  rw [hn]
  have r0:(0:Rat)<=(n:Rat):=by exact_mod_cast n0
  refine ⟨by show k.natAbs<=300;omega,Zz hp r0 ?_ ⟨0,by rw [Int.pow_zero];rfl⟩,?_,?_⟩
  ·show (n:Rat)<ppw p k
   rcases fk with fk | fk
   ·have e:k=(k.toNat:Int):=by omega
    rw [e,xN]
    refine rat_lt_int.mpr ?_
    have h4:(16:Int)<=p^4:=by rcases hp with rfl | rfl | rfl | rfl<;>decide
    have hj:=yb hp (k.toNat - 4)
    have hm:(16:Int)*1<=p^4*p^(k.toNat - 4):=Int.mul_le_mul h4 (by omega) (by decide) (by omega)
    rw [<-Int.pow_add,show 4+(k.toNat - 4)=k.toNat by omega] at hm
    omega
   ·rw [nk (by omega)]
    exact yU hp k
  ·show ((n:Rat)).num.natAbs<10^60
   rw [Rat.num_intCast]
   have:(10:Nat)^1<=10^60:=Nat.pow_le_pow_right (by decide) (by decide)
   omega
  ·show ((n:Rat)).den<10^60
   rw [Rat.den_intCast]
   decide+kernel
 ·have b:=ZN c
  generalize hk:c%25 - 12=k at b ⊢
  obtain ⟨e,he⟩:∃e:Nat,dp93 c=(e:Int):=⟨(dp93 c).toNat,by omega⟩
  rw [he,Int.toNat_natCast]
  rw [he] at b
  have pk:=yb hp (k+(e:Int)).toNat
  have pe:=yb hp e
  obtain ⟨t,ht,t0,t1⟩:∃t:Int,nm93 c%p^(k+(e:Int)).toNat=t/\0<=t/\t<p^(k+(e:Int)).toNat:=⟨_,rfl,Int.emod_nonneg _ (by omega),Int.emod_lt_of_pos _ pk⟩
  rw [ht]
  have hq:Rat.divInt t (p^e)*ppw p (e:Int)=(t:Rat):=by rw [xN];exact we t (by omega)
  have hpe:=yU hp (e:Int)
  have p7:∀n:Nat,n<=18->(p^n).natAbs<=7^18:=fun n hn=>by
   rw [Int.natAbs_pow]
   have:p.natAbs<=7:=by rcases hp with rfl | rfl | rfl | rfl<;>decide
   exact Nat.le_trans (Nat.pow_le_pow_left this n) (Nat.pow_le_pow_right (by decide) hn)
  refine ⟨by show k.natAbs<=300;omega,Zz hp ?_ ?_ (WW hp hq),?_⟩
  ·refine Rat.not_lt.mp fun z=>?_
   have:=Zv z hpe
   rw [hq,Rat.zero_mul] at this
   have:t<0:=rat_lt_int.mp (by simpa using this)
   omega
  ·show Rat.divInt t (p^e)<ppw p k
   refine (Rat.mul_lt_mul_right hpe).mp ?_
   rw [hq,<-yg hp]
   have e2:k+(e:Int)=(((k+(e:Int)).toNat:Nat):Int):=by omega
   rw [e2,xN]
   exact rat_lt_int.mpr t1
  ·have nl:=Xy t (show p^e≠0 by omega)
   have q1:=p7 e (by omega)
   have q2:=p7 (k+(e:Int)).toNat (by omega)
   have e60:(7:Nat)^18<10^60:=by decide+kernel
   exact ⟨Nat.lt_of_le_of_lt nl.1 (by omega),Nat.lt_of_le_of_lt nl.2 (by omega)⟩
theorem qu {y:Str} (h:Tl y.cps.toList):SeqAt.shaped (toPy (.tup [.str "",.str y]))=true:=by
 have k:PyData.canLay0 (toPy (.str y))=true:=Z1 h
 have e1:PyData.canLay0 (toPy (.str ""))=true:=by decide+kernel
 have e2:(toPy (.tup [.str "",.str y])).depth=1:=rfl
 show ((PyData.canLay0 (toPy (.str "")) && (PyData.canLay0 (toPy (.str y)) && true)) && decide ((toPy (.tup [.str "",.str y])).depth<=64))=true
 rw [k,e1,e2]
 rfl
theorem XN (a b:Str):eqD (.tup [.str a,.str b]) (.tup [.str a,.str b])=true:=by
 show ((a==a) && ((b==b) && true))=true
 simp
theorem vh {Y:Cy} {c c':List Slot} {a:Expr} {v:Bool} (h:TeS Y a c v c') (e:v=false):TeS Y a c false c':=e▸h
def jnL:List (List Nat)->List Nat
 | []=>[]
 | [w]=>w
 | w::v::r=>w++32::jnL (v::r)
theorem w4 {c:Nat} {r:List Nat}:∀{w:List Nat},c∉w->splitL c (w++c::r)=w::splitL c r
 | [],_=>by
  rw [List.nil_append]
  conv=>lhs;unfold splitL
  rw [if_pos rfl]
 | a::w,h=>by
  have ha:¬a=c:=fun z=>h (by rw [z];exact List.mem_cons_self ..)
  have ih:=w4 (c:=c) (r:=r) (w:=w) fun z=>h (List.mem_cons_of_mem _ z)
  rw [List.cons_append]
  conv=>lhs;unfold splitL
  rw [if_neg ha,ih]
theorem uP:∀{ws:List (List Nat)},ws≠[]->(∀w∈ws,32∉w)->splitL 32 (jnL ws)=ws
 | [],h,_=>absurd rfl h
 | [w],_,h=>qt 32 w (h w (by simp))
 | w::v::r,_,h=>by
  show splitL 32 (w++32::jnL (v::r))=_
  rw [w4 (h w (by simp)),uP (by simp) fun u hu=>h u (List.mem_cons_of_mem _ hu)]
theorem Z6 {ws:List (List Nat)} (h0:ws≠[]) (h:∀w∈ws,32∉w):splitS (tx (jnL ws))=ws.map tx:=by
 unfold splitS
 rw [xu,uP h0 h]
theorem QM:∀{ws:List (List Nat)},(∀w∈ws,w.length<=200)->(jnL ws).length<=201*ws.length
 | [],_=>by simp [jnL]
 | [w],h=>by have:=h w (by simp);show w.length<=_;simp;omega
 | w::v::r,h=>by
  have ih:=QM (ws:=v::r) fun u hu=>h u (List.mem_cons_of_mem _ hu)
  have:=h w (by simp)
  show (w++32::jnL (v::r)).length<=_
  rw [List.length_append,List.length_cons]
  simp only [List.length_cons] at ih ⊢
  omega
theorem QL:∀{ws:List (List Nat)} {q:Nat},q∈jnL ws->q=32∨∃w∈ws,q∈w
 | [],_,h=>by cases h
 | [w],q,h=> .inr ⟨w,by simp,h⟩
 | w::v::r,q,h=>by
  have h:q∈w++32::jnL (v::r):=h
  rcases List.mem_append.mp h with h | h
  ·exact .inr ⟨w,by simp,h⟩
  ·rcases List.mem_cons.mp h with h | h
   ·exact .inl h
   ·rcases QL h with h | ⟨u,hu,hq⟩
    ·exact .inl h
    ·exact .inr ⟨u,List.mem_cons_of_mem _ hu,hq⟩
theorem KL {ws:List (List Nat)} (hl:ws.length<=6) (h:∀w∈ws,w.length<=200/\∀q∈w,q<128):Tl (tx (jnL ws)).cps.toList:=by
 rw [xu]
 have:=QM fun w hw=>(h w hw).1
 refine ⟨by omega,fun q hq=>?_⟩
 rcases QL hq with rfl | ⟨w,hw,hq⟩
 ·decide
 ·exact (h w hw).2 q hq
theorem jc {w y:Str} {ts:List Str} (hl:lkD formsL w=some (.s y)) (hw:(("" :Str)==w)=false) (hts:∀t∈ts,t≠("" :Str)) (hlen:ts.length=(wordsS y).length) (hm:(wordsS y).all (fun f=>(lkD mostL f).isNone)=true):formS (w::ts)=some (wordsS y):=by
 have hc:(w::ts).contains ("" :Str)=false:=by
  rw [List.contains_cons,hw,Bool.false_or]
  cases q:ts.contains ("" :Str) with
  | false=>rfl
  | true=>
   have:=List.contains_iff_mem.mp q
   exact absurd rfl (hts _ this)
 rw [zn,hc,if_neg (by decide),hl]
 dsimp only
 rw [if_pos hlen]
 have hb:(List.range (wordsS y).length).any (badN (wordsS y) (w::ts))=false:=by
  rw [List.any_eq_false]
  intro j hj hbad
  have hj:=List.mem_range.mp hj
  unfold badN at hbad
  rw [List.getElem?_eq_getElem hj] at hbad
  have n:=List.all_eq_true.mp hm _ (List.getElem_mem hj)
  have n:lkD mostL (wordsS y)[j]=none:=Option.isNone_iff_eq_none.mp n
  cases hq:(w::ts)[j+1]? with
  | none=>rw [hq] at hbad;cases hbad
  | some x=>
   rw [hq] at hbad
   dsimp only at hbad
   rw [n] at hbad
   cases hbad
 rw [hb,if_neg (by decide)]
theorem Wg {w:Str} {ts fs:List Str} (h:formS (w::ts)=some fs):fs.length=ts.length:=by
 rw [zn] at h
 split at h
 ·cases h
 ·cases hq:lkD formsL w with
  | none=>rw [hq] at h;cases h
  | some v=>
   rw [hq] at h
   cases v with
   | s y=>
    dsimp only at h
    by_cases e:ts.length=(wordsS y).length
    ·rw [if_pos e] at h
     split at h
     ·cases h
     ·cases h;exact e.symm
    ·rw [if_neg e] at h;cases h
   | i n=>cases h
   | f g=>cases h
theorem wJ {a:Rat} (h:B60 a):(ftx a).length<=130:=by
 have h1:=yD (k:=59) h.1
 have h2:=XB 59 a.den h.2
 unfold ftx
 split
 ·omega
 ·rw [List.length_append,List.length_cons];omega
theorem QO (a:Rat):32∉ftx a:=by
 have w:∀i:Int,32∉wr i:=fun i=>Vd (by decide) (.inl (by decide))
 unfold ftx
 split
 ·exact w _
 ·simp only [List.mem_append,List.mem_cons,not_or]
  exact ⟨w _,by decide,Yx (.inl (by decide))⟩
theorem jR (k:Int) (a:Rat):32∉stx k a:=by
 unfold stx
 simp only [List.mem_append,List.mem_cons,not_or]
 exact ⟨Vd (by decide) (.inl (by decide)),by decide,QO a⟩
theorem Uq {k:Int} {a:Rat} (hk:k.natAbs<=300) (h:B60 a):(stx k a).length<=140:=by
 have h1:=yD (i:=k) (k:=3) (by omega)
 have h2:=wJ h
 unfold stx
 rw [List.length_append,List.length_cons]
 omega
theorem JY (i:Int):wr i≠[]:=by
 unfold wr
 split
 ·simp
 ·intro z
  have:=(XB (i.natAbs+1) i.natAbs (Nat.lt_trans (Nat.lt_pow_self (by decide:1<10)) (Nat.pow_lt_pow_right (by decide) (by omega)))).1
  rw [z] at this
  cases this
theorem WB {l:List Nat} (h:l≠[]):tx l≠("" :Str):=fun z=>by
 have e:=congrArg (fun y:Str=>y.cps.toList) z
 rw [show (tx l).cps.toList=l from xu _] at e
 exact h e
theorem Jk (a:Rat):ftx a≠[]:=by
 unfold ftx
 split
 ·exact JY _
 ·simp
theorem Up (k:Int) (a:Rat):stx k a≠[]:=by unfold stx;simp
theorem UI {p:Int} (hp:Pr p) {k:Int} {a:Rat} (kb:k.natAbs<=300) (hs:isSp p k a=true) (hb:B60 a):rd8 p (stx k a)= .ok (k,a):=by
 unfold rd8 stx
 rw [kI (Vd (by decide) (.inr (by decide)))]
 dsimp only
 rw [Vt (m:=2) (by omega),QP hb]
 dsimp only
 have e:frR (a.num,(a.den:Int))=a:=by
  unfold frR
  rw [Rat.divInt_ofNat];exact Rat.mkRat_self a
 rw [e,hs,if_neg (by simp;omega)]
def rowL (w:Str) (ts:List (List Nat)):Str:=tx (jnL (w.cps.toList::ts))
theorem uc {w:Str} {ts:List (List Nat)} (hw:32∉w.cps.toList) (h:∀t∈ts,32∉t):splitS (rowL w ts)=w::ts.map tx:=by
 unfold rowL
 rw [Z6 (by simp) (fun u hu=>by
  rcases List.mem_cons.mp hu with rfl | hu
  ·exact hw
  ·exact h u hu),List.map_cons,zg]
theorem QK (xs:List (List Nat)):Txt.join " " (xs.map tx)=tx (jnL xs):=by
 show Builtin.Str.glued " " (xs.map tx)=_
 rw [StrLaws.glued_eq_join]
 have key:∀xs:List (List Nat),(Str.join " " (xs.map tx)).cps.toList=jnL xs:=by
  intro xs
  induction xs with
  | nil=>rfl
  | cons x r ih=>
   cases r with
   | nil=>exact xu x
   | cons y r=>
    show (tx x++(" " :Str)++Str.join " " ((y::r).map tx)).cps.toList=x++32::jnL (y::r)
    rw [xw,xw,ih,xu]
    simp
    rfl
 rw [<-key xs,zg]
theorem joinOk96 {xs:List Str} (hl:xs.length<=500) (h:∀x∈xs,x.length<=1900):JoinOk " " xs=true:=by
 unfold JoinOk Builtin.Str.tooLong
 rw [StrLaws.joinTotal]
 have hs:∀l:List Str,(∀x∈l,x.length<=1900)->(l.map (·.length)).sum<=1900*l.length:=by
  intro l hl
  induction l with
  | nil=>simp
  | cons a r ih=>
   have:=ih fun x hx=>hl x (List.mem_cons_of_mem _ hx)
   have:=hl a (by simp)
   simp only [List.map_cons,List.sum_cons,List.length_cons]
   omega
 have:=hs xs h
 rw [show (" " :Str).length=1 from rfl,sizeLine_eq]
 simp
 omega
theorem zc {p:Int} (hp:Pr p) {j k:Int} {y:Rat} (h:Dv p j y):Dv p j (restQ p k y):=by
 have r:=y7 hp k y
 by_cases l:j<=k
 ·have e:restQ p k y=y - (y - restQ p k y):=by grind
  rw [e]
  exact Wo hp h (xx hp l r.dv)
 ·have z:Dv p k y:=xx hp (by omega) h
  have o:IsRest p k 0 0:=⟨⟨0,by rw [Int.pow_zero];rfl⟩,Rat.le_refl,yU hp k,by rw [Rat.sub_self];exact yk p k hp⟩
  have e:restQ p k y=0:=zK hp r o (by rw [Rat.sub_eq_add_neg,Rat.neg_zero,Rat.add_zero];exact z)
  rw [e]
  exact yk p j hp
theorem ZZ {p i:Int} (hp:Pr p) {r s:Rat} (h:vq p r=some i) (h':Dv p (i+1) s):vq p (r+s)=some i:=by
 have a:=(yv hp).mp h
 have n:¬Dv p (i+1) (r+s):=fun z=>by
  have e:r=(r+s) - s:=by grind
  have:Dv p (i+1) r:=by rw [e];exact Wo hp z h'
  have:=(a.2 (i+1)).mp this
  omega
 refine (yv hp).mpr ⟨fun z=>n (by rw [z];exact yk p _ hp),fun k=>⟨fun hk=>?_,fun hk=>?_⟩⟩
 ·refine Int.not_lt.mp fun l=>n (xx hp (by omega) hk)
 ·exact qJ hp ((a.2 k).mpr hk) (xx hp (by omega) h')
def Vb (p V:Int) (r:Rat):Prop:=∀v,vq p r=some v-> -V<=v/\v<=V
theorem Vb.dv {p V:Int} (hp:Pr p) {r:Rat} (h:Vb p V r):Dv p (-V) r:=by
 rw [vF hp]
 cases q:vq p r with
 | none=>trivial
 | some v=>exact (h v q).1
structure Mv91 (p:Int) (V VD M:Int) (t:Tb):Prop where
 v0:0<=V
 d0:t.det≠0
 a:Vb p V t.a
 b:Vb p V t.b
 c:Vb p V t.c
 d:Vb p V t.d
 vd:∀v,vq p t.det=some v->v<=VD
 m:280+VD+6*V<=M
 m0:280+2*V<=M
 vd0:0<=VD
theorem zV {p:Int} {r:Rat} (h:r≠0):∃v,vq p r=some v:=by
 cases q:vq p r with
 | none=>exact absurd (vq_none.mp q) h
 | some v=>exact ⟨v,rfl⟩
theorem JD {p V VD M:Int} (hp:Pr p) {t:Tb} (h:Mv91 p V VD M t):Dv p (-V+ -V) t.det:=by
 unfold Tb.det
 exact Wo hp (vB hp (h.a.dv hp) (h.d.dv hp)) (vB hp (h.b.dv hp) (h.c.dv hp))
theorem qK {p:Int} (hp:Pr p) {u w:Rat} {i L:Int} (hu:Dv p i u) (hw:vq p w=some L):Dv p (i+ -L) (u*w⁻¹):=
 vB hp hu (y4 hp (xaG hp hw) (Int.le_refl _))
theorem mv91 {p V VD M k:Int} (hp:Pr p) {t:Tb} (h:Mv91 p V VD M t) {q:Rat} (k0: -280<=k) (k1:k<=280) (hM:Dv p (k - M) q):
  (Dv p ((movS p t (k,q)).1 - M) (movS p t (k,q)).2∨Dv p (-(2*V)) (movS p t (k,q)).2)/\Dv p (-(M+280+2*V)) (movS p t (k,q)).2/\ -(280+4*V)<=(movS p t (k,q)).1/\(movS p t (k,q)).1<=VD+2*V+2*M+280:=by
 have hv0:=h.v0
 have hm:=h.m
 have hm0:=h.m0
 have hvd0:=h.vd0
 obtain ⟨v,hv⟩:=zV (p:=p) h.d0
 have vD:=h.vd v hv
 have vL: -V+ -V<=v:=(((yv hp).mp hv).2 _).mp (JD hp h)
 have eT:t.mul (tabS p k q)=⟨t.a*ppw p k,t.a*q+t.b,t.c*ppw p k,t.c*q+t.d⟩:=by
  unfold Tb.mul tabS
  simp only [Tb.mk.injEq]
  refine ⟨?_,?_,?_,?_⟩<;>grind
 have hdet:vq p (t.mul (tabS p k q)).det=some (v+k):=by
  rw [Ue,uM]
  exact qq hp hv (YR hp)
 have dne:(t.mul (tabS p k q)).det≠0:=kR h.d0 (WC hp k q)
 have cd:=Ws dne
 have lst:=wF hp cd
 have e1:(movS p t (k,q)).1=v+k - 2*leastV p [(t.mul (tabS p k q)).c,(t.mul (tabS p k q)).d]:=by
  unfold movS spotS
  show (vq p (t.mul (tabS p k q)).det).getD 0 - _=_
  rw [hdet]
  rfl
 have e2:(movS p t (k,q)).2=if vq p (t.mul (tabS p k q)).c=some (leastV p [(t.mul (tabS p k q)).c,(t.mul (tabS p k q)).d]) then restQ p (movS p t (k,q)).1 ((t.mul (tabS p k q)).a*(t.mul (tabS p k q)).c⁻¹) else restQ p (movS p t (k,q)).1 ((t.mul (tabS p k q)).b*(t.mul (tabS p k q)).d⁻¹):=rfl
 generalize (movS p t (k,q)).1=k' at e1 e2 ⊢
 generalize (movS p t (k,q)).2=q' at e2 ⊢
 have hl0:∀n,n<=leastV p [(t.mul (tabS p k q)).c,(t.mul (tabS p k q)).d]↔Dv p n (t.c*ppw p k)/\Dv p n (t.c*q+t.d):=fun n=>by
  rw [lst n,eT]
  simp
 rw [eT] at e1 e2 hl0
 dsimp only at e1 e2 hl0
 generalize leastV p [t.c*ppw p k,t.c*q+t.d]=L at e1 e2 hl0
 have dq:Dv p (-V+(k - M)) (t.a*q):=vB hp (h.a.dv hp) hM
 by_cases c0:t.c=0
 ·
  have d1:t.d≠0:=fun z=>h.d0 (by unfold Tb.det;rw [c0,z];grind)
  have a1:t.a≠0:=fun z=>h.d0 (by unfold Tb.det;rw [c0,z];grind)
  obtain ⟨vd,hd⟩:=zV (p:=p) d1
  obtain ⟨va,ha⟩:=zV (p:=p) a1
  have bd:=h.d vd hd
  have ba:=h.a va ha
  have hvv:v=va+vd:=by
   have e:t.det=t.a*t.d:=by unfold Tb.det;rw [c0];grind
   rw [e,qq hp ha hd] at hv
   cases hv
   rfl
  rw [c0] at e2 hl0
  have z1:(0:Rat)*ppw p k=0:=Rat.zero_mul _
  have z2:(0:Rat)*q+t.d=t.d:=by grind
  rw [z1,z2] at e2 hl0
  have hL:L=vd:=by
   have u1:=(hl0 vd).mpr ⟨yk p _ hp,y4 hp hd (Int.le_refl _)⟩
   have u2:=((yv hp).mp hd).2 L |>.mp ((hl0 L).mp (Int.le_refl _)).2
   omega
  rw [if_neg (by rw [vq_none.mpr rfl];exact fun z=>nomatch z)] at e2
  have dy:Dv p (k' - M) ((t.a*q+t.b)*t.d⁻¹):=by
   have da:Dv p (va+(k - M)) (t.a*q):=vB hp (y4 hp ha (Int.le_refl _)) hM
   have db:Dv p (va+(k - M)) t.b:=xx hp (by omega) (h.b.dv hp)
   have:=qK hp (qJ hp da db) hd
   exact xx hp (by omega) this
  have dq':Dv p (k' - M) q':=by rw [e2];exact zc hp dy
  exact ⟨.inl dq',xx hp (by omega) dq',by omega,by omega⟩
 ·obtain ⟨vc,hc⟩:=zV (p:=p) c0
  have bc:=h.c vc hc
  have hTc:vq p (t.c*ppw p k)=some (vc+k):=qq hp hc (YR hp)
  by_cases hA:vq p (t.c*ppw p k)=some L
  ·have hL:L=vc+k:=by rw [hTc] at hA;cases hA;rfl
   rw [if_pos hA] at e2
   have ey:t.a*ppw p k*(t.c*ppw p k)⁻¹=t.a*t.c⁻¹:=by
    rw [Rat.inv_mul_rev]
    have:=Rat.mul_inv_cancel _ (vt hp k)
    grind
   rw [ey] at e2
   have dq':Dv p (-(2*V)) q':=by
    rw [e2]
    exact zc hp (xx hp (by omega) (qK hp (h.a.dv hp) hc))
   exact ⟨.inr dq',xx hp (by omega) dq',by omega,by omega⟩
  ·rw [if_neg hA] at e2
   have hL1:L<=vc+k:=by
    have:=(((yv hp).mp hTc).2 L).mp ((hl0 L).mp (Int.le_refl _)).1
    exact this
   have hL2:L<vc+k:=by
    rcases Int.lt_or_eq_of_le hL1 with l | l
    ·exact l
    ·exact absurd (by rw [hTc,l]) hA
   have hLd:Dv p L (t.c*q+t.d):=((hl0 L).mp (Int.le_refl _)).2
   have hTd:vq p (t.c*q+t.d)=some L:=by
    have n:¬Dv p (L+1) (t.c*q+t.d):=fun z=>by
     have:=(hl0 (L+1)).mpr ⟨y4 hp hTc (by omega),z⟩
     omega
    refine (yv hp).mpr ⟨fun z=>n (by rw [z];exact yk p _ hp),fun j=>⟨fun hj=>Int.not_lt.mp fun l=>n (xx hp (by omega) hj),fun hj=>xx hp hj hLd⟩⟩
   by_cases hq:Dv p (-(2*V)) q
   ·have du:Dv p (-(3*V)) (t.a*q+t.b):=qJ hp (xx hp (by omega) (vB hp (h.a.dv hp) hq)) (xx hp (by omega) (h.b.dv hp))
    have dw:Dv p (-(3*V)) (t.c*q+t.d):=qJ hp (xx hp (by omega) (vB hp (h.c.dv hp) hq)) (xx hp (by omega) (h.d.dv hp))
    have l3: -(3*V)<=L:=(((yv hp).mp hTd).2 _).mp dw
    have dy:=qK hp du hTd
    have dq1:Dv p (-(3*V)+ -L) q':=by rw [e2];exact zc hp dy
    exact ⟨.inl (xx hp (by omega) dq1),xx hp (by omega) dq1,by omega,by omega⟩
   ·have q0:q≠0:=fun z=>hq (by rw [z];exact yk p _ hp)
    obtain ⟨vq',hvq⟩:=zV (p:=p) q0
    have hlt:vq'< -(2*V):=Int.not_le.mp fun z=>hq (y4 hp hvq z)
    have hge:k - M<=vq':=(((yv hp).mp hvq).2 _).mp hM
    have hcq:=qq hp hc hvq
    have hs:=ZZ hp hcq (xx hp (by omega) (h.d.dv hp))
    have hL:L=vc+vq':=by rw [hTd] at hs;cases hs;rfl
    have dq':Dv p (-(2*V)) q':=by
     rw [e2]
     refine zc hp ?_
     by_cases a0:t.a=0
     ·have ez:t.a*q+t.b=t.b:=by rw [a0];grind
      rw [ez]
      exact xx hp (by omega) (qK hp (h.b.dv hp) hTd)
     ·obtain ⟨va,ha⟩:=zV (p:=p) a0
      have ba:=h.a va ha
      have haq:=ZZ hp (qq hp ha hvq) (xx hp (by omega) (h.b.dv hp))
      exact xx hp (by omega) (qK hp (y4 hp haq (Int.le_refl _)) hTd)
    exact ⟨.inr dq',xx hp (by omega) dq',by omega,by omega⟩
theorem zF {p:Int} {n:Int} (hn:n≠0) (hp:Pr p):vq p (n:Rat)=some (vp p n:Int):=by
 unfold vq
 rw [Rat.num_intCast,Rat.den_intCast,if_neg hn]
 have:vp p ((1:Nat):Int)=0:=Vf hp.two_le.1
 rw [this]
 simp
theorem JZ {p:Int} (hp:Pr p) {n:Int} (hn:n≠0):(p^vp p n).natAbs<=n.natAbs:=by
 obtain ⟨u,hu,hu0⟩:=wX hp hn
 have u1:u≠0:=fun z=>hn (by rw [hu,z,Int.mul_zero])
 have e:n.natAbs=(p^vp p n).natAbs*u.natAbs:=by rw [<-Int.natAbs_mul,<-hu]
 rw [e]
 exact Nat.le_mul_of_pos_right _ (by omega)
theorem yF {p:Int} (hp:Pr p) {n:Int} (hn:n≠0) {N k:Nat} (h:n.natAbs<N) (hk:N<=(p^(k+1)).natAbs):vp p n<=k:=by
 refine Nat.not_lt.mp fun l=>?_
 have a:=JZ hp hn
 have b:(p^(k+1)).natAbs<=(p^vp p n).natAbs:=by
  rw [Int.natAbs_pow,Int.natAbs_pow]
  exact Nat.pow_le_pow_right (by have:=hp.two_le;omega) (by omega)
 omega
def Vp (p:Int):Int:=if p=2 then 8 else if p=3 then 6 else 5
def VDp (p:Int):Int:=if p=2 then 62 else if p=3 then 39 else if p=5 then 26 else 22
def Mp (p:Int):Int:=280+VDp p+6*Vp p
def tp91 (p n:Int):Int:=if n / 2460%2=1 then (n%41 - 20)*p^(n / 492%5).toNat else n%41 - 20
def bt91 (p n:Int):Int:=if n / 2460%2=1 then 1+n / 41%12 else (1+n / 41%12)*p^(n / 492%5).toNat
def fr91 (p n:Int):Rat:=Rat.divInt (tp91 p n) (bt91 p n)
theorem Ze {p:Int} (hp:Pr p) {d:Nat} (h:d<=4):1<=p^d/\p^d<=2401:=by
 rcases (show d=0∨d=1∨d=2∨d=3∨d=4 by omega) with rfl | rfl | rfl | rfl | rfl<;>rcases hp with rfl | rfl | rfl | rfl<;>decide
theorem QH {a b A B:Int} (a0: -A<=a) (a1:a<=A) (b0:1<=b) (b1:b<=B) (A0:0<=A): -(A*B)<=a*b/\a*b<=A*B:=by
 have x1:a*b<=A*b:=Int.mul_le_mul_of_nonneg_right a1 (by omega)
 have x2:A*b<=A*B:=Int.mul_le_mul_of_nonneg_left b1 A0
 have x3: -A*b<=a*b:=Int.mul_le_mul_of_nonneg_right a0 (by omega)
 have x4: -A*b= -(A*b):=Int.neg_mul ..
 omega
theorem qM {p:Int} (hp:Pr p) (n:Int): -48020<=tp91 p n/\tp91 p n<=48020:=by
 unfold tp91
 split
 ·have b:=Ze hp (d:=(n / 492%5).toNat) (by omega)
  have:=QH (a:=n%41 - 20) (A:=20) (B:=2401) (by omega) (by omega) b.1 b.2 (by decide)
  omega
 ·omega
theorem za {p:Int} (hp:Pr p) (n:Int):1<=bt91 p n/\bt91 p n<=28812:=by
 unfold bt91
 split
 ·omega
 ·have b:=Ze hp (d:=(n / 492%5).toNat) (by omega)
  have c1:1<=1+n / 41%12:=by omega
  have c2:1+n / 41%12<=12:=by omega
  generalize 1+n / 41%12=x at c1 c2
  have:=QH (a:=x) (A:=12) (B:=2401) (by omega) (by omega) b.1 b.2 (by decide)
  have y:1*1<=x*p^(n / 492%5).toNat:=Int.mul_le_mul c1 b.1 (by decide) (by omega)
  omega
theorem vj {p:Int} (hp:Pr p) {t:Int} (t0:t≠0) (l: -20<=t) (u:t<=20):(vp p t:Int)<=Vp p - 4:=by
 have h:t.natAbs<21:=by omega
 rcases hp with rfl | rfl | rfl | rfl
 ·have:=yF (p:=2) (.inl rfl) t0 h (k:=4) (by decide);show (vp 2 t:Int)<=8 - 4;omega
 ·have:=yF (p:=3) (.inr (.inl rfl)) t0 h (k:=2) (by decide);show (vp 3 t:Int)<=6 - 4;omega
 ·have:=yF (p:=5) (.inr (.inr (.inl rfl))) t0 h (k:=1) (by decide);show (vp 5 t:Int)<=5 - 4;omega
 ·have:=yF (p:=7) (.inr (.inr (.inr rfl))) t0 h (k:=1) (by decide);show (vp 7 t:Int)<=5 - 4;omega
theorem wa {p:Int} (hp:Pr p) (n:Int):fr91 p n*((bt91 p n:Int):Rat)=((tp91 p n:Int):Rat):=we _ (by have:=za hp n;omega)
theorem qd {p:Int} (hp:Pr p) (n:Int):Vb p (Vp p) (fr91 p n):=by
 intro v hv
 have e:=wa hp n
 have b:=za hp n
 have f0:=((yv hp).mp hv).1
 have b0:bt91 p n≠0:=by omega
 have t0:tp91 p n≠0:=fun z=>by
  rw [z] at e
  have:fr91 p n*((bt91 p n:Int):Rat)=0:=e
  rcases Rat.mul_eq_zero.mp this with h | h
  ·exact f0 h
  ·exact b0 (by exact_mod_cast h)
 have k:=qq hp hv (zF b0 hp)
 rw [e,zF t0 hp] at k
 have k:(vp p (tp91 p n):Int)=v+(vp p (bt91 p n):Int):=Option.some.inj k
 have d4:(n / 492%5).toNat<=4:=by omega
 have hpw:=(Ze hp d4).1
 have pw:vp p (p^(n / 492%5).toNat)=(n / 492%5).toNat:=vf hp.two_le.1 _
 have x0:1+n / 41%12≠0:=by omega
 have sx:=vj hp x0 (by omega) (by omega)
 have vv:4<=Vp p:=by unfold Vp;split<;>(try split)<;>omega
 by_cases hc:n / 2460%2=1
 ·have et:tp91 p n=(n%41 - 20)*p^(n / 492%5).toNat:=if_pos hc
  have eb:bt91 p n=1+n / 41%12:=if_pos hc
  rw [et] at k t0
  rw [eb] at k
  have t1:n%41 - 20≠0:=fun z=>t0 (by rw [z,Int.zero_mul])
  have st:=vj hp t1 (by omega) (by omega)
  rw [jH hp t1 (by omega),pw] at k
  push_cast at k
  omega
 ·have et:tp91 p n=n%41 - 20:=if_neg hc
  have eb:bt91 p n=(1+n / 41%12)*p^(n / 492%5).toNat:=if_neg hc
  rw [et] at k t0
  rw [eb,jH hp x0 (by omega),pw] at k
  have st:=vj hp t0 (by omega) (by omega)
  push_cast at k
  omega
def tb91 (p:Int) (m:Nat->Int):Tb:=⟨fr91 p (m 0),fr91 p (m 1),fr91 p (m 2),fr91 p (m 3)⟩
theorem zf {a b:Int} {A B:Nat} (ha:a.natAbs<=A) (hb:b.natAbs<=B):(a*b).natAbs<=A*B:=by rw [Int.natAbs_mul];exact Nat.mul_le_mul ha hb
theorem JC {p:Int} (hp:Pr p) (m:Nat->Int):∀v,vq p (tb91 p m).det=some v->v<=VDp p:=by
 intro v hv
 have d0:=((yv hp).mp hv).1
 have e0:=wa hp (m 0)
 have e1:=wa hp (m 1)
 have e2:=wa hp (m 2)
 have e3:=wa hp (m 3)
 have b0:=za hp (m 0)
 have b1:=za hp (m 1)
 have b2:=za hp (m 2)
 have b3:=za hp (m 3)
 have t0:=qM hp (m 0)
 have t1:=qM hp (m 1)
 have t2:=qM hp (m 2)
 have t3:=qM hp (m 3)
 have ed:(tb91 p m).det=fr91 p (m 0)*fr91 p (m 3) - fr91 p (m 1)*fr91 p (m 2):=rfl
 rw [ed] at d0 hv
 generalize fr91 p (m 0)=a at e0 d0 hv
 generalize fr91 p (m 1)=b at e1 d0 hv
 generalize fr91 p (m 2)=c at e2 d0 hv
 generalize fr91 p (m 3)=d at e3 d0 hv
 generalize tp91 p (m 0)=A at e0 t0
 generalize tp91 p (m 1)=B at e1 t1
 generalize tp91 p (m 2)=C at e2 t2
 generalize tp91 p (m 3)=D at e3 t3
 generalize bt91 p (m 0)=A' at e0 b0
 generalize bt91 p (m 1)=B' at e1 b1
 generalize bt91 p (m 2)=C' at e2 b2
 generalize bt91 p (m 3)=D' at e3 b3
 have hB:A'*B'*(C'*D')≠0:=Int.mul_ne_zero (Int.mul_ne_zero (by omega) (by omega)) (Int.mul_ne_zero (by omega) (by omega))
 have e:(a*d - b*c)*((A'*B'*(C'*D'):Int):Rat)=((A*D*(B'*C') - B*C*(A'*D'):Int):Rat):=by
  push_cast
  rw [<-e0,<-e1,<-e2,<-e3]
  grind
 have n0:A*D*(B'*C') - B*C*(A'*D')≠0:=fun z=>by
  rw [z] at e
  rcases Rat.mul_eq_zero.mp (show (a*d - b*c)*((A'*B'*(C'*D'):Int):Rat)=0 from e) with h | h
  ·exact d0 h
  ·exact hB (by exact_mod_cast h)
 have k:=qq hp hv (zF hB hp)
 rw [e,zF n0 hp] at k
 have k:(vp p (A*D*(B'*C') - B*C*(A'*D')):Int)=v+(vp p (A'*B'*(C'*D')):Int):=Option.some.inj k
 have s1:(A*D*(B'*C')).natAbs<=48020*48020*(28812*28812):=zf (zf (by omega) (by omega)) (zf (by omega) (by omega))
 have s2:(B*C*(A'*D')).natAbs<=48020*48020*(28812*28812):=zf (zf (by omega) (by omega)) (zf (by omega) (by omega))
 have s3:(A*D*(B'*C') - B*C*(A'*D')).natAbs<2^62:=by
  have c1:48020*48020*(28812*28812)+48020*48020*(28812*28812)<2^62:=by decide+kernel
  omega
 have key:(vp p (A*D*(B'*C') - B*C*(A'*D')):Int)<=VDp p:=by
  rcases hp with rfl | rfl | rfl | rfl
  ·have:=yF (p:=2) (.inl rfl) n0 s3 (k:=62) (by decide+kernel);show _<=(62:Int);omega
  ·have:=yF (p:=3) (.inr (.inl rfl)) n0 s3 (k:=39) (by decide+kernel);show _<=(39:Int);omega
  ·have:=yF (p:=5) (.inr (.inr (.inl rfl))) n0 s3 (k:=26) (by decide+kernel);show _<=(26:Int);omega
  ·have:=yF (p:=7) (.inr (.inr (.inr rfl))) n0 s3 (k:=22) (by decide+kernel);show _<=(22:Int);omega
 omega
theorem qp {p:Int}:5<=Vp p/\Vp p<=8:=by unfold Vp;split<;>(try split)<;>omega
theorem zq {p:Int}:22<=VDp p/\VDp p<=62:=by unfold VDp;split<;>(try split)<;>(try split)<;>omega
theorem Vg {p:Int} (hp:Pr p):Vb p (Vp p) 0/\Vb p (Vp p) 1:=by
 have v:=qp (p:=p)
 refine ⟨fun w h=>?_,fun w h=>?_⟩
 ·rw [vq_none.mpr rfl] at h;cases h
 ·rw [YS hp] at h;cases h;omega
inductive Dd91 where
 | mv (m:Nat->Int) | sc (n:Int) | sh (n:Int) | fl
def Dd91.tb (p:Int):Dd91->Tb
 | .mv m=>tb91 p m
 | .sc n=>⟨fr91 p n,0,0,1⟩
 | .sh n=>⟨1,fr91 p n,0,1⟩
 | .fl=>⟨0,1,1,0⟩
theorem Dd91.ok {p:Int} (hp:Pr p) {m:Dd91} (h:(m.tb p).det≠0):Mv91 p (Vp p) (VDp p) (Mp p) (m.tb p):=by
 have v:=qp (p:=p)
 have w:=zq (p:=p)
 have c:=Vg hp
 have hM:280+VDp p+6*Vp p<=Mp p:=Int.le_refl _
 refine ⟨by omega,h,?_,?_,?_,?_,?_,hM,by omega,by omega⟩
 ·cases m with
  | mv m=>exact qd hp _
  | sc n=>exact qd hp _
  | sh n=>exact c.2
  | fl=>exact c.1
 ·cases m with
  | mv m=>exact qd hp _
  | sc n=>exact c.1
  | sh n=>exact qd hp _
  | fl=>exact c.2
 ·cases m with
  | mv m=>exact qd hp _
  | sc n=>exact c.1
  | sh n=>exact c.1
  | fl=>exact c.2
 ·cases m with
  | mv m=>exact qd hp _
  | sc n=>exact c.2
  | sh n=>exact c.2
  | fl=>exact c.1
 ·cases m with
  | mv m=>exact JC hp m
  | sc n=>
   intro x hx
   have e:(Dd91.tb p (.sc n)).det=fr91 p n:=by unfold Dd91.tb Tb.det;simp only [];grind
   rw [e] at hx
   have:=qd hp n x hx
   omega
  | sh n=>
   intro x hx
   have e:(Dd91.tb p (.sh n)).det=1:=by unfold Dd91.tb Tb.det;simp only [];grind
   rw [e,YS hp] at hx
   cases hx
   omega
  | fl=>
   intro x hx
   have e:(Dd91.tb p .fl).det= -1:=by unfold Dd91.tb Tb.det;simp only [];grind
   rw [e,xaF hp,YS hp] at hx
   cases hx
   omega
structure I91 (p:Int) (s:Int×Rat):Prop where
 own:Own p s.1 s.2
 k0: -(280+4*Vp p)<=s.1
 k1:s.1<=VDp p+2*Vp p+2*Mp p+280
 x:Dv p (-(Mp p+280+2*Vp p)) s.2
 sz:Dv p (s.1 - Mp p) s.2∨Dv p (-(2*Vp p)) s.2
theorem wf {p:Int} (hp:Pr p) {q:Rat} (h:PDen p q) {j:Nat} (hj:Dv p (-(j:Int)) q):(q.den:Int)<=p^j:=by
 obtain ⟨e,he⟩:=h
 by_cases l:e<=j
 ·rw [he]
  have a:=yb hp e
  have b:=yb hp (j - e)
  have c:p^j=p^e*p^(j - e):=by rw [<-Int.pow_add];congr 1;omega
  rw [c]
  have:=Int.mul_le_mul_of_nonneg_left (show 1<=p^(j - e) by omega) (Int.le_of_lt a)
  rwa [Int.mul_one] at this
 ·exfalso
  have e0:0<e:=by omega
  have n0:q.num≠0:=fun z=>by
   have:q=0:=Rat.num_eq_zero.mp z
   rw [this] at he
   have h1:(1:Int)=p^e:=he
   have p2:=hp.two_le
   have:p^1<=p^e:=by
    have c:p^e=p^1*p^(e - 1):=by rw [<-Int.pow_add];congr 1;omega
    have b:=yb hp (e - 1)
    rw [c]
    have:=Int.mul_le_mul_of_nonneg_left (show 1<=p^(e - 1) by omega) (show 0<=p^1 by rw [Int.pow_one];omega)
    rwa [Int.mul_one] at this
   rw [Int.pow_one] at this
   omega
  have q0:q≠0:=fun z=>n0 (by rw [z];rfl)
  have pn:¬q.num%p=0:=fun z=>by
   have d1:p∣q.num:=Int.dvd_of_emod_eq_zero z
   have d2:p∣(q.den:Int):=by rw [he];exact Int.dvd_trans ⟨p^(e - 1),by rw [<-Int.pow_succ'];congr 1;omega⟩ (Int.dvd_refl _)
   have hc:Int.gcd q.num (q.den:Int)=1:=by
    rw [Int.gcd_eq_natAbs_gcd_natAbs,Int.natAbs_natCast];exact q.reduced
   have:=Int.dvd_coe_gcd d1 d2
   rw [hc] at this
   have p2:=hp.two_le
   have:=Int.le_of_dvd (by decide) this
   omega
  have hv:vq p q=some (-(e:Int)):=by
   unfold vq
   rw [if_neg n0,he,vf hp.two_le.1,vG pn]
   simp
  have:=(((yv hp).mp hv).2 _).mp hj
  omega
theorem zO {p:Int} (hp:Pr p) {k:Int} {q:Rat} (o:Own p k q) {j:Nat} (hj:Dv p (-(j:Int)) q) (hk:0<=k+j):q.num<p^(k+j).toNat:=by
 have d:=wf hp o.den hj
 have s:=zL q
 have dp:=ZO q
 have l:q*((q.den:Int):Rat)<ppw p k*((q.den:Int):Rat):=Zv o.lt (by exact_mod_cast dp)
 have d':((q.den:Int):Rat)<=ppw p (j:Int):=by rw [xN];exact_mod_cast d
 have u:=Rat.mul_le_mul_of_nonneg_left d' (Rat.le_of_lt (yU hp k))
 have e:ppw p k*ppw p (j:Int)=((p^(k+j).toNat:Int):Rat):=by
  rw [<-yg hp,<-xN]
  congr 1
  omega
 rw [e] at u
 have f:q*((q.den:Int):Rat)=(q.num:Rat):=by exact_mod_cast s
 rw [f] at l
 have:=Std.lt_of_lt_of_le l u
 exact_mod_cast this
def B850 (a:Rat):Prop:=a.num.natAbs<10^850/\a.den<10^850
theorem yK {p:Int} (hp:Pr p) {a b:Nat} (h:a<=b):p^a<=p^b:=by
 have c:p^b=p^a*p^(b - a):=by rw [<-Int.pow_add];congr 1;omega
 have x:=yb hp a
 have y:=yb hp (b - a)
 rw [c]
 have:=Int.mul_le_mul_of_nonneg_left (show 1<=p^(b - a) by omega) (Int.le_of_lt x)
 rwa [Int.mul_one] at this
theorem xaK {p:Int} (hp:Pr p):p^(VDp p+4*Vp p+2*Mp p+280).toNat<10^850:=by
 rcases hp with rfl | rfl | rfl | rfl<;>decide+kernel
theorem uo {p:Int}:280<=Mp p/\Mp p<=400:=by
 have v:=qp (p:=p)
 have w:=zq (p:=p)
 unfold Mp
 unfold Vp VDp at*
 split<;>(try split)<;>(try split)<;>omega
theorem I91.b {p:Int} (hp:Pr p) {s:Int×Rat} (h:I91 p s):B850 s.2:=by
 have v:=qp (p:=p)
 have w:=zq (p:=p)
 have m:=uo (p:=p)
 have t:=xaK hp
 have k0:=h.k0
 have k1:=h.k1
 have n0:0<=s.2.num:=Rat.num_nonneg.mpr h.own.nn
 have e:((10^850:Nat):Int)=10^850:=by push_cast;rfl
 have hd:(s.2.den:Int)<10^850:=by
  have x:=h.x
  have ex:Mp p+280+2*Vp p=(((Mp p+280+2*Vp p).toNat:Nat):Int):=by omega
  rw [ex] at x
  have a:=wf hp h.own.den x
  have b:=yK hp (a:=(Mp p+280+2*Vp p).toNat) (b:=(VDp p+4*Vp p+2*Mp p+280).toNat) (by omega)
  omega
 have hn:s.2.num<10^850:=by
  rcases h.sz with x | x
  ·by_cases l:s.1<=Mp p
   ·have ex:s.1 - Mp p= -(((Mp p - s.1).toNat:Nat):Int):=by omega
    rw [ex] at x
    have a:=zO hp h.own x (by omega)
    have b:=yK hp (a:=(s.1+(((Mp p - s.1).toNat:Nat):Int)).toNat) (b:=(VDp p+4*Vp p+2*Mp p+280).toNat) (by omega)
    omega
   ·have x0:Dv p (-((0:Nat):Int)) s.2:=xx hp (by omega) x
    have a:=zO hp h.own x0 (by omega)
    have b:=yK hp (a:=(s.1+((0:Nat):Int)).toNat) (b:=(VDp p+4*Vp p+2*Mp p+280).toNat) (by omega)
    omega
  ·have ex:2*Vp p=(((2*Vp p).toNat:Nat):Int):=by omega
   by_cases l:0<=s.1+2*Vp p
   ·rw [ex] at x
    have a:=zO hp h.own x (by omega)
    have b:=yK hp (a:=(s.1+(((2*Vp p).toNat:Nat):Int)).toNat) (b:=(VDp p+4*Vp p+2*Mp p+280).toNat) (by omega)
    omega
   ·have x1:Dv p (-(((-s.1).toNat:Nat):Int)) s.2:=xx hp (by omega) x
    have a:=zO hp h.own x1 (by omega)
    have b:=yK hp (a:=(s.1+(((-s.1).toNat:Nat):Int)).toNat) (b:=(VDp p+4*Vp p+2*Mp p+280).toNat) (by omega)
    omega
 refine ⟨?_,?_⟩
 ·generalize (10:Nat)^850=Z at e ⊢
  generalize (10:Int)^850=Y at e hn
  omega
 ·generalize (10:Nat)^850=Z at e ⊢
  generalize (10:Int)^850=Y at e hd
  omega
theorem I91.dv {p:Int} (hp:Pr p) {s:Int×Rat} (h:I91 p s) (l:s.1<=280):Dv p (s.1 - Mp p) s.2:=by
 have v:=qp (p:=p)
 have w:=zq (p:=p)
 have hM:Mp p=280+VDp p+6*Vp p:=rfl
 rcases h.sz with x | x
 ·exact x
 ·exact xx hp (by omega) x
theorem I91.mov {p:Int} (hp:Pr p) {s:Int×Rat} (h:I91 p s) (l0: -280<=s.1) (l1:s.1<=280) {m:Dd91} (hd:(m.tb p).det≠0):I91 p (movS p (m.tb p) s):=by
 have k:=mv91 hp (Dd91.ok hp hd) l0 l1 (h.dv hp l1)
 exact ⟨Ut hp _,k.2.2.1,k.2.2.2,k.2.1,k.1⟩
theorem I91.zero {p:Int} (hp:Pr p):I91 p (0,0):=by
 have v:=qp (p:=p)
 have w:=zq (p:=p)
 have m:=uo (p:=p)
 exact ⟨⟨⟨0,by rw [Int.pow_zero];rfl⟩,Rat.le_refl,yU hp 0,by rw [Rat.sub_self];exact yk p _ hp⟩,by show _<=(0:Int);omega,by show (0:Int)<=_;omega,yk p _ hp,.inl (yk p _ hp)⟩
theorem pw1750 {p:Int} (hp:Pr p):p^(Mp p+280+2*Vp p).toNat<2^1750:=by
 rcases hp with rfl | rfl | rfl | rfl<;>decide+kernel
theorem I91.fb {p:Int} (hp:Pr p) {s:Int×Rat} (h:I91 p s) (l:s.1<=280):Fb 1750 s.2:=by
 have v:=qp (p:=p)
 have w:=zq (p:=p)
 have m:=uo (p:=p)
 have t:=pw1750 hp
 have k0:=h.k0
 have n0:0<=s.2.num:=Rat.num_nonneg.mpr h.own.nn
 have e:((2^1750:Nat):Int)=2^1750:=by push_cast;rfl
 have hd:(s.2.den:Int)<2^1750:=by
  have x:=h.x
  have ex:Mp p+280+2*Vp p=(((Mp p+280+2*Vp p).toNat:Nat):Int):=by omega
  rw [ex] at x
  have a:=wf hp h.own.den x
  omega
 have hn:s.2.num<2^1750:=by
  have x:=h.dv hp l
  have ex:s.1 - Mp p= -(((Mp p - s.1).toNat:Nat):Int):=by omega
  rw [ex] at x
  have a:=zO hp h.own x (by omega)
  have b:=yK hp (a:=(s.1+(((Mp p - s.1).toNat:Nat):Int)).toNat) (b:=(Mp p+280+2*Vp p).toNat) (by omega)
  omega
 generalize hZ:(2:Nat)^1750=Z at e
 generalize (2:Int)^1750=W at e hd hn
 refine ⟨?_,?_⟩
 ·show s.2.num.natAbs<2^1750;rw [hZ];omega
 ·show (s.2.den:Int).natAbs<2^1750;rw [hZ];omega
theorem qT {p:Int} (hp:Pr p) (n:Int):Fb 20 (fr91 p n):=by
 have t:=qM hp n
 have b:=za hp n
 refine Fb.divInt (by omega) ?_ ?_
 ·show (tp91 p n).natAbs<2^20;have:(2:Nat)^20=1048576:=by decide
  omega
 ·show (bt91 p n).natAbs<2^20;have:(2:Nat)^20=1048576:=by decide
  omega
theorem wK {p:Int} (hp:Pr p) (n:Int):B60 (fr91 p n):=by
 have t:=qM hp n
 have b:=za hp n
 have l:=Xy (tp91 p n) (show bt91 p n≠0 by omega)
 have c:(10:Nat)^5<=10^60:=Nat.pow_le_pow_right (by decide) (by decide)
 have d:(10:Nat)^5=100000:=by decide
 exact ⟨by show (Rat.divInt _ _).num.natAbs<_;omega,by show (Rat.divInt _ _).den<_;omega⟩
theorem Dd91.tbb {p:Int} (hp:Pr p) (m:Dd91):Tbb 20 (m.tb p):=by
 have z:Fb 20 (0:Rat):=fb_zero.mono (by decide)
 have o:Fb 20 (1:Rat):=fb_one.mono (by decide)
 cases m with
 | mv m=>exact ⟨qT hp _,qT hp _,qT hp _,qT hp _⟩
 | sc n=>exact ⟨qT hp _,z,z,o⟩
 | sh n=>exact ⟨o,qT hp _,z,o⟩
 | fl=>exact ⟨z,o,o,z⟩
theorem X8 {t:Tb} (h:Tbb 20 t):MOk t:=⟨h.mono (by decide),(h.a.mul h.d).mono (by decide),(h.b.mul h.c).mono (by decide)⟩
theorem xbi {p:Int} (hp:Pr p) {s:Int×Rat} (h:I91 p s) (l0: -280<=s.1) (l1:s.1<=280) {m:Dd91} (hd:(m.tb p).det≠0):x9 [.int p,tbD (m.tb p),stD s] (stD (movS p (m.tb p) s)):=by
 have ts:=J6 hp (K:=280) (m:=1750) (h.fb hp l1) (by omega) (by omega) (by decide)
 have tb:=Dd91.tbb hp m
 exact ⟨p,m.tb p,s.1,s.2,rfl,hp,by omega,by omega,tb.pok ts (by decide),jW hp (kR hd (WC hp s.1 s.2)) (KI tb ts) (by decide)⟩
def Wp (p:Int):Int:=if p=2 then 59 else if p=3 then 37 else if p=5 then 25 else 21
theorem xcm {p:Int}:21<=Wp p/\Wp p<=59:=by unfold Wp;split<;>(try split)<;>(try split)<;>omega
theorem J1 {p:Int} (hp:Pr p):p^(VDp p+2*Vp p+2*Mp p+280+Wp p).toNat<10^850:=by
 rcases hp with rfl | rfl | rfl | rfl<;>decide+kernel
theorem U5 {p:Int} (hp:Pr p) {t b:Int} (b0:1<=b) (b1:b<=10^18):Dv p (-(Wp p)) (Rat.divInt t b):=by
 by_cases t0:t=0
 ·rw [t0,Rat.zero_divInt];exact yk p _ hp
 ·have e:=we t (b:=b) (by omega)
  have bb:b≠0:=by omega
  have f0:Rat.divInt t b≠0:=fun z=>by
   rw [z,Rat.zero_mul] at e
   exact t0 (by exact_mod_cast e.symm)
  obtain ⟨v,hv⟩:=zV (p:=p) f0
  have k:=qq hp hv (zF bb hp)
  rw [e,zF t0 hp] at k
  have k:(vp p t:Int)=v+(vp p b:Int):=Option.some.inj k
  have s3:b.natAbs<10^18+1:=by
   have:((10^18:Nat):Int)=10^18:=by decide
   omega
  have key:(vp p b:Int)<=Wp p:=by
   rcases hp with rfl | rfl | rfl | rfl
   ·have:=yF (p:=2) (.inl rfl) bb s3 (k:=59) (by decide+kernel);show _<=(59:Int);omega
   ·have:=yF (p:=3) (.inr (.inl rfl)) bb s3 (k:=37) (by decide+kernel);show _<=(37:Int);omega
   ·have:=yF (p:=5) (.inr (.inr (.inl rfl))) bb s3 (k:=25) (by decide+kernel);show _<=(25:Int);omega
   ·have:=yF (p:=7) (.inr (.inr (.inr rfl))) bb s3 (k:=21) (by decide+kernel);show _<=(21:Int);omega
  exact y4 hp hv (by omega)
theorem k9 {p:Int} (hp:Pr p) {s:Int×Rat} (h:I91 p s) {a:Rat} (ha:Dv p (-(Wp p)) a):B850 (restQ p s.1 (s.2+a)):=by
 have v:=qp (p:=p)
 have w:=zq (p:=p)
 have m:=uo (p:=p)
 have u:=xcm (p:=p)
 have t:=J1 hp
 have k0:=h.k0
 have k1:=h.k1
 have o:=Xs hp s.1 (s.2+a)
 have n0:0<=(restQ p s.1 (s.2+a)).num:=Rat.num_nonneg.mpr o.nn
 have e:((10^850:Nat):Int)=10^850:=by push_cast;rfl
 have hx:Dv p (-(((Mp p+280+2*Vp p).toNat:Nat):Int)) (restQ p s.1 (s.2+a)):=zc hp (qJ hp (xx hp (by omega) h.x) (xx hp (by omega) ha))
 have hd:((restQ p s.1 (s.2+a)).den:Int)<10^850:=by
  have a:=wf hp o.den hx
  have b:=yK hp (a:=(Mp p+280+2*Vp p).toNat) (b:=(VDp p+2*Vp p+2*Mp p+280+Wp p).toNat) (by omega)
  omega
 have hs:Dv p (-(((max (max (Mp p - s.1) (2*Vp p)) (Wp p)).toNat:Nat):Int)) (restQ p s.1 (s.2+a)):=by
  refine zc hp (qJ hp ?_ (xx hp (by omega) ha))
  rcases h.sz with x | x
  ·exact xx hp (by omega) x
  ·exact xx hp (by omega) x
 have hn:(restQ p s.1 (s.2+a)).num<10^850:=by
  by_cases l:0<=s.1+(((max (max (Mp p - s.1) (2*Vp p)) (Wp p)).toNat:Nat):Int)
  ·have a:=zO hp o hs l
   have b:=yK hp (a:=(s.1+(((max (max (Mp p - s.1) (2*Vp p)) (Wp p)).toNat:Nat):Int)).toNat) (b:=(VDp p+2*Vp p+2*Mp p+280+Wp p).toNat) (by omega)
   omega
  ·omega
 refine ⟨?_,?_⟩
 ·generalize (10:Nat)^850=Z at e ⊢
  generalize (10:Int)^850=Y at e hn
  omega
 ·generalize (10:Nat)^850=Z at e ⊢
  generalize (10:Int)^850=Y at e hd
  omega
theorem B850.fb {a:Rat} (h:B850 a):Fb 2900 a:=by
 have d:(10:Nat)^850<=2^2900:=by decide+kernel
 refine ⟨?_,?_⟩
 ·show a.num.natAbs<2^2900;exact Nat.lt_of_lt_of_le h.1 d
 ·show (a.den:Int).natAbs<2^2900
  rw [Int.natAbs_natCast]
  exact Nat.lt_of_lt_of_le h.2 d
theorem Ja {p:Int} (hp:Pr p) {s:Int×Rat} (h:I91 p s) {a:Rat} (ha:Fb 210 a):x9 [.int p,tbD ⟨1,a,0,1⟩,stD s] (stD (s.1,restQ p s.1 (s.2+a))):=by
 have v:=qp (p:=p)
 have w:=zq (p:=p)
 have m:=uo (p:=p)
 have k0:=h.k0
 have k1:=h.k1
 have hM:Mp p=280+VDp p+6*Vp p:=rfl
 have fk:Fb 4400 (ppw p s.1):=(xa1 hp (k:=s.1) 1450 (by omega) (by omega)).mono (by decide)
 have fq:=(h.b hp).fb
 have z:∀{n:Nat},1<=n->Fb n (0:Rat):=fun {n} l=>fb_zero.mono l
 have o:∀{n:Nat},1<=n->Fb n (1:Rat):=fun {n} l=>fb_one.mono l
 have eT:(Tb.mk 1 a 0 1).mul (tabS p s.1 s.2)=tabS p s.1 (s.2+a):=by
  unfold Tb.mul tabS
  simp only [Tb.mk.injEq]
  refine ⟨?_,?_,?_,?_⟩<;>grind
 have fs:Fb 4400 (s.2+a):=(fq.add ha).mono (by decide)
 have c1:(1:Rat)*ppw p s.1=ppw p s.1:=Rat.one_mul _
 have c2:(1:Rat)*s.2=s.2:=Rat.one_mul _
 refine ⟨p,⟨1,a,0,1⟩,s.1,s.2,rfl,hp,by omega,by omega,?_,?_⟩
 ·have fz:Fb 4400 (0:Rat):=z (by decide)
  have fo:Fb 4400 (1:Rat):=o (by decide)
  have fa:Fb 4400 a:=ha.mono (by decide)
  have fq':Fb 4400 s.2:=fq.mono (by decide)
  refine ⟨⟨fo,fa,fz,fo⟩,⟨fk,fq',fz,fo⟩,?_,?_,?_,?_,?_,?_,?_,?_⟩
  ·show Fb 4400 (1*ppw p s.1);rw [c1];exact fk
  ·show Fb 4400 (a*0);rw [Rat.mul_zero];exact fz
  ·show Fb 4400 (1*s.2);rw [c2];exact fq'
  ·show Fb 4400 (a*1);rw [Rat.mul_one];exact fa
  ·show Fb 4400 (0*ppw p s.1);rw [Rat.zero_mul];exact fz
  ·show Fb 4400 (1*0);rw [Rat.mul_zero];exact fz
  ·show Fb 4400 (0*s.2);rw [Rat.zero_mul];exact fz
  ·show Fb 4400 (1*1);rw [Rat.mul_one];exact fo
 ·rw [eT]
  have fz:Fb 4400 (0:Rat):=z (by decide)
  have fo:Fb 4400 (1:Rat):=o (by decide)
  have l0:leastV p [(tabS p s.1 (s.2+a)).c,(tabS p s.1 (s.2+a)).d]=0:=k7 hp
  have n0:¬vq p (tabS p s.1 (s.2+a)).c=some 0:=by
   show ¬vq p 0=some 0
   rw [vq_none.mpr rfl];exact fun z=>by cases z
  have e1:(tabS p s.1 (s.2+a)).b*(tabS p s.1 (s.2+a)).d⁻¹=s.2+a:=by
   show (s.2+a)*(1:Rat)⁻¹=_
   grind
  refine ⟨p,tabS p s.1 (s.2+a),s.1,rfl,hp,⟨⟨fk,fs,fz,fo⟩,?_,?_⟩,?_,?_,?_,?_,?_,?_⟩
  ·show Fb 4400 (ppw p s.1*1);rw [Rat.mul_one];exact fk
  ·show Fb 4400 ((s.2+a)*0);rw [Rat.mul_zero];exact fz
  ·rw [uM];exact YR hp
  ·rw [l0];omega
  ·rw [l0];omega
  ·rw [l0];intro c;exact absurd c n0
  ·rw [l0,e1];intro _;exact ⟨by show (1:Rat)≠0;decide,fs⟩
  ·rw [l0,if_neg n0,e1,show s.1 - 2*0=s.1 by omega]
theorem rfrac96 {a:Rat} (h:B60 a):wl [.str (tx (ftx a))] (.ok (frD a)):=⟨tx (ftx a),rfl,(Jl h).tx,by rw [xu,QP h];rfl⟩
theorem ze (w:Str) (h:(decide (w.cps.toList.length<=200) && w.cps.toList.all (fun q=>decide (q<128/\q≠32)))=true):(w.cps.toList.length<=200/\∀q∈w.cps.toList,q<128)/\32∉w.cps.toList:=by
 simp only [Bool.and_eq_true,decide_eq_true_eq,List.all_eq_true] at h
 exact ⟨⟨h.1,fun q hq=>(h.2 q hq).1⟩,fun z=>(h.2 32 z).2 rfl⟩
theorem Qt {w:Str} {ts:List (List Nat)} (hw:(w.cps.toList.length<=200/\∀q∈w.cps.toList,q<128)/\32∉w.cps.toList) (hl:ts.length<=5) (h:∀t∈ts,t.length<=200/\∀q∈t,q<128):Tl (rowL w ts).cps.toList:=
 KL (by simp only [List.length_cons];omega) fun u hu=>by
  rcases List.mem_cons.mp hu with rfl | hu
  ·exact hw.1
  ·exact h u hu
theorem Jj {a:Rat} (h:B60 a):(ftx a).length<=200/\∀q∈ftx a,q<128:=⟨by have:=wJ h;omega,(Jl h).2⟩
theorem jQ {k:Int} {a:Rat} (hk:k.natAbs<=300) (h:B60 a):(stx k a).length<=200/\∀q∈stx k a,q<128:=⟨by have:=Uq hk h;omega,(uN (by omega) h.up).2⟩
def isVS (o:Option VD) (y:Str):Bool:=match o with
 | some (.s z)=>decide (z=y)
 | _=>false
def isVF (o:Option VD) (y:Str):Bool:=match o with
 | some (.f z)=>decide (z=y)
 | _=>false
theorem KP {o:Option VD} {y:Str} (h:isVS o y=true):o=some (.s y):=by
 cases o with
 | none=>cases h
 | some v=>
  cases v with
  | s z=>rw [of_decide_eq_true (show decide (z=y)=true from h)]
  | i n=>cases h
  | f g=>cases h
theorem W4 {o:Option VD} {y:Str} (h:isVF o y=true):o=some (.f y):=by
 cases o with
 | none=>cases h
 | some v=>
  cases v with
  | f z=>rw [of_decide_eq_true (show decide (z=y)=true from h)]
  | i n=>cases h
  | s g=>cases h
theorem uL (s:Int×Rat):txD (stD s)=tx (stx s.1 s.2):=Vh s.1 s.2
theorem Ye:∀l:List (Int×Rat),PyData.canLayAll0 (toPys (l.map stD))=true/\PyData.depthAll (toPys (l.map stD))<=3
 | []=>⟨rfl,Nat.zero_le _⟩
 | t::r=>by
  have ih:=Ye r
  have e1:PyData.canLay0 (toPy (stD t))=true:=rfl
  have e2:PyData.depth (toPy (stD t))=2:=rfl
  refine ⟨?_,?_⟩
  ·show (PyData.canLay0 (toPy (stD t)) && PyData.canLayAll0 (toPys (r.map stD)))=true
   rw [e1,ih.1]
   rfl
  ·show max (PyData.depth (toPy (stD t))) (PyData.depthAll (toPys (r.map stD)))<=3
   rw [e2]
   omega
theorem Y4 (l:List (Int×Rat)):ShL (l.map stD):=by
 have k:=Ye l
 show (PyData.canLayAll0 (toPys (l.map stD)) && decide (PyData.depthAll (toPys (l.map stD))+1<=64))=true
 rw [k.1,decide_eq_true (by omega)]
 rfl
theorem rspot96 {p:Int} (hp:Pr p) {k:Int} {a:Rat} (kb:k.natAbs<=300) (hs:isSp p k a=true) (hb:B60 a):ZX [.int p,.str (tx (stx k a))] (.ok (sptD k a)):=
 ⟨p,tx (stx k a),rfl,hp,(uN (Nat.lt_of_le_of_lt kb (by decide)) hb.up).tx,by rw [xu,UI hp kb hs hb]⟩
theorem qv {p:Int} {s:D} {rs:Rs} {r:RsM} {past:List D} {w y g:Str} {as:List Rat} (hpl:past.length<1000000) (hw:(w.cps.toList.length<=200/\∀q∈w.cps.toList,q<128)/\32∉w.cps.toList) (hw0:(("" :Str)==w)=false) (hf:isVS (lkD formsL w) y=true) (hy:(wordsS y).length=as.length) (hall:(wordsS y).all (fun f=>(lkD mostL f).isNone && decide (f∈(["F","A","B","C","D"]:List Str)))=true) (hu:w≠ "undo") (hg:isVF (lkD changesL w) g=true) (hb:∀a∈as,B60 a) (hl:as.length<=5)
  (hR:uJ g [.int p,s,.lst (as.map frD)] rs) (hr:(∃s',rs= .ok s'/\Okd s'/\r= .ok (.str (txD s')) s' (past++ [s]))∨∃y,rs= .ex y/\r= .ex y):qi (.int p) s past [.str (rowL w (as.map ftx))] r:=by
 have hall1:(wordsS y).all (fun f=>(lkD mostL f).isNone)=true:=List.all_eq_true.mpr fun f h=>(Bool.and_eq_true_iff.mp (List.all_eq_true.mp hall f h)).1
 have hall2:∀f∈wordsS y,f∈(["F","A","B","C","D"]:List Str):=fun f h=>of_decide_eq_true (Bool.and_eq_true_iff.mp (List.all_eq_true.mp hall f h)).2
 have hns:∀t∈as.map ftx,32∉t:=fun t ht=>by obtain ⟨a,_,rfl⟩:=List.mem_map.mp ht;exact QO a
 have hok:∀t∈as.map ftx,t.length<=200/\∀q∈t,q<128:=fun t ht=>by obtain ⟨a,ha,rfl⟩:=List.mem_map.mp ht;exact Jj (hb a ha)
 refine ⟨p,rowL w (as.map ftx),w,(as.map ftx).map tx,wordsS y,as.map frD,rfl,rfl,Qt hw (by rw [List.length_map];exact hl) hok,hpl,uc hw.2 hns,jc (KP hf) hw0 ?_ (by rw [List.length_map,List.length_map,hy]) hall1,by rw [List.length_map,hy],?_,.inr ⟨hu,g,rs,W4 hg,hR,hr⟩⟩
 ·intro t ht
  obtain ⟨l,hl,rfl⟩:=List.mem_map.mp ht
  obtain ⟨a,_,rfl⟩:=List.mem_map.mp hl
  exact WB (Jk a)
 ·intro i f t d h1 h2 h3
  rw [List.getElem?_map,List.getElem?_map] at h2
  rw [List.getElem?_map] at h3
  cases q:as[i]? with
  | none=>rw [q] at h3;cases h3
  | some a=>
   rw [q] at h2 h3
   cases h2
   cases h3
   exact ⟨p,f,tx (ftx a),rfl,.inr (.inr (.inl ⟨hall2 f (List.mem_of_getElem? h1),rfrac96 (hb a (List.mem_of_getElem? q))⟩))⟩
theorem ke {p:Int} (hp:Pr p) {s:D} {past:List D} {u:Int×Rat} (hpl:past.length<1000000) (kb:u.1.natAbs<=300) (hs:isSp p u.1 u.2=true) (hb:B60 u.2):qi (.int p) s past [.str (rowL "go" [stx u.1 u.2])] (.ok (.str (txD (stD u))) (stD u) (past++ [s])):=by
 have hw:=ze "go" (by decide+kernel)
 refine ⟨p,rowL "go" [stx u.1 u.2],"go",[tx (stx u.1 u.2)],["SPOT"],[stD u],rfl,rfl,Qt hw (by show 1<=5;decide) (fun t ht=>by rw [List.mem_singleton.mp ht];exact jQ kb hb),hpl,uc hw.2 (fun t ht=>by rw [List.mem_singleton.mp ht];exact jR _ _),jd (WB (Up u.1 u.2)),rfl,?_,.inr ⟨by decide,"gone",.ok (stD u),W4 (by decide+kernel),.inl ⟨rfl,stD u,?_,rfl⟩,.inl ⟨stD u,rfl,⟨u.1,u.2,rfl,by omega,hb.up⟩,rfl⟩⟩⟩
 ·intro i f t d h1 h2 h3
  rcases i with _ | i
  ·cases h1;cases h2;cases h3
   exact ⟨p,"SPOT",tx (stx u.1 u.2),rfl,.inl ⟨rfl,rspot96 hp kb hs hb⟩⟩
  ·cases h1
 ·exact ⟨_,_,_,rfl⟩
theorem uZ {p:Int} {y:Int×Rat} (hy:Okd (stD y)) {s:D} {B:List (Int×Rat)} (hB:B.length<1000):qi (.int p) s ((B++ [y]).map stD) [.str "undo"] (.ok (.str (txD (stD y))) (stD y) (B.map stD)):=
 ⟨p,"undo","undo",[],[],[],rfl,rfl,⟨by decide+kernel,by decide+kernel⟩,by rw [List.length_map,List.length_append,List.length_singleton];omega,vK,uk,rfl,(fun i f t d h=>by cases h),.inl ⟨rfl,rfl,Y4 _,.inr ⟨stD y,B.map stD,by rw [List.map_append];rfl,hy,rfl⟩⟩⟩
theorem u3 {p:Int} {s:D}:qi (.int p) s [] [.str "undo"] (.ex "NothingDone"):=
 ⟨p,"undo","undo",[],[],[],rfl,rfl,⟨by decide+kernel,by decide+kernel⟩,by decide,vK,uk,rfl,(fun i f t d h=>by cases h),.inl ⟨rfl,rfl,Y4 [],.inl ⟨rfl,rfl⟩⟩⟩
inductive Rw91 where
 | go (u:Int×Rat) | dd (m:Dd91) | un
def Dd91.w:Dd91->Str
 | .mv _=> "move"
 | .sc _=> "scale"
 | .sh _=> "shift"
 | .fl=> "flip"
def Dd91.as (p:Int):Dd91->List Rat
 | .mv m=>[fr91 p (m 0),fr91 p (m 1),fr91 p (m 2),fr91 p (m 3)]
 | .sc n=>[fr91 p n]
 | .sh n=>[fr91 p n]
 | .fl=>[]
def Dd91.ref:Dd91->Str
 | .mv _=> "NoTable"
 | _=> "NoFraction"
def Rw91.w:Rw91->Str
 | .go _=> "go"
 | .dd m=>m.w
 | .un=> "undo"
def Rw91.ps (p:Int):Rw91->List D
 | .go u=>[stD u]
 | .dd m=>(m.as p).map frD
 | .un=>[]
def Rw91.tx (p:Int):Rw91->Str
 | .go u=>rowL "go" [stx u.1 u.2]
 | .dd m=>rowL m.w ((m.as p).map ftx)
 | .un=> "undo"
def mo91 (c:Int):Nat->Int
 | 0=>c
 | n+1=>mo91 c n / 4920
def row91 (p c:Int):Rw91:=if c%8=0 then .go (spt93 p (c / 8)) else if c%8=1∨c%8=2 then .dd (.mv (mo91 (c / 8))) else if c%8=3 then .dd (.sc (c / 8)) else if c%8=4∨c%8=7 then .dd (.sh (c / 8)) else if c%8=5 then .dd .fl else .un
theorem zT {p:Int} {m:Dd91} (h:(m.tb p).det=0):(∃f,m= .mv f)∨∃n,m= .sc n/\fr91 p n=0:=by
 cases m with
 | mv f=>exact .inl ⟨f,rfl⟩
 | sc n=>
  refine .inr ⟨n,rfl,?_⟩
  unfold Dd91.tb Tb.det at h
  grind
 | sh n=>
  exfalso
  unfold Dd91.tb Tb.det at h
  grind
 | fl=>
  exfalso
  unfold Dd91.tb Tb.det at h
  grind
def Rs91 (p:Int) (s:Int×Rat) (m:Dd91) (r:Rs):Prop:=((m.tb p).det≠0/\∃d,x9 [.int p,tbD (m.tb p),stD s] d/\r= .ok d)∨((m.tb p).det=0/\r= .ex m.ref)
def Dd91.g:Dd91->Str
 | .mv _=> "moved_by"
 | .sc _=> "scaled"
 | .sh _=> "shifted"
 | .fl=> "flipped"
theorem JG {p:Int} (hp:Pr p) {s:Int×Rat} {m:Dd91} {r:Rs} (h:Rs91 p s m r):uJ m.g [.int p,stD s,.lst ((m.as p).map frD)] r:=by
 cases m with
 | mv f=>exact .inr (.inl ⟨rfl,(Dd91.mv f).tb p,_,_,rfl,X8 (Dd91.tbb hp _),h⟩)
 | sc n=>
  refine .inr (.inr (.inl ⟨rfl,fr91 p n,_,_,rfl,?_⟩))
  rcases h with ⟨h0,d,hd,rfl⟩ | ⟨h0,rfl⟩
  ·refine .inl ⟨fun z=>h0 ?_,d,hd,rfl⟩
   unfold Dd91.tb Tb.det
   grind
  ·rcases zT h0 with ⟨_,e⟩ | ⟨_,e,z⟩
   ·cases e
   ·cases e;exact .inr ⟨z,rfl⟩
 | sh n=>
  rcases h with ⟨h0,d,hd,rfl⟩ | ⟨h0,rfl⟩
  ·exact .inr (.inr (.inr (.inl ⟨rfl,d,⟨_,_,_,rfl,hd⟩,rfl⟩)))
  ·rcases zT h0 with ⟨_,e⟩ | ⟨_,e,z⟩<;>cases e
 | fl=>
  rcases h with ⟨h0,d,hd,rfl⟩ | ⟨h0,rfl⟩
  ·exact .inr (.inr (.inr (.inr ⟨rfl,d,⟨_,_,rfl,hd⟩,rfl⟩)))
  ·rcases zT h0 with ⟨_,e⟩ | ⟨_,e,z⟩<;>cases e
theorem YL {p:Int} (hp:Pr p) {m:Dd91}:∀a∈m.as p,B60 a:=fun a ha=>by
 cases m with
 | mv f=>
  simp only [Dd91.as,List.mem_cons,List.not_mem_nil,or_false] at ha
  rcases ha with rfl | rfl | rfl | rfl<;>exact wK hp _
 | sc n=>rw [List.mem_singleton.mp ha];exact wK hp _
 | sh n=>rw [List.mem_singleton.mp ha];exact wK hp _
 | fl=>cases ha
theorem Qk {p:Int} (hp:Pr p) {s:Int×Rat} {past:List D} (hpl:past.length<1000000) {m:Dd91} {rs:Rs} {r:RsM} (h:Rs91 p s m rs) (hr:(∃s',rs= .ok s'/\Okd s'/\r= .ok (.str (txD s')) s' (past++ [stD s]))∨∃y,rs= .ex y/\r= .ex y):qi (.int p) (stD s) past [.str (rowL m.w ((m.as p).map ftx))] r:=by
 have c:=JG hp h
 have b:=YL hp (m:=m)
 cases m with
 | mv f=>exact qv (w:= "move") (y:= "A B C D") (g:= "moved_by") hpl (ze _ (by decide+kernel)) (by decide+kernel) (by decide+kernel) (by show (wordsS "A B C D").length=4;decide+kernel) (by decide+kernel) (by decide+kernel) (by decide+kernel) b (by show 4<=5;decide) c hr
 | sc n=>exact qv (w:= "scale") (y:= "F") (g:= "scaled") hpl (ze _ (by decide+kernel)) (by decide+kernel) (by decide+kernel) (by show (wordsS "F").length=1;decide+kernel) (by decide+kernel) (by decide+kernel) (by decide+kernel) b (by show 1<=5;decide) c hr
 | sh n=>exact qv (w:= "shift") (y:= "F") (g:= "shifted") hpl (ze _ (by decide+kernel)) (by decide+kernel) (by decide+kernel) (by show (wordsS "F").length=1;decide+kernel) (by decide+kernel) (by decide+kernel) (by decide+kernel) b (by show 1<=5;decide) c hr
 | fl=>exact qv (w:= "flip") (y:= "") (g:= "flipped") hpl (ze _ (by decide+kernel)) (by decide+kernel) (by decide+kernel) (by show (wordsS "").length=0;decide+kernel) (by decide+kernel) (by decide+kernel) (by decide+kernel) b (by show 0<=5;decide) c hr
theorem kJ {p k:Int} (hp:Pr p) {q:Rat} (h:isSp p k q=true):Own p k q:=by
 have e:=(wI hp k q).mpr h
 have r:=Xs hp k q
 rw [e] at r
 exact r
theorem Yv {p:Int} (hp:Pr p):¬(1:Int)%p=0:=by rcases hp with rfl | rfl | rfl | rfl<;>decide
theorem JA {p:Int} (hp:Pr p) (n:Int):Dv p 0 (n:Rat):=⟨n,1,Yv hp,by
 have o:((1:Int):Rat)=1:=rfl
 rw [o,vR]⟩
theorem K7 {p:Int} (hp:Pr p) (t:Int) (e:Nat):Dv p (-(e:Int)) (Rat.divInt t (p^e)):=by
 have d:=we t (b:=p^e) (by have:=yb hp e;omega)
 have i:=uC hp (e:Int)
 rw [xN] at i
 refine ⟨t,1,Yv hp,?_⟩
 have o:((1:Int):Rat)=1:=rfl
 rw [o,<-d]
 grind
theorem Ki {p:Int} (hp:Pr p) (c:Int):I91 p (spt93 p c):=by
 have v:=qp (p:=p)
 have w:=zq (p:=p)
 have m:=uo (p:=p)
 have g:=Z3 hp c
 have kb:=g.kb
 have key:Dv p ((spt93 p c).1 - Mp p) (spt93 p c).2/\Dv p (-18) (spt93 p c).2∨Dv p 0 (spt93 p c).2:=by
  unfold spt93
  split
  ·exact .inr (JA hp _)
  ·have b:=ZN c
   have d:=K7 hp (nm93 c%p^(c%25 - 12+dp93 c).toNat) (dp93 c).toNat
   exact .inl ⟨xx hp (by show c%25 - 12 - Mp p<=_;omega) d,xx hp (by omega) d⟩
 refine ⟨kJ hp g.sp,by omega,by omega,?_,?_⟩
 ·rcases key with ⟨_,d⟩ | d
  ·exact xx hp (by omega) d
  ·exact xx hp (by omega) d
 ·rcases key with ⟨d,_⟩ | d
  ·exact .inl d
  ·exact .inr (xx hp (by omega) d)
theorem I91.okd {p:Int} (hp:Pr p) {s:Int×Rat} (h:I91 p s):Okd (stD s):=by
 have v:=qp (p:=p)
 have w:=zq (p:=p)
 have m:=uo (p:=p)
 have k0:=h.k0
 have k1:=h.k1
 exact ⟨s.1,s.2,rfl,by omega,h.b hp⟩
theorem V5 {p:Int} (hp:Pr p) {s:Int×Rat} (h:I91 p s) {a:Rat} (ha:Dv p (-(Wp p)) a):Okd (stD (s.1,restQ p s.1 (s.2+a))):=by
 have v:=qp (p:=p)
 have w:=zq (p:=p)
 have m:=uo (p:=p)
 have k0:=h.k0
 have k1:=h.k1
 exact ⟨s.1,_,rfl,by omega,k9 hp h ha⟩
def JT (ds:List D) (d:D):Prop:=∃c j:Int,ds=[.int c,.int j]/\0<=j/\j<=4/\d= .int (mo91 c j.toNat)
def xal (ds:List D) (d:D):Prop:=∃p n:Int,ds=[.int p,.int n]/\Pr p/\d=frD (fr91 p n)
def JU (ds:List D) (d:D):Prop:=∃p c:Int,ds=[.int p,.int c]/\Pr p/\0<=c/\d= .tup [.str (row91 p c).w,.lst ((row91 p c).ps p)]
def wW (ds:List D) (d:D):Prop:=(∃u:Int×Rat,ds=[.str "go",.lst [stD u]]/\Okd (stD u)/\d= .str (rowL "go" [stx u.1 u.2]))∨∃(w:Str) (as:List Rat),ds=[.str w,.lst (as.map frD)]/\w≠ "go" /\w.length<=100/\as.length<=4/\(∀a∈as,B60 a)/\d= .str (rowL w (as.map ftx))
def Uk (ds:List D) (r:Rs):Prop:=∃(p:Int) (s:Int×Rat) (rw:Rw91),ds=[.int p,.str rw.w,.lst (rw.ps p),stD s]/\Pr p/\((∃u,rw= .go u/\r= .ok (stD u))∨∃m,rw= .dd m/\Rs91 p s m r)
def zw (y:Str) (d:D):Prop:=(y= "NoFraction" /\d= .str "fraction")∨(y= "NoTable" /\d= .str "table")∨(y= "NothingDone" /\d= .str "nothing")
def YN (ds:List D) (d:D):Prop:=∃r,Uk ds r/\(match r with
 | .ok e=>d= .tup [e,.str ""]
 | .ex y=>∃z,zw y (.str z)/\d= .tup [.non,.str z])
def zr (p s:D) (past ds:List D) (r:RsM):Prop:=∃(x:Str) (rs:RsM),ds=[.str x]/\qi p s past [.str x] rs/\(match rs with
 | .ok d s' past'=>(∃y,d= .str y)/\r= .ok (.tup [.str "",d]) s' past'
 | .ex y=>∃z,zw y (.str z)/\z≠ "" /\r= .ok (.tup [.str z,.non]) s past)
def JX (_ s:D) (past ds es:List D) (r:RsM):Prop:=∃u:Int×Rat,s=stD u/\ds=[s]/\es.length=past.length/\past.length<1000000/\r= .ok (.bl true) s past
theorem Yy {a b:Rat} (h:frD a=frD b):a=b:=by
 have h1:a.num=b.num:=by injection h with h;injection h with h1 h2;injection h1
 have h2:(a.den:Int)=(b.den:Int):=by injection h with h;injection h with h1 h2;injection h2 with h2 _;injection h2
 exact Rat.ext h1 (by exact_mod_cast h2)
theorem yp {u:Int×Rat} (h:Okd (stD u)):u.1.natAbs<10^4/\B500 u.2:=by
 obtain ⟨k,a,e,hk,hB⟩:=h
 have e1:u.1=k:=by injection e with e;injection e with e1 e2;injection e1
 have e2:frD u.2=frD a:=by injection e with e;injection e with e1 e2;injection e2
 exact ⟨by rw [e1];exact hk,by rw [Yy e2];exact hB⟩
theorem KR (u:Int×Rat):("go" :Str)++(" " :Str)++tx (stx u.1 u.2)=rowL "go" [stx u.1 u.2]:=by
 unfold rowL
 rw [<-zg (("go" :Str)++(" " :Str)++tx (stx u.1 u.2)),xw,xu]
 rfl
theorem V7 (w:Str) (as:List Rat):Txt.join " " (w::as.map fun a=>tx (ftx a))=rowL w (as.map ftx):=by
 unfold rowL
 rw [<-QK,List.map_cons,zg,List.map_map]
 rfl
def xak (ds:List D) (d:D):Prop:=∃u:Int×Rat,ds=[stD u]/\u.1.natAbs<10^4/\B500 u.2/\d= .str (tx (stx u.1 u.2))
def words91:List Str:=["go","move","move","scale","shift","flip","undo","shift"]
theorem QS {Y:Cy} {e:Expr} {c c':List Slot} {d d':D} (h:EvS Y e c d c') (q:d=d'):EvS Y e c d' c':=q▸h
def xag (ds:List D) (d:D):Prop:=∃i:Int,ds=[.int i]/\d= .bl true
theorem jV {Y:Cy} {c:List Slot} {pos:Pos} {t:Expr} {sa sb rest:List Stmt} {v:Bool} {P:Out->Prop} (J:List Slot->Prop) (ht:TeD Y t c v) (ha:v=true->SsD Y sa c (Jn J P)) (hb:v=false->SsD Y sb c (Jn J P)) (hr:∀c',J c'->SsD Y rest c' P):SsD Y (.If t sa sb pos::rest) c P:=by
 have k:∀{sts:List Stmt},SsD Y sts c (Jn J P)->SsD Y sts c (Thn Y rest P):=fun {sts} h=>PSs.imp h fun D σ H ⟨F,E,m⟩=>⟨F,E,fun o ho=>m o (by
  cases o with
  | nx c'=>exact hr c' ho
  | rt d=>exact ho
  | bk c'=>exact ho
  | ct c'=>exact ho
  | ro ds=>exact ho
  | rs R=>exact ho)⟩
 exact xo ht (fun h=>k (ha h)) (fun h=>k (hb h))
def RwI (p:Int):Rw91->Prop
 | .go u=>Gs p u/\I91 p u
 | _=>True
theorem Ko {p:Int} (hp:Pr p) (c:Int):RwI p (row91 p c):=by
 unfold row91
 split
 ·exact ⟨Z3 hp _,Ki hp _⟩
 ·split
  ·trivial
  ·split
   ·trivial
   ·split
    ·trivial
    ·split<;>trivial
structure Due91 (p:Int) (x:Int×Rat) (B:List (Int×Rat)) (t:Str) (m:Nat) (x':Int×Rat) (B':List (Int×Rat)) (rf:Str):Prop where
 ix:I91 p x'
 iB:∀u∈B',I91 p u
 len:B'.length<=m+1
 said:(rf= "" /\zr (.int p) (stD x) (B.map stD) [.str t] (.ok (.tup [.str "",.str (tx (stx x'.1 x'.2))]) (stD x') (B'.map stD)))∨(rf∈(["fraction","table","nothing"]:List Str)/\zr (.int p) (stD x) (B.map stD) [.str t] (.ok (.tup [.str rf,.non]) (stD x') (B'.map stD)))
def fin91 (x:Int×Rat) (B:List (Int×Rat)):Option (Int×Rat)->(Int×Rat)×List (Int×Rat)
 | none=>(x,B)
 | some u=>(u,B++ [x])
def opD (o:Option (Int×Rat)):D:=match o with
 | none=> .non
 | some u=>stD u
theorem Wr {p:Int} {x:Int×Rat} {m:Nat} (h:I91 p x):Due91 p x [] "undo" m x [] "nothing" :=
 ⟨h,(fun u hu=>by cases hu),Nat.zero_le _,.inr ⟨by simp,"undo",.ex "NothingDone",rfl,u3,"nothing",.inr (.inr ⟨rfl,rfl⟩),by decide+kernel,rfl⟩⟩
theorem Wq {p:Int} (hp:Pr p) {x y:Int×Rat} {B:List (Int×Rat)} {m:Nat} (hm:m<900) (hB:∀u∈B++ [y],I91 p u) (hl:(B++ [y]).length<=m):Due91 p x (B++ [y]) "undo" m y B "" :=by
 have l:B.length+1<=m:=by simpa using hl
 have hy:=hB y (by simp)
 refine ⟨hy,fun u hu=>hB u (List.mem_append_left _ hu),by omega,.inl ⟨rfl,"undo",_,rfl,uZ (hy.okd hp) (by omega),⟨_,rfl⟩,?_⟩⟩
 rw [uL]
theorem jo {p:Int} (hp:Pr p) {x u:Int×Rat} {B:List (Int×Rat)} {m:Nat} (hm:m<900) (hx:I91 p x) (hB:∀u∈B,I91 p u) (hl:B.length<=m) (hu:RwI p (.go u)):Due91 p x B (rowL "go" [stx u.1 u.2]) m u (B++ [x]) "" :=by
 refine ⟨hu.2,fun w hw=>?_,by simpa using hl,.inl ⟨rfl,_,_,rfl,ke hp (by rw [List.length_map];omega) hu.1.kb hu.1.sp hu.1.b,⟨_,rfl⟩,?_⟩⟩
 ·rcases List.mem_append.mp hw with h | h
  ·exact hB w h
  ·rw [List.mem_singleton.mp h];exact hx
 ·rw [uL,List.map_append];rfl
def Dd91.z:Dd91->Str
 | .mv _=> "table"
 | _=> "fraction"
theorem Kp {p:Int} {m:Dd91} (h:(m.tb p).det=0):zw m.ref (.str m.z)/\m.z∈(["fraction","table","nothing"]:List Str)/\m.z≠ "" :=by
 rcases zT h with ⟨f,rfl⟩ | ⟨n,rfl,_⟩
 ·exact ⟨.inr (.inl ⟨rfl,rfl⟩),by show ("table" :Str)∈_;simp,by show ("table" :Str)≠ "";decide⟩
 ·exact ⟨.inl ⟨rfl,rfl⟩,by show ("fraction" :Str)∈_;simp,by show ("fraction" :Str)≠ "";decide⟩
theorem J9 {p:Int} (hp:Pr p) {x:Int×Rat} {B:List (Int×Rat)} {m:Nat} (hm:m<900) (hx:I91 p x) (hB:∀u∈B,I91 p u) (hl:B.length<=m) {rw:Rw91} (hr:RwI p rw) (hu:rw≠ .un) (hk:(∃u,rw= .go u)∨x.1.natAbs<=280):
  ∃(bh:Option (Int×Rat)) (rf:Str),YN [.int p,.str rw.w,.lst (rw.ps p),stD x] (.tup [opD bh,.str rf])/\Due91 p x B (rw.tx p) m (fin91 x B bh).1 (fin91 x B bh).2 rf:=by
 cases rw with
 | un=>exact absurd rfl hu
 | go u=>exact ⟨some u,"",⟨.ok (stD u),⟨p,x,.go u,rfl,hp,.inl ⟨u,rfl,rfl⟩⟩,rfl⟩,jo hp hm hx hB hl hr⟩
 | dd d=>
  have k:x.1.natAbs<=280:=by
   rcases hk with ⟨u,e⟩ | k
   ·cases e
   ·exact k
  by_cases h0:(d.tb p).det=0
  ·obtain ⟨r1,r2,r3⟩:=Kp h0
   refine ⟨none,d.z,⟨.ex d.ref,⟨p,x,.dd d,rfl,hp,.inr ⟨d,rfl,.inr ⟨h0,rfl⟩⟩⟩,d.z,r1,rfl⟩,⟨hx,hB,by show B.length<=_;omega,.inr ⟨r2,_,.ex d.ref,rfl,Qk hp (by rw [List.length_map];omega) (.inr ⟨h0,rfl⟩) (.inr ⟨_,rfl,rfl⟩),d.z,r1,r3,rfl⟩⟩⟩
  ·have R:=xbi hp hx (by omega) (by omega) h0
   have I:=I91.mov hp hx (by omega) (by omega) h0
   refine ⟨some (movS p (d.tb p) x),"",⟨.ok (stD (movS p (d.tb p) x)),⟨p,x,.dd d,rfl,hp,.inr ⟨d,rfl,.inl ⟨h0,_,R,rfl⟩⟩⟩,rfl⟩,⟨I,fun w hw=>?_,by show (B++ [x]).length<=_;simpa using hl,.inl ⟨rfl,_,.ok (.str (txD (stD (movS p (d.tb p) x)))) (stD (movS p (d.tb p) x)) (B.map stD++ [stD x]),rfl,Qk hp (by rw [List.length_map];omega) (.inl ⟨h0,_,R,rfl⟩) (.inl ⟨_,rfl,I.okd hp,rfl⟩),⟨_,rfl⟩,?_⟩⟩⟩
   ·have hw:w∈B++ [x]:=hw
    rcases List.mem_append.mp hw with h | h
    ·exact hB w h
    ·rw [List.mem_singleton.mp h];exact hx
   ·show RsM.ok _ _ ((B++ [x]).map stD)=_
    rw [uL,List.map_append];rfl
theorem xaC (d:Dd91):¬d.w= "go" /\d.w.length<=100:=by
 cases d with
 | mv f=>exact (show ¬("move" :Str)= "go" /\("move" :Str).length<=100 by decide+kernel)
 | sc n=>exact (show ¬("scale" :Str)= "go" /\("scale" :Str).length<=100 by decide+kernel)
 | sh n=>exact (show ¬("shift" :Str)= "go" /\("shift" :Str).length<=100 by decide+kernel)
 | fl=>exact (show ¬("flip" :Str)= "go" /\("flip" :Str).length<=100 by decide+kernel)
theorem xaJ {p:Int} (hp:Pr p) {rw:Rw91} (hr:RwI p rw):wW [.str rw.w,.lst (rw.ps p)] (.str (rw.tx p)):=by
 cases rw with
 | un=>exact .inr ⟨"undo",[],rfl,by decide,by decide+kernel,by decide,(fun a ha=>by cases ha),congrArg D.str (show ("undo" :Str)=rowL "undo" [] by decide+kernel)⟩
 | go u=>exact .inl ⟨u,rfl,⟨u.1,u.2,rfl,by have:=hr.1.kb;omega,hr.1.b.up⟩,rfl⟩
 | dd d=>exact .inr ⟨d.w,d.as p,rfl,(xaC d).1,(xaC d).2,by cases d<;>(first | (show 4<=4;decide) | (show 1<=4;decide) | (show 0<=4;decide)),YL hp,rfl⟩
theorem Q0 (B:List (Int×Rat)) (y:Int×Rat):eqD (.lst ((B++ [y]).map stD)) (.lst [])=false:=by
 cases B<;>rfl
theorem Zd {rf:Str} (h:rf∈(["fraction","table","nothing"]:List Str)):(rf==("" :Str))=false/\eqD (.tup [.str rf,.non]) (.tup [.str rf,.non])=true/\SeqAt.shaped (toPy (.tup [.str rf,.non]))=true:=by
 simp only [List.mem_cons,List.not_mem_nil,or_false] at h
 rcases h with rfl | rfl | rfl<;>decide+kernel
theorem xbW {rw:Rw91} (h:(rw.w==("undo" :Str))=true):rw= .un:=by
 have h:rw.w= "undo" :=by simpa using h
 cases rw with
 | un=>rfl
 | go u=>exact absurd h (show ¬("go" :Str)= "undo" by decide)
 | dd d=>
  cases d with
  | mv f=>exact absurd h (show ¬("move" :Str)= "undo" by decide)
  | sc n=>exact absurd h (show ¬("scale" :Str)= "undo" by decide)
  | sh n=>exact absurd h (show ¬("shift" :Str)= "undo" by decide)
  | fl=>exact absurd h (show ¬("flip" :Str)= "undo" by decide)
theorem xbf {rw:Rw91} (h:(rw.w==("undo" :Str))=false):rw≠ .un:=fun z=>by
 rw [z] at h
 revert h
 show (("undo" :Str)==("undo" :Str))=false->False
 decide+kernel
theorem XA (B:List (Int×Rat)):B=[]∨∃B0 y,B=B0++ [y]:=by
 by_cases h:B=[]
 ·exact .inl h
 ·exact .inr ⟨B.dropLast,B.getLast h,(List.dropLast_concat_getLast h).symm⟩
theorem xaH {p:Int} {y:Int×Rat} (hy:Okd (stD y)) {s:D} {B:List (Int×Rat)} (hB:B.length<1000):zr (.int p) s ((B++ [y]).map stD) [.str "undo"] (.ok (.tup [.str "",.str (tx (stx y.1 y.2))]) (stD y) (B.map stD)):=
 ⟨"undo",_,rfl,uZ hy hB,⟨_,rfl⟩,by rw [uL]⟩
theorem xbg {p:Int} {s:D}:zr (.int p) s [] [.str "undo"] (.ok (.tup [.str "nothing",.non]) s []):=
 ⟨"undo",.ex "NothingDone",rfl,u3,"nothing",.inr (.inr ⟨rfl,rfl⟩),by decide+kernel,rfl⟩
structure Last91 (p:Int) (x:Int×Rat) (B:List (Int×Rat)) (a:Rat) (x':Int×Rat):Prop where
 okd:Okd (stD x')
 said:zr (.int p) (stD x) (B.map stD) [.str (rowL "shift" [ftx a])] (.ok (.tup [.str "",.str (tx (stx x'.1 x'.2))]) (stD x') ((B++ [x]).map stD))
 text:wW [.str "shift",.lst [frD a]] (.str (rowL "shift" [ftx a]))
 mov:x9 [.int p,tbD ⟨1,a,0,1⟩,stD x] (stD x')
theorem KK {p:Int} (hp:Pr p) {x:Int×Rat} {B:List (Int×Rat)} (hl:B.length<=900) (hx:I91 p x) {t b:Int} (t0: -(10^59)<=t) (t1:t<=10^59) (b0:1<=b) (b1:b<=10^18):Last91 p x B (Rat.divInt t b) (x.1,restQ p x.1 (x.2+Rat.divInt t b)):=by
 have n:=Xy t (show b≠0 by omega)
 have e1:(10:Int)^59=((10^59:Nat):Int):=by decide+kernel
 have e2:(10:Int)^18=((10^18:Nat):Int):=by decide+kernel
 rw [e1] at t0 t1
 have dv:=U5 hp (t:=t) b0 b1
 rw [e2] at b1
 have c1:(10:Nat)^59<10^60:=by decide+kernel
 have c2:(10:Nat)^18<10^60:=by decide+kernel
 have c3:(10:Nat)^59<2^210:=by decide+kernel
 have c4:(10:Nat)^18<2^210:=by decide+kernel
 generalize (10:Nat)^59=X at*
 generalize (10:Nat)^18=Z at*
 have tn:t.natAbs<=X:=by omega
 have bn:b.natAbs<=Z:=by omega
 have b60:B60 (Rat.divInt t b):=⟨by omega,by omega⟩
 have fb:Fb 210 (Rat.divInt t b):=⟨Nat.lt_of_le_of_lt n.1 (Nat.lt_of_le_of_lt tn c3),by
  show ((Rat.divInt t b).den:Int).natAbs<2^210
  rw [Int.natAbs_natCast]
  exact Nat.lt_of_le_of_lt n.2 (Nat.lt_of_le_of_lt bn c4)⟩
 have R:=Ja hp hx fb
 have O:=V5 hp hx dv
 generalize Rat.divInt t b=a at*
 refine ⟨O,?_,.inr ⟨"shift",[a],rfl,by decide,by decide+kernel,by show 1<=4;decide,(fun c hc=>by rw [List.mem_singleton.mp hc];exact b60),rfl⟩,R⟩
 have hc:uJ "shifted" [.int p,stD x,.lst ([a].map frD)] (.ok (stD (x.1,restQ p x.1 (x.2+a)))):= .inr (.inr (.inr (.inl ⟨rfl,_,⟨a,_,_,rfl,R⟩,rfl⟩)))
 have hs:=qv (past:=B.map stD) (r:= .ok (.str (txD (stD (x.1,restQ p x.1 (x.2+a))))) (stD (x.1,restQ p x.1 (x.2+a))) (B.map stD++ [stD x])) (w:= "shift") (y:= "F") (g:= "shifted") (as:=[a]) (by rw [List.length_map];omega) (ze _ (by decide+kernel)) (by decide+kernel) (by decide+kernel) (by show (wordsS "F").length=1;decide+kernel) (by decide+kernel) (by decide+kernel) (by decide+kernel) (fun c hc=>by rw [List.mem_singleton.mp hc];exact b60) (by show 1<=5;decide) hc (.inl ⟨_,rfl,O,rfl⟩)
 refine ⟨_,_,rfl,hs,⟨_,rfl⟩,?_⟩
 rw [uL,List.map_append];rfl
theorem jM (c:Int): -(10^59)<=c%10^(59:Int).toNat*1442695040888963407^(3:Int).toNat%(2*10^(59:Int).toNat) - 10^(59:Int).toNat/\c%10^(59:Int).toNat*1442695040888963407^(3:Int).toNat%(2*10^(59:Int).toNat) - 10^(59:Int).toNat<=10^59:=by
 have e:(10:Int)^(59:Int).toNat=10^59:=rfl
 rw [e]
 have z:(0:Int)<10^59:=by decide+kernel
 generalize c%10^59*1442695040888963407^(3:Int).toNat=w
 generalize (10:Int)^59=X at z ⊢
 have a:=Int.emod_nonneg w (show 2*X≠0 by omega)
 have b:=Int.emod_lt_of_pos w (show 0<2*X by omega)
 omega
theorem Um (c:Int):IntMulOk (c%10^(59:Int).toNat) (1442695040888963407^(3:Int).toNat):=by
 have z:(0:Int)<10^(59:Int).toNat:=by decide+kernel
 have b:=Int.emod_lt_of_pos c z
 have k:(10:Int)^(59:Int).toNat<=2^200:=by decide+kernel
 generalize (10:Int)^(59:Int).toNat=X at z b k ⊢
 have a:=Int.emod_nonneg c (show X≠0 by omega)
 exact mulOk (Bd.of (n:=200) X (by omega) b k) (Bd.of (n:=200) (2^199) (by decide+kernel) (by decide+kernel) (by decide+kernel)) (by decide)
theorem JJ (c:Int):1<=1+c%10^(18:Int).toNat/\1+c%10^(18:Int).toNat<=10^18/\Bd 8900 (1+c%10^(18:Int).toNat):=by
 have e:(10:Int)^(18:Int).toNat=1000000000000000000:=by decide+kernel
 have e2:(10:Int)^18=1000000000000000000:=by decide+kernel
 rw [e,e2]
 have a:=Int.emod_nonneg c (show (1000000000000000000:Int)≠0 by decide)
 have b:=Int.emod_lt_of_pos c (show (0:Int)<1000000000000000000 by decide)
 exact ⟨by omega,by omega,Bd.of (n:=8900) 1000000000000000002 (by omega) (by omega) (by decide+kernel)⟩
def top (i:Nat):Stmt:=PySem.Challenge.pw_primetree_k91_deeds_at_the_desk.main.body.getD i (.Pass ⟨0,0,0,0⟩)
abbrev Xk:Stmt:=mth (top 131) 0
abbrev Za:Stmt:=mth (top 131) 1
abbrev Xg:Stmt:=mth (top 131) 2
abbrev wx:Stmt:=mth (top 131) 3
abbrev Zb:Stmt:=mth (top 131) 4
abbrev u4:Stmt:=mth (top 131) 5
abbrev z5:Stmt:=mth (top 73) 0
abbrev z3:Stmt:=mth (top 74) 0
abbrev vm:Stmt:=mth (top 74) 2
abbrev vo:Stmt:=mth (top 75) 0
abbrev vk:Stmt:=mth (top 75) 2
abbrev ww:Stmt:=mth (top 76) 1
structure Mo (T:Tx):Prop where
 nd:ndK T.K=true
 gb:T.mg "isinstance" =none
 mD:T.mg "int" =none
 nY:T.mg "bool" =none
 ny:T.mg "abs" =none
 gC:T.mg "tuple" =none
 g6:T.mg "len" =none
 rS:T.mg "min" =none
 nz:T.mg "str" =none
 nA:T.mg "reversed" =none
 sK:T.mg "all" =none
 m4:T.mg "range" =none
 sE:T.mg "max" =none
 mO:T.mg "ValueError" =none
 nZ:At T "is_whole" (top 14)
 rT:At T "shared" (top 15)
 n4:At T "power_of" (top 16)
 rB:At T "raised" (top 17)
 n5:At T "over_by" (top 18)
 sL:At T "over_by_prime" (top 19)
 n6:AtV T "fraction" (top 23) 1
 nD:At T "is_fraction" (top 24)
 sG:At T "plus" (top 25)
 sr:At T "minus" (top 26)
 ss:At T "times" (top 27)
 sH:At T "over" (top 28)
 n9:At T "power_in" (top 29)
 nv:At T "prime_power" (top 30)
 nO:At T "rest_by" (top 32)
 rc:At T "table_of" (top 34)
 rC:At T "measure" (top 35)
 rD:At T "product" (top 37)
 nq:At T "row_by_column" (top 38)
 rE:At T "is_spot" (top 43)
 rF:At T "spot_of" (top 44)
 re:At T "table_at" (top 45)
 nE:At T "least_power" (top 47)
 nj:At T "fraction_text" (top 58)
 nF:At T "whole_text" (top 59)
 nP:At T "spot_text" (top 60)
 nJ:At T "is_figures" (top 61)
 nw:At T "read_figures" (top 62)
 nK:At T "read_whole" (top 63)
 nr:At T "read_fraction" (top 64)
 nG:At T "read_spot" (top 65)
 rg:At T "read_end" (top 66)
 rG:At T "moved" (top 71)
 rV:At T "form_of" (top 108)
 rH:At T "is_number_to" (top 109)
 rJ:At T "read_word" (top 110)
 rK:At T "table_from" (top 111)
 rW:At T "gone" (top 112)
 rL:At T "moved_by" (top 113)
 rh:At T "scaled" (top 114)
 nQ:At T "shifted" (top 115)
 nR:At T "flipped" (top 116)
 su:At T "_law_cell" (top 133)
 rX:At T "_law_more" (top 134)
 sv:At T "_law_whole" (top 135)
 sI:At T "_law_low" (top 136)
 sM:At T "_law_power" (top 137)
 rY:At T "_law_spot" (top 139)
 ri:At T "_law_fraction_text" (top 140)
 sw:At T "_law_spot_text" (top 141)
 sy:At T "_law_fraction" (top 143)
 nT:At T "_law_refusal" (top 145)
 rZ:At T "_law_said" (top 146)
 r6:At T "_law_row" (top 147)
 rM:At T "_law_text" (top 148)
 sA:At T "_law_behind" (top 149)
 rN:At T "_law_tried" (top 150)
 r9:At T "_law_lies" (top 151)
 mF:∃C,T.mg "Desk" =some (.ref C)
 gz:∀C,T.mg "Desk" =some (.ref C)->DskK T.K C
 sd:∃C f fd,T.mg "Desk" =some (.ref C)/\Mk T.K C f/\Fun T.K "__init__" "Desk.__init__" Xk f fd
 sB:∃C f fd,T.mg "Desk" =some (.ref C)/\Meth T.K C "say" f/\Fun T.K "say" "Desk.say" Za f fd
 se:∃C f fd,T.mg "Desk" =some (.ref C)/\Meth T.K C "lies" f/\Fun T.K "lies" "Desk.lies" Xg f fd
 rO:∃C f fd,T.mg "Desk" =some (.ref C)/\Meth T.K C "steps" f/\Fun T.K "steps" "Desk.steps" wx f fd
 sC:∃C f fd,T.mg "Desk" =some (.ref C)/\Meth T.K C "lay" f/\Fun T.K "lay" "Desk.lay" Zb f fd
 si:∃C f fd,T.mg "Desk" =some (.ref C)/\Meth T.K C "undo" f/\Fun T.K "undo" "Desk.undo" u4 f fd
 m5:∀C,T.mg "Scale" =some (.ref C)->Cls T.K C/\NoAttr T.K C "number"
 m6:∀C,T.mg "Shift" =some (.ref C)->Cls T.K C/\NoAttr T.K C "number"
 sj:∀C,T.mg "Flip" =some (.ref C)->Cls T.K C/\NoAttr T.K C "number"
 sk:∃C,T.mg "Flip" =some (.ref C)/\PySem.W.makesIn T.K C=true/\PySem.W.findIn T.K (.ref C) "__init__" =some (some (.builtin "object.__init__"))/\PySem.W.keepIn T.K (.ref C)=true
 nH:∃C f fd,T.mg "Scale" =some (.ref C)/\Meth T.K C "done" f/\Fun T.K "done" "Deed.done" z5 f fd
 nI:∃C f fd,T.mg "Shift" =some (.ref C)/\Meth T.K C "done" f/\Fun T.K "done" "Deed.done" z5 f fd
 nL:∃C f fd,T.mg "Flip" =some (.ref C)/\Meth T.K C "done" f/\Fun T.K "done" "Deed.done" z5 f fd
 nM:∃C f fd,T.mg "Scale" =some (.ref C)/\Mk T.K C f/\Fun T.K "__init__" "Scale.__init__" z3 f fd
 rj:∃C f fd,T.mg "Scale" =some (.ref C)/\Meth T.K C "table" f/\Fun T.K "table" "Scale.table" vm f fd
 rk:∃C f fd,T.mg "Shift" =some (.ref C)/\Mk T.K C f/\Fun T.K "__init__" "Shift.__init__" vo f fd
 rl:∃C f fd,T.mg "Shift" =some (.ref C)/\Meth T.K C "table" f/\Fun T.K "table" "Shift.table" vk f fd
 rP:∃C f fd,T.mg "Flip" =some (.ref C)/\Meth T.K C "table" f/\Fun T.K "table" "Flip.table" ww f fd
 rm:DicV T "FORMS" [("go",.s "SPOT"),("move",.s "A B C D"),("scale",.s "F"),("shift",.s "F"),("flip",.s ""),("undo",.s ""),("ties",.s ""),("road",.s "SPOT"),("towards",.s "END STEPS"),("way",.s "SPOT"),("meet",.s "SPOT SPOT"),("near",.s "END END"),("within",.s "REACH"),("kind",.s "A B C D"),("numbers",.s "A B C D"),("figures",.s "F")]
 nh:DicV T "MOST" [("STEPS",.i 300),("REACH",.i 7)]
 nN:DicV T "CHANGES" [("go",.f "gone"),("move",.f "moved_by"),("scale",.f "scaled"),("shift",.f "shifted"),("flip",.f "flipped")]
 sq:DicV T "QUESTIONS" [("ties",.f "ties_text"),("road",.f "road_text"),("towards",.f "towards_text"),("way",.f "way_text"),("meet",.f "meet_text"),("near",.f "near_text"),("within",.f "within_text"),("kind",.f "kind_text"),("numbers",.f "numbers_text"),("figures",.f "figures_text")]
 gF:∃C,T.mg "TreeError" =some (.ref C)
 g4:∃C,T.mg "NoPrime" =some (.ref C)
 gh:∃C,T.mg "NoFraction" =some (.ref C)
 gr:∃C,T.mg "NoText" =some (.ref C)
 gu:∃C,T.mg "NoSpot" =some (.ref C)
 gm:∃C,T.mg "NoTable" =some (.ref C)
 g5:∃C,T.mg "TooMany" =some (.ref C)
 hV:∃C,T.mg "NoLine" =some (.ref C)
 gB:∃C,T.mg "NoRow" =some (.ref C)
 gd:∃C,T.mg "NothingDone" =some (.ref C)
 hW:∃C,T.mg "TooFar" =some (.ref C)
 gg:ClsX T "NoFraction"
 gA:∀C,T.mg "NoFraction" =some (.ref C)->ExcK T.K C
 mP:VeN T "NoFraction"
 gR:IsN T "NoFraction" "NoPrime" false
 gL:IsN T "NoFraction" "NoFraction" true
 g7:IsN T "NoFraction" "NoText" false
 g8:IsN T "NoFraction" "NoSpot" false
 gS:IsN T "NoFraction" "NoTable" false
 gT:IsN T "NoFraction" "TooMany" false
 g9:IsN T "NoFraction" "NoLine" false
 hJ:IsN T "NoFraction" "NoRow" false
 gI:IsN T "NoFraction" "NothingDone" false
 hE:IsN T "NoFraction" "TooFar" false
 gG:ExN T "NoFraction" "TreeError" true
 gk:ClsX T "NoTable"
 gE:∀C,T.mg "NoTable" =some (.ref C)->ExcK T.K C
 nt:VeN T "NoTable"
 hX:IsN T "NoTable" "NoPrime" false
 gU:IsN T "NoTable" "NoFraction" false
 mh:IsN T "NoTable" "NoText" false
 mi:IsN T "NoTable" "NoSpot" false
 ma:IsN T "NoTable" "NoTable" true
 md:IsN T "NoTable" "TooMany" false
 mj:IsN T "NoTable" "NoLine" false
 my:IsN T "NoTable" "NoRow" false
 gN:IsN T "NoTable" "NothingDone" false
 mn:IsN T "NoTable" "TooFar" false
 gM:ExN T "NoTable" "TreeError" true
 gn:ClsX T "NoText"
 nU:∀C,T.mg "NoText" =some (.ref C)->ExcK T.K C
 nV:VeN T "NoText"
 mH:IsN T "NoText" "NoPrime" false
 mt:IsN T "NoText" "NoFraction" false
 mQ:IsN T "NoText" "NoText" true
 mR:IsN T "NoText" "NoSpot" false
 mI:IsN T "NoText" "NoTable" false
 mJ:IsN T "NoText" "TooMany" false
 mS:IsN T "NoText" "NoLine" false
 m7:IsN T "NoText" "NoRow" false
 mq:IsN T "NoText" "NothingDone" false
 mT:IsN T "NoText" "TooFar" false
 mz:ExN T "NoText" "TreeError" true
 gq:ClsX T "NoSpot"
 nW:∀C,T.mg "NoSpot" =some (.ref C)->ExcK T.K C
 nX:VeN T "NoSpot"
 mK:IsN T "NoSpot" "NoPrime" false
 mw:IsN T "NoSpot" "NoFraction" false
 mU:IsN T "NoSpot" "NoText" false
 mV:IsN T "NoSpot" "NoSpot" true
 mL:IsN T "NoSpot" "NoTable" false
 mM:IsN T "NoSpot" "TooMany" false
 mW:IsN T "NoSpot" "NoLine" false
 m8:IsN T "NoSpot" "NoRow" false
 mr:IsN T "NoSpot" "NothingDone" false
 mX:IsN T "NoSpot" "TooFar" false
 mB:ExN T "NoSpot" "TreeError" true
 gw:ClsX T "NoRow"
 rn:∀C,T.mg "NoRow" =some (.ref C)->ExcK T.K C
 rq:VeN T "NoRow"
 mY:IsN T "NoRow" "NoPrime" false
 mC:IsN T "NoRow" "NoFraction" false
 m9:IsN T "NoRow" "NoText" false
 nb:IsN T "NoRow" "NoSpot" false
 mZ:IsN T "NoRow" "NoTable" false
 m3:IsN T "NoRow" "TooMany" false
 nc:IsN T "NoRow" "NoLine" false
 ni:IsN T "NoRow" "NoRow" true
 mx:IsN T "NoRow" "NothingDone" false
 ng:IsN T "NoRow" "TooFar" false
 mE:ExN T "NoRow" "TreeError" true
 gc:ClsX T "NothingDone"
 gv:∀C,T.mg "NothingDone" =some (.ref C)->ExcK T.K C
 mG:VeN T "NothingDone"
 gO:IsN T "NothingDone" "NoPrime" false
 gJ:IsN T "NothingDone" "NoFraction" false
 gW:IsN T "NothingDone" "NoText" false
 gX:IsN T "NothingDone" "NoSpot" false
 gP:IsN T "NothingDone" "NoTable" false
 gQ:IsN T "NothingDone" "TooMany" false
 gY:IsN T "NothingDone" "NoLine" false
 hG:IsN T "NothingDone" "NoRow" false
 gH:IsN T "NothingDone" "NothingDone" true
 gZ:IsN T "NothingDone" "TooFar" false
 gD:ExN T "NothingDone" "TreeError" true
 sD:CstP T "FIRST" 0 0 1
 gK:CstT T "NOUGHT" [0,1]
 nB:CstT T "ONE" [1,1]
 sF:CstS T "FAR" "far"
 rQ:CstS T "FIGURES" "0123456789"
 me:CstI T "MOST_FIGURES" 60
 ms:CstI T "MOST_FIRST_FIGURES" 3
 no:CstI T "FURTHEST_FIRST" 300
 nu:CstI T "PIECE_FIGURES" 1000
 rR:CstI T "MOST_BOTTOM" 300
 rA:CstI T "FURTHEST_WAY" 500
 so:CstI T "MOST_SPOTS" 400
 sN:CstS T "KEEPS" "keeps"
 sO:CstS T "TURNS" "turns"
 sJ:CstS T "SLIDES" "slides"
 mf:CstI T "MOST_NUMBER_FIGURES" 3
abbrev Xj:Stmt:=top 14
theorem Qh:ScB ["thing"] ["thing"] ["isinstance","int","bool"] (defScope Xj):=by walk_at "S"
theorem qD {T:Tx} (M:Mo T):FnD T 1 "is_whole" xcq:=by
 refine yq M.nZ Qh (by walk_at "1") (by rintro _ _ ⟨a,rfl,rfl⟩;rfl) fun Y S Z ds d h=>?_
 have Se:=S.toSe
 obtain ⟨x,rfl,rfl⟩:=h
 cases x with
 | int i=>exact xg (zC (xV Se 0 1 (xb Se 0) (b:=true) rfl M.gb M.mD qh) fun _=>XJ (Wi (xV Se 0 2 (xb Se 0) (b:=false) rfl M.gb M.nY ZS))) rfl
 | bl i=>exact xg (zC (xV Se 0 1 (xb Se 0) (b:=true) rfl M.gb M.mD qh) fun _=>XJ (Wi (xV Se 0 2 (xb Se 0) (b:=true) rfl M.gb M.nY ZS))) rfl
 | non=>exact xg (zC (d:= .non) (xV Se 0 1 (xb Se 0) (b:=false) rfl M.gb M.mD qh) fun h=>nomatch h) rfl
 | str i=>exact xg (zC (d:= .non) (xV Se 0 1 (xb Se 0) (b:=false) rfl M.gb M.mD qh) fun h=>nomatch h) rfl
 | tup i=>exact xg (zC (d:= .non) (xV Se 0 1 (xb Se 0) (b:=false) rfl M.gb M.mD qh) fun h=>nomatch h) rfl
 | lst i=>exact xg (zC (d:= .non) (xV Se 0 1 (xb Se 0) (b:=false) rfl M.gb M.mD qh) fun h=>nomatch h) rfl
abbrev Qm:Stmt:=top 15
theorem Uz:ScB ["one","other","left"] ["one","other"] ["abs"] (defScope Qm):=by walk_at "S"
theorem wC {T:Tx} (M:Mo T):FnD T 1 "shared" JP:=by
 refine yq M.rT Uz (by walk_at "2") (by rintro _ _ ⟨a,b,rfl,rfl⟩;rfl) fun Y S Z ds d h=>?_
 have Se:=S.toSe
 obtain ⟨a,b,rfl,rfl⟩:=h
 refine yZ S (fun c=>∃x y z,c=[.val (.int x),.val (.int y),z]/\Int.gcd x y=Int.gcd a b) (fun c=>match c with | [_,.val (.int y),_]=>y.natAbs | _=>0) ⟨a,b,_,rfl,rfl⟩ ?_
 rintro _ ⟨x,y,z,rfl,hg⟩
 refine ⟨_,yH (xb Se 1) xf,fun h=>?_,fun h=>?_⟩
 ·have h0:y≠0:=by simpa using h
  refine xn S 2 (Jq (xb Se 0) (xb Se 1) h0) ?_
  refine xn S 0 (xb Se 1) ?_
  refine xn S 1 (xb Se 2) ?_
  refine xj ⟨⟨y,x.fmod y,_,rfl,?_⟩,?_⟩
  ·rw [QN];exact hg
  ·exact XG x h0
 ·have h0:y=0:=by simpa using h
  refine xg (wS Se 0 (xa (xb Se 0) xc) M.ny) ?_
  subst h0
  rw [Int.gcd_zero_right] at hg
  show D.int _=D.int _
  rw [hg]
abbrev Xd:Stmt:=top 16
theorem Qd:ScB ["p","n","power"] ["p","n"] [] (defScope Xd):=by walk_at "S"
theorem qC {T:Tx} (M:Mo T):FnD T 1 "power_of" Wx:=by
 refine yq M.n4 Qd (by walk_at "2") (by rintro _ _ ⟨a,b,rfl,_,rfl⟩;rfl) fun Y S Z ds d h=>?_
 have Se:=S.toSe
 obtain ⟨p,n,rfl,hp,rfl⟩:=h
 have p2:=hp.two_le
 refine xo (yQ (xb Se 1) xf) (fun h=>?_) (fun h=>xj ?_)
 ·refine xg vA ?_
  show D.non=_
  rw [if_pos (by simpa using h)]
 have h0:¬n=0:=by simpa using h
 rw [if_neg h0]
 refine xn S 2 xf ?_
 refine yZ S (fun c=>∃m w:Int,c=[.val (.int p),.val (.int m),.val (.int w)]/\m≠0/\(vp p n:Int)=w+(vp p m:Int)) (fun c=>match c with | [_,.val (.int m),_]=>m.natAbs | _=>0) ⟨n,0,rfl,h0,by omega⟩ ?_
 rintro _ ⟨m,w,rfl,hm,hv⟩
 refine ⟨_,yQ (xG (xb Se 1) (xb Se 0) (by omega)) xf,fun h=>?_,fun h=>?_⟩
 ·have h1:m%p=0:=by simpa using h
  have f:=YH p2.1 hm h1
  have s:=uw p2.1 hm h1
  refine xn S 1 (yf (xb Se 1) (xb Se 0) (by omega) (Bd.of 8 (by omega) (by omega) (by decide+kernel))) ?_
  refine xn S 2 (yA (xb Se 2) xf) ?_
  exact xj ⟨⟨m / p,w+1,rfl,f.2.1,by omega⟩,f.2.2⟩
 ·have h1:¬m%p=0:=by simpa using h
  have s:=vG h1
  refine xg (xb Se 2) ?_
  show D.int _=D.int _
  congr 1
  omega
abbrev Yk:Stmt:=top 17
theorem VB:ScB ["p","k","product","square"] ["p","k"] [] (defScope Yk):=by walk_at "S"
theorem yS {T:Tx} (M:Mo T):FnD T 1 "raised" jz:=by
 refine yq M.rB VB (by walk_at "2") (by rintro _ _ ⟨a,b,rfl,_,_,rfl⟩;rfl) fun Y S Z ds d h=>?_
 have Se:=S.toSe
 obtain ⟨p,k,rfl,hp,hk,rfl⟩:=h
 have p2:=Pr8.le hp
 refine xn S 2 xf ?_
 refine xn S 3 (xb Se 0) ?_
 refine yZ S (fun c=>∃k' x y:Int,c=[.val (.int p),.val (.int k'),.val (.int x),.val (.int y)]/\k'<=k/\1<=x/\1<=y/\x*y^k'.toNat=p^k.toNat) (fun c=>match c with | [_,.val (.int y),_,_]=>y.toNat | _=>0) ⟨_,_,_,rfl,Int.le_refl _,by decide,by omega,by rw [Int.one_mul]⟩ ?_
 rintro _ ⟨k',x,y,rfl,hk',hx,hy,he⟩
 refine ⟨_,X7 (xb Se 1) xf,fun h=>?_,fun h=>?_⟩
 ·have h0:0<k':=by simpa using h
  have ok:=xaR hp hx hy (show 1<=k'.toNat by omega) (by omega) he
  have xy:=qb hx hy
  have yy:=qb hy hy
  refine Vq S 2 (yQ (xG (xb Se 1) xf (by decide)) xf) (fun _=>xF (xb Se 2) (xb Se 3) ok.1) ?_
  refine xn S 3 (xF (xb Se 3) (xb Se 3) ok.2) ?_
  refine xn S 1 (yf (xb Se 1) xf (by decide) (by decide+kernel)) ?_
  refine xj ⟨⟨k' / 2,_,y*y,rfl,by omega,?_,by omega,?_⟩,?_⟩
  ·split<;>omega
  ·have e:=Kg he
   have e1:(k' / 2).toNat=k'.toNat / 2:=by omega
   rw [e1,<-e]
   by_cases h2:k'%2=1
   ·rw [if_pos (by simpa using h2),if_pos (show k'.toNat%2=1 by omega)]
   ·rw [if_neg (by simpa using h2),if_neg (show ¬k'.toNat%2=1 by omega)]
  ·show (k' / 2).toNat<k'.toNat
   omega
 ·have h0:k'.toNat=0:=by
   have:¬0<k':=by simpa using h
   omega
  refine xg (xb Se 2) ?_
  rw [h0,Int.pow_zero,Int.mul_one] at he
  show D.int _=D.int _
  rw [he]
abbrev xaq:Stmt:=top 19
theorem xaU:ScB ["p","n","answer"] ["p","n"] [] (defScope xaq):=by walk_at "S"
theorem xbe {T:Tx} (M:Mo T):FnD T 1 "over_by_prime" xcp:=by
 refine yq M.sL xaU (by walk_at "2") (by rintro _ _ ⟨a,b,rfl,_,_,_,rfl⟩;rfl) fun Y S Z ds d h=>?_
 have Se:=S.toSe
 obtain ⟨p,n,rfl,hp,hn,hb,rfl⟩:=h
 have p2:=hp.two_le
 refine xn S 2 xf ?_
 refine yZ S (fun c=>∃a:Int,c=[.val (.int p),.val (.int n),.val (.int a)]/\1<=a/\a<=p - 1/\∀b,1<=b->b<a->n*b%p≠1) (fun c=>match c with | [_,_,.val (.int y)]=>(p - y).toNat | _=>0) ⟨1,rfl,by omega,by omega,fun b h1 h2=>by omega⟩ ?_
 rintro _ ⟨a,rfl,a1,a2,hs⟩
 refine ⟨_,(zY (wZ (xb Se 2) (qf (xb Se 0) xf)) fun _=>vI (yH (xG (xF (xb Se 1) (xb Se 2) (mulOk hb (Bd.of (n:=3) 8 (by omega) (by omega) (by decide)) (by decide))) (xb Se 0) (by omega)) xf)).pt,fun h=>?_,fun h=>?_⟩
 ·have h':a<p - 1/\¬n*a%p=1:=by simpa using h
  refine xn S 2 (yA (xb Se 2) xf) ?_
  refine xj ⟨⟨a+1,rfl,by omega,by omega,fun b h1 h2=>?_⟩,?_⟩
  ·by_cases e:b=a
   ·rw [e];exact h'.2
   ·exact hs b h1 (by omega)
  ·show (p - (a+1)).toNat<(p - a).toNat
   omega
 ·have h':¬a<p - 1∨n*a%p=1:=by
   by_cases z:a<p - 1
   ·right
    simpa [z] using h
   ·exact .inl z
  have e:=U8 hp hn a1 a2 hs h'
  refine xg (xb Se 2) ?_
  show D.int _=D.int _
  congr 1
  refine wB (k:=1) ⟨by omega,by rw [Int.pow_one];omega,?_⟩ (zd hp hn 1)
  rw [Int.pow_one]
  have:=Int.emod_add_mul_ediv (n*a) p
  exact ⟨n*a / p,by omega⟩
abbrev Xf:Stmt:=top 18
theorem Qf:ScB ["p","n","k","modulus","answer","settled"] ["p","n","k"] ["raised","over_by_prime"] (defScope Xf):=by walk_at "S"
theorem QG {T:Tx} (M:Mo T):FnD T 2 "over_by" jB:=by
 refine yq M.n5 Qf (by walk_at "3") (by rintro _ _ ⟨a,b,c,rfl,_,_,_,_,_,rfl⟩;rfl) fun Y S Z ds d h=>?_
 have Se:=S.toSe
 obtain ⟨p,n,k,rfl,hp,hn,k0,k1,hb,rfl⟩:=h
 have p2:=hp.two_le
 refine xo (yQ (xb Se 2) xf) (fun h=>?_) (fun h=>xj ?_)
 ·have h0:k=0:=by simpa using h
  refine xg xf ?_
  subst h0
  show D.int _=D.int _
  congr 1
  exact wB (k:=0) ⟨by omega,by rw [Int.pow_zero];omega,by rw [Int.pow_zero];exact Int.one_dvd _⟩ (zd hp hn 0)
 have h0:¬k=0:=by simpa using h
 have pp:=yb hp k.toNat
 have pb:=vP hp k.toNat
 refine xn S 3 (xi Se 0 (yS M) (by decide) (xa (xb Se 0) (xa (xb Se 2) xc)) ⟨p,k,rfl,.inl hp,k1,rfl⟩) ?_
 refine xn S 4 (xi Se 1 (xbe M) (by decide) (xa (xb Se 0) (xa (xb Se 1) xc)) ⟨p,n,rfl,hp,hn,hb,rfl⟩) ?_
 refine xn S 5 xf ?_
 have i1:=zd hp hn 1
 refine yZ S (fun c=>∃a s:Int,c=[.val (.int p),.val (.int n),.val (.int k),.val (.int (p^k.toNat)),.val (.int a),.val (.int s)]/\0<=a/\a<p^k.toNat/\1<=s/\p^(min s.toNat k.toNat)∣n*a - 1) (fun c=>match c with | [_,_,_,_,_,.val (.int s)]=>(k - s).toNat | _=>0) ⟨_,1,rfl,i1.1,?_,by omega,?_⟩ ?_
 ·have:=i1.2.1
  have q:=zv (show 1<=p by omega) (show 1<=k.toNat by omega)
  rw [Int.pow_one] at this
  omega
 ·rw [show min (1:Int).toNat k.toNat=1 by omega]
  exact i1.2.2
 rintro _ ⟨a,s,rfl,a0,a1,s1,hd⟩
 refine ⟨_,wZ (xb Se 5) (xb Se 2),fun h=>?_,fun h=>?_⟩
 ·have h':s<k:=by simpa using h
  have ba:Bd (3*k.toNat+1) a:=Bd.of_le a0 (by omega) pb
  have bn:=hb.mul ba
  have b2:=Bd.sub (n:=1000000+(3*k.toNat+1)) (show Bd 2 2 by decide) bn
  refine xn S 4 (xG (xF (xb Se 4) (qf xf (xF (xb Se 1) (xb Se 4) (mulOk hb ba (by omega)))) (mulOk ba b2 (by omega))) (xb Se 3) pp) ?_
  refine xn S 5 (xF xf (xb Se 5) (.of_left (intBits_le_64 (by decide) (by decide)))) ?_
  refine xj ⟨⟨_,2*s,rfl,Int.emod_nonneg _ (by omega),Int.emod_lt_of_pos _ pp,by omega,?_⟩,?_⟩
  ·have e:=newton hd
   rw [show (2*s).toNat=2*s.toNat by omega]
   exact e
  ·show (k - 2*s).toNat<(k - s).toNat
   omega
 ·have h':¬s<k:=by simpa using h
  refine xg (xb Se 4) ?_
  show D.int _=D.int _
  congr 1
  rw [show min s.toNat k.toNat=k.toNat by omega] at hd
  exact wB ⟨a0,a1,hd⟩ (zd hp hn _)
abbrev z4:Stmt:=top 23
theorem Qj:ScB ["top","bottom","factor"] ["top","bottom"] ["shared","NoFraction"] (defScope z4):=by walk_at "S"
theorem vW {T:Tx} (M:Mo T):FnX T 2 "fraction" qL/\FnXd T 2 "fraction" 1 qL:=by
 refine xcf M.n6 Qj (fun Td kV doc pm an cdv ct tk o n lt hs=>⟨fun s us X hl=>match us,(show us.length=2 by simpa using hl) with | [_,_],_=>PySem.W.binds_K X rfl lt hs rfl rfl,fun s us X hl=>match us,(show us.length=1 by simpa using hl) with | [_],_=>PySem.W.binds_K X rfl lt hs rfl rfl⟩) (by rintro _ _ ⟨a,b,rfl,_⟩;rfl) fun Y S Z ds r h hz=>?_
 have Se:=S.toSe
 obtain ⟨t,b,rfl,h⟩:=h
 rcases h with ⟨hb,bb,rfl⟩ | ⟨hb,rfl⟩
 ·refine xo (yQ (xb Se 1) xf) (fun h=>absurd (by simpa using h) hb) (fun _=>xj ?_)
  refine xn S 2 (xi Se 0 (wC M) (by decide) (xa (xb Se 0) (xa (xb Se 1) xc)) ⟨_,_,rfl,rfl⟩) ?_
  refine Vq S 2 (wZ (xb Se 1) xf) (fun _=>ZE (xb Se 2)) ?_
  have q:=kY (t:=t) hb bb
  have l:=v6 t hb
  have e:(if decide (b<0)=true then -(Int.gcd t b:Int) else (Int.gcd t b:Int))=(if b<0 then -(Int.gcd t b:Int) else (Int.gcd t b:Int)):=by simp
  rw [e]
  refine xg (xt (xa (wc (xb Se 0) (xb Se 2) q.1 q.2) (xa (wc (xb Se 1) (xb Se 2) q.1 q.2) xc))) ?_
  show D.tup _=D.tup _
  rw [l.1,l.2]
 ·refine xo (yQ (xb Se 1) xf) (fun _=>?_) (fun h=>absurd hb (by simpa using h))
  exact zh S 1 M.gg (xa xl xc) (hz _ rfl _).2
theorem z8 {T:Tx} (M:Mo T):FnX T 2 "fraction" qL:=(vW M).1
theorem zu {T:Tx} (M:Mo T):FnD T 2 "fraction" JV:=(z8 M).toD fun ds d h=>by
 obtain ⟨t,b,rfl,hb,bb,rfl⟩:=h;exact ⟨t,b,rfl,.inl ⟨hb,bb,rfl⟩⟩
theorem Zp {T:Tx} (M:Mo T):FnDd T 2 "fraction" 1 JV:=(vW M).2.toD fun ds d h=>by
 obtain ⟨t,b,rfl,hb,bb,rfl⟩:=h;exact ⟨t,b,rfl,.inl ⟨hb,bb,rfl⟩⟩
abbrev q8:Stmt:=top 24
theorem uX:ScB ["thing"] ["thing"] ["isinstance","tuple","len","is_whole","shared"] (defScope q8):=by walk_at "S"
theorem Xx {T:Tx} (M:Mo T):FnD T 2 "is_fraction" xct:=by
 refine yq M.nD uX (by walk_at "1") (by rintro _ _ ⟨_,rfl,_⟩;rfl) fun Y S Z ds d h=>?_
 have Se:=S.toSe
 obtain ⟨x,rfl,rfl⟩:=h
 cases x with
 | non=>exact xo (yo (w:=true) (xR (xQ (xV Se 0 1 (xb Se 0) (b:=false) rfl M.gb M.gC xZ))) (fun h=>nomatch h)).pt (fun _=>xg yr rfl) (fun h=>nomatch h)
 | bl i=>exact xo (yo (w:=true) (xR (xQ (xV Se 0 1 (xb Se 0) (b:=false) rfl M.gb M.gC xZ))) (fun h=>nomatch h)).pt (fun _=>xg yr rfl) (fun h=>nomatch h)
 | int i=>exact xo (yo (w:=true) (xR (xQ (xV Se 0 1 (xb Se 0) (b:=false) rfl M.gb M.gC xZ))) (fun h=>nomatch h)).pt (fun _=>xg yr rfl) (fun h=>nomatch h)
 | str i=>exact xo (yo (w:=true) (xR (xQ (xV Se 0 1 (xb Se 0) (b:=false) rfl M.gb M.gC xZ))) (fun h=>nomatch h)).pt (fun _=>xg yr rfl) (fun h=>nomatch h)
 | lst i=>exact xo (yo (w:=true) (xR (xQ (xV Se 0 1 (xb Se 0) (b:=false) rfl M.gb M.gC xZ))) (fun h=>nomatch h)).pt (fun _=>xg yr rfl) (fun h=>nomatch h)
 | tup ds=>
  match ds with
  | []=>exact xo (yo (xR (xQ (xV Se 0 1 (xb Se 0) (b:=true) rfl M.gb M.gC xZ))) fun _=>yz (yH (yJ Se 2 (xa (xb Se 0) xc) rfl M.g6) xf)).pt (fun _=>xg yr rfl) (fun h=>absurd h (by decide))
  | [a]=>exact xo (yo (xR (xQ (xV Se 0 1 (xb Se 0) (b:=true) rfl M.gb M.gC xZ))) fun _=>yz (yH (yJ Se 2 (xa (xb Se 0) xc) rfl M.g6) xf)).pt (fun _=>xg yr (by show D.bl false=D.bl _;rw [xcd])) (fun h=>absurd h (by simp))
  | a::b::e::r=>
   refine xo (yo (xR (xQ (xV Se 0 1 (xb Se 0) (b:=true) rfl M.gb M.gC xZ))) fun _=>yz (yH (yJ Se 2 (xa (xb Se 0) xc) rfl M.g6) xf)).pt (fun _=>xg yr (by show D.bl false=D.bl _;rw [xcc])) (fun h=>absurd h ?_)
   have:¬(((a::b::e::r).length:Nat):Int)=2:=by simp only [List.length_cons];omega
   simp [this]
   omega
  | [a,b]=>
   refine xo (yo (xR (xQ (xV Se 0 1 (xb Se 0) (b:=true) rfl M.gb M.gC xZ))) fun _=>yz (yH (yJ Se 2 (xa (xb Se 0) xc) rfl M.g6) xf)).pt (fun h=>absurd h (by simp)) (fun _=>xj ?_)
   refine xo (yo (xR (xQ (xi Se 3 (qD M) (by decide) (xa (xm (xb Se 0) xf (d:=a) rfl) xc) ⟨a,rfl,rfl⟩))) fun _=>yz (xR (xQ (xi Se 3 (qD M) (by decide) (xa (xm (xb Se 0) xf (d:=b) rfl) xc) ⟨b,rfl,rfl⟩)))).pt (fun h=>?_) (fun h=>xj ?_)
   ·refine xg yr ?_
    show D.bl false=D.bl _
    rw [xcb h]
   ·obtain ⟨h1,h2⟩:=Bool.or_eq_false_iff.mp h
    obtain ⟨i,rfl⟩:=V8 (show isW a=true by simpa using h1)
    obtain ⟨j,rfl⟩:=V8 (show isW b=true by simpa using h2)
    refine xg (zC (xcl (xm (xb Se 0) xf rfl) xf) fun _=>XJ (Wj (xi Se 4 (wC M) (by decide) (xa (xm (xb Se 0) xf rfl) (xa (xm (xb Se 0) xf rfl) xc)) ⟨i,j,rfl,rfl⟩) xf)) ?_
    show (if decide ((1:Int)<=j)=true then D.bl (decide ((Int.gcd i j:Int)=1)) else D.bl false)=D.bl (decide (1<=j) && decide ((Int.gcd i j:Int)=1))
    by_cases q:(1:Int)<=j
    ·rw [decide_eq_true q];rfl
    ·rw [decide_eq_false q];rfl
abbrev kf:Stmt:=top 25
theorem Kl:ScB ["a","b"] ["a","b"] ["fraction"] (defScope kf):=by walk_at "S"
theorem KD {T:Tx} (M:Mo T):FnD T 3 "plus" xbR:=by
 refine yq M.sG Kl (by walk_at "2") (by rintro _ _ ⟨a,b,rfl,_,_,rfl⟩;rfl) fun Y S Z ds d h=>?_
 have Se:=S.toSe
 obtain ⟨a,b,rfl,ha,hb,rfl⟩:=h
 rw [<-WO a b]
 exact xg (xi Se 0 (zu M) (by decide) (xa (yA (xF (xm (xb Se 0) xf rfl) (xm (xb Se 1) xf rfl) (mulOk ha.1 hb.2 (by decide))) (xF (xm (xb Se 1) xf rfl) (xm (xb Se 0) xf rfl) (mulOk hb.1 ha.2 (by decide)))) (xa (xF (xm (xb Se 0) xf rfl) (xm (xb Se 1) xf rfl) (mulOk ha.2 hb.2 (by decide))) xc)) ⟨_,_,rfl,Int.mul_ne_zero (yn a) (yn b),(ha.2.mul hb.2).mono (by decide),rfl⟩) rfl
abbrev WH:Stmt:=top 26
theorem j6:ScB ["a","b"] ["a","b"] ["fraction"] (defScope WH):=by walk_at "S"
theorem kQ {T:Tx} (M:Mo T):FnD T 3 "minus" xbP:=by
 refine yq M.sr j6 (by walk_at "2") (by rintro _ _ ⟨a,b,rfl,_,_,rfl⟩;rfl) fun Y S Z ds d h=>?_
 have Se:=S.toSe
 obtain ⟨a,b,rfl,ha,hb,rfl⟩:=h
 rw [<-WM a b]
 exact xg (xi Se 0 (zu M) (by decide) (xa (qf (xF (xm (xb Se 0) xf rfl) (xm (xb Se 1) xf rfl) (mulOk ha.1 hb.2 (by decide))) (xF (xm (xb Se 1) xf rfl) (xm (xb Se 0) xf rfl) (mulOk hb.1 ha.2 (by decide)))) (xa (xF (xm (xb Se 0) xf rfl) (xm (xb Se 1) xf rfl) (mulOk ha.2 hb.2 (by decide))) xc)) ⟨_,_,rfl,Int.mul_ne_zero (yn a) (yn b),(ha.2.mul hb.2).mono (by decide),rfl⟩) rfl
abbrev WG:Stmt:=top 27
theorem j4:ScB ["a","b"] ["a","b"] ["fraction"] (defScope WG):=by walk_at "S"
theorem vX {T:Tx} (M:Mo T):FnD T 3 "times" xbQ:=by
 refine yq M.ss j4 (by walk_at "2") (by rintro _ _ ⟨a,b,rfl,_,_,rfl⟩;rfl) fun Y S Z ds d h=>?_
 have Se:=S.toSe
 obtain ⟨a,b,rfl,ha,hb,rfl⟩:=h
 rw [<-WN a b]
 exact xg (xi Se 0 (zu M) (by decide) (xa (xF (xm (xb Se 0) xf rfl) (xm (xb Se 1) xf rfl) (mulOk ha.1 hb.1 (by decide))) (xa (xF (xm (xb Se 0) xf rfl) (xm (xb Se 1) xf rfl) (mulOk ha.2 hb.2 (by decide))) xc)) ⟨_,_,rfl,Int.mul_ne_zero (yn a) (yn b),(ha.2.mul hb.2).mono (by decide),rfl⟩) rfl
abbrev kg:Stmt:=top 28
theorem Km:ScB ["a","b"] ["a","b"] ["fraction"] (defScope kg):=by walk_at "S"
theorem Xt {T:Tx} (M:Mo T):FnX T 3 "over" xbS:=by
 refine wL M.sH Km (by walk_at "2") (by rintro _ _ ⟨a,b,rfl,_⟩;rfl) fun Y S Z ds r h hz=>?_
 have Se:=S.toSe
 obtain ⟨a,b,rfl,ha,hb,h⟩:=h
 rcases h with ⟨h0,rfl⟩ | ⟨h0,rfl⟩
 ·exact xg (xM Se 0 (z8 M) (by decide) (xa (xF (xm (xb Se 0) xf rfl) (xm (xb Se 1) xf rfl) (mulOk ha.1 hb.2 (by decide))) (xa (xF (xm (xb Se 0) xf rfl) (xm (xb Se 1) xf rfl) (mulOk ha.2 hb.1 (by decide))) xc)) ⟨_,_,rfl,.inl ⟨Int.mul_ne_zero (yn a) h0,(ha.2.mul hb.1).mono (by decide),rfl⟩⟩) rfl
 ·exact yw (x6 Se 0 (z8 M) (by decide) (xa (xF (xm (xb Se 0) xf rfl) (xm (xb Se 1) xf rfl) (mulOk ha.1 hb.2 (by decide))) (xa (xF (xm (xb Se 0) xf rfl) (xm (xb Se 1) xf rfl) (mulOk ha.2 hb.1 (by decide))) xc)) ⟨_,_,rfl,.inr ⟨by rw [h0];simp,rfl⟩⟩ (hz _ rfl _).1)
abbrev Xe:Stmt:=top 29
theorem Qe:ScB ["p","a"] ["p","a"] ["power_of"] (defScope Xe):=by walk_at "S"
theorem zt {T:Tx} (M:Mo T):FnD T 2 "power_in" Wy:=by
 refine yq M.n9 Qe (by walk_at "2") (by rintro _ _ ⟨a,b,rfl,_,rfl⟩;rfl) fun Y S Z ds d h=>?_
 have Se:=S.toSe
 obtain ⟨p,a,rfl,hp,rfl⟩:=h
 refine xo (yQ (xm (xb Se 1) xf rfl) xf) (fun h=>?_) (fun h=>xj ?_)
 ·refine xg vA ?_
  show D.non=_
  unfold vq
  rw [if_pos (by simpa using h)]
  rfl
 have h0:¬a.num=0:=by simpa using h
 refine xg (qf (xi Se 0 (qC M) (by decide) (xa (xb Se 0) (xa (xm (xb Se 1) xf rfl) xc)) ⟨p,_,rfl,hp,(if_neg h0).symm⟩) (xi Se 0 (qC M) (by decide) (xa (xb Se 0) (xa (xm (xb Se 1) xf rfl) xc)) ⟨p,_,rfl,hp,(if_neg (yn a)).symm⟩)) ?_
 show D.int _=_
 unfold vq
 rw [if_neg h0]
 rfl
abbrev qx:Stmt:=top 30
theorem ur:ScB ["p","k"] ["p","k"] ["raised"] (defScope qx):=by walk_at "S"
theorem ut {T:Tx} (M:Mo T):FnD T 2 "prime_power" xco:=by
 refine yq M.nv ur (by walk_at "2") (by rintro _ _ ⟨a,b,rfl,_,_,_,rfl⟩;rfl) fun Y S Z ds d h=>?_
 have Se:=S.toSe
 obtain ⟨p,k,rfl,hp,k0,k1,rfl⟩:=h
 have p2:=hp.two_le
 refine xo (wZ (xb Se 1) xf) (fun h=>?_) (fun h=>xj ?_)
 ·have h0:k<0:=by simpa using h
  have q:=uB (p:=p) (by omega) h0
  refine xg (xt (xa xf (xa (xi Se 0 (yS M) (by decide) (xa (xb Se 0) (xa (ZE (xb Se 1)) xc)) ⟨p,-k,rfl,.inl hp,by omega,rfl⟩) xc))) ?_
  show D.tup _=D.tup _
  rw [q.1,q.2]
 ·have h0:¬k<0:=by simpa using h
  have q:=qA (p:=p) (k:=k) (by omega)
  refine xg (xt (xa (xi Se 0 (yS M) (by decide) (xa (xb Se 0) (xa (xb Se 1) xc)) ⟨p,k,rfl,.inl hp,by omega,rfl⟩) (xa xf xc))) ?_
  show D.tup _=D.tup _
  rw [q.1,q.2]
  rfl
abbrev w8:Stmt:=top 32
theorem Y7:ScB ["p","k","a","sunk","settled","scale","whole"] ["p","k","a"] ["power_of","NOUGHT","raised","fraction","over_by"] (defScope w8):=by walk_at "S"
theorem y9 {T:Tx} (M:Mo T):FnD T 3 "rest_by" xbO:=by
 refine yq M.nO Y7 (by walk_at "3") (by rintro _ _ ⟨_,_,_,rfl,_,_,_,_,rfl⟩;rfl) fun Y S Z ds d h=>?_
 have Se:=S.toSe
 obtain ⟨p,k,a,rfl,hp,k1,k0,ha,rfl⟩:=h
 have p2:=hp.two_le
 have hv:=jI hp (yn a) ha.2
 obtain ⟨u,hu,up⟩:=wX hp (yn a)
 refine xn S 3 (xi Se 0 (qC M) (by decide) (xa (xb Se 0) (xa (xm (xb Se 2) xf rfl) xc)) ⟨p,_,rfl,hp,(if_neg (yn a)).symm⟩) ?_
 refine xn S 4 (yA (xb Se 1) (xb Se 3)) ?_
 unfold restQ
 generalize vp p a.den=e at*
 refine xo (xbX (xb Se 4) xf) (fun h=>?_) (fun h=>xj ?_)
 ·have h0:k+(e:Int)<=0:=by simpa using h
  rw [if_pos h0]
  exact xg (yc Se.toSn 1 M.gK) rfl
 have h0:¬k+(e:Int)<=0:=by simpa using h
 rw [if_neg h0]
 have pe:=yb hp e
 have bpe:Bd 4400 (p^e):=by
  refine Bd.of_le (by omega) (?_:p^e<=(a.den:Int)) ha.2
  have:=ZO a
  exact Int.le_of_dvd this ⟨u,hu⟩
 have hdiv:(a.den:Int) / p^e=u:=by rw [hu];exact Int.mul_ediv_cancel_left u (by omega)
 have bu:Bd 4400 u:=by
  have q:=ha.2
  rw [hu] at q
  unfold Bd at*
  rw [Int.natAbs_mul] at q
  have:1*u.natAbs<=(p^e).natAbs*u.natAbs:=Nat.mul_le_mul_right _ (by omega)
  omega
 refine xn S 5 (xi Se 2 (yS M) (by decide) (xa (xb Se 0) (xa (xb Se 3) xc)) ⟨p,(e:Int),rfl,.inl hp,by omega,by rw [Int.toNat_natCast]⟩) ?_
 rw [hdiv]
 have ov:=zd hp up (k+(e:Int)).toNat
 have pk:=yb hp (k+(e:Int)).toNat
 have bk:=vP hp (k+(e:Int)).toNat
 refine xn S 6 (xG (xF (xm (xb Se 2) xf rfl) (xi Se 4 (QG M) (by decide) (xa (xb Se 0) (xa (yf (xm (xb Se 2) xf rfl) (xb Se 5) pe (bpe.mono (by decide))) (xa (xb Se 4) xc))) ⟨p,u,k+(e:Int),by rw [hdiv],hp,up,by omega,by omega,bu.mono (by decide),rfl⟩) (mulOk ha.1 (Bd.of_le ov.1 (Int.le_of_lt ov.2.1) bk) (by omega))) (xi Se 2 (yS M) (by decide) (xa (xb Se 0) (xa (xb Se 4) xc)) ⟨p,k+(e:Int),rfl,.inl hp,by omega,rfl⟩) pk) ?_
 exact xg (xi Se 3 (zu M) (by decide) (xa (xb Se 6) (xa (xb Se 5) xc)) ⟨_,_,rfl,by omega,bpe.mono (by decide),rfl⟩) rfl
abbrev Yp:Stmt:=top 35
theorem VH:ScB ["table"] ["table"] ["minus","times"] (defScope Yp):=by walk_at "S"
theorem vw {T:Tx} (M:Mo T):FnD T 4 "measure" jD:=by
 refine yq M.rC VH (by walk_at "1") (by rintro _ _ ⟨_,rfl,_,rfl⟩;rfl) fun Y S Z ds d h=>?_
 have Se:=S.toSe
 obtain ⟨t,rfl,hm,rfl⟩:=h
 exact xg (xi Se 0 (kQ M) (by decide) (xa (xi Se 1 (vX M) (by decide) (xa (xm (xb Se 0) xf rfl) (xa (xm (xb Se 0) xf rfl) xc)) ⟨t.a,t.d,rfl,hm.ht.a,hm.ht.d,rfl⟩) (xa (xi Se 1 (vX M) (by decide) (xa (xm (xb Se 0) xf rfl) (xa (xm (xb Se 0) xf rfl) xc)) ⟨t.b,t.c,rfl,hm.ht.b,hm.ht.c,rfl⟩) xc)) ⟨_,_,rfl,hm.ad,hm.bc,rfl⟩) rfl
abbrev u7:Stmt:=top 34
theorem Z7:ScB ["a","b","c","d","table"] ["a","b","c","d"] ["NOUGHT","measure","NoTable"] (defScope u7):=by walk_at "S"
theorem y8 {T:Tx} (M:Mo T):FnX T 5 "table_of" XT:=by
 refine wL M.rc Z7 (by walk_at "4") (by rintro _ _ ⟨_,rfl,_⟩;rfl) fun Y S Z ds r h hz=>?_
 have Se:=S.toSe
 obtain ⟨t,rfl,hm,h⟩:=h
 refine xn S 4 (xt (xa (xb Se 0) (xa (xb Se 1) (xa (xb Se 2) (xa (xb Se 3) xc))))) ?_
 have e0:eqD (frD t.det) (.tup ([0,1].map D.int))=decide (t.det=0):=ZL t.det 0
 rcases h with ⟨h0,rfl⟩ | ⟨h0,rfl⟩
 ·exact xo (qr Se (xi Se 1 (vw M) (by decide) (xa (xb Se 4) xc) ⟨t,rfl,hm,rfl⟩) (yc Se.toSn 0 M.gK)) (fun h=>absurd (by rw [e0] at h;simpa using h) h0) (fun _=>xj (xg (xb Se 4) rfl))
 ·exact xo (qr Se (xi Se 1 (vw M) (by decide) (xa (xb Se 4) xc) ⟨t,rfl,hm,rfl⟩) (yc Se.toSn 0 M.gK)) (fun _=>zh S 2 M.gk (xa xl xc) (hz _ rfl _).2) (fun h=>absurd h0 (by rw [e0] at h;simpa using h))
abbrev qk:Stmt:=top 38
theorem wu:ScB ["row","column"] ["row","column"] ["plus","times"] (defScope qk):=by walk_at "S"
theorem yB {T:Tx} (M:Mo T):FnD T 4 "row_by_column" JQ:=by
 refine yq M.nq wu (by walk_at "2") (by rintro _ _ ⟨_,_,_,_,rfl,_,_,_,_,_,_,rfl⟩;rfl) fun Y S Z ds d h=>?_
 have Se:=S.toSe
 obtain ⟨a,b,c,e,rfl,ha,hb,hc,he,h1,h2,rfl⟩:=h
 exact xg (xi Se 0 (KD M) (by decide) (xa (xi Se 1 (vX M) (by decide) (xa (xm (xb Se 0) xf rfl) (xa (xm (xb Se 1) xf rfl) xc)) ⟨a,c,rfl,ha,hc,rfl⟩) (xa (xi Se 1 (vX M) (by decide) (xa (xm (xb Se 0) xf rfl) (xa (xm (xb Se 1) xf rfl) xc)) ⟨b,e,rfl,hb,he,rfl⟩) xc)) ⟨_,_,rfl,h1,h2,rfl⟩) rfl
abbrev Yl:Stmt:=top 37
theorem VC:ScB ["one","other","left","right","upper","lower"] ["one","other"] ["row_by_column"] (defScope Yl):=by walk_at "S"
theorem VY {T:Tx} (M:Mo T):FnD T 5 "product" jA:=by
 refine yq M.rD VC (by walk_at "2") (by rintro _ _ ⟨_,_,rfl,_,rfl⟩;rfl) fun Y S Z ds d h=>?_
 have Se:=S.toSe
 obtain ⟨s,t,rfl,hp,rfl⟩:=h
 refine xn S 2 (xt (xa (xm (xb Se 1) xf rfl) (xa (xm (xb Se 1) xf rfl) xc))) ?_
 refine xn S 3 (xt (xa (xm (xb Se 1) xf rfl) (xa (xm (xb Se 1) xf rfl) xc))) ?_
 refine xn S 4 (xt (xa (xm (xb Se 0) xf rfl) (xa (xm (xb Se 0) xf rfl) xc))) ?_
 refine xn S 5 (xt (xa (xm (xb Se 0) xf rfl) (xa (xm (xb Se 0) xf rfl) xc))) ?_
 exact xg (xt (xa (xi Se 0 (yB M) (by decide) (xa (xb Se 4) (xa (xb Se 2) xc)) ⟨s.a,s.b,t.a,t.c,rfl,hp.hs.a,hp.hs.b,hp.ht.a,hp.ht.c,hp.aa,hp.bc,rfl⟩) (xa (xi Se 0 (yB M) (by decide) (xa (xb Se 4) (xa (xb Se 3) xc)) ⟨s.a,s.b,t.b,t.d,rfl,hp.hs.a,hp.hs.b,hp.ht.b,hp.ht.d,hp.ab,hp.bd,rfl⟩) (xa (xi Se 0 (yB M) (by decide) (xa (xb Se 5) (xa (xb Se 2) xc)) ⟨s.c,s.d,t.a,t.c,rfl,hp.hs.c,hp.hs.d,hp.ht.a,hp.ht.c,hp.ca,hp.dc,rfl⟩) (xa (xi Se 0 (yB M) (by decide) (xa (xb Se 5) (xa (xb Se 3) xc)) ⟨s.c,s.d,t.b,t.d,rfl,hp.hs.c,hp.hs.d,hp.ht.b,hp.ht.d,hp.cb,hp.dd,rfl⟩) xc))))) rfl
abbrev Yr:Stmt:=top 43
theorem VJ:ScB ["p","thing","k","q"] ["p","thing"] ["rest_by","isinstance","tuple","len","is_whole","is_fraction","min"] (defScope Yr):=by walk_at "S"
theorem V0 {T:Tx} (M:Mo T):FnD T 4 "is_spot" xcs:=by
 refine yq M.rE VJ (by walk_at "2") (by rintro _ _ ⟨_,_,rfl,_⟩;rfl) fun Y S Z ds d h=>?_
 have Se:=S.toSe
 obtain ⟨p,x,rfl,hp,ok,rfl⟩:=h
 cases x with
 | non=>exact xo (yo (w:=true) (xR (xQ (xV Se 1 2 (xb Se 1) (b:=false) rfl M.gb M.gC xZ))) (fun h=>nomatch h)).pt (fun _=>xg yr rfl) (fun h=>nomatch h)
 | bl i=>exact xo (yo (w:=true) (xR (xQ (xV Se 1 2 (xb Se 1) (b:=false) rfl M.gb M.gC xZ))) (fun h=>nomatch h)).pt (fun _=>xg yr rfl) (fun h=>nomatch h)
 | int i=>exact xo (yo (w:=true) (xR (xQ (xV Se 1 2 (xb Se 1) (b:=false) rfl M.gb M.gC xZ))) (fun h=>nomatch h)).pt (fun _=>xg yr rfl) (fun h=>nomatch h)
 | str i=>exact xo (yo (w:=true) (xR (xQ (xV Se 1 2 (xb Se 1) (b:=false) rfl M.gb M.gC xZ))) (fun h=>nomatch h)).pt (fun _=>xg yr rfl) (fun h=>nomatch h)
 | lst i=>exact xo (yo (w:=true) (xR (xQ (xV Se 1 2 (xb Se 1) (b:=false) rfl M.gb M.gC xZ))) (fun h=>nomatch h)).pt (fun _=>xg yr rfl) (fun h=>nomatch h)
 | tup ds=>
  match ds,ok with
  | [],_=>exact xo (yo (xR (xQ (xV Se 1 2 (xb Se 1) (b:=true) rfl M.gb M.gC xZ))) fun _=>yz (yH (yJ Se 3 (xa (xb Se 1) xc) rfl M.g6) xf)).pt (fun _=>xg yr rfl) (fun h=>absurd h (by decide))
  | [a],_=>exact xo (yo (xR (xQ (xV Se 1 2 (xb Se 1) (b:=true) rfl M.gb M.gC xZ))) fun _=>yz (yH (yJ Se 3 (xa (xb Se 1) xc) rfl M.g6) xf)).pt (fun _=>xg yr (by show D.bl false=D.bl _;rw [xca])) (fun h=>absurd h (by simp))
  | a::b::e::r,_=>
   refine xo (yo (xR (xQ (xV Se 1 2 (xb Se 1) (b:=true) rfl M.gb M.gC xZ))) fun _=>yz (yH (yJ Se 3 (xa (xb Se 1) xc) rfl M.g6) xf)).pt (fun _=>xg yr (by show D.bl false=D.bl _;rw [xb9])) (fun h=>absurd h ?_)
   have:¬(((a::b::e::r).length:Nat):Int)=2:=by simp only [List.length_cons];omega
   simp [this]
   omega
  | [a,b],ok=>
   refine xo (yo (xR (xQ (xV Se 1 2 (xb Se 1) (b:=true) rfl M.gb M.gC xZ))) fun _=>yz (yH (yJ Se 3 (xa (xb Se 1) xc) rfl M.g6) xf)).pt (fun h=>absurd h (by simp)) (fun _=>xj ?_)
   refine xn S 2 (xm (xb Se 1) xf (d:=a) rfl) ?_
   refine xn S 3 (xm (xb Se 1) xf (d:=b) rfl) ?_
   refine xo (yo (xR (xQ (xi Se 4 (qD M) (by decide) (xa (xb Se 2) xc) ⟨a,rfl,rfl⟩))) fun _=>yz (xR (xQ (xi Se 5 (Xx M) (by decide) (xa (xb Se 3) xc) ⟨b,rfl,rfl⟩)))).pt (fun h=>?_) (fun h=>xj ?_)
   ·refine xg yr ?_
    show D.bl false=D.bl _
    rw [xb8 h]
   ·obtain ⟨h1,h2⟩:=Bool.or_eq_false_iff.mp h
    obtain ⟨k,rfl⟩:=V8 (show isW a=true by simpa using h1)
    have h2:isF b=true:=by simpa using h2
    obtain ⟨i,j,rfl,j1,hg⟩:=xbt h2
    obtain ⟨k0,bi,bj⟩:=ok k i j rfl
    have l:=V4 j1 hg
    have ef:D.tup [.int i,.int j]=frD (Rat.divInt i j):=by
     show D.tup [.int i,.int j]=D.tup [.int (Rat.divInt i j).num,.int ((Rat.divInt i j).den:Int)]
     rw [l.1,l.2]
    have fb:Fb 4400 (Rat.divInt i j):=⟨by rw [l.1];exact bi,by rw [l.2];exact bj⟩
    have bb:=xad bi
    refine xg (xbC Se (d1:=frD (restQ p (min k ((bits i:Nat):Int)) (Rat.divInt i j))) (d2:= .tup [.int i,.int j]) (xi Se 0 (y9 M) (by decide) (xa (xb Se 0) (xa (Jr Se 6 (xa (xb Se 2) (xa (jk (xm (xb Se 3) xf rfl)) xc)) M.rS) (xa (xb Se 3) xc))) ⟨p,min k ((bits i:Nat):Int),Rat.divInt i j,by rw [ef],hp,by omega,by omega,fb,rfl⟩) (xb Se 3)) ?_
    show D.bl (eqD (frD (restQ p (min k ((bits i:Nat):Int)) (Rat.divInt i j))) (.tup [.int i,.int j]))=D.bl (isF (.tup [.int i,.int j]) && decide (restQ p (min k (bits i:Int)) (Rat.divInt i j)=Rat.divInt i j))
    rw [h2,ef,ZL]
    rfl
abbrev qZ:Stmt:=top 47
theorem uW:ScB ["p","numbers"] ["p","numbers"] ["min"] (defScope qZ):=by walk_at "S"
theorem Xw {T:Tx} (M:Mo T):FnD T 3 "least_power" xam:=by
 refine yq M.nE uW (by walk_at "2") (by rintro _ _ ⟨_,_,rfl,_,_,_,rfl⟩;rfl) fun Y S Z ds d h=>?_
 have Se:=S.toSe
 obtain ⟨p,rs,rfl,hp,hl10,⟨r0,hr0,hn0⟩,rfl⟩:=h
 have e:(rs.map fun r=>(vq p r).map D.int).filterMap id=(rs.filterMap (vq p)).map D.int:=by
  rw [List.filterMap_map,List.map_filterMap]
  rfl
 obtain ⟨i,l,hil⟩:∃i l,rs.filterMap (vq p)=i::l:=by
  cases h:rs.filterMap (vq p) with
  | nil=>exact absurd (vq_none.mp (List.filterMap_eq_nil_iff.mp h r0 hr0)) hn0
  | cons i l=>exact ⟨i,l,rfl⟩
 have hd0:leastV p rs=l.foldl min i:=by unfold leastV;rw [hil]
 rw [hd0]
 rw [hil] at e
 refine xg (K1 Se 0 (xa (Jt (ZI (tn:=["a"]) (fs:=["p"]) (ix:=[0]) (G':=["power_in","NOUGHT"]) Se Z.sc ?B (xbr (xb Se 1)) (rs.map fun r=>(vq p r).map D.int) (by simp) (by rw [List.length_map];omega) ?T) e) xc) M.rS) rfl
 case B=>exact ⟨rfl,rfl,by decide+kernel,by decide+kernel,by decide+kernel,by decide+kernel,by decide+kernel,by decide+kernel,rfl,by decide+kernel⟩
 case T=>
  intro Y' S' hl m d r hd hr ts hts
  obtain ⟨t1,rfl⟩:∃t1,ts=[t1]:=List.length_eq_one_iff.mp hts
  rw [List.getElem?_map] at hd hr
  cases hq:rs[m]? with
  | none=>rw [hq] at hd;cases hd
  | some q=>
   rw [hq] at hd hr
   cases hd
   have hr2:(vq p q).map D.int=r:=by simpa using hr
   have e0:eqD (frD q) (.tup ([0,1].map D.int))=decide (q=0):=ZL q 0
   cases hv:vq p q with
   | none=>
    rw [hv] at hr2
    subst hr2
    refine ⟨[.val (frD q)],rfl,rfl,zH S'.toSn 0 (.inr (hl _ (by simp))),?_⟩
    have h2:(!eqD (frD q) (.tup ([0,1].map D.int)))=false:=by rw [e0,vq_none.mp hv];simp
    show TeD Y' _ _ false
    rw [<-h2]
    exact Vl S' (xb S' 0) (yc S'.toSn 1 M.gK)
   | some v=>
    rw [hv] at hr2
    subst hr2
    refine ⟨[.val (frD q)],rfl,rfl,zH S'.toSn 0 (.inr (hl _ (by simp))),?_,?_⟩
    ·have h2:(!eqD (frD q) (.tup ([0,1].map D.int)))=true:=by
      rw [e0]
      have:q≠0:=fun z=>by rw [vq_none.mpr z] at hv;cases hv
      simp [this]
     show TeD Y' _ _ true
     rw [<-h2]
     exact Vl S' (xb S' 0) (yc S'.toSn 1 M.gK)
    ·exact xi S' 0 (zt M) (by decide) (xa (xb S' 1) (xa (xb S' 0) xc)) ⟨p,q,rfl,hp,by rw [hv];rfl⟩
abbrev Yi:Stmt:=top 44
theorem Vz:ScB ["p","table","least","k"] ["p","table"] ["least_power","power_in","rest_by","measure","over"] (defScope Yi):=by walk_at "S"
theorem VX {T:Tx} (M:Mo T):FnD T 5 "spot_of" XU:=by
 refine yq M.rF Vz (by walk_at "2") (by rintro _ _ ⟨_,_,_,rfl,_⟩;rfl) fun Y S Z ds d h=>?_
 have Se:=S.toSe
 obtain ⟨p,t,v,rfl,hp,hm,hv,k0,k1,hc,hd,rfl⟩:=h
 refine xn S 2 (xi Se 0 (Xw M) (by decide) (xa (xb Se 0) (JM (xt (xa (xm (xb Se 1) xf rfl) (xa (xm (xb Se 1) xf rfl) xc))) xc)) ⟨p,[t.c,t.d],rfl,hp,by simp,xaa hv,rfl⟩) ?_
 refine xn S 3 (qf (i:=v) (xi Se 1 (zt M) (by decide) (xa (xb Se 0) (xa (xi Se 3 (vw M) (by decide) (xa (xb Se 1) xc) ⟨t,rfl,hm,rfl⟩) xc)) ⟨p,t.det,rfl,hp,by rw [hv];rfl⟩) (xF xf (xb Se 2) (.of_left (intBits_le_64 (by decide) (by decide))))) ?_
 cases ec:vq p t.c with
 | none=>
  have hn:¬(none:Option Int)=some (leastV p [t.c,t.d]):=fun z=>nomatch z
  have hd':=hd (by rw [ec];exact hn)
  have nn:t.d.num≠0:=fun z=>hd'.1 (Rat.num_eq_zero.mp z)
  rw [if_neg hn]
  refine xo (qr Se (d1:= .non) (xi Se 1 (zt M) (by decide) (xa (xb Se 0) (xa (xm (xb Se 1) xf rfl) xc)) ⟨p,t.c,rfl,hp,by rw [ec];rfl⟩) (xb Se 2)) (fun h=>?_) (fun _=>xj ?_)
  ·exact absurd h (by simp [eqD,toPy,PyData.eqv])
  exact xg (xt (xa (xb Se 3) (xa (xi Se 2 (y9 M) (by decide) (xa (xb Se 0) (xa (xb Se 3) (xa (xM Se 4 (Xt M) (by decide) (xa (xm (xb Se 1) xf rfl) (xa (xm (xb Se 1) xf rfl) xc)) ⟨_,_,rfl,hm.ht.b,hm.ht.d,.inl ⟨nn,rfl⟩⟩) xc))) ⟨p,v - 2*leastV p [t.c,t.d],t.b*t.d⁻¹,by rw [Zn _ hd'.1],hp,k1,k0,hd'.2,rfl⟩) xc))) rfl
 | some w=>
  have ee:eqD (.int w) (.int (leastV p [t.c,t.d]))=decide (w=leastV p [t.c,t.d]):=by
   show (w==leastV p [t.c,t.d])=_
   by_cases z:w=leastV p [t.c,t.d]<;>simp [z]
  refine xo (qr Se (d1:= .int w) (xi Se 1 (zt M) (by decide) (xa (xb Se 0) (xa (xm (xb Se 1) xf rfl) xc)) ⟨p,t.c,rfl,hp,by rw [ec];rfl⟩) (xb Se 2)) (fun h=>?_) (fun h=>xj ?_)
  ·rw [ee] at h
   have hw:w=leastV p [t.c,t.d]:=of_decide_eq_true h
   have hc':=hc (by rw [ec,hw])
   have c0:t.c≠0:=fun z=>by rw [vq_none.mpr z] at ec;cases ec
   have nn:t.c.num≠0:=fun z=>c0 (Rat.num_eq_zero.mp z)
   rw [if_pos (by rw [hw])]
   exact xg (xt (xa (xb Se 3) (xa (xi Se 2 (y9 M) (by decide) (xa (xb Se 0) (xa (xb Se 3) (xa (xM Se 4 (Xt M) (by decide) (xa (xm (xb Se 1) xf rfl) (xa (xm (xb Se 1) xf rfl) xc)) ⟨_,_,rfl,hm.ht.a,hm.ht.c,.inl ⟨nn,rfl⟩⟩) xc))) ⟨p,v - 2*leastV p [t.c,t.d],t.a*t.c⁻¹,by rw [Zn _ c0],hp,k1,k0,hc',rfl⟩) xc))) rfl
  ·rw [ee] at h
   have hn:¬some w=some (leastV p [t.c,t.d]):=fun z=>of_decide_eq_false h (by cases z;rfl)
   have hd':=hd (by rw [ec];exact hn)
   have nn:t.d.num≠0:=fun z=>hd'.1 (Rat.num_eq_zero.mp z)
   rw [if_neg hn]
   exact xg (xt (xa (xb Se 3) (xa (xi Se 2 (y9 M) (by decide) (xa (xb Se 0) (xa (xb Se 3) (xa (xM Se 4 (Xt M) (by decide) (xa (xm (xb Se 1) xf rfl) (xa (xm (xb Se 1) xf rfl) xc)) ⟨_,_,rfl,hm.ht.b,hm.ht.d,.inl ⟨nn,rfl⟩⟩) xc))) ⟨p,v - 2*leastV p [t.c,t.d],t.b*t.d⁻¹,by rw [Zn _ hd'.1],hp,k1,k0,hd'.2,rfl⟩) xc))) rfl
abbrev u9:Stmt:=top 45
theorem Z8:ScB ["p","spot"] ["p","spot"] ["NOUGHT","ONE","prime_power"] (defScope u9):=by walk_at "S"
theorem QD {T:Tx} (M:Mo T):FnD T 3 "table_at" xah:=by
 refine yq M.re Z8 (by walk_at "2") (by rintro _ _ ⟨_,_,_,rfl,_,_,_,rfl⟩;rfl) fun Y S Z ds d h=>?_
 have Se:=S.toSe
 obtain ⟨p,k,q,rfl,hp,k0,k1,rfl⟩:=h
 exact xg (xt (xa (xi Se 2 (ut M) (by decide) (xa (xb Se 0) (xa (xm (xb Se 1) xf rfl) xc)) ⟨p,k,rfl,hp,k0,k1,rfl⟩) (xa (xm (xb Se 1) xf rfl) (xa (yc Se.toSn 0 M.gK) (xa (yc Se.toSn 1 M.nB) xc))))) rfl
abbrev qX:Stmt:=top 59
theorem uU:ScB ["number","size","left","pieces"] ["number"] ["raised","PIECE_FIGURES","abs","str","reversed"] (defScope qX):=by walk_at "S"
theorem qB {T:Tx} (M:Mo T):FnD T 2 "whole_text" xaf:=by
 refine yq M.nF uU (by walk_at "1") (by rintro _ _ ⟨_,rfl,_,rfl⟩;rfl) fun Y S Z ds d h=>?_
 have Se:=S.toSe
 obtain ⟨i,rfl,hB,rfl⟩:=h
 have lg:((i.natAbs:Int)).natAbs<10^4300:=Nat.lt_of_lt_of_le (show ((i.natAbs:Int)).natAbs<10^850 by simpa using hB) (Nat.pow_le_pow_right (by decide) (by decide))
 have ln:=yD (i:=(i.natAbs:Int)) (k:=849) (by simpa using hB)
 refine xn S 1 (d:= .int (10^(1000:Int).toNat)) (xi Se 0 (yS M) (by decide) (xa xf (xa (yW Se.toSn 1 M.nu) xc)) ⟨10,1000,rfl,.inr rfl,by decide,rfl⟩) ?_
 refine xn S 2 (d:= .int (i.natAbs:Int)) ?ab ?_
 case ab=>
  exact wS Se 2 (xa (xb Se 0) xc) M.ny
 refine jU S 3 (ds:=[]) (kL xc) ?_
 have lt:(i.natAbs:Int)<10^(1000:Int).toNat:=by
  have h1:(i.natAbs:Int)<(10:Int)^850:=by exact_mod_cast hB
  exact Int.lt_of_lt_of_le h1 Ks
 generalize (10:Int)^(1000:Int).toNat=P at lt
 refine yZ S (fun c=>c=[.val (.int i),.val (.int P),.val (.int (i.natAbs:Int)),.own []]) (fun _=>0) rfl ?_
 rintro _ rfl
 refine ⟨false,?te,(fun h=>by cases h),fun _=>?_⟩
 case te=>
  have e:decide (P<=(i.natAbs:Int))=false:=decide_eq_false (by omega)
  rw [<-e]
  exact xbY (xb Se 2) (xb Se 1)
 refine Y3 S 3 (ds:=[]) rfl (d:= .str (tx (wr (i.natAbs:Int)))) ?st ?_ (by decide)
 case st=>
  rw [<-yY]
  exact uG Se 3 M.nd (xa (xb Se 2) xc) lg M.nz
 refine xo (wZ (xb Se 0) xf) (fun h=>?_) (fun h=>xj ?_)
 ·have h:i<0:=of_decide_eq_true h
  refine Y3 S 3 (ds:=[.str (tx (wr (i.natAbs:Int)))]) rfl (d:= .str "-") xl (xj ?_) (by simp)
  refine Yb 3 (ds:=[tx (wr (i.natAbs:Int)),"-"].map D.str) rfl ?_
  refine xg (QU Se 4 (sep:= "") (xs:=[tx (wr (i.natAbs:Int)),"-"]) xl (xb Se 3) (by simp) ?jok M.nA) ?_
  case jok=>
   have e:JoinOk "" ["-",tx (wr (i.natAbs:Int))]=true:=by
    unfold JoinOk Builtin.Str.tooLong
    have h1:(["-",tx (wr (i.natAbs:Int))]:List Str).toArray.foldl (fun a p=>a+p.length+("" :Str).length) 0=0+("-" :Str).length+("" :Str).length+(tx (wr (i.natAbs:Int))).length+("" :Str).length:=rfl
    rw [h1,yL,show ("-" :Str).length=1 from rfl,show ("" :Str).length=0 from rfl,sizeLine_eq]
    simp
    omega
   exact e
  show D.str (Txt.join "" ["-",tx (wr (i.natAbs:Int))])=D.str (tx (wr i))
  congr 1
  have e1:wr i=45::wr (i.natAbs:Int):=by
   unfold wr
   rw [if_pos h,if_neg (by omega)]
   rfl
  have e2:(Txt.join "" ["-",tx (wr (i.natAbs:Int))]).cps.toList=wr i:=by
   show (("-" :Str).cps++("" :Str).cps++(tx (wr (i.natAbs:Int))).cps).toList=_
   rw [Array.toList_append,Array.toList_append,show (tx (wr (i.natAbs:Int))).cps.toList=wr (i.natAbs:Int) from xu _,e1]
   rfl
  rw [<-e2,zg]
 ·have h:¬i<0:=of_decide_eq_false h
  refine Yb 3 (ds:=[tx (wr (i.natAbs:Int))].map D.str) rfl ?_
  refine xg (QU Se 4 (sep:= "") (xs:=[tx (wr (i.natAbs:Int))]) xl (xb Se 3) (by simp) ?jok M.nA) ?_
  case jok=>
   have e:JoinOk "" [tx (wr (i.natAbs:Int))]=true:=by
    unfold JoinOk Builtin.Str.tooLong
    have h1:([tx (wr (i.natAbs:Int))]:List Str).toArray.foldl (fun a p=>a+p.length+("" :Str).length) 0=0+(tx (wr (i.natAbs:Int))).length+("" :Str).length:=rfl
    rw [h1,yL,show ("" :Str).length=0 from rfl,sizeLine_eq]
    simp
    omega
   exact e
  show D.str (Txt.join "" [tx (wr (i.natAbs:Int))])=D.str (tx (wr i))
  congr 1
  rw [show i=(i.natAbs:Int) by omega]
  rfl
abbrev zJ:Stmt:=top 58
theorem vM:ScB ["a","top","bottom"] ["a"] ["whole_text"] (defScope zJ):=by walk_at "S"
theorem v4 {T:Tx} (M:Mo T):FnD T 3 "fraction_text" Uj:=by
 refine yq M.nj vM (by walk_at "1") (by rintro _ _ ⟨_,rfl,_⟩;rfl) fun Y S Z ds d h=>?_
 have Se:=S.toSe
 obtain ⟨a,rfl,hB,rfl⟩:=h
 have l1:a.num.natAbs<10^4300:=Nat.lt_of_lt_of_le hB.1 (Nat.pow_le_pow_right (by decide) (by decide))
 have l2:((a.den:Int)).natAbs<10^4300:=Nat.lt_of_lt_of_le (show ((a.den:Int)).natAbs<10^850 by simpa using hB.2) (Nat.pow_le_pow_right (by decide) (by decide))
 have n1:=yD (k:=849) hB.1
 have n2:=yD (i:=(a.den:Int)) (k:=849) (by simpa using hB.2)
 have eq2:∀y:Str,y.cps.toList=wr a.num++47::wr (a.den:Int)->a.den≠1->D.str y=D.str (tx (ftx a)):=fun y hy hd=>by
  unfold ftx
  rw [if_neg hd,<-jG a.den,<-hy,zg]
 refine xn S 1 (xi Se 0 (qB M) (by decide) (xa (xm (xb Se 0) xf rfl) xc) ⟨a.num,rfl,hB.1,rfl⟩) ?_
 refine xo (yQ (xm (xb Se 0) xf rfl) xf) (fun h=>?_) (fun h=>xj ?_)
 ·have hd:a.den=1:=by have h':(a.den:Int)=1:=(by simpa using h);omega
  refine xg (xb Se 1) ?_
  show D.str _=D.str _
  unfold ftx
  rw [if_pos hd]
 ·have hd:a.den≠1:=by have h':¬(a.den:Int)=1:=(by simpa using h);omega
  refine xn S 2 (xi Se 0 (qB M) (by decide) (xa (xm (xb Se 0) xf rfl) xc) ⟨(a.den:Int),rfl,(by simpa using hB.2),rfl⟩) ?_
  refine xg (Ju (qc (Wc (xb Se 1) (by rw [yL];omega)) ?_ (qc xl ?_ (qc (Wc (xb Se 2) (by rw [yL];omega)) ?_ V6))) ?_) ?_
  ·rw [xH,xw,xu];simp [Str.empty];omega
  ·rw [xH,xw,xw,xu];simp [Str.empty,show ("/" :Str).cps.toList=[47] from rfl];omega
  ·rw [xH,xw,xw,xw,xu,xu];simp [Str.empty,show ("/" :Str).cps.toList=[47] from rfl];omega
  ·rw [xH,xw,xw,xw,xu,xu];simp [Str.empty,show ("/" :Str).cps.toList=[47] from rfl];omega
  ·refine eq2 _ ?_ hd
   rw [xw,xw,xw,xu,xu];simp [Str.empty,show ("/" :Str).cps.toList=[47] from rfl]
abbrev w5:Stmt:=top 60
theorem Y5:ScB ["spot","first","behind"] ["spot"] ["fraction_text"] (defScope w5):=by walk_at "S"
theorem vY {T:Tx} (M:Mo T):FnD T 4 "spot_text" xai:=by
 refine yq M.nP Y5 (by walk_at "1") (by rintro _ _ ⟨_,_,rfl,_⟩;rfl) fun Y S Z ds d h=>?_
 have Se:=S.toSe
 obtain ⟨k,a,rfl,hk,hB,rfl⟩:=h
 have l1:k.natAbs.log2<1920:=Zy (Nat.lt_of_lt_of_le hk (by decide+kernel))
 have n1:=yD (i:=k) (k:=3) hk
 have n2:=qH hB
 refine xn S 1 (xm (xb Se 0) xf rfl) ?_
 refine xn S 2 (xi Se 0 (v4 M) (by decide) (xa (xm (xb Se 0) xf rfl) xc) ⟨_,rfl,hB,rfl⟩) ?_
 have e1:(":" :Str).cps.toList=[58]:=rfl
 refine xg (Ju (qc (We (xb Se 1) l1) ?_ (qc xl ?_ (qc (Wc (xb Se 2) ?_) ?_ V6))) ?_) ?_
 ·rw [xH,xw,yY,xu];simp [Str.empty];omega
 ·rw [xH,xw,xw,yY,xu];simp [Str.empty,e1];omega
 ·rw [yL];omega
 ·rw [xH,xw,xw,xw,yY,xu,xu];simp [Str.empty,e1];omega
 ·rw [xH,xw,xw,xw,yY,xu,xu];simp [Str.empty,e1];omega
 ·refine xaN ?_
  rw [xw,xw,xw,yY,xu,xu];simp [Str.empty,e1,stx]
abbrev vO:Stmt:=top 61
theorem XZ:ScB ["text","most"] ["text","most"] ["all","len"] (defScope vO):=by walk_at "S"
theorem zA {T:Tx} (M:Mo T):FnD T 1 "is_figures" xcr:=by
 refine yq M.nJ XZ (by walk_at "2") (by rintro _ _ ⟨_,_,rfl,_⟩;rfl) fun Y S Z ds d h=>?_
 have Se:=S.toSe
 obtain ⟨x,m,rfl,hT,rfl⟩:=h
 have hL:=hT.len
 have hz1:x.length<=1000000:=by omega
 refine xo (yo (xz (xb Se 0) xl) fun _=>yz (X7 (yJ Se 1 (xa (xb Se 0) xc) (len_str hz1) M.g6) (xb Se 1))).pt (fun h=>?_) (fun h=>xj ?_)
 ·refine xg yr ?_
  show D.bl false=D.bl _
  rw [okf1 h]
 obtain ⟨a,r,hx,hm⟩:=okf2 h
 have h0:atI x.cps.toList 0=some a:=Ui (j:=0) (by rw [hx];rfl)
 refine xo (zY (xz (xbA (xb Se 0) xf h0 hz1) xl) fun _=>vI (xaL (xb Se 0) xl)).pt (fun h=>?_) (fun h=>xj ?_)
 ·refine xg yr ?_
  show D.bl false=D.bl _
  have h':=(okf3 hx).symm.trans h
  unfold okFig
  rw [h']
  simp
 have h':=(okf3 hx).symm.trans h
 have e:(x.cps.toList.map fun q=>some (D.bl (decide (q∈digs)))).filterMap id=(x.cps.toList.map fun q=>decide (q∈digs)).map D.bl:=by
  rw [List.filterMap_map,List.map_map,<-List.filterMap_eq_map]
  rfl
 refine xg (K6 Se 0 (xa (xci (ZI (tn:=["sign"]) (fs:=[]) (ix:=[]) (G':=["FIGURES"]) Se Z.sc ?B (xbs (xb Se 0)) (x.cps.toList.map fun q=>some (D.bl (decide (q∈digs)))) (by rw [Uu,List.length_map]) (by rw [List.length_map,<-xH];omega) ?T) e) xc) M.sK) ?_
 case B=>exact ⟨rfl,rfl,by decide+kernel,by decide+kernel,by decide+kernel,by decide+kernel,by decide+kernel,by decide+kernel,rfl,by decide+kernel⟩
 case T=>
  intro Y' S' hl m d r hd hr ts hts
  obtain ⟨q,hq,rfl⟩:=jY hd
  obtain ⟨t,rfl⟩:∃t,ts=[t]:=List.length_eq_one_iff.mp hts
  rw [List.getElem?_map,hq] at hr
  cases hr
  exact ⟨[_],rfl,rfl,zH S'.toSn 0 (.inr (hl _ (by simp))),rfl,xbB (xb S' 0) (ZH S'.toSn 0 M.rQ)⟩
 show D.bl _=D.bl _
 unfold okFig
 rw [h',hx]
 rw [hx] at hm
 rw [decide_eq_true hm]
 simp [Function.comp_def]
abbrev qw:Stmt:=top 62
theorem uq:ScB ["text","most"] ["text","most"] ["int","is_figures","NoText"] (defScope qw):=by walk_at "S"
theorem ye {T:Tx} (M:Mo T):FnX T 2 "read_figures" JR:=by
 refine wL M.nw uq (by walk_at "2") (by rintro _ _ ⟨_,_,rfl,_⟩;rfl) fun Y S Z ds r h hz=>?_
 have Se:=S.toSe
 obtain ⟨x,m,rfl,hT,hm,hr⟩:=h
 have hL:=hT.len
 have hz1:x.length<=1000000:=by omega
 refine xo (xR (xQ (xi Se 1 (zA M) (by decide) (xa (xb Se 0) (xa (xb Se 1) xc)) ⟨_,_,rfl,hT,rfl⟩))) (fun h=>?_) (fun h=>xj ?_)
 ·have hn:figs x.cps.toList m=none:=by unfold figs;rw [if_neg];simpa using h
  rw [hn] at hr
  have hr:r= .ex "NoText" :=hr
  subst hr
  have hc:∀q∈x.cps.toList,q<16^8:=fun q hq=>Nat.lt_trans (hT.2 q hq) (by decide)
  have hl:=StrLaws.reprText_len x hc
  have hw:=yD (i:=(m:Int)) (k:=5) (by simp;omega)
  refine wt S 2 M.gn (.cons (Wd (xb Se 0) (by omega) hc) (by omega) (.cons xl (by decide) (.cons (We (xb Se 1) (xbj (by simp;omega))) ?_ (.cons xl (by decide) .nil)))) (hz _ rfl _).2
  rw [yY,yL];omega
 ·have hf:okFig x.cps.toList m=true:=by simpa using h
  have hn:figs x.cps.toList m=some (dv x.cps.toList):=by unfold figs;rw [if_pos hf]
  rw [hn] at hr
  have hr:r= .ok (.int (dv x.cps.toList:Nat)):=hr
  subst hr
  exact xg (ZG Se 0 (xa (xb Se 0) xc) (XH hm hn) (by rw [xH];have:=(zm hf).2.1;omega) M.mD) rfl
abbrev vN:Stmt:=top 63
theorem XY:ScB ["text","most","number"] ["text","most"] ["read_figures","NoText"] (defScope vN):=by walk_at "S"
theorem yN {T:Tx} (M:Mo T):FnX T 3 "read_whole" XW:=by
 refine wL M.nK XY (by walk_at "2") (by rintro _ _ ⟨_,_,rfl,_⟩;rfl) fun Y S Z ds r h hz=>?_
 have Se:=S.toSe
 obtain ⟨x,m,rfl,hT,hm,hr⟩:=h
 have hL:=hT.len
 have hz1:x.length<=1000000:=by omega
 refine xo (xR (xQ (jh (cd:=45) (xb Se 0) xl))) (fun h=>?_) (fun h=>xj ?_)
 ·have h45:¬x.cps.toList[0]? =some 45:=by simpa using h
  unfold sgn at hr
  rw [if_neg h45] at hr
  cases q:figs x.cps.toList m with
  | none=>
   rw [q] at hr
   have hr:r= .ex "NoText" :=hr
   subst hr
   exact yw (x6 Se 0 (ye M) (by decide) (xa (xb Se 0) (xa (xb Se 1) xc)) ⟨_,_,rfl,hT,hm,by rw [q];rfl⟩ (hz _ rfl _).1)
  | some n=>
   rw [q] at hr
   have hr:r= .ok (.int (n:Int)):=hr
   subst hr
   exact xg (xM Se 0 (ye M) (by decide) (xa (xb Se 0) (xa (xb Se 1) xc)) ⟨_,_,rfl,hT,hm,by rw [q];rfl⟩) rfl
 have h45:x.cps.toList[0]? =some 45:=by simpa using h
 have ec:cutL x.cps.toList (some 1) none=x.cps.toList.drop 1:=JF _ 1
 have hT2:Tl (tx (cutL x.cps.toList (some 1) none)).cps.toList:=by rw [xu,ec];exact hT.sub (List.drop_sublist _ _)
 unfold sgn at hr
 rw [if_pos h45,<-ec,<-xu (cutL x.cps.toList (some 1) none)] at hr
 cases q:figs (tx (cutL x.cps.toList (some 1) none)).cps.toList m with
 | none=>
  rw [q] at hr
  have hr:r= .ex "NoText" :=hr
  subst hr
  exact yM S 2 (x6 Se 0 (ye M) (by decide) (xa (YC (xb Se 0) xf hz1) (xa (xb Se 1) xc)) ⟨_,_,rfl,hT2,hm,by rw [q];rfl⟩ (hz _ rfl _).1)
 | some n=>
  rw [q] at hr
  refine xn S 2 (xM Se 0 (ye M) (by decide) (xa (YC (xb Se 0) xf hz1) (xa (xb Se 1) xc)) ⟨_,_,rfl,hT2,hm,by rw [q];rfl⟩) ?_
  refine xo (yQ (xb Se 2) xf) (fun h=>?_) (fun h=>xj ?_)
  ·have h0:n=0:=by simpa using h
   simp only [if_pos h0] at hr
   have hr:r= .ex "NoText" :=hr
   subst hr
   exact zh S 1 M.gn (xa xl xc) (hz _ rfl _).2
  ·have h0:¬n=0:=by simpa using h
   simp only [if_neg h0] at hr
   have hr:r= .ok (.int (-(n:Int))):=hr
   subst hr
   exact xg (ZE (xb Se 2)) rfl
abbrev ql:Stmt:=top 64
theorem wv:ScB ["text","parts","top","bottom"] ["text"] ["read_whole","MOST_FIGURES","read_figures","fraction","NoText","shared"] (defScope ql):=by walk_at "S"
theorem x8 {T:Tx} (M:Mo T):FnX T 4 "read_fraction" wl:=by
 refine wL M.nr wv (by walk_at "1") (by rintro _ _ ⟨_,rfl,_⟩;rfl) fun Y S Z ds r h hz=>?_
 have Se:=S.toSe
 obtain ⟨x,rfl,hT,hr⟩:=h
 have hL:=hT.len
 have hz1:x.length<=1000000:=by omega
 have hP:=hT.part 47
 refine xn S 1 (Ub (cd:=47) (xb Se 0) xl hz1) ?_
 unfold frac at hr
 generalize partL 47 x.cps.toList=pa at hP hr
 obtain ⟨p1,p2,p3⟩:=pa
 dsimp only at hP hr ⊢
 have a0:XW [.str (tx p1),.int ((60:Nat):Int)] (rsO (sgn p1 60) D.int "NoText"):=⟨tx p1,60,rfl,hP.1.tx,by decide,by rw [xu]⟩
 cases q:sgn p1 60 with
 | none=>
  rw [q] at hr a0
  have hr:r= .ex "NoText" :=hr
  subst hr
  exact yM S 2 (x6 Se 0 (yN M) (by decide) (xa (xm (xb Se 1) xf rfl) (xa (yW Se.toSn 1 M.me) xc)) a0 (hz _ rfl _).1)
 | some t=>
  rw [q] at hr a0
  refine xn S 2 (xM Se 0 (yN M) (by decide) (xa (xm (xb Se 1) xf rfl) (xa (yW Se.toSn 1 M.me) xc)) a0) ?_
  refine xo (xz (xm (xb Se 1) xf rfl) xl) (fun h=>?_) (fun h=>xj ?_)
  ·have h2:p2=[]:=by rw [zZ,xu,show ("" :Str).cps.toList=[] from rfl] at h;simpa using h
   simp only [if_pos h2] at hr
   have hr:r= .ok (.tup [.int t,.int 1]):=hr
   subst hr
   have fr2:JV ([.int t]++ [.int 1]) (.tup [.int t,.int 1]):=⟨_,_,rfl,by decide,by decide+kernel,by rw [show Rat.divInt t 1=(t:Rat) from by rw [show (1:Int)=((1:Nat):Int) from rfl,Rat.divInt_ofNat,Rat.mkRat_one]];rfl⟩
   exact xg (Jw Se 3 (Zp M) (by decide) (xa (xb Se 2) xc) fr2) rfl
  ·have h2:¬p2=[]:=by rw [zZ,xu,show ("" :Str).cps.toList=[] from rfl] at h;simpa using h
   simp only [if_neg h2] at hr
   have a1:JR [.str (tx p3),.int ((60:Nat):Int)] (rsO (figs p3 60) (fun n=> .int (n:Int)) "NoText"):=⟨tx p3,60,rfl,hP.2.tx,by decide,by rw [xu]⟩
   cases q3:figs p3 60 with
   | none=>
    rw [q3] at hr a1
    have hr:r= .ex "NoText" :=hr
    subst hr
    exact yM S 3 (x6 Se 2 (ye M) (by decide) (xa (xm (xb Se 1) xf rfl) (xa (yW Se.toSn 1 M.me) xc)) a1 (hz _ rfl _).1)
   | some b=>
    rw [q3] at hr a1
    refine xn S 3 (xM Se 2 (ye M) (by decide) (xa (xm (xb Se 1) xf rfl) (xa (yW Se.toSn 1 M.me) xc)) a1) ?_
    refine xo (yo (wZ (xb Se 3) xf) fun _=>yz (yH (xi Se 5 (wC M) (by decide) (xa (xb Se 2) (xa (xb Se 3) xc)) ⟨_,_,rfl,rfl⟩) xf)).pt (fun h=>?_) (fun h=>xj ?_)
    ·have hb:(b:Int)<2∨Int.gcd t b≠1:=by
      rcases Bool.or_eq_true_iff.mp h with h | h
      ·exact .inl (by simpa using h)
      ·right;simp at h;omega
     simp only [if_pos hb] at hr
     have hr:r= .ex "NoText" :=hr
     subst hr
     have hc:∀q∈x.cps.toList,q<16^8:=fun q hq=>Nat.lt_trans (hT.2 q hq) (by decide)
     have hl:=StrLaws.reprText_len x hc
     exact wt S 4 M.gn (.cons (Wd (xb Se 0) (by omega) hc) (by omega) (.cons xl (by decide) .nil)) (hz _ rfl _).2
    ·have hb:¬((b:Int)<2∨Int.gcd t b≠1):=by
      obtain ⟨h1,h2⟩:=Bool.or_eq_false_iff.mp h
      rintro (z | z)
      ·simp at h1;omega
      ·simp at h2;omega
     simp only [if_neg hb] at hr
     have hr:r= .ok (.tup [.int t,.int (b:Int)]):=hr
     subst hr
     exact xg (xt (xa (xb Se 2) (xa (xb Se 3) xc))) rfl
abbrev qY:Stmt:=top 65
theorem uV:ScB ["p","text","parts","first","spot"] ["p","text"] ["read_whole","MOST_FIRST_FIGURES","read_fraction","FURTHEST_FIRST","NoSpot","abs","is_spot"] (defScope qY):=by walk_at "S"
theorem qo {T:Tx} (M:Mo T):FnX T 5 "read_spot" ZX:=by
 refine wL M.nG uV (by walk_at "2") (by rintro _ _ ⟨_,_,rfl,_⟩;rfl) fun Y S Z ds r h hz=>?_
 have Se:=S.toSe
 obtain ⟨p,x,rfl,hp,hT,hr⟩:=h
 have hL:=hT.len
 have hz1:x.length<=1000000:=by omega
 have hP:=hT.part 58
 refine xn S 2 (Ub (cd:=58) (xb Se 1) xl hz1) ?_
 unfold rd8 at hr
 generalize partL 58 x.cps.toList=pa at hP hr
 obtain ⟨p1,p2,p3⟩:=pa
 dsimp only at hP hr ⊢
 have a0:XW [.str (tx p1),.int ((3:Nat):Int)] (rsO (sgn p1 3) D.int "NoText"):=⟨tx p1,3,rfl,hP.1.tx,by decide,by rw [xu]⟩
 have a1:wl [.str (tx p3)] (rsO (frac p3) (fun p=> .tup [.int p.1,.int p.2]) "NoText"):=⟨tx p3,rfl,hP.2.tx,by rw [xu]⟩
 cases q:sgn p1 3 with
 | none=>
  rw [q] at hr a0
  have hr:r= .ex "NoText" :=hr
  subst hr
  exact yM S 3 (x6 Se 0 (yN M) (by decide) (xa (xm (xb Se 2) xf rfl) (xa (yW Se.toSn 1 M.ms) xc)) a0 (hz _ rfl _).1)
 | some k=>
  have hk:=jZ q
  rw [q] at hr a0
  refine xn S 3 (xM Se 0 (yN M) (by decide) (xa (xm (xb Se 2) xf rfl) (xa (yW Se.toSn 1 M.ms) xc)) a0) ?_
  cases q3:frac p3 with
  | none=>
   rw [q3] at hr a1
   have hr:r= .ex "NoText" :=hr
   subst hr
   exact yM S 4 (KZ (XR (xb Se 3) (JN (x6 Se 2 (x8 M) (by decide) (xa (xm (xb Se 2) xf rfl) xc) a1 (hz _ rfl _).1) qP)))
  | some z=>
   obtain ⟨ef,hB⟩:=xbv q3
   rw [q3] at hr a1
   have a1:wl [.str (tx p3)] (.ok (frD (frR z))):=by rw [<-ef];exact a1
   refine xn S 4 (d:= .tup [.int k,frD (frR z)]) (xt (xa (xb Se 3) (xa (xM Se 2 (x8 M) (by decide) (xa (xm (xb Se 2) xf rfl) xc) a1) xc))) ?_
   dsimp only at hr
   generalize frR z=a at hB hr
   have ok:okS (.tup [.int k,frD a]):=by
    intro k' a' b' e
    cases e
    exact ⟨by omega,hB.fb.1,hB.fb.2⟩
   refine xo (yo (X7 (wS Se 5 (xa (xb Se 3) xc) M.ny) (yW Se.toSn 3 M.no)) fun _=>yz (xR (xQ (xi Se 6 (V0 M) (by decide) (xa (xb Se 0) (xa (xb Se 4) xc)) ⟨p,.tup [.int k,frD a],rfl,hp,ok,rfl⟩)))).pt (fun h=>?_) (fun h=>xj ?_)
   ·have hc:300<k.natAbs∨isSp p k a=false:=by
     rcases Bool.or_eq_true_iff.mp h with h | h
     ·left;simp at h;omega
     ·right
      rw [Je hp] at h
      simpa using h
    rw [if_pos hc] at hr
    have hr:r= .ex "NoSpot" :=hr
    subst hr
    have hcc:∀q∈x.cps.toList,q<16^8:=fun q hq=>Nat.lt_trans (hT.2 q hq) (by decide)
    have hl:=StrLaws.reprText_len x hcc
    have hpb:p.natAbs<10^(5+1):=by rcases hp with rfl | rfl | rfl | rfl<;>decide
    have hw:=yD hpb
    refine wt S 4 M.gq (.cons (Wd (xb Se 1) (by omega) hcc) (by omega) (.cons xl (by decide) (.cons (We (xb Se 0) (Zy (Nat.lt_of_lt_of_le hpb (by decide+kernel)))) ?_ (.cons xl (by decide) .nil)))) (hz _ rfl _).2
    rw [yY,yL];omega
   ·have hc:¬(300<k.natAbs∨isSp p k a=false):=by
     obtain ⟨h1,h2⟩:=Bool.or_eq_false_iff.mp h
     rw [Je hp] at h2
     have h2:isSp p k a=true:=by simpa using h2
     rintro (y | y)
     ·simp at h1;omega
     ·rw [h2] at y;cases y
    rw [if_neg hc] at hr
    have hr:r= .ok (sptD k a):=hr
    subst hr
    exact xg (xb Se 4) rfl
abbrev Xb:Stmt:=top 66
theorem Qc:ScB ["text"] ["text"] ["FAR","read_fraction"] (defScope Xb):=by walk_at "S"
theorem vV {T:Tx} (M:Mo T):FnX T 5 "read_end" JS:=by
 refine wL M.rg Qc (by walk_at "1") (by rintro _ _ ⟨_,rfl,_⟩;rfl) fun Y S Z ds r h hz=>?_
 have Se:=S.toSe
 obtain ⟨x,rfl,hT,hr⟩:=h
 refine xo (xz (xb Se 0) (ZH Se.toSn 0 M.sF)) (fun h=>?_) (fun h=>xj ?_)
 ·rw [W8] at h
  rw [if_pos (by simpa using h)] at hr
  subst hr
  exact xg (ZH Se.toSn 0 M.sF) rfl
 ·rw [W8] at h
  rw [if_neg (by simpa using h)] at hr
  cases q:frac x.cps.toList with
  | none=>
   rw [q] at hr
   have hr:r= .ex "NoText" :=hr
   subst hr
   exact yw (x6 Se 1 (x8 M) (by decide) (xa (xb Se 0) xc) ⟨_,rfl,hT,by rw [q];rfl⟩ (hz _ rfl _).1)
  | some p=>
   rw [q] at hr
   have hr:r= .ok (.tup [.int p.1,.int p.2]):=hr
   subst hr
   exact xg (xM Se 1 (x8 M) (by decide) (xa (xb Se 0) xc) ⟨_,rfl,hT,by rw [q];rfl⟩) rfl
abbrev Yn:Stmt:=top 71
theorem VF:ScB ["p","table","spot"] ["p","table","spot"] ["spot_of","product","table_at"] (defScope Yn):=by walk_at "S"
theorem yI {T:Tx} (M:Mo T):FnD T 6 "moved" x9:=by
 refine yq M.rG VF (by walk_at "3") (by rintro _ _ ⟨_,_,_,_,rfl,_⟩;rfl) fun Y S Z ds d h=>?_
 have Se:=S.toSe
 obtain ⟨p,a,k,q,rfl,hp,k0,k1,hP,hR⟩:=h
 exact xg (xi Se 0 (VX M) (by decide) (xa (xb Se 0) (xa (xi Se 1 (VY M) (by decide) (xa (xb Se 1) (xa (xi Se 2 (QD M) (by decide) (xa (xb Se 0) (xa (xb Se 2) xc)) ⟨p,k,q,rfl,hp,by omega,by omega,rfl⟩) xc)) ⟨a,tabS p k q,rfl,hP,rfl⟩) xc)) hR) rfl
abbrev Ym:Stmt:=top 109
theorem VE:ScB ["most","word"] ["most","word"] ["is_figures","MOST_NUMBER_FIGURES","int"] (defScope Ym):=by walk_at "S"
theorem VZ {T:Tx} (M:Mo T):FnD T 2 "is_number_to" jC:=by
 refine yq M.rH VE (by walk_at "2") (by rintro _ _ ⟨_,_,rfl,_,rfl⟩;rfl) fun Y S Z ds d h=>?_
 have Se:=S.toSe
 obtain ⟨m,x,rfl,hT,rfl⟩:=h
 unfold numTo
 by_cases hf:okFig x.cps.toList 3=true
 ·have hn:figs x.cps.toList 3=some (dv x.cps.toList):=by unfold figs;rw [if_pos hf]
  rw [hn]
  refine xg (qe (zC (xi Se 0 (zA M) (by decide) (xa (xb Se 1) (xa (yW Se.toSn 1 M.mf) xc)) ⟨x,3,rfl,hT,rfl⟩) fun _=>XJ (xcj (ZG Se 2 (xa (xb Se 1) xc) (XH (by decide) hn) (by rw [xH];have:=(zm hf).2.1;omega) M.mD) (xb Se 0))) ?_) rfl
  rw [if_pos hf]
 ·have hn:figs x.cps.toList 3=none:=by unfold figs;rw [if_neg hf]
  rw [hn]
  refine xg (qe (zC (d:= .non) (xi Se 0 (zA M) (by decide) (xa (xb Se 1) (xa (yW Se.toSn 1 M.mf) xc)) ⟨x,3,rfl,hT,rfl⟩) fun h=>absurd h hf) ?_) rfl
  rw [if_neg hf]
abbrev Qs:Stmt:=top 108
theorem UH:ScB ["words","form","i"] ["words"] ["range","FORMS","NoRow","len","MOST","is_number_to"] (defScope Qs):=by walk_at "S"
theorem VT {T:Tx} (M:Mo T):FnX T 3 "form_of" Vc:=by
 refine wL M.rV UH (by walk_at "1") (by rintro _ _ ⟨_,rfl,_⟩;rfl) fun Y S Z ds r h hz=>?_
 have Se:=S.toSe
 obtain ⟨ws,rfl,hne,hl,hT,hr⟩:=h
 obtain ⟨w,ws',rfl⟩:∃w ws',ws=w::ws':=by
  cases ws with
  | nil=>exact absurd rfl hne
  | cons a b=>exact ⟨a,b,rfl⟩
 have w0:atI ((w::ws').map D.str) 0=some (.str w):=zU (m:=0) rfl rfl
 have RZ:∀c P (hc:r= .ex "NoRow") {q1 q2 q3 q4:Pos} {t:Str} {rest:List Stmt},SsD Y (.Raise (some (.Call (.Name "NoRow" q1) [.Constant (.str t) 0 q2] [] q3)) none q4::rest) c P:=fun c P hc {_ _ _ _ _ _}=>by
  subst hc
  exact zh S 2 M.gw (xa xl xc) (hz _ rfl _).2
 refine xo (yo (xaM Se (d:= .str "") xl (xb Se 0) (by decide+kernel) (Uv hT)) fun _=>yz (jN Se 1 (l:=formsL) M.rm (xC (xb Se 0) xf w0))).pt (fun h=>?_) (fun h=>xj ?_)
 ·refine RZ _ _ ?_
  rw [YM] at h
  rw [hr,zn]
  by_cases hc:(w::ws').contains ("" :Str)=true
  ·rw [if_pos hc]
  ·rw [if_neg hc]
   have hn:lkD formsL w=none:=by
    cases q:lkD formsL w with
    | none=>rfl
    | some v=>rw [q] at h;simp at h;exact absurd (by simpa using h) hc
   rw [hn]
 obtain ⟨h1,h2⟩:=Bool.or_eq_false_iff.mp h
 rw [YM] at h1
 cases q:lkD formsL w with
 | none=>rw [q] at h2;cases h2
 | some v=>
  obtain ⟨y,rfl,y1,y2,y3⟩:=jb q
  rw [zn,if_neg (by rw [h1];decide),q] at hr
  dsimp only at hr
  refine xn S 1 (d:= .lst ((wordsS y).map D.str)) (ji (xbD Se 1 (l:=formsL) M.rm (xC (xb Se 0) xf w0) q (by intro _ _;rfl)) (by omega) (by omega)) ?_
  generalize wordsS y=f at hr y3 ⊢
  have lw:((w::ws').map D.str).length=ws'.length+1:=by rw [List.length_map];rfl
  have lf:(f.map D.str).length=f.length:=List.length_map ..
  refine xo (yH (yJ Se 3 (n:=((w::ws').map D.str).length) (xa (xb Se 0) xc) rfl M.g6) (yA (yJ Se 3 (n:=(f.map D.str).length) (xa (xb Se 1) xc) rfl M.g6) xf)) (fun h=>?_) (fun h=>xj ?_)
  ·refine RZ _ _ ?_
   rw [lw,lf] at h
   rw [if_neg (fun z=>by rw [z] at h;simp at h)] at hr
   exact hr
  rw [lw,lf] at h
  have hlen:ws'.length=f.length:=by
   have h:=of_decide_eq_true (show decide (((ws'.length+1:Nat):Int)=(f.length:Int)+1)=true by simpa using h)
   omega
  rw [if_pos hlen] at hr
  refine Y2 S (zP Se 0 (xa (yJ Se 3 (n:=(f.map D.str).length) (xa (xb Se 1) xc) rfl M.g6) xc) (by omega) (by omega) M.m4)
   (fun m c'=>(∀j,j<m->badN f (w::ws') j=false)/\∃z:Slot,c'=[.val (.lst ((w::ws').map D.str)),.val (.lst (f.map D.str)),z]) ⟨fun j hj=>absurd hj (by omega),_,rfl⟩ ?_ ?_
  ·rintro m d _ hd ⟨hb,z,rfl⟩
   obtain ⟨hm,rfl⟩:=yR hd
   refine ⟨_,yT S 2,?_⟩
   rw [show (0:Int)+(m:Int)*1=(m:Int) by omega]
   have hm':m<f.length:=by rw [lf] at hm;omega
   have gf:f[m]? =some f[m]:=List.getElem?_eq_getElem hm'
   have hx:m<ws'.length:=by omega
   have gx:(w::ws')[m+1]? =some ws'[m]:=by rw [List.getElem?_cons_succ];exact List.getElem?_eq_getElem hx
   have af:=zU gf rfl
   have ax:=zU (i:=(m:Int)+1) gx (by omega)
   have hTx:Tl (ws'[m]).cps.toList:=hT _ (List.mem_cons_of_mem _ (List.getElem_mem hx))
   cases qm:lkD mostL f[m] with
   | none=>
    refine xo (zY (w:=false) (zW Se 4 (l:=mostL) M.nh (xC (xb Se 1) (xb Se 2) af)) fun h=>by rw [qm] at h;cases h).pt (fun h=>by rw [qm] at h;cases h) (fun _=>xj (xj ⟨fun j hj=>?_,_,rfl⟩))
    by_cases e:j<m
    ·exact hb j e
    ·have e:j=m:=by omega
     subst e
     unfold badN
     rw [gf,gx]
     dsimp only
     rw [qm]
   | some v=>
    obtain ⟨n,rfl⟩:=kW qm
    have eb:badN f (w::ws') m= !numTo n (ws'[m]).cps.toList:=by
     unfold badN
     rw [gf,gx]
     dsimp only
     rw [qm]
    refine xo (zY (zW Se 4 (l:=mostL) M.nh (xC (xb Se 1) (xb Se 2) af)) fun _=>vI (xR (xQ (xi Se 5 (VZ M) (by decide) (xa (xbE Se 4 (l:=mostL) M.nh (xC (xb Se 1) (xb Se 2) af) qm (by intro _ _;rfl)) (xa (xC (xb Se 0) (yA (xb Se 2) xf) ax) xc)) ⟨n,ws'[m],rfl,hTx,rfl⟩)))).pt (fun h=>?_) (fun h=>xj (xj ⟨fun j hj=>?_,_,rfl⟩))
    ·refine RZ _ _ ?_
     rw [qm] at h
     have h:(!numTo n (ws'[m]).cps.toList)=true:=by simpa using h
     rw [<-eb] at h
     rw [if_pos (List.any_eq_true.mpr ⟨m,List.mem_range.mpr hm',h⟩)] at hr
     exact hr
    ·by_cases e:j<m
     ·exact hb j e
     ·have e:j=m:=by omega
      subst e
      rw [qm] at h
      rw [eb]
      simpa using h
  ·rintro _ ⟨hb,z,rfl⟩
   rw [ym,lf] at hb
   rw [if_neg (fun h=>by
    obtain ⟨j,hj,hbj⟩:=List.any_eq_true.mp h
    rw [hb j (by have:=List.mem_range.mp hj;omega)] at hbj
    cases hbj)] at hr
   have hr:r= .ok (.lst (f.map D.str)):=hr
   subst hr
   exact xg (xb Se 1) rfl
abbrev Yj:Stmt:=top 110
theorem VA:ScB ["p","name","word"] ["p","name","word"] ["MOST","read_fraction","int","read_spot","read_end"] (defScope Yj):=by walk_at "S"
theorem QC {T:Tx} (M:Mo T):FnX T 6 "read_word" YO:=by
 refine wL M.rJ VA (by walk_at "3") (by rintro _ _ ⟨_,_,_,rfl,_⟩;rfl) fun Y S Z ds r h hz=>?_
 have Se:=S.toSe
 obtain ⟨p,n,x,rfl,h⟩:=h
 rcases h with ⟨rfl,hR⟩ | ⟨rfl,hR⟩ | ⟨hn,hR⟩ | ⟨hn,v,hv,rfl⟩
 case inr.inr.inr=>
  have e:(lkD mostL n).isSome=true:=by
   simp only [List.mem_cons,List.not_mem_nil,or_false] at hn
   rcases hn with rfl | rfl<;>decide+kernel
  refine xo (zW Se 0 (l:=mostL) M.nh (w:=n) (xb Se 1)) (fun _=>?_) (fun h=>by rw [e] at h;cases h)
  have hl:(okFig x.cps.toList 3)=true:=by
   cases q:okFig x.cps.toList 3 with
   | true=>rfl
   | false=>unfold figs at hv;rw [q] at hv;cases hv
  exact xg (ZG Se 2 (xa (xb Se 2) xc) (XH (by decide) hv) (by rw [xH];have:=(zm hl).2.1;omega) M.mD) rfl
 case inl=>
  refine xo (zW Se 0 (l:=mostL) M.nh (w:= "SPOT") (xb Se 1)) (fun h=>absurd h (by decide+kernel)) (fun _=>xj ?_)
  refine xo (xz (x:= "SPOT") (y:= "SPOT") (xb Se 1) xl) (fun _=>?_) (fun h=>absurd h (by decide+kernel))
  cases r with
  | ok d=>exact xg (xM Se 3 (qo M) (by decide) (xa (xb Se 0) (xa (xb Se 2) xc)) hR) rfl
  | ex y=>exact yw (x6 Se 3 (qo M) (by decide) (xa (xb Se 0) (xa (xb Se 2) xc)) hR (hz _ rfl _).1)
 case inr.inl=>
  refine xo (zW Se 0 (l:=mostL) M.nh (w:= "END") (xb Se 1)) (fun h=>absurd h (by decide+kernel)) (fun _=>xj ?_)
  refine xo (xz (x:= "END") (y:= "SPOT") (xb Se 1) xl) (fun h=>absurd h (by decide+kernel)) (fun _=>xj ?_)
  refine xo (xz (x:= "END") (y:= "END") (xb Se 1) xl) (fun _=>?_) (fun h=>absurd h (by decide+kernel))
  cases r with
  | ok d=>exact xg (xM Se 4 (vV M) (by decide) (xa (xb Se 2) xc) hR) rfl
  | ex y=>exact yw (x6 Se 4 (vV M) (by decide) (xa (xb Se 2) xc) hR (hz _ rfl _).1)
 case inr.inr.inl=>
  have e:(lkD mostL n).isSome=false/\(n==("SPOT" :Str))=false/\(n==("END" :Str))=false:=by
   simp only [List.mem_cons,List.not_mem_nil,or_false] at hn
   rcases hn with rfl | rfl | rfl | rfl | rfl<;>decide+kernel
  refine xo (zW Se 0 (l:=mostL) M.nh (w:=n) (xb Se 1)) (fun h=>by rw [e.1] at h;cases h) (fun _=>xj ?_)
  refine xo (xz (x:=n) (y:= "SPOT") (xb Se 1) xl) (fun h=>by rw [e.2.1] at h;cases h) (fun _=>xj ?_)
  refine xo (xz (x:=n) (y:= "END") (xb Se 1) xl) (fun h=>by rw [e.2.2] at h;cases h) (fun _=>xj ?_)
  cases r with
  | ok d=>exact xg (xM Se 1 (x8 M) (by decide) (xa (xb Se 2) xc) hR) rfl
  | ex y=>exact yw (x6 Se 1 (x8 M) (by decide) (xa (xb Se 2) xc) hR (hz _ rfl _).1)
abbrev Yg:Stmt:=top 111
theorem Vw:ScB ["read"] ["read"] ["table_of"] (defScope Yg):=by walk_at "S"
theorem ud {T:Tx} (M:Mo T):FnX T 6 "table_from" jx:=by
 refine wL M.rK Vw (by walk_at "1") (by rintro _ _ ⟨_,rfl,_⟩;rfl) fun Y S Z ds r h hz=>?_
 have Se:=S.toSe
 obtain ⟨t,rfl,hR⟩:=h
 cases r with
 | ok d=>exact xg (xM Se 0 (y8 M) (by decide) (xa (xC (xb Se 0) xf rfl) (xa (xC (xb Se 0) xf rfl) (xa (xC (xb Se 0) xf rfl) (xa (xC (xb Se 0) xf rfl) xc)))) hR) rfl
 | ex y=>exact yw (x6 Se 0 (y8 M) (by decide) (xa (xC (xb Se 0) xf rfl) (xa (xC (xb Se 0) xf rfl) (xa (xC (xb Se 0) xf rfl) (xa (xC (xb Se 0) xf rfl) xc)))) hR (hz _ rfl _).1)
abbrev Qr:Stmt:=top 112
theorem UG:ScB ["p","spot","read"] ["p","spot","read"] [] (defScope Qr):=by walk_at "S"
theorem UW {T:Tx} (M:Mo T):FnD T 1 "gone" Va:=by
 refine yq M.rW UG (by walk_at "3") (by rintro _ _ ⟨_,_,_,rfl⟩;rfl) fun Y S Z ds d h=>?_
 have Se:=S.toSe
 obtain ⟨p,s,r,rfl⟩:=h
 exact xg (xC (xb Se 2) xf (by rw [Q6 (by decide) (by rw [List.length_cons];omega)];rfl)) rfl
abbrev Yo:Stmt:=top 113
theorem VG:ScB ["p","spot","read"] ["p","spot","read"] ["moved","table_from"] (defScope Yo):=by walk_at "S"
theorem ue {T:Tx} (M:Mo T):FnX T 7 "moved_by" YQ:=by
 refine wL M.rL VG (by walk_at "3") (by rintro _ _ ⟨_,_,_,rfl,_⟩;rfl) fun Y S Z ds r h hz=>?_
 have Se:=S.toSe
 obtain ⟨t,p,s,rfl,hm,h⟩:=h
 rcases h with ⟨h0,d,hR,rfl⟩ | ⟨h0,rfl⟩
 ·exact xg (xi Se 0 (yI M) (by decide) (xa (xb Se 0) (xa (xM Se 1 (ud M) (by decide) (xa (xb Se 2) xc) ⟨t,rfl,t,rfl,hm,.inl ⟨h0,rfl⟩⟩) (xa (xb Se 1) xc))) hR) rfl
 ·exact yw (QZ Se 0 (yI M) (by decide) (XR (xb Se 0) (JN (x6 Se 1 (ud M) (by decide) (xa (xb Se 2) xc) ⟨t,rfl,t,rfl,hm,.inr ⟨h0,rfl⟩⟩ (hz _ rfl _).1) qP)))
theorem X1:ScB ["self","number"] ["self","number"] ["NOUGHT","NoFraction"] (defScope z3):=by walk_at "S"
theorem q9 {T:Tx} (M:Mo T):∃C f fd,T.mg "Scale" =some (.ref C)/\Mk T.K C f/\Binds T.K fd ["self","number"] []/\FnOk T.prog T.w T.K T.mg T.base (CXE T.prog T.w) 1 f fd ["self","number"] (spD1X T C "number" jF Wz "NoFraction"):=by
 obtain ⟨C0,f0,fd0,hC0,hm0,F0⟩:=M.nM
 refine ⟨C0,f0,fd0,hC0,hm0,F0.binds fun _ _ _ _ _ _ us hl=>match us,hl with | [_,_],_=>rfl,xbx F0 X1 fun Y S q=>⟨fun hq=>?ok,fun hq hz=>?ex⟩⟩
 all_goals have Se:=S.toSe
 case ok=>
  obtain ⟨a,rfl,ha⟩:=hq
  have e0:eqD (frD a) (.tup ([0,1].map D.int))=decide (a=0):=ZL a 0
  exact UK S (M.m5 C0 hC0).1 (M.m5 C0 hC0).2 (J3 (qr Se (xb Se 1) (yc Se.toSn 0 M.gK)) (by rw [e0];exact decide_eq_false ha))
 case ex=>
  have hq:q=frD 0:=hq
  subst hq
  exact xo (qr Se (xb Se 1) (yc Se.toSn 0 M.gK)) (fun _=>zh S 1 M.gg (xa xl xc) (hz _).2) (fun h=>absurd h (by decide+kernel))
theorem Qa:ScB ["self"] ["self"] ["NOUGHT","ONE"] (defScope vm):=by walk_at "S"
theorem QF {T:Tx} (M:Mo T):FnE T 1 "Scale" "table" (ZW "Scale"):=by
 obtain ⟨C0,f0,fd0,hC0,hm0,F0⟩:=M.rj
 refine ⟨C0,f0,fd0,["self"],hC0,(M.m5 C0 hC0).1,hm0,F0.binds fun _ _ _ _ _ _ us hl=>match us,hl with | [_],_=>rfl,YA F0 Qa (by rintro _ _ _ ⟨_,_,rfl,_⟩;rfl) fun Y S Z C fs ds d hC h=>?_⟩
 have Se:=S.toSe
 obtain ⟨t,ht,rfl,rfl⟩:=h
 rcases ht with ⟨_,a,rfl,rfl⟩ | ⟨e,_⟩ | ⟨e,_⟩
 ·exact xg (xt (xa (Uc Se.toSn 0 rfl (M.m5 C hC).1 (M.m5 C hC).2 (d:=frD a) rfl) (xa (yc Se.toSn 0 M.gK) (xa (yc Se.toSn 0 M.gK) (xa (yc Se.toSn 1 M.nB) xc))))) rfl
 ·exact absurd e (by decide)
 ·exact absurd e (by decide)
theorem Z9:ScB ["self"] ["self"] ["ONE","NOUGHT"] (defScope vk):=by walk_at "S"
theorem QE {T:Tx} (M:Mo T):FnE T 1 "Shift" "table" (ZW "Shift"):=by
 obtain ⟨C0,f0,fd0,hC0,hm0,F0⟩:=M.rl
 refine ⟨C0,f0,fd0,["self"],hC0,(M.m6 C0 hC0).1,hm0,F0.binds fun _ _ _ _ _ _ us hl=>match us,hl with | [_],_=>rfl,YA F0 Z9 (by rintro _ _ _ ⟨_,_,rfl,_⟩;rfl) fun Y S Z C fs ds d hC h=>?_⟩
 have Se:=S.toSe
 obtain ⟨t,ht,rfl,rfl⟩:=h
 rcases ht with ⟨e,_⟩ | ⟨_,a,rfl,rfl⟩ | ⟨e,_⟩
 ·exact absurd e (by decide)
 ·exact xg (xt (xa (yc Se.toSn 0 M.nB) (xa (Uc Se.toSn 0 rfl (M.m6 C hC).1 (M.m6 C hC).2 (d:=frD a) rfl) (xa (yc Se.toSn 1 M.gK) (xa (yc Se.toSn 0 M.nB) xc))))) rfl
 ·exact absurd e (by decide)
theorem Vx:ScB ["self"] ["self"] ["NOUGHT","ONE"] (defScope ww):=by walk_at "S"
theorem VV {T:Tx} (M:Mo T):FnE T 1 "Flip" "table" (ZW "Flip"):=by
 obtain ⟨C0,f0,fd0,hC0,hm0,F0⟩:=M.rP
 refine ⟨C0,f0,fd0,["self"],hC0,(M.sj C0 hC0).1,hm0,F0.binds fun _ _ _ _ _ _ us hl=>match us,hl with | [_],_=>rfl,YA F0 Vx (by rintro _ _ _ ⟨_,_,rfl,_⟩;rfl) fun Y S Z C fs ds d hC h=>?_⟩
 have Se:=S.toSe
 obtain ⟨t,ht,rfl,rfl⟩:=h
 rcases ht with ⟨e,_⟩ | ⟨e,_⟩ | ⟨_,rfl,rfl⟩
 ·exact absurd e (by decide)
 ·exact absurd e (by decide)
 ·exact xg (xt (xa (yc Se.toSn 0 M.gK) (xa (yc Se.toSn 1 M.nB) (xa (yc Se.toSn 1 M.nB) (xa (yc Se.toSn 0 M.gK) xc))))) rfl
theorem uY:ScB ["self","p","spot"] ["self","p","spot"] ["moved"] (defScope z5):=by walk_at "S"
theorem yO {T:Tx} (M:Mo T):FnE T 7 "Scale" "done" (XX "Scale"):=by
 obtain ⟨C0,f0,fd0,hC0,hm0,F0⟩:=M.nH
 refine ⟨C0,f0,fd0,["self","p","spot"],hC0,(M.m5 C0 hC0).1,hm0,F0.binds fun _ _ _ _ _ _ us hl=>match us,hl with | [_,_,_],_=>rfl,YA F0 uY (by rintro _ _ _ ⟨_,_,_,_,rfl,_⟩;rfl) fun Y S Z C fs ds d hC h=>?_⟩
 have Se:=S.toSe
 obtain ⟨t,p,s,ht,rfl,hR⟩:=h
 exact xg (xi Se 0 (yI M) (by decide) (xa (xb Se 1) (xa (wP Se 0 (QF M) (by decide) rfl hC (by rcases ht with ⟨_,a,rfl,_⟩ | ⟨_,a,rfl,_⟩ | ⟨_,rfl,_⟩<;>rfl) ⟨t,ht,rfl,rfl⟩) (xa (xb Se 2) xc))) hR) rfl
theorem zl {T:Tx} (M:Mo T):FnE T 7 "Shift" "done" (XX "Shift"):=by
 obtain ⟨C0,f0,fd0,hC0,hm0,F0⟩:=M.nI
 refine ⟨C0,f0,fd0,["self","p","spot"],hC0,(M.m6 C0 hC0).1,hm0,F0.binds fun _ _ _ _ _ _ us hl=>match us,hl with | [_,_,_],_=>rfl,YA F0 uY (by rintro _ _ _ ⟨_,_,_,_,rfl,_⟩;rfl) fun Y S Z C fs ds d hC h=>?_⟩
 have Se:=S.toSe
 obtain ⟨t,p,s,ht,rfl,hR⟩:=h
 exact xg (xi Se 0 (yI M) (by decide) (xa (xb Se 1) (xa (wP Se 0 (QE M) (by decide) rfl hC (by rcases ht with ⟨_,a,rfl,_⟩ | ⟨_,a,rfl,_⟩ | ⟨_,rfl,_⟩<;>rfl) ⟨t,ht,rfl,rfl⟩) (xa (xb Se 2) xc))) hR) rfl
theorem ve {T:Tx} (M:Mo T):FnE T 7 "Flip" "done" (XX "Flip"):=by
 obtain ⟨C0,f0,fd0,hC0,hm0,F0⟩:=M.nL
 refine ⟨C0,f0,fd0,["self","p","spot"],hC0,(M.sj C0 hC0).1,hm0,F0.binds fun _ _ _ _ _ _ us hl=>match us,hl with | [_,_,_],_=>rfl,YA F0 uY (by rintro _ _ _ ⟨_,_,_,_,rfl,_⟩;rfl) fun Y S Z C fs ds d hC h=>?_⟩
 have Se:=S.toSe
 obtain ⟨t,p,s,ht,rfl,hR⟩:=h
 exact xg (xi Se 0 (yI M) (by decide) (xa (xb Se 1) (xa (wP Se 0 (VV M) (by decide) rfl hC (by rcases ht with ⟨_,a,rfl,_⟩ | ⟨_,a,rfl,_⟩ | ⟨_,rfl,_⟩<;>rfl) ⟨t,ht,rfl,rfl⟩) (xa (xb Se 2) xc))) hR) rfl
abbrev Xa:Stmt:=top 114
theorem Qb:ScB ["p","spot","read"] ["p","spot","read"] ["Scale"] (defScope Xa):=by walk_at "S"
theorem vU {T:Tx} (M:Mo T):FnX T 8 "scaled" XV:=by
 refine wL M.rh Qb (by walk_at "3") (by rintro _ _ ⟨_,_,_,rfl,_⟩;rfl) fun Y S Z ds r h hz=>?_
 have Se:=S.toSe
 obtain ⟨a,p,s,rfl,h⟩:=h
 obtain ⟨C,fI,fdI,hC,hMk,hBd,hIn⟩:=q9 M
 rcases h with ⟨ha,d,hR,rfl⟩ | ⟨rfl,rfl⟩
 ·exact xg (YE Se 0 hMk hIn (by decide) hBd hC (yO M) (by decide) (by decide) (q:=frD a) (xC (xb Se 2) xf rfl) ⟨a,rfl,ha⟩ (xa (xb Se 0) (xa (xb Se 1) xc)) ⟨_,_,_,.inl ⟨rfl,a,rfl,rfl⟩,rfl,hR⟩) rfl
 ·exact yw (QW Se (QT Se 0 hMk hIn (by decide) hBd hC (q:=frD 0) (xC (xb Se 2) xf rfl) rfl (hz _ rfl _).1) (yO M) (by decide))
theorem Qi:ScB ["self","number"] ["self","number"] [] (defScope vo):=by walk_at "S"
theorem qE {T:Tx} (M:Mo T):∃C f fd,T.mg "Shift" =some (.ref C)/\Mk T.K C f/\Binds T.K fd ["self","number"] []/\FnOk T.prog T.w T.K T.mg T.base CX0 1 f fd ["self","number"] (spD1 T C "number" jE):=by
 obtain ⟨C0,f0,fd0,hC0,hm0,F0⟩:=M.rk
 refine ⟨C0,f0,fd0,hC0,hm0,F0.binds fun _ _ _ _ _ _ us hl=>match us,hl with | [_,_],_=>rfl,xch F0 Qi fun Y S q hq=>?_⟩
 have Se:=S.toSe
 exact UJ S (M.m6 C0 hC0).1 (M.m6 C0 hC0).2
abbrev w6:Stmt:=top 115
theorem Y6:ScB ["p","spot","read"] ["p","spot","read"] ["Shift"] (defScope w6):=by walk_at "S"
theorem Zq {T:Tx} (M:Mo T):FnD T 8 "shifted" ul:=by
 refine yq M.nQ Y6 (by walk_at "3") (by rintro _ _ ⟨_,_,_,rfl,_⟩;rfl) fun Y S Z ds d h=>?_
 have Se:=S.toSe
 obtain ⟨a,p,s,rfl,hR⟩:=h
 obtain ⟨C,fI,fdI,hC,hMk,hBd,hIn⟩:=qE M
 exact xg (XL Se 0 hMk hIn (by decide) hBd hC (zl M) (by decide) (by decide) (q:=frD a) (xC (xb Se 2) xf rfl) ⟨a,rfl⟩ (xa (xb Se 0) (xa (xb Se 1) xc)) ⟨_,_,_,.inr (.inl ⟨rfl,a,rfl,rfl⟩),rfl,hR⟩) rfl
abbrev ua:Stmt:=top 116
theorem Y9:ScB ["p","spot","read"] ["p","spot","read"] ["Flip"] (defScope ua):=by walk_at "S"
theorem Zs {T:Tx} (M:Mo T):FnD T 8 "flipped" um:=by
 refine yq M.nR Y9 (by walk_at "3") (by rintro _ _ ⟨_,_,rfl,_⟩;rfl) fun Y S Z ds d h=>?_
 have Se:=S.toSe
 obtain ⟨p,s,rfl,hR⟩:=h
 obtain ⟨C,hC,mk,hi,kp⟩:=M.sk
 exact xg (QX Se 0 mk hi kp hC (ve M) (by decide) (xa (xb Se 0) (xa (xb Se 1) xc)) ⟨_,_,_,.inr (.inr ⟨rfl,rfl,rfl⟩),rfl,hR⟩) rfl
abbrev Zc:Stmt:=top 133
theorem ka:ScB ["_law_script","_law_k","_law_cell_here"] ["_law_script","_law_k"] ["len","abs"] (defScope Zc):=by walk_at "S"
theorem v5 {T:Tx} (M:Mo T):FnD T 1 "_law_cell" xao:=by
 refine yq M.su ka (by walk_at "2") (by rintro _ _ ⟨a,b,rfl,_,_,_,rfl⟩;rfl) fun Y S Z ds d h=>?_
 have Se:=S.toSe
 obtain ⟨ns,k,rfl,h63,h0,h1,rfl⟩:=h
 refine xn S 2 xf ?_
 have key:∀x:Int,SsD Y (((defBody Zc).drop 2)) [.val (.lst (ns.map D.int)),.val (.int k),.val (.int x)] (Ret (.int (fmix x k))):=by
  intro x
  refine xn S 2 (yA (yA (yA (xG (xb Se 2) xf (by decide)) (xF (xF xf (xb Se 1) (.of_left (intBits_le_64 (by decide) (by decide)))) (xb Se 1) (.of_right (intBits_le_64 (by omega) (by omega))))) (xF xf (xb Se 1) (.of_left (intBits_le_64 (by decide) (by decide))))) xf) ?_
  refine xn S 2 (xG (xF (xb Se 2) xf (.of_right (intBits_le_64 (by decide) (by decide)))) xf (by decide)) ?_
  exact xg (xG (xF (xb Se 2) xf (.of_right (intBits_le_64 (by decide) (by decide)))) xf (by decide)) rfl
 unfold fcell
 refine xo (wZ (xb Se 1) (yJ Se 0 (xa (xb Se 0) xc) rfl M.g6)) (fun h=>?_) (fun h=>?_)
 ·have h':k<(ns.length:Int):=by simpa using h
  rw [if_pos h']
  refine xn S 2 (xC (xb Se 0) (xb Se 1) (Uh h0 h')) ?_
  refine xo (zY (X7 (xb Se 1) xf) fun _=>vI (yQ (xG (xC (xb Se 0) xf (Uh (by decide) (by omega))) xf (by decide)) xf)).pt (fun h2=>?_) (fun h2=>xj (xj ?_))
  ·have h3:0<k/\ns.getD 0 0%2=1:=by simpa using h2
   rw [if_pos h3]
   exact xg (wS Se 1 (xa (xb Se 2) xc) M.ny) rfl
  ·have h3:¬(0<k/\ns.getD 0 0%2=1):=by
    intro z
    simp [z.1] at h2
    exact h2 (by simpa using z.2)
   rw [if_neg h3]
   exact key _
 ·have h':¬k<(ns.length:Int):=by simpa using h
  rw [if_neg h']
  exact xj (key 0)
abbrev Qo:Stmt:=top 134
theorem UB:ScB ["_law_cell_here","_law_j","_law_turn"] ["_law_cell_here","_law_j"] ["range"] (defScope Qo):=by walk_at "S"
theorem US {T:Tx} (M:Mo T):FnD T 1 "_law_more" JT:=by
 refine yq M.rX UB (by walk_at "2") (by rintro _ _ ⟨_,_,rfl,_⟩;rfl) fun Y S Z ds d h=>?_
 have Se:=S.toSe
 obtain ⟨c,j,rfl,j0,j1,rfl⟩:=h
 refine Y2 S (zP Se 0 (xa (xb Se 1) xc) (by omega) (by omega) M.m4) (fun m cx=>∃s3:Slot,cx=[.val (.int (mo91 c m)),.val (.int j),s3]) ⟨_,rfl⟩ ?_ ?_
 ·rintro m d _ hd ⟨s3,rfl⟩
  obtain ⟨hm',rfl⟩:=yR hd
  refine ⟨_,yT S 2,?_⟩
  exact xn S 0 (yf (xb Se 0) xf (by decide) (by decide+kernel)) (xj ⟨_,rfl⟩)
 ·rintro _ ⟨s3,rfl⟩
  rw [ym]
  exact xg (xb Se 0) rfl
abbrev WF:Stmt:=top 135
theorem j3:ScB ["_law_found"] ["_law_found"] ["isinstance","int","bool"] (defScope WF):=by walk_at "S"
theorem kP {T:Tx} (M:Mo T):FnD T 1 "_law_whole" xag:=by
 refine yq M.sv j3 (by walk_at "1") (by rintro _ _ ⟨a,rfl,rfl⟩;rfl) fun Y S Z ds d h=>?_
 have Se:=S.toSe
 obtain ⟨i,rfl,rfl⟩:=h
 exact xg (zC (xV Se 0 1 (xb Se 0) (b:=true) rfl M.gb M.mD qh) fun _=>XJ (Wi (xV Se 0 2 (xb Se 0) (b:=false) rfl M.gb M.nY ZS))) rfl
abbrev kh:Stmt:=top 136
theorem Kn:ScB ["_law_top","_law_bottom","_law_one","_law_other"] ["_law_top","_law_bottom"] ["abs"] (defScope kh):=by walk_at "S"
theorem uD {T:Tx} (M:Mo T):FnD T 1 "_law_low" xbT:=by
 refine yq M.sI Kn (by walk_at "2") (by rintro _ _ ⟨a,b,rfl,_,_,rfl⟩;rfl) fun Y S Z ds d h=>?_
 have Se:=S.toSe
 obtain ⟨t,b,rfl,hb0,bb,rfl⟩:=h
 have hb:b≠0:=by omega
 have hx:Y.X.env.scope.names.lookup ("_law_one" :Str)=some NameKind.local:=by rw [Z.sc];decide+kernel
 have hy:Y.X.env.scope.names.lookup ("_law_other" :Str)=some NameKind.local:=by rw [Z.sc];decide+kernel
 refine xn S 2 (wS Se 0 (xa (xb Se 0) xc) M.ny) ?_
 refine xn S 3 (xb Se 1) ?_
 refine yZ S (fun c=>∃x y:Int,c=[.val (.int t),.val (.int b),.val (.int x),.val (.int y)]/\0<=x/\0<=y/\Int.gcd x y=Int.gcd t b) (fun c=>match c with | [_,_,_,.val (.int y)]=>y.natAbs | _=>0) ⟨_,_,rfl,by omega,by omega,by simp [Int.gcd]⟩ ?_
 rintro _ ⟨x,y,rfl,hx0,hy0,hg⟩
 refine ⟨_,X7 (xb Se 3) xf,fun h=>?_,fun h=>?_⟩
 ·have h1:0<y:=by simpa using h
  have h0:y≠0:=by omega
  refine jT S 2 3 (xa (xb Se 3) (xa (Jq (xb Se 2) (xb Se 3) h0) xc)) hx hy (Y1 Z.sc fun _=>rfl) ?_
  refine xj ⟨⟨y,x.fmod y,rfl,hy0,Int.fmod_nonneg_of_pos x (by omega),?_⟩,?_⟩
  ·rw [QN];exact hg
  ·exact XG x h0
 ·have h1:¬0<y:=by simpa using h
  have h0:y=0:=by omega
  subst h0
  have hx1:x=(Int.gcd t b:Int):=by rw [Int.gcd_zero_right] at hg;omega
  subst hx1
  have q:=kY (t:=t) hb bb
  have l:=v6 t hb
  rw [if_neg (by omega)] at q l
  refine xg (xt (xa (wc (xb Se 0) (xb Se 2) q.1 q.2) (xa (wc (xb Se 1) (xb Se 2) q.1 q.2) xc))) ?_
  show D.tup _=D.tup _
  rw [l.1,l.2]
abbrev xar:Stmt:=top 137
theorem xaW:ScB ["_law_p","_law_n","_law_found","_law_turn"] ["_law_p","_law_n"] ["range"] (defScope xar):=by walk_at "S"
theorem Zr {T:Tx} (M:Mo T):FnD T 1 "_law_power" xcu:=by
 refine yq M.sM xaW (by walk_at "2") (by rintro _ _ ⟨a,b,rfl,_,_,_,rfl⟩;rfl) fun Y S Z ds d h=>?_
 have Se:=S.toSe
 obtain ⟨p,n,rfl,hp,n0,n1,rfl⟩:=h
 have p2:=hp.two_le
 refine xn S 2 xf ?_
 refine Y2 S (zP Se 0 (xa (xb Se 1) xc) (by omega) (by omega) M.m4) (fun m c=>m<=3000/\∃s3:Slot,c=[.val (.int p),.val (.int n),.val (.int (p^m)),s3]) ⟨by decide,_,by rw [Int.pow_zero];rfl⟩ ?_ ?_
 ·rintro m d _ hd ⟨_,s3,rfl⟩
  obtain ⟨hm',rfl⟩:=yR hd
  refine ⟨_,yT S 3,?_⟩
  have hm2:m<3000:=by omega
  refine xn S 2 (xF (xb Se 2) (xb Se 0) (mulOk (vP hp m) (Bd.of (n:=4) 8 (by omega) (by omega) (by decide)) (by omega))) (xj ⟨by omega,.val (.int (0+(m:Int)*1)),?_⟩)
  rw [Int.pow_succ]
  rfl
 ·rintro _ ⟨_,s3,rfl⟩
  rw [ym]
  exact xg (xb Se 2) rfl
abbrev Ql:Stmt:=top 139
theorem Uy:ScB ["_law_p","_law_cell_here","_law_k","_law_deep","_law_number"] ["_law_p","_law_cell_here"] ["max","_law_low","int","_law_power"] (defScope Ql):=by walk_at "S"
theorem UR {T:Tx} (M:Mo T):FnD T 2 "_law_spot" JO:=by
 refine yq M.rY Uy (by walk_at "2") (by rintro _ _ ⟨_,_,rfl,_,_,rfl⟩;rfl) fun Y S Z ds d h=>?_
 have Se:=S.toSe
 obtain ⟨p,n,rfl,hp,n0,rfl⟩:=h
 refine xn S 2 (qf (xG (xb Se 1) xf (by decide)) xf) ?_
 refine xn S 1 (yf (xb Se 1) xf (by decide) (by decide+kernel)) ?_
 refine xo (yQ (xG (xb Se 1) xf (by decide)) xf) (fun h=>?_) (fun h=>xj ?_)
 ·have h1:n / 25%8=1:=of_decide_eq_true h
  unfold spt93
  rw [if_pos h1]
  refine xn S 2 (d:= .int (fk93 n)) (xF (yA xf (xG (yf (xb Se 1) xf (by decide) (by decide+kernel)) xf (by decide))) (qf xf (xF xf (xG (yf (xb Se 1) xf (by decide) (by decide+kernel)) xf (by decide)) (.of_left (intBits_le_64 (by omega) (by omega))))) (.of_left (intBits_le_64 (by omega) (by omega)))) ?_
  refine xg (qe (xt (xa (xb Se 2) (xa (xt (xa (xF (xG (yf (xb Se 1) xf (by decide) (by decide+kernel)) xf (by decide)) (QV Se 2 (xa (xck (xb Se 2) xf) xc) M.mD) (.of_left (intBits_le_64 (by omega) (by omega)))) (xa xf xc))) xc))) ?_) rfl
  show D.tup [.int (fk93 n),.tup [.int (n / 25 / 1616%9*(if decide (0<fk93 n)=true then 1 else 0)),.int 1]]=sptD (fk93 n) ((n / 25 / 1616%9*(if 0<fk93 n then 1 else 0):Int):Rat)
  have e:(if decide (0<fk93 n)=true then (1:Int) else 0)=(if 0<fk93 n then 1 else 0):=by simp
  rw [e]
  rfl
 have h1:¬n / 25%8=1:=of_decide_eq_false h
 unfold spt93
 rw [if_neg h1]
 refine xn S 3 (yA (Js Se 0 (xa xf (xa (ZE (xb Se 2)) xc)) M.sE) (xG (yf (xb Se 1) xf (by decide) (by decide+kernel)) xf (by decide))) ?_
 refine xn S 4 (yf (xb Se 1) xf (by decide) (by decide+kernel)) ?_
 have hN:0<=n / 25 / 56:=by omega
 have eN:nm93 n=if n / 25 / 56<2^61 then (if n / 25 / 56%5=1 then n / 25 / 56 / 5%9 else (n / 25 / 56+1)*1442695040888963407^2+n / 25 / 56) else n / 25 / 56:=rfl
 have b:=ZN n
 show SsD Y _ [.val (.int p),.val (.int (n / 25)),.val (.int (n%25 - 12)),.val (.int (dp93 n)),.val (.int (n / 25 / 56))] _
 generalize dp93 n=ee at*
 generalize n%25 - 12=k at*
 generalize n / 25 / 56=N at*
 generalize nm93 n=u at*
 refine Vq S 4 (b:=N) (a:=if N%5=1 then N / 5%9 else (N+1)*1442695040888963407^2+N) (wZ (xb Se 4) (vz xf xf ⟨by decide,by decide,by decide⟩)) (fun h=>?_) ?_
 ·have h61:N<2^61:=of_decide_eq_true h
  have hat:atI [D.int ((N+1)*1442695040888963407^2+N),D.int (N / 5%9)] (if decide (N%5=1)=true then (1:Int) else 0)=some (.int (if N%5=1 then N / 5%9 else (N+1)*1442695040888963407^2+N)):=by
   by_cases h5:N%5=1
   ·rw [if_pos h5,if_pos (by simpa using h5)];rfl
   ·rw [if_neg h5,if_neg (by simpa using h5)];rfl
  refine xC (ds:=[D.int ((N+1)*1442695040888963407^2+N),D.int (N / 5%9)]) ?ls (QV Se 2 (xa (Wj (xG (xb Se 4) xf (by decide)) xf) xc) M.mD) hat
  case ls=>exact xX (xa (yA (xF (yA (xb Se 4) xf) (vz xf xf ⟨by decide,by decide,by decide⟩) (.of_left (intBits_le_64 (by omega) (by omega)))) (xb Se 4)) (xa (xG (yf (xb Se 4) xf (by decide) (by decide+kernel)) xf (by decide)) xc))
 have e2:(if decide (N<2^(61:Int).toNat)=true then (if N%5=1 then N / 5%9 else (N+1)*1442695040888963407^2+N) else N)=u:=by
  rw [eN]
  simp
 rw [e2]
 have pb:=vP hp ee.toNat
 exact xg (xt (xa (xb Se 2) (xa (xi Se 1 (uD M) (by decide) (xa (xG (xb Se 4) (xi Se 3 (Zr M) (by decide) (xa (xb Se 0) (xa (yA (xb Se 2) (xb Se 3)) xc)) ⟨p,k+ee,rfl,hp,by omega,by omega,rfl⟩) (yb hp _)) (xa (xi Se 3 (Zr M) (by decide) (xa (xb Se 0) (xa (xb Se 3) xc)) ⟨p,ee,rfl,hp,by omega,by omega,rfl⟩) xc)) ⟨_,_,rfl,yb hp _,pb.mono (by omega),rfl⟩) xc))) rfl
abbrev Xh:Stmt:=top 140
theorem Qg:ScB ["_law_a"] ["_law_a"] ["str"] (defScope Xh):=by walk_at "S"
theorem uf {T:Tx} (M:Mo T):FnD T 1 "_law_fraction_text" Uj:=by
 refine yq M.ri Qg (by walk_at "1") (by rintro _ _ ⟨_,rfl,_⟩;rfl) fun Y S Z ds d h=>?_
 have Se:=S.toSe
 obtain ⟨a,rfl,hB,rfl⟩:=h
 have l1:a.num.natAbs<10^4300:=Nat.lt_of_lt_of_le hB.1 (Nat.pow_le_pow_right (by decide) (by decide))
 have l2:((a.den:Int)).natAbs<10^4300:=Nat.lt_of_lt_of_le (show ((a.den:Int)).natAbs<10^850 by simpa using hB.2) (Nat.pow_le_pow_right (by decide) (by decide))
 have n1:=yD (k:=849) hB.1
 have n2:=yD (i:=(a.den:Int)) (k:=849) (by simpa using hB.2)
 have eq2:∀y:Str,y.cps.toList=wr a.num++47::wr (a.den:Int)->a.den≠1->D.str y=D.str (tx (ftx a)):=fun y hy hd=>by
  unfold ftx
  rw [if_neg hd,<-jG a.den,<-hy,zg]
 refine xo (yQ (xm (xb Se 0) xf rfl) xf) (fun h=>?_) (fun h=>xj ?_)
 ·have hd:a.den=1:=by have h':(a.den:Int)=1:=(by simpa using h);omega
  refine xg (uG Se 0 M.nd (xa (xm (xb Se 0) xf rfl) xc) l1 M.nz) ?_
  show D.str _=D.str _
  unfold ftx
  rw [if_pos hd,yY]
 ·have hd:a.den≠1:=by have h':¬(a.den:Int)=1:=(by simpa using h);omega
  refine xg (qV (qV (uG Se 0 M.nd (xa (xm (xb Se 0) xf rfl) xc) l1 M.nz) xl ?_) (uG Se 0 M.nd (xa (xm (xb Se 0) xf rfl) xc) l2 M.nz) ?_) ?_
  ·rw [yY,yL];simp [show ("/" :Str).length=1 from rfl];omega
  ·rw [yY,yY,yL,xH,xw,xu];simp [show ("/" :Str).cps.toList=[47] from rfl];omega
  ·refine eq2 _ ?_ hd
   rw [xw,xw,yY,yY,xu,xu];simp [show ("/" :Str).cps.toList=[47] from rfl]
abbrev WI:Stmt:=top 141
theorem j7:ScB ["_law_spot_here"] ["_law_spot_here"] ["_law_fraction_text","str"] (defScope WI):=by walk_at "S"
theorem v3 {T:Tx} (M:Mo T):FnD T 2 "_law_spot_text" xak:=by
 refine yq M.sw j7 (by walk_at "1") (by rintro _ _ ⟨_,rfl,_⟩;rfl) fun Y S Z ds d h=>?_
 have Se:=S.toSe
 obtain ⟨u,rfl,hk,hB,rfl⟩:=h
 obtain ⟨k,a⟩:=u
 have hk:k.natAbs<10^4:=hk
 have hB:B500 a:=hB
 have hj:k.natAbs<10^(3+1):=hk
 have lj:k.natAbs.log2<1920:=Zy (Nat.lt_of_lt_of_le hj (by decide+kernel))
 exact xg (Wh (y:=tx (stx k a)) (qV (qV (K0 Se 1 (xa (xm (d:= .int k) (xb Se 0) xf rfl) xc) lj M.nz) xl (xaT hj)) (xi Se 0 (uf M) (by decide) (xa (xm (d:=frD a) (xb Se 0) xf rfl) xc) ⟨_,rfl,hB,rfl⟩) (Kj hj (by rw [yL];have:=qH hB;omega))) xb1) rfl
abbrev WJ:Stmt:=top 143
theorem j8:ScB ["_law_p","_law_cell_here","_law_top","_law_bottom","_law_deep"] ["_law_p","_law_cell_here"] ["_law_low","_law_power"] (defScope WJ):=by walk_at "S"
theorem Xv {T:Tx} (M:Mo T):FnD T 2 "_law_fraction" xal:=by
 refine yq M.sy j8 (by walk_at "2") (by rintro _ _ ⟨_,_,rfl,_⟩;rfl) fun Y S Z ds d h=>?_
 have Se:=S.toSe
 obtain ⟨p,n,rfl,hp,rfl⟩:=h
 have bb:=za hp n
 refine xn S 2 (d:= .int (n%41 - 20)) (qf (xG (xb Se 1) xf (by decide)) xf) ?_
 refine xn S 3 (d:= .int (1+n / 41%12)) (yA xf (xG (yf (xb Se 1) xf (by decide) (by decide+kernel)) xf (by decide))) ?_
 refine xn S 4 (d:= .int (n / 492%5)) (xG (yf (xb Se 1) xf (by decide) (by decide+kernel)) xf (by decide)) ?_
 have pw:=Ze hp (d:=(n / 492%5).toNat) (by omega)
 refine xo (yQ (xG (yf (xb Se 1) xf (by decide) (by decide+kernel)) xf (by decide)) xf) (fun h=>?_) (fun h=>xj ?_)
 ·have h1:n / 2460%2=1:=of_decide_eq_true h
  unfold fr91 tp91
  unfold bt91 at bb ⊢
  rw [if_pos h1] at bb ⊢
  rw [if_pos h1]
  exact xg (xi Se 0 (uD M) (by decide) (xa (xF (xb Se 2) (xi Se 1 (Zr M) (by decide) (xa (xb Se 0) (xa (xb Se 4) xc)) ⟨p,_,rfl,hp,by omega,by omega,rfl⟩) (.of_left (intBits_le_64 (by omega) (by omega)))) (xa (xb Se 3) xc)) ⟨_,_,rfl,by omega,Bd.of (n:=8900) 30000 (by omega) (by omega) (by decide+kernel),rfl⟩) rfl
 ·have h1:¬n / 2460%2=1:=of_decide_eq_false h
  unfold fr91 tp91
  unfold bt91 at bb ⊢
  rw [if_neg h1] at bb ⊢
  rw [if_neg h1]
  exact xg (xi Se 0 (uD M) (by decide) (xa (xb Se 2) (xa (xF (xb Se 3) (xi Se 1 (Zr M) (by decide) (xa (xb Se 0) (xa (xb Se 4) xc)) ⟨p,_,rfl,hp,by omega,by omega,rfl⟩) (.of_left (intBits_le_64 (by omega) (by omega)))) xc)) ⟨_,_,rfl,by omega,Bd.of (n:=8900) 30000 (by omega) (by omega) (by decide+kernel),rfl⟩) rfl
abbrev w9:Stmt:=top 145
theorem Y8:ScB ["_law_error","_law_told","_law_names"] ["_law_error"] ["isinstance","NoPrime","NoFraction","NoText","NoSpot","NoTable","TooMany","NoLine","NoRow","NothingDone","TooFar","ValueError"] (defScope w9):=by walk_at "S"
theorem yC {T:Tx} (M:Mo T):FnH T 1 "_law_refusal" zw:=by
 refine xcy M.nT Y8 (by walk_at "1") rfl fun Y S C y d hC h=>?_
 obtain ⟨c_NoPrime,h_NoPrime⟩:=M.g4
 obtain ⟨gg,h_NoFraction⟩:=M.gh
 obtain ⟨gn,h_NoText⟩:=M.gr
 obtain ⟨gq,h_NoSpot⟩:=M.gu
 obtain ⟨gk,h_NoTable⟩:=M.gm
 obtain ⟨c_TooMany,h_TooMany⟩:=M.g5
 obtain ⟨c_NoLine,h_NoLine⟩:=M.hV
 obtain ⟨gw,h_NoRow⟩:=M.gB
 obtain ⟨gc,h_NothingDone⟩:=M.gd
 obtain ⟨c_TooFar,h_TooFar⟩:=M.hW
 rcases h with ⟨rfl,rfl⟩ | ⟨rfl,rfl⟩ | ⟨rfl,rfl⟩
 case inl=>
  refine x5 S 1 (xX (xa (xS S.toSn 0 0 1 rfl (M.gA C hC) h_NoPrime (M.gR C _ hC h_NoPrime) M.gb) (xa (xS S.toSn 0 0 2 rfl (M.gA C hC) h_NoFraction (M.gL C _ hC h_NoFraction) M.gb) (xa (xS S.toSn 0 0 3 rfl (M.gA C hC) h_NoText (M.g7 C _ hC h_NoText) M.gb) xc)))) ?_
  refine x5 S 1 (yX (yh S.toSn 1) (xX (xa (xS S.toSn 0 0 4 rfl (M.gA C hC) h_NoSpot (M.g8 C _ hC h_NoSpot) M.gb) (xa (xS S.toSn 0 0 5 rfl (M.gA C hC) h_NoTable (M.gS C _ hC h_NoTable) M.gb) (xa (xS S.toSn 0 0 6 rfl (M.gA C hC) h_TooMany (M.gT C _ hC h_TooMany) M.gb) xc))))) ?_
  refine x5 S 1 (yX (yh S.toSn 1) (xX (xa (xS S.toSn 0 0 7 rfl (M.gA C hC) h_NoLine (M.g9 C _ hC h_NoLine) M.gb) (xa (xS S.toSn 0 0 8 rfl (M.gA C hC) h_NoRow (M.hJ C _ hC h_NoRow) M.gb) (xa (xS S.toSn 0 0 9 rfl (M.gA C hC) h_NothingDone (M.gI C _ hC h_NothingDone) M.gb) xc))))) ?_
  refine x5 S 1 (d:= .lst (([false,true,false,false,false,false,false,false,false,false]:List Bool).map D.bl)) (qe (yX (yh S.toSn 1) (xX (xa (xS S.toSn 0 0 10 rfl (M.gA C hC) h_TooFar (M.hE C _ hC h_TooFar) M.gb) xc))) rfl) ?_
  refine x5 S 2 (d:= .lst names93) ?nm ?_
  case nm=>
   refine xX ?_
   refine wk (xs:=["prime","fraction","text","spot","table","many","line","row","nothing","far"]) ?_
   exact rfl
  refine xo (yo (yH (wR (bs:=[false,true,false,false,false,false,false,false,false,false]) (yh S.toSn 1) yr) xf) fun _=>yz (xR (xQ (ZF S.toSn 0 0 11 rfl (M.gA C hC) M.mO zE (M.mP C hC) M.gb)))).pt (fun h=>absurd h (by decide)) (fun _=>xj ?_)
  exact xg (xC (yh S.toSn 2) (wQ (bs:=[false,true,false,false,false,false,false,false,false,false]) (j:=1) (yh S.toSn 1) yr rfl (by decide)) rfl) rfl
 case inr.inl=>
  refine x5 S 1 (xX (xa (xS S.toSn 0 0 1 rfl (M.gE C hC) h_NoPrime (M.hX C _ hC h_NoPrime) M.gb) (xa (xS S.toSn 0 0 2 rfl (M.gE C hC) h_NoFraction (M.gU C _ hC h_NoFraction) M.gb) (xa (xS S.toSn 0 0 3 rfl (M.gE C hC) h_NoText (M.mh C _ hC h_NoText) M.gb) xc)))) ?_
  refine x5 S 1 (yX (yh S.toSn 1) (xX (xa (xS S.toSn 0 0 4 rfl (M.gE C hC) h_NoSpot (M.mi C _ hC h_NoSpot) M.gb) (xa (xS S.toSn 0 0 5 rfl (M.gE C hC) h_NoTable (M.ma C _ hC h_NoTable) M.gb) (xa (xS S.toSn 0 0 6 rfl (M.gE C hC) h_TooMany (M.md C _ hC h_TooMany) M.gb) xc))))) ?_
  refine x5 S 1 (yX (yh S.toSn 1) (xX (xa (xS S.toSn 0 0 7 rfl (M.gE C hC) h_NoLine (M.mj C _ hC h_NoLine) M.gb) (xa (xS S.toSn 0 0 8 rfl (M.gE C hC) h_NoRow (M.my C _ hC h_NoRow) M.gb) (xa (xS S.toSn 0 0 9 rfl (M.gE C hC) h_NothingDone (M.gN C _ hC h_NothingDone) M.gb) xc))))) ?_
  refine x5 S 1 (d:= .lst (([false,false,false,false,true,false,false,false,false,false]:List Bool).map D.bl)) (qe (yX (yh S.toSn 1) (xX (xa (xS S.toSn 0 0 10 rfl (M.gE C hC) h_TooFar (M.mn C _ hC h_TooFar) M.gb) xc))) rfl) ?_
  refine x5 S 2 (d:= .lst names93) ?nm ?_
  case nm=>
   refine xX ?_
   refine wk (xs:=["prime","fraction","text","spot","table","many","line","row","nothing","far"]) ?_
   exact rfl
  refine xo (yo (yH (wR (bs:=[false,false,false,false,true,false,false,false,false,false]) (yh S.toSn 1) yr) xf) fun _=>yz (xR (xQ (ZF S.toSn 0 0 11 rfl (M.gE C hC) M.mO zE (M.nt C hC) M.gb)))).pt (fun h=>absurd h (by decide)) (fun _=>xj ?_)
  exact xg (xC (yh S.toSn 2) (wQ (bs:=[false,false,false,false,true,false,false,false,false,false]) (j:=4) (yh S.toSn 1) yr rfl (by decide)) rfl) rfl
 case inr.inr=>
  refine x5 S 1 (xX (xa (xS S.toSn 0 0 1 rfl (M.gv C hC) h_NoPrime (M.gO C _ hC h_NoPrime) M.gb) (xa (xS S.toSn 0 0 2 rfl (M.gv C hC) h_NoFraction (M.gJ C _ hC h_NoFraction) M.gb) (xa (xS S.toSn 0 0 3 rfl (M.gv C hC) h_NoText (M.gW C _ hC h_NoText) M.gb) xc)))) ?_
  refine x5 S 1 (yX (yh S.toSn 1) (xX (xa (xS S.toSn 0 0 4 rfl (M.gv C hC) h_NoSpot (M.gX C _ hC h_NoSpot) M.gb) (xa (xS S.toSn 0 0 5 rfl (M.gv C hC) h_NoTable (M.gP C _ hC h_NoTable) M.gb) (xa (xS S.toSn 0 0 6 rfl (M.gv C hC) h_TooMany (M.gQ C _ hC h_TooMany) M.gb) xc))))) ?_
  refine x5 S 1 (yX (yh S.toSn 1) (xX (xa (xS S.toSn 0 0 7 rfl (M.gv C hC) h_NoLine (M.gY C _ hC h_NoLine) M.gb) (xa (xS S.toSn 0 0 8 rfl (M.gv C hC) h_NoRow (M.hG C _ hC h_NoRow) M.gb) (xa (xS S.toSn 0 0 9 rfl (M.gv C hC) h_NothingDone (M.gH C _ hC h_NothingDone) M.gb) xc))))) ?_
  refine x5 S 1 (d:= .lst (([false,false,false,false,false,false,false,false,true,false]:List Bool).map D.bl)) (qe (yX (yh S.toSn 1) (xX (xa (xS S.toSn 0 0 10 rfl (M.gv C hC) h_TooFar (M.gZ C _ hC h_TooFar) M.gb) xc))) rfl) ?_
  refine x5 S 2 (d:= .lst names93) ?nm ?_
  case nm=>
   refine xX ?_
   refine wk (xs:=["prime","fraction","text","spot","table","many","line","row","nothing","far"]) ?_
   exact rfl
  refine xo (yo (yH (wR (bs:=[false,false,false,false,false,false,false,false,true,false]) (yh S.toSn 1) yr) xf) fun _=>yz (xR (xQ (ZF S.toSn 0 0 11 rfl (M.gv C hC) M.mO zE (M.mG C hC) M.gb)))).pt (fun h=>absurd h (by decide)) (fun _=>xj ?_)
  exact xg (xC (yh S.toSn 2) (wQ (bs:=[false,false,false,false,false,false,false,false,true,false]) (j:=8) (yh S.toSn 1) yr rfl (by decide)) rfl) rfl
theorem Ux:ScB ["self"] ["self"] ["spot_text","NothingDone"] (defScope u4):=by walk_at "S"
theorem Yw {T:Tx} (M:Mo T):FnMt T 5 "undo" XS:=by
 obtain ⟨C0,f0,fd0,hC0,hm0,F0⟩:=M.si
 refine ⟨C0,f0,fd0,["self"],hC0,(M.gz C0 hC0).cl,hm0,F0.binds fun _ _ _ _ _ _ us hl=>match us,hl with | [_],_=>rfl,Yz F0 Ux (by rintro _ _ _ _ _ ⟨rfl,_⟩;rfl) fun Y S Z ad l C pr s past ds r hC h hz=>?_⟩
 have Se:=S.toSe
 obtain ⟨rfl,hsh,h⟩:=h
 refine xo (Uo Se 0 rfl (M.gz C hC) hsh) (fun h1=>?_) (fun h1=>xj ?_)
 ·rw [Ud] at h1
  have h1:=of_decide_eq_true h1
  rcases h with ⟨_,rfl⟩ | ⟨d,past',rfl,_⟩
  ·exact zh S 1 M.gc (xa xl xc) (hz _ rfl _ rfl).2
  ·simp at h1
 ·rw [Ud] at h1
  have h1:=of_decide_eq_false h1
  rcases h with ⟨rfl,_⟩ | ⟨d,past',rfl,⟨k,a,rfl,hk,hB⟩,rfl⟩
  ·exact absurd rfl h1
  ·refine Kd S 0 rfl (fun j hj=>by rcases j with _ | _ | _ | _ | _ | _ | _ | _ | _ | j<;>first | rfl | exact absurd rfl hj) (M.gz C hC) ?_
   exact yt (i:=0) (zB (xi Se 0 (vY M) (by decide) (xa (yP Se.toSn 0 rfl (M.gz C hC)) xc) ⟨k,a,rfl,hk,hB,by rw [Vh]⟩)) rfl rfl
theorem j9:ScB ["self","spot"] ["self","spot"] ["spot_text"] (defScope Zb):=by walk_at "S"
theorem zk {T:Tx} (M:Mo T):FnMt T 5 "lay" xan:=by
 obtain ⟨C0,f0,fd0,hC0,hm0,F0⟩:=M.sC
 refine ⟨C0,f0,fd0,["self","spot"],hC0,(M.gz C0 hC0).cl,hm0,F0.binds fun _ _ _ _ _ _ us hl=>match us,hl with | [_,_],_=>rfl,Yz F0 j9 (by rintro _ _ _ _ _ ⟨_,rfl,_⟩;rfl) fun Y S Z ad l C pr s past ds r hC h hz=>?_⟩
 have Se:=S.toSe
 obtain ⟨d,rfl,⟨k,a,rfl,hk,hB⟩,hl,rfl⟩:=h
 refine Kf S 0 rfl (fun j hj=>by rcases j with _ | _ | _ | _ | _ | _ | _ | _ | _ | j<;>first | rfl | exact absurd rfl hj) (M.gz C hC) hl ?_
 refine Ke S 0 rfl (fun j hj=>by rcases j with _ | _ | _ | _ | _ | _ | _ | _ | _ | j<;>first | rfl | exact absurd rfl hj) (M.gz C hC) (d:=sptD k a) (xb Se 1) ?_
 exact yt (i:=0) (zB (xi Se 0 (vY M) (by decide) (xa (xb Se 1) xc) ⟨k,a,rfl,hk,hB,by rw [Vh]⟩)) rfl rfl
theorem j5:ScB ["self","row","words","form","read","first","change","question"] ["self","row"] ["form_of","CHANGES","QUESTIONS","range","len"] (defScope Za):=by walk_at "S"
theorem vZ {T:Tx} (M:Mo T):FnMt T 9 "say" qi:=by
 obtain ⟨C0,f0,fd0,hC0,hm0,F0⟩:=M.sB
 refine ⟨C0,f0,fd0,["self","row"],hC0,(M.gz C0 hC0).cl,hm0,F0.binds fun _ _ _ _ _ _ us hl=>match us,hl with | [_,_],_=>rfl,Yz F0 j5 (by rintro _ _ _ _ _ ⟨_,_,_,_,_,_,rfl,rfl,_⟩;rfl) fun Y S Z ad l C pr s past ds r hC h hz=>?_⟩
 have Se:=S.toSe
 obtain ⟨p,x,w,tz,fs,rd,rfl,rfl,hT,hl,hsp,hfo,hrl,hrd,h⟩:=h
 have ew:(splitL 32 x.cps.toList).map (fun q=>D.str (tx q))=(splitS x).map D.str:=by unfold splitS;rw [List.map_map];rfl
 refine xn S 2 (d:= .lst ((splitS x).map D.str)) (qe (Jp (cd:=32) (xb Se 1) xl (by have:=hT.len;omega)) (by rw [ew])) ?_
 obtain ⟨s1,s2,s3⟩:=Z5 hT
 have hF:Vc [.lst ((splitS x).map D.str)] (.ok (.lst (fs.map D.str))):=⟨splitS x,rfl,s1,s2,s3,by rw [hsp,hfo]⟩
 rw [hsp] at hF s2 ⊢
 have hft:=Wg hfo
 have lf:(fs.map D.str).length=fs.length:=List.length_map ..
 have htz:tz.length+1<=4000:=s2
 refine xn S 3 (d:= .lst (fs.map D.str)) (xM Se 0 (VT M) (by decide) (xa (xb Se 2) xc) hF) ?_
 refine jS S 4 (ds:=rd) (tn:=["i"]) (fs:=["self","form","words"]) (ix:=[0,3,2]) (G':=["read_word"]) (items:=rangeD 0 1 ((fs.map D.str).length:Int).toNat) Z.sc ?B (zP Se 3 (xa (yJ Se 4 (n:=(fs.map D.str).length) (xa (xb Se 3) xc) rfl M.g6) xc) (by omega) (by omega) M.m4) (by rw [ym,hrl];omega) (by omega) ?T (jP Z.sc fun _=>rfl) ?_
 case B=>exact ⟨rfl,rfl,by decide+kernel,by decide+kernel,by decide+kernel,by decide+kernel,by decide+kernel,by decide+kernel,rfl,by decide+kernel⟩
 case T=>
  intro Y' S' hl m d r hd hr ts hts
  obtain ⟨hm,rfl⟩:=yR hd
  obtain ⟨t1,rfl⟩:∃t1,ts=[t1]:=List.length_eq_one_iff.mp hts
  have hm':m<fs.length:=by omega
  have hm2:m<tz.length:=by omega
  have gf:fs[m]? =some fs[m]:=List.getElem?_eq_getElem hm'
  have gt:(w::tz)[m+1]? =some tz[m]:=by rw [List.getElem?_cons_succ];exact List.getElem?_eq_getElem hm2
  have hR:=hrd m fs[m] tz[m] r gf (List.getElem?_eq_getElem hm2) hr
  exact ⟨[_],rfl,rfl,zH S'.toSn 0 (.inr (hl _ (by simp))),xM S' 0 (QC M) (by decide) (xa (jj S'.toSn 1 rfl (M.gz C hC)) (xa (xC (xb S' 2) (xb S' 0) (zU gf (by omega))) (xa (xC (xb S' 3) (yA (xb S' 0) xf) (zU gt (by omega))) xc))) hR⟩
 refine xn S 5 (d:= .str w) (xC (xb Se 2) xf (zU (m:=0) rfl rfl)) ?_
 rcases h with ⟨rfl,hU⟩ | ⟨hw,g,rs,hg,hR,hr⟩
 ·refine xo (xz (x:= "undo") (y:= "undo") (xb Se 5) xl) (fun _=>?_) (fun h=>absurd h (by decide+kernel))
  cases r with
  | ok d s' past'=>exact yt (i:=0) (wN Se 0 (Yw M) (by decide) rfl (fun j hj=>by rcases j with _ | _ | _ | _ | _ | _ | _ | _ | _ | j<;>first | rfl | exact absurd rfl hj) hC (fun _ _ _=>rfl) hU) rfl rfl
  | ex y=>exact yw (jg Se 0 (Yw M) (by decide) rfl (fun j hj=>by rcases j with _ | _ | _ | _ | _ | _ | _ | _ | _ | j<;>first | rfl | exact absurd rfl hj) hC (fun _ _ _=>rfl) hU (hz _ rfl _ rfl).1)
 ·refine xo (xz (x:=w) (y:= "undo") (xb Se 5) xl) (fun h=>absurd (by simpa using h) hw) (fun _=>xj ?_)
  refine xo (zW Se 1 (l:=changesL) M.nN (w:=w) (xb Se 5)) (fun _=>?_) (fun h=>by rw [hg] at h;cases h)
  refine xaQ S 6 1 (l:=changesL) (g:=g) M.nN (w:=w) (xb Se 5) hg (by intro _ _;rfl) fun f hf=>?_
  rcases hR with ⟨rfl,hR⟩ | ⟨rfl,hR⟩ | ⟨rfl,hR⟩ | ⟨rfl,hR⟩ | ⟨rfl,hR⟩
  ·obtain ⟨d,hR,rfl⟩:=hR
   rcases hr with ⟨s',e,hO,rfl⟩ | ⟨y,e,_⟩
   ·cases e
    exact yt (i:=0) (zQ Se 0 (zk M) (by decide) rfl (fun j hj=>by rcases j with _ | _ | _ | _ | _ | _ | _ | _ | _ | j<;>first | rfl | exact absurd rfl hj) hC (fun _ _ _=>rfl) (xa (XM Se 6 rfl (UW M) hf (by decide) (xa (zo Se.toSn 0 rfl (M.gz C hC)) (xa (yP Se.toSn 0 rfl (M.gz C hC)) (xa (xb Se 4) xc))) hR) xc) ⟨d,rfl,hO,hl,rfl⟩) rfl rfl
   ·cases e
  ·rcases hr with ⟨s',rfl,hO,rfl⟩ | ⟨y,rfl,rfl⟩
   ·exact yt (i:=0) (zQ Se 0 (zk M) (by decide) rfl (fun j hj=>by rcases j with _ | _ | _ | _ | _ | _ | _ | _ | _ | j<;>first | rfl | exact absurd rfl hj) hC (fun _ _ _=>rfl) (xa (YG Se 6 rfl (ue M) hf (by decide) (xa (zo Se.toSn 0 rfl (M.gz C hC)) (xa (yP Se.toSn 0 rfl (M.gz C hC)) (xa (xb Se 4) xc))) hR) xc) ⟨s',rfl,hO,hl,rfl⟩) rfl rfl
   ·exact yw (YB Se 0 (zk M) (by decide) rfl hC (fun _ _ _=>rfl) (JN (YF Se 6 rfl (ue M) hf (by decide) (xa (zo Se.toSn 0 rfl (M.gz C hC)) (xa (yP Se.toSn 0 rfl (M.gz C hC)) (xa (xb Se 4) xc))) hR (hz _ rfl _ rfl).1) qP))
  ·rcases hr with ⟨s',rfl,hO,rfl⟩ | ⟨y,rfl,rfl⟩
   ·exact yt (i:=0) (zQ Se 0 (zk M) (by decide) rfl (fun j hj=>by rcases j with _ | _ | _ | _ | _ | _ | _ | _ | _ | j<;>first | rfl | exact absurd rfl hj) hC (fun _ _ _=>rfl) (xa (YG Se 6 rfl (vU M) hf (by decide) (xa (zo Se.toSn 0 rfl (M.gz C hC)) (xa (yP Se.toSn 0 rfl (M.gz C hC)) (xa (xb Se 4) xc))) hR) xc) ⟨s',rfl,hO,hl,rfl⟩) rfl rfl
   ·exact yw (YB Se 0 (zk M) (by decide) rfl hC (fun _ _ _=>rfl) (JN (YF Se 6 rfl (vU M) hf (by decide) (xa (zo Se.toSn 0 rfl (M.gz C hC)) (xa (yP Se.toSn 0 rfl (M.gz C hC)) (xa (xb Se 4) xc))) hR (hz _ rfl _ rfl).1) qP))
  ·obtain ⟨d,hR,rfl⟩:=hR
   rcases hr with ⟨s',e,hO,rfl⟩ | ⟨y,e,_⟩
   ·cases e
    exact yt (i:=0) (zQ Se 0 (zk M) (by decide) rfl (fun j hj=>by rcases j with _ | _ | _ | _ | _ | _ | _ | _ | _ | j<;>first | rfl | exact absurd rfl hj) hC (fun _ _ _=>rfl) (xa (XM Se 6 rfl (Zq M) hf (by decide) (xa (zo Se.toSn 0 rfl (M.gz C hC)) (xa (yP Se.toSn 0 rfl (M.gz C hC)) (xa (xb Se 4) xc))) hR) xc) ⟨d,rfl,hO,hl,rfl⟩) rfl rfl
   ·cases e
  ·obtain ⟨d,hR,rfl⟩:=hR
   rcases hr with ⟨s',e,hO,rfl⟩ | ⟨y,e,_⟩
   ·cases e
    exact yt (i:=0) (zQ Se 0 (zk M) (by decide) rfl (fun j hj=>by rcases j with _ | _ | _ | _ | _ | _ | _ | _ | _ | j<;>first | rfl | exact absurd rfl hj) hC (fun _ _ _=>rfl) (xa (XM Se 6 rfl (Zs M) hf (by decide) (xa (zo Se.toSn 0 rfl (M.gz C hC)) (xa (yP Se.toSn 0 rfl (M.gz C hC)) (xa (xb Se 4) xc))) hR) xc) ⟨d,rfl,hO,hl,rfl⟩) rfl rfl
   ·cases e
abbrev Qn:Stmt:=top 146
theorem UA:ScB ["_law_desk","_law_row_here","_law_answer","_law_word","_law_error"] ["_law_desk","_law_row_here"] ["TreeError","_law_refusal","isinstance","str"] (defScope Qn):=by walk_at "S"
theorem qR {T:Tx} (M:Mo T):FnS T 10 "_law_said" zr:=by
 refine xcw M.rZ UA (by walk_at "2") (by rintro _ _ _ _ _ ⟨_,_,rfl,_⟩;rfl) fun Y S Z ad l C pr s past ds r hC h hz=>?_
 have Se:=S.toSe
 obtain ⟨x,rs,rfl,hS,hr⟩:=h
 refine xn S 2 vA ?_
 refine xn S 3 xl ?_
 obtain ⟨Ct,hCt⟩:=M.gF
 cases rs with
 | ok d s' past'=>
  obtain ⟨⟨y,rfl⟩,rfl⟩:=hr
  refine qs S Z 4 0 (fun _=>False) (by decide+kernel) hCt (fun y C hy=>hy.elim) (fun Y' S' hz'=>?_) (fun Yh Sh y C hy hC=>hy.elim)
  refine WD S' 2 (zQ S'.toSe 0 (vZ M) (by decide) rfl (fun j hj=>by rcases j with _ | _ | _ | _ | _ | _ | _ | _ | _ | j<;>first | rfl | exact absurd rfl hj) hC (fun _ _ _=>rfl) (xa (xb S'.toSe 1) xc) hS) (xj ?_)
  refine xo (zY (xz (x:= "") (y:= "") (xb Se 3) xl) fun _=>vI (xR (xQ (xV Se 2 3 (d:= .str y) (xb Se 2) (b:=true) rfl M.gb M.nz Wv)))).pt (fun h=>absurd h (by decide+kernel)) (fun _=>xj ?_)
  exact yt (i:=0) (zB (xt (xa (xb Se 3) (xa (xb Se 2) xc)))) rfl rfl
 | ex y=>
  obtain ⟨z,hR,hz0,rfl⟩:=hr
  rcases hR with ⟨rfl,e⟩ | ⟨rfl,e⟩ | ⟨rfl,e⟩
  ·cases e
   refine qs S Z 4 0 (fun q=>q= "NoFraction") (by decide+kernel) hCt (fun q C1 hq hC1=>by subst hq;exact M.gG C1 Ct hC1 hCt) (fun Y' S' hz'=>?_) (fun Yh Sh q C1 hq hC1=>?_)
   ·exact yM S' 2 (XI S'.toSe 0 (vZ M) (by decide) rfl (fun j hj=>by rcases j with _ | _ | _ | _ | _ | _ | _ | _ | _ | j<;>first | rfl | exact absurd rfl hj) hC (fun _ _ _=>rfl) (xa (xb S'.toSe 1) xc) hS (hz' _ rfl))
   ·subst hq
    refine x5 Sh 3 (d:= .str "fraction") (zR Sh 4 1 (yC M) (by decide) rfl hC1 (.inl ⟨rfl,rfl⟩)) (xj ?_)
    refine xo (zY (w:=false) (xz (x:= "fraction") (y:= "") (xb Se 3) xl) fun h=>absurd h (by decide+kernel)).pt (fun h=>absurd h (by decide+kernel)) (fun _=>xj ?_)
    exact yt (i:=0) (zB (xt (xa (xb Se 3) (xa (xb Se 2) xc)))) rfl rfl
  ·cases e
   refine qs S Z 4 0 (fun q=>q= "NoTable") (by decide+kernel) hCt (fun q C1 hq hC1=>by subst hq;exact M.gM C1 Ct hC1 hCt) (fun Y' S' hz'=>?_) (fun Yh Sh q C1 hq hC1=>?_)
   ·exact yM S' 2 (XI S'.toSe 0 (vZ M) (by decide) rfl (fun j hj=>by rcases j with _ | _ | _ | _ | _ | _ | _ | _ | _ | j<;>first | rfl | exact absurd rfl hj) hC (fun _ _ _=>rfl) (xa (xb S'.toSe 1) xc) hS (hz' _ rfl))
   ·subst hq
    refine x5 Sh 3 (d:= .str "table") (zR Sh 4 1 (yC M) (by decide) rfl hC1 (.inr (.inl ⟨rfl,rfl⟩))) (xj ?_)
    refine xo (zY (w:=false) (xz (x:= "table") (y:= "") (xb Se 3) xl) fun h=>absurd h (by decide+kernel)).pt (fun h=>absurd h (by decide+kernel)) (fun _=>xj ?_)
    exact yt (i:=0) (zB (xt (xa (xb Se 3) (xa (xb Se 2) xc)))) rfl rfl
  ·cases e
   refine qs S Z 4 0 (fun q=>q= "NothingDone") (by decide+kernel) hCt (fun q C1 hq hC1=>by subst hq;exact M.gD C1 Ct hC1 hCt) (fun Y' S' hz'=>?_) (fun Yh Sh q C1 hq hC1=>?_)
   ·exact yM S' 2 (XI S'.toSe 0 (vZ M) (by decide) rfl (fun j hj=>by rcases j with _ | _ | _ | _ | _ | _ | _ | _ | _ | j<;>first | rfl | exact absurd rfl hj) hC (fun _ _ _=>rfl) (xa (xb S'.toSe 1) xc) hS (hz' _ rfl))
   ·subst hq
    refine x5 Sh 3 (d:= .str "nothing") (zR Sh 4 1 (yC M) (by decide) rfl hC1 (.inr (.inr ⟨rfl,rfl⟩))) (xj ?_)
    refine xo (zY (w:=false) (xz (x:= "nothing") (y:= "") (xb Se 3) xl) fun h=>absurd h (by decide+kernel)).pt (fun h=>absurd h (by decide+kernel)) (fun _=>xj ?_)
    exact yt (i:=0) (zB (xt (xa (xb Se 3) (xa (xb Se 2) xc)))) rfl rfl
abbrev Qp:Stmt:=top 147
theorem UC:ScB ["_law_p","_law_cell_here","_law_word"] ["_law_p","_law_cell_here"] ["_law_spot","_law_fraction","range"] (defScope Qp):=by walk_at "S"
theorem UT {T:Tx} (M:Mo T):FnD T 3 "_law_row" JU:=by
 refine yq M.r6 UC (by walk_at "2") (by rintro _ _ ⟨_,_,rfl,_⟩;rfl) fun Y S Z ds d h=>?_
 have Se:=S.toSe
 obtain ⟨p,c,rfl,hp,c0,rfl⟩:=h
 have key:(row91 p c).w= "go" /\(row91 p c).ps p=[stD (spt93 p (c / 8))]∨(row91 p c).w= "move" /\(row91 p c).ps p=[frD (fr91 p (mo91 (c / 8) 0)),frD (fr91 p (mo91 (c / 8) 1)),frD (fr91 p (mo91 (c / 8) 2)),frD (fr91 p (mo91 (c / 8) 3))]∨(row91 p c).w= "scale" /\(row91 p c).ps p=[frD (fr91 p (c / 8))]∨(row91 p c).w= "shift" /\(row91 p c).ps p=[frD (fr91 p (c / 8))]∨(row91 p c).w= "flip" /\(row91 p c).ps p=[]∨(row91 p c).w= "undo" /\(row91 p c).ps p=[]:=by
  rcases (show c%8=0∨c%8=1∨c%8=2∨c%8=3∨c%8=4∨c%8=5∨c%8=6∨c%8=7 by omega) with hi | hi | hi | hi | hi | hi | hi | hi
  ·left;unfold row91;rw [hi];exact ⟨rfl,rfl⟩
  ·right;left;unfold row91;rw [hi];exact ⟨rfl,rfl⟩
  ·right;left;unfold row91;rw [hi];exact ⟨rfl,rfl⟩
  ·right;right;left;unfold row91;rw [hi];exact ⟨rfl,rfl⟩
  ·right;right;right;left;unfold row91;rw [hi];exact ⟨rfl,rfl⟩
  ·right;right;right;right;left;unfold row91;rw [hi];exact ⟨rfl,rfl⟩
  ·right;right;right;right;right;unfold row91;rw [hi];exact ⟨rfl,rfl⟩
  ·right;right;right;left;unfold row91;rw [hi];exact ⟨rfl,rfl⟩
 have ew:atI (words91.map D.str) (c%8)=some (.str (row91 p c).w):=by
  rcases (show c%8=0∨c%8=1∨c%8=2∨c%8=3∨c%8=4∨c%8=5∨c%8=6∨c%8=7 by omega) with hi | hi | hi | hi | hi | hi | hi | hi<;>(unfold row91;rw [hi];rfl)
 generalize (row91 p c).w=w at key ew ⊢
 generalize (row91 p c).ps p=l at key ⊢
 refine xn S 2 (d:= .str w) (xC (ds:=words91.map D.str) ?nm (xG (xb Se 1) xf (by decide)) ew) ?_
 case nm=>
  refine xX ?_
  refine wk (xs:=["go","move","move","scale","shift","flip","undo","shift"]) ?_
  exact rfl
 refine xn S 1 (d:= .int (c / 8)) (yf (xb Se 1) xf (by decide) (by decide+kernel)) ?_
 clear ew
 rcases key with ⟨rfl,rfl⟩ | ⟨rfl,rfl⟩ | ⟨rfl,rfl⟩ | ⟨rfl,rfl⟩ | ⟨rfl,rfl⟩ | ⟨rfl,rfl⟩
 ·refine xo (xz (x:= "go") (y:= "go") (xb Se 2) xl) (fun _=>?_) (fun h=>absurd h (by decide+kernel))
  exact xg (xt (xa (xb Se 2) (xa (xX (xa (xi Se 0 (UR M) (by decide) (xa (xb Se 0) (xa (xb Se 1) xc)) ⟨p,_,rfl,hp,by omega,rfl⟩) xc)) xc))) rfl
 ·refine xo (xz (x:= "move") (y:= "go") (xb Se 2) xl) (fun h=>?_) (fun _=>xj ?_)
  ·exfalso;revert h;decide+kernel
  refine xo (xz (x:= "move") (y:= "move") (xb Se 2) xl) (fun _=>?_) (fun h=>absurd h (by decide+kernel))
  refine xg (xt (xa (xb Se 2) (xa ?CC1 xc))) rfl
  case CC1=>
   refine QY (tn:=["_law_j"]) (fs:=["_law_p","_law_cell_here"]) (ix:=[0,1]) (G':=["_law_fraction","_law_more"]) (ds:=[frD (fr91 p (mo91 (c / 8) 0)),frD (fr91 p (mo91 (c / 8) 1)),frD (fr91 p (mo91 (c / 8) 2)),frD (fr91 p (mo91 (c / 8) 3))]) Se Z.sc ?BB1 (zP Se 2 (xa xf xc) (by decide) (by decide) M.m4) (by rfl) (by show 4<=100000;decide) ?TT1
   case BB1=>exact ⟨rfl,rfl,by decide+kernel,by decide+kernel,by decide+kernel,by decide+kernel,by decide+kernel,by decide+kernel,rfl,by decide+kernel⟩
   case TT1=>
    intro Y' S' hl m d r hd hr ts hts
    obtain ⟨hm,rfl⟩:=yR hd
    obtain ⟨t1,rfl⟩:∃t1,ts=[t1]:=List.length_eq_one_iff.mp hts
    have hm4:m<4:=by omega
    have hr':r=frD (fr91 p (mo91 (c / 8) m)):=by
     rcases (show m=0∨m=1∨m=2∨m=3 by omega) with rfl | rfl | rfl | rfl<;>exact (Option.some.inj hr).symm
    subst hr'
    exact ⟨[_],rfl,rfl,zH S'.toSn 0 (.inr (hl _ (by simp))),xi S' 0 (Xv M) (by decide) (xa (xb S' 1) (xa (xi S' 1 (US M) (by decide) (xa (xb S' 2) (xa (xb S' 0) xc)) ⟨c / 8,0+(m:Int)*1,rfl,by omega,by omega,by rw [show (0+(m:Int)*1).toNat=m by omega]⟩) xc)) ⟨p,_,rfl,hp,rfl⟩⟩
 ·refine xo (xz (x:= "scale") (y:= "go") (xb Se 2) xl) (fun h=>?_) (fun _=>xj ?_)
  ·exfalso;revert h;decide+kernel
  refine xo (xz (x:= "scale") (y:= "move") (xb Se 2) xl) (fun h=>?_) (fun _=>xj ?_)
  ·exfalso;revert h;decide+kernel
  refine xo (Y0 (d:= .str "scale") (ds:=[.str "scale",.str "shift"]) (xb Se 2) (xt (xa xl (xa xl xc)))) (fun _=>?_) (fun h=>?_)
  ·exact xg (xt (xa (xb Se 2) (xa (xX (xa (xi Se 1 (Xv M) (by decide) (xa (xb Se 0) (xa (xb Se 1) xc)) ⟨p,_,rfl,hp,rfl⟩) xc)) xc))) rfl
  ·exfalso;revert h;decide+kernel
 ·refine xo (xz (x:= "shift") (y:= "go") (xb Se 2) xl) (fun h=>?_) (fun _=>xj ?_)
  ·exfalso;revert h;decide+kernel
  refine xo (xz (x:= "shift") (y:= "move") (xb Se 2) xl) (fun h=>?_) (fun _=>xj ?_)
  ·exfalso;revert h;decide+kernel
  refine xo (Y0 (d:= .str "shift") (ds:=[.str "scale",.str "shift"]) (xb Se 2) (xt (xa xl (xa xl xc)))) (fun _=>?_) (fun h=>?_)
  ·exact xg (xt (xa (xb Se 2) (xa (xX (xa (xi Se 1 (Xv M) (by decide) (xa (xb Se 0) (xa (xb Se 1) xc)) ⟨p,_,rfl,hp,rfl⟩) xc)) xc))) rfl
  ·exfalso;revert h;decide+kernel
 ·refine xo (xz (x:= "flip") (y:= "go") (xb Se 2) xl) (fun h=>?_) (fun _=>xj ?_)
  ·exfalso;revert h;decide+kernel
  refine xo (xz (x:= "flip") (y:= "move") (xb Se 2) xl) (fun h=>?_) (fun _=>xj ?_)
  ·exfalso;revert h;decide+kernel
  refine xo (Y0 (d:= .str "flip") (ds:=[.str "scale",.str "shift"]) (xb Se 2) (xt (xa xl (xa xl xc)))) (fun h=>?_) (fun _=>xj ?_)
  ·exfalso;revert h;decide+kernel
  exact xg (xt (xa (xb Se 2) (xa (xX xc) xc))) rfl
 ·refine xo (xz (x:= "undo") (y:= "go") (xb Se 2) xl) (fun h=>?_) (fun _=>xj ?_)
  ·exfalso;revert h;decide+kernel
  refine xo (xz (x:= "undo") (y:= "move") (xb Se 2) xl) (fun h=>?_) (fun _=>xj ?_)
  ·exfalso;revert h;decide+kernel
  refine xo (Y0 (d:= .str "undo") (ds:=[.str "scale",.str "shift"]) (xb Se 2) (xt (xa xl (xa xl xc)))) (fun h=>?_) (fun _=>xj ?_)
  ·exfalso;revert h;decide+kernel
  exact xg (xt (xa (xb Se 2) (xa (xX xc) xc))) rfl
abbrev Yq:Stmt:=top 148
theorem VI:ScB ["_law_word","_law_parts"] ["_law_word","_law_parts"] ["_law_spot_text"] (defScope Yq):=by walk_at "S"
theorem Xu {T:Tx} (M:Mo T):FnD T 3 "_law_text" wW:=by
 refine yq M.rM VI (by walk_at "2") (by rintro _ _ (⟨_,rfl,_⟩ | ⟨_,_,rfl,_⟩)<;>rfl) fun Y S Z ds d h=>?_
 have Se:=S.toSe
 rcases h with ⟨u,rfl,hO,rfl⟩ | ⟨w,as,rfl,hw,hwl,hal,hb,rfl⟩
 ·refine xo (xz (x:= "go") (y:= "go") (xb Se 0) xl) (fun _=>?_) (fun h=>absurd h (by decide+kernel))
  obtain ⟨hk,hB⟩:=yp hO
  have sl:=J8 (k:=u.1) (a:=u.2) (by omega) hB
  refine xg (Wh (y:=rowL "go" [stx u.1 u.2]) (qV (qV (xb Se 0) xl (by decide+kernel)) (xi Se 0 (v3 M) (by decide) (xa (xC (d:=stD u) (xb Se 1) xf rfl) xc) ⟨u,rfl,hk,hB,rfl⟩) (by rw [yL];have e3:(("go" :Str)++(" " :Str)).length=3:=(by decide+kernel);omega)) (KR u)) rfl
 ·refine xo (xz (x:=w) (y:= "go") (xb Se 0) xl) (fun h=>absurd (by simpa using h) hw) (fun _=>xj ?_)
  have ll:(as.map fun a=>tx (ftx a)).length=as.length:=List.length_map ..
  refine xg (Wh (Jv (sep:= " ") (xs:=w::as.map fun a=>tx (ftx a)) xl ?JL (joinOk96 (by rw [List.length_cons,ll];omega) ?JK)) (V7 w as)) rfl
  case JK=>
   intro x hx
   rcases List.mem_cons.mp hx with rfl | hx
   ·omega
   ·obtain ⟨a,ha,rfl⟩:=List.mem_map.mp hx
    rw [yL];have:=wJ (hb a ha);omega
  case JL=>
   refine Jt (yX (xs:=[D.str w]) (ys:=as.map fun a=>D.str (tx (ftx a))) (xX (xa (xb Se 0) xc)) ?CC (by rw [List.length_map];show 1+as.length<=1000000;omega)) (by rw [List.map_cons,List.map_map];rfl)
   refine QY (tn:=["_law_part"]) (fs:=[]) (ix:=[]) (G':=["_law_fraction_text"]) (ds:=as.map fun a=>D.str (tx (ftx a))) Se Z.sc ?BB (KO (ds:=as.map frD) (xb Se 1)) (by rw [List.length_map,List.length_map]) (by rw [List.length_map];omega) ?TT
   case BB=>exact ⟨rfl,rfl,by decide+kernel,by decide+kernel,by decide+kernel,by decide+kernel,by decide+kernel,by decide+kernel,rfl,by decide+kernel⟩
   case TT=>
    intro Y' S' hl m d r hd hr ts hts
    obtain ⟨t1,rfl⟩:∃t1,ts=[t1]:=List.length_eq_one_iff.mp hts
    rw [List.getElem?_map] at hd hr
    cases q:as[m]? with
    | none=>rw [q] at hd;cases hd
    | some a=>
     rw [q] at hd hr
     cases hd
     cases hr
     exact ⟨[_],rfl,rfl,zH S'.toSn 0 (.inr (hl _ (by simp))),xi S' 0 (uf M) (by decide) (xa (xb S' 0) xc) ⟨a,rfl,(hb a (List.mem_of_getElem? q)).up,rfl⟩⟩
abbrev WK:Stmt:=top 149
theorem kc:ScB ["_law_p","_law_word","_law_parts","_law_spot_here"] ["_law_p","_law_word","_law_parts","_law_spot_here"] ["moved","table_of","Flip","Scale","Shift"] (defScope WK):=by walk_at "S"
theorem qQ {T:Tx} (M:Mo T):FnX T 8 "_law_behind" Uk:=by
 refine wL M.sA kc (by walk_at "4") (by rintro _ _ ⟨_,_,_,rfl,_⟩;rfl) fun Y S Z ds r h hz=>?_
 have Se:=S.toSe
 obtain ⟨p,s,rw,rfl,hp,h⟩:=h
 rcases h with ⟨u,rfl,rfl⟩ | ⟨m,rfl,hR⟩
 ·change SsD Y _ (ctx0 _ [.int p,.str "go",.lst [stD u],stD s]) _
  refine xo (xz (x:= "go") (y:= "go") (xb Se 1) xl) (fun _=>?_) (fun h=>absurd h (by decide+kernel))
  exact xg (xC (d:=stD u) (xb Se 2) xf rfl) rfl
 cases m with
 | mv f=>
  have hm:=X8 (Dd91.tbb hp (.mv f))
  change SsD Y _ (ctx0 _ [.int p,.str "move",.lst [frD ((Dd91.mv f).tb p).a,frD ((Dd91.mv f).tb p).b,frD ((Dd91.mv f).tb p).c,frD ((Dd91.mv f).tb p).d],stD s]) _
  have hR:((Dd91.mv f).tb p).det≠0/\(∃d,x9 [.int p,tbD ((Dd91.mv f).tb p),stD s] d/\r= .ok d)∨((Dd91.mv f).tb p).det=0/\r= .ex "NoTable" :=hR
  generalize (Dd91.mv f).tb p=t at hm hR ⊢
  refine xo (xz (x:= "move") (y:= "go") (xb Se 1) xl) (fun h=>?_) (fun _=>xj ?_)
  ·exfalso;revert h;decide+kernel
  refine xo (xz (x:= "move") (y:= "move") (xb Se 1) xl) (fun _=>?_) (fun h=>absurd h (by decide+kernel))
  rcases hR with ⟨h0,d,hd,rfl⟩ | ⟨h0,rfl⟩
  ·exact xg (xi Se 0 (yI M) (by decide) (xa (xb Se 0) (xa (xM Se 1 (y8 M) (by decide) (xa (xC (xb Se 2) xf rfl) (xa (xC (xb Se 2) xf rfl) (xa (xC (xb Se 2) xf rfl) (xa (xC (xb Se 2) xf rfl) xc)))) ⟨t,rfl,hm,.inl ⟨h0,rfl⟩⟩) (xa (xb Se 3) xc))) hd) rfl
  ·exact yw (QZ Se 0 (yI M) (by decide) (XR (xb Se 0) (JN (x6 Se 1 (y8 M) (by decide) (xa (xC (xb Se 2) xf rfl) (xa (xC (xb Se 2) xf rfl) (xa (xC (xb Se 2) xf rfl) (xa (xC (xb Se 2) xf rfl) xc)))) ⟨t,rfl,hm,.inr ⟨h0,rfl⟩⟩ (hz _ rfl _).1) qP)))
 | sc n=>
  change SsD Y _ (ctx0 _ [.int p,.str "scale",.lst [frD (fr91 p n)],stD s]) _
  have hR:(fr91 p n≠0/\∃d,x9 [.int p,tbD ⟨fr91 p n,0,0,1⟩,stD s] d/\r= .ok d)∨(fr91 p n=0/\r= .ex "NoFraction"):=by
   rcases JG hp hR with ⟨e,_⟩ | ⟨e,_⟩ | ⟨_,h⟩ | ⟨e,_⟩ | ⟨e,_⟩
   ·exact absurd e (by show ¬("scaled" :Str)= "gone";decide)
   ·exact absurd e (by show ¬("scaled" :Str)= "moved_by";decide)
   ·obtain ⟨a,p',s',e,h⟩:=h
    injection e with e1 e;injection e with e2 e;injection e with e3 e
    injection e3 with e3;injection e3 with e3 _
    rw [Yy e3,e1,e2]
    exact h
   ·exact absurd e (by show ¬("scaled" :Str)= "shifted";decide)
   ·exact absurd e (by show ¬("scaled" :Str)= "flipped";decide)
  generalize fr91 p n=a at hR ⊢
  obtain ⟨C,fI,fdI,hC,hMk,hBd,hIn⟩:=q9 M
  refine xo (xz (x:= "scale") (y:= "go") (xb Se 1) xl) (fun h=>?_) (fun _=>xj ?_)
  ·exfalso;revert h;decide+kernel
  refine xo (xz (x:= "scale") (y:= "move") (xb Se 1) xl) (fun h=>?_) (fun _=>xj ?_)
  ·exfalso;revert h;decide+kernel
  refine xo (xz (x:= "scale") (y:= "scale") (xb Se 1) xl) (fun _=>?_) (fun h=>absurd h (by decide+kernel))
  rcases hR with ⟨ha,d,hd,rfl⟩ | ⟨rfl,rfl⟩
  ·exact xg (YE Se 3 hMk hIn (by decide) hBd hC (yO M) (by decide) (by decide) (q:=frD a) (xC (xb Se 2) xf rfl) ⟨a,rfl,ha⟩ (xa (xb Se 0) (xa (xb Se 3) xc)) ⟨_,_,_,.inl ⟨rfl,a,rfl,rfl⟩,rfl,hd⟩) rfl
  ·exact yw (QW Se (QT Se 3 hMk hIn (by decide) hBd hC (q:=frD 0) (xC (xb Se 2) xf rfl) rfl (hz _ rfl _).1) (yO M) (by decide))
 | sh n=>
  change SsD Y _ (ctx0 _ [.int p,.str "shift",.lst [frD (fr91 p n)],stD s]) _
  have hR:∃d,x9 [.int p,tbD ⟨1,fr91 p n,0,1⟩,stD s] d/\r= .ok d:=by
   rcases hR with ⟨_,h⟩ | ⟨h0,_⟩
   ·exact h
   ·rcases zT h0 with ⟨_,e⟩ | ⟨_,e,_⟩<;>cases e
  generalize fr91 p n=a at hR ⊢
  obtain ⟨d,hd,rfl⟩:=hR
  obtain ⟨C,fI,fdI,hC,hMk,hBd,hIn⟩:=qE M
  refine xo (xz (x:= "shift") (y:= "go") (xb Se 1) xl) (fun h=>?_) (fun _=>xj ?_)
  ·exfalso;revert h;decide+kernel
  refine xo (xz (x:= "shift") (y:= "move") (xb Se 1) xl) (fun h=>?_) (fun _=>xj ?_)
  ·exfalso;revert h;decide+kernel
  refine xo (xz (x:= "shift") (y:= "scale") (xb Se 1) xl) (fun h=>?_) (fun _=>xj ?_)
  ·exfalso;revert h;decide+kernel
  refine xo (xz (x:= "shift") (y:= "shift") (xb Se 1) xl) (fun _=>?_) (fun h=>absurd h (by decide+kernel))
  exact xg (XL Se 4 hMk hIn (by decide) hBd hC (zl M) (by decide) (by decide) (q:=frD a) (xC (xb Se 2) xf rfl) ⟨a,rfl⟩ (xa (xb Se 0) (xa (xb Se 3) xc)) ⟨_,_,_,.inr (.inl ⟨rfl,a,rfl,rfl⟩),rfl,hd⟩) rfl
 | fl=>
  change SsD Y _ (ctx0 _ [.int p,.str "flip",.lst [],stD s]) _
  have hR:∃d,x9 [.int p,tbD ⟨0,1,1,0⟩,stD s] d/\r= .ok d:=by
   rcases hR with ⟨_,h⟩ | ⟨h0,_⟩
   ·exact h
   ·rcases zT h0 with ⟨_,e⟩ | ⟨_,e,_⟩<;>cases e
  obtain ⟨d,hd,rfl⟩:=hR
  obtain ⟨C,hC,mk,hi,kp⟩:=M.sk
  refine xo (xz (x:= "flip") (y:= "go") (xb Se 1) xl) (fun h=>?_) (fun _=>xj ?_)
  ·exfalso;revert h;decide+kernel
  refine xo (xz (x:= "flip") (y:= "move") (xb Se 1) xl) (fun h=>?_) (fun _=>xj ?_)
  ·exfalso;revert h;decide+kernel
  refine xo (xz (x:= "flip") (y:= "scale") (xb Se 1) xl) (fun h=>?_) (fun _=>xj ?_)
  ·exfalso;revert h;decide+kernel
  refine xo (xz (x:= "flip") (y:= "shift") (xb Se 1) xl) (fun h=>?_) (fun _=>xj ?_)
  ·exfalso;revert h;decide+kernel
  exact xg (QX Se 2 mk hi kp hC (ve M) (by decide) (xa (xb Se 0) (xa (xb Se 3) xc)) ⟨_,_,_,.inr (.inr ⟨rfl,rfl,rfl⟩),rfl,hd⟩) rfl
abbrev Yf:Stmt:=top 150
theorem Vv:ScB ["_law_p","_law_word","_law_parts","_law_spot_here","_law_behind_here","_law_refused","_law_error"] ["_law_p","_law_word","_law_parts","_law_spot_here"] ["TreeError","_law_behind","_law_refusal"] (defScope Yf):=by walk_at "S"
theorem VU {T:Tx} (M:Mo T):FnD T 9 "_law_tried" YN:=by
 refine yq M.rN Vv (by walk_at "4") (by rintro _ _ ⟨_,⟨_,_,_,rfl,_⟩,_⟩;rfl) fun Y S Z ds d h=>?_
 have Se:=S.toSe
 obtain ⟨r,hB,hr⟩:=h
 obtain ⟨d0,d1,d2,d3,rfl⟩:∃d0 d1 d2 d3,ds=[d0,d1,d2,d3]:=by
  obtain ⟨_,_,_,e,_⟩:=hB
  exact ⟨_,_,_,_,e⟩
 refine xn S 4 vA ?_
 refine xn S 5 xl ?_
 obtain ⟨Ct,hCt⟩:=M.gF
 cases r with
 | ok e=>
  have hr:d= .tup [e,.str ""]:=hr
  subst hr
  refine qs S Z 6 0 (fun _=>False) (by decide+kernel) hCt (fun y C hy=>hy.elim) (fun Y' S' hz'=>?_) (fun Yh Sh y C hy hC=>hy.elim)
  refine xn S' 4 (xM S'.toSe 1 (qQ M) (by decide) (xa (xb S'.toSe 0) (xa (xb S'.toSe 1) (xa (xb S'.toSe 2) (xa (xb S'.toSe 3) xc)))) hB) (xj ?_)
  exact xg (xt (xa (xb Se 4) (xa (xb Se 5) xc))) rfl
 | ex y=>
  obtain ⟨z,hR,rfl⟩:=hr
  rcases hR with ⟨rfl,e⟩ | ⟨rfl,e⟩ | ⟨rfl,e⟩
  ·cases e
   refine qs S Z 6 0 (fun q=>q= "NoFraction") (by decide+kernel) hCt (fun q C1 hq hC1=>by subst hq;exact M.gG C1 Ct hC1 hCt) (fun Y' S' hz'=>?_) (fun Yh Sh q C1 hq hC1=>?_)
   ·exact yM S' 4 (x6 S'.toSe 1 (qQ M) (by decide) (xa (xb S'.toSe 0) (xa (xb S'.toSe 1) (xa (xb S'.toSe 2) (xa (xb S'.toSe 3) xc)))) hB (hz' _ rfl))
   ·subst hq
    refine x5 Sh 5 (d:= .str "fraction") (zR Sh 6 2 (yC M) (by decide) rfl hC1 (.inl ⟨rfl,rfl⟩)) (xj ?_)
    exact xg (xt (xa (xb Se 4) (xa (xb Se 5) xc))) rfl
  ·cases e
   refine qs S Z 6 0 (fun q=>q= "NoTable") (by decide+kernel) hCt (fun q C1 hq hC1=>by subst hq;exact M.gM C1 Ct hC1 hCt) (fun Y' S' hz'=>?_) (fun Yh Sh q C1 hq hC1=>?_)
   ·exact yM S' 4 (x6 S'.toSe 1 (qQ M) (by decide) (xa (xb S'.toSe 0) (xa (xb S'.toSe 1) (xa (xb S'.toSe 2) (xa (xb S'.toSe 3) xc)))) hB (hz' _ rfl))
   ·subst hq
    refine x5 Sh 5 (d:= .str "table") (zR Sh 6 2 (yC M) (by decide) rfl hC1 (.inr (.inl ⟨rfl,rfl⟩))) (xj ?_)
    exact xg (xt (xa (xb Se 4) (xa (xb Se 5) xc))) rfl
  ·cases e
   refine qs S Z 6 0 (fun q=>q= "NothingDone") (by decide+kernel) hCt (fun q C1 hq hC1=>by subst hq;exact M.gD C1 Ct hC1 hCt) (fun Y' S' hz'=>?_) (fun Yh Sh q C1 hq hC1=>?_)
   ·exact yM S' 4 (x6 S'.toSe 1 (qQ M) (by decide) (xa (xb S'.toSe 0) (xa (xb S'.toSe 1) (xa (xb S'.toSe 2) (xa (xb S'.toSe 3) xc)))) hB (hz' _ rfl))
   ·subst hq
    refine x5 Sh 5 (d:= .str "nothing") (zR Sh 6 2 (yC M) (by decide) rfl hC1 (.inr (.inr ⟨rfl,rfl⟩))) (xj ?_)
    exact xg (xt (xa (xb Se 4) (xa (xb Se 5) xc))) rfl
theorem Vy:ScB ["self"] ["self"] ["len"] (defScope wx):=by walk_at "S"
theorem VW {T:Tx} (M:Mo T):FnMt T 1 "steps" jy:=by
 obtain ⟨C0,f0,fd0,hC0,hm0,F0⟩:=M.rO
 refine ⟨C0,f0,fd0,["self"],hC0,(M.gz C0 hC0).cl,hm0,F0.binds fun _ _ _ _ _ _ us hl=>match us,hl with | [_],_=>rfl,Yz F0 Vy (by rintro _ _ _ _ _ ⟨rfl,_⟩;rfl) fun Y S Z ad l C pr s past ds r hC h hz=>?_⟩
 have Se:=S.toSe
 obtain ⟨rfl,rfl⟩:=h
 exact yt (i:=0) (zB (K2 Se 0 0 rfl (M.gz C hC) M.g6)) rfl rfl
theorem UD:ScB ["self"] ["self"] [] (defScope Xg):=by walk_at "S"
theorem UU {T:Tx} (M:Mo T):FnMt T 1 "lies" JW:=by
 obtain ⟨C0,f0,fd0,hC0,hm0,F0⟩:=M.se
 refine ⟨C0,f0,fd0,["self"],hC0,(M.gz C0 hC0).cl,hm0,F0.binds fun _ _ _ _ _ _ us hl=>match us,hl with | [_],_=>rfl,Yz F0 UD (by rintro _ _ _ _ _ ⟨rfl,_⟩;rfl) fun Y S Z ad l C pr s past ds r hC h hz=>?_⟩
 have Se:=S.toSe
 obtain ⟨rfl,rfl⟩:=h
 exact yt (i:=0) (zB (yP Se.toSn 0 rfl (M.gz C hC))) rfl rfl
abbrev Qq:Stmt:=top 151
theorem UE:ScB ["_law_desk","_law_spot_here","_law_past","_law_many"] ["_law_desk","_law_spot_here","_law_past"] ["_law_whole","len"] (defScope Qq):=by walk_at "S"
theorem wD {T:Tx} (M:Mo T):FnSB T 2 "_law_lies" JX:=by
 refine xcg M.r9 UE (by walk_at "3") (by decide) (by rintro _ _ _ _ _ _ ⟨_,_,rfl,_⟩;rfl) fun Y S Z ad l C pr s past ds es r hC h=>?_
 have Se:=S.toSe
 obtain ⟨u,rfl,rfl,hl,hp,rfl⟩:=h
 refine WD S 3 (wN Se 0 (VW M) (by decide) rfl (fun j hj=>by rcases j with _ | _ | _ | _ | _ | _ | _ | _ | _ | j<;>first | rfl | exact absurd rfl hj) hC (fun _ _ _=>rfl) ⟨rfl,rfl⟩) ?_
 refine yt (i:=0) (Ua (QS (W9 Se (wN Se 0 (UU M) (by decide) rfl (fun j hj=>by rcases j with _ | _ | _ | _ | _ | _ | _ | _ | _ | j<;>first | rfl | exact absurd rfl hj) hC (fun _ _ _=>rfl) ⟨rfl,rfl⟩) (xb Se 1)) (by rw [xbH])) (Ua (zB (xi Se 0 (kP M) (by decide) (xa (xb Se 3) xc) ⟨_,rfl,rfl⟩)) (KY (QS (zB (Wj (xb Se 3) (K3 Se 1 2 rfl M.g6))) (by rw [hl,decide_eq_true rfl]))))) rfl rfl
theorem UF:ScB ["self","p"] ["self","p"] ["FIRST"] (defScope Xk):=by walk_at "S"
theorem UV {T:Tx} (M:Mo T):∃C f fd,T.mg "Desk" =some (.ref C)/\Mk T.K C f/\Binds T.K fd ["self","p"] []/\FnOk T.prog T.w T.K T.mg T.base CX0 1 f fd ["self","p"] (spN T C):=by
 obtain ⟨C0,f0,fd0,hC0,hm0,F0⟩:=M.sd
 refine ⟨C0,f0,fd0,hC0,hm0,F0.binds fun _ _ _ _ _ _ us hl=>match us,hl with | [_,_],_=>rfl,xcx F0 UF fun Y S pr=>?_⟩
 have Se:=S.toSe
 exact ky S (M.gz _ hC0) (K4 Se.toSn 0 M.sD)
abbrev Xi:Stmt:=top 152
theorem xaV:ScB ["_law_script","_law_p","_law_desk","_law_spot_here","_law_past","_law_k","_law_word","_law_parts","_law_behind_here","_law_refused","_law_due","_law_top"] ["_law_script"] ["Desk","range","max","_law_row","_law_low","_law_said","_law_cell","min","abs","_law_tried","Shift","_law_lies","len","_law_spot_text","_law_text"] (defScope Xi):=by walk_at "S"
theorem okk_law {T:Tx} (M:Mo T) {f:Addr} {fd:FuncData} (F:Fun T.K "law" "law" Xi f fd):FnOk T.prog T.w T.K T.mg T.base CX0 11 f fd ["_law_script"] (spD T.K Q9):=by
 refine xaz F xaV (by rintro _ _ ⟨_,rfl,_,rfl⟩;rfl) fun Y S Z ds d h=>?_
 have Se:=S.toSe
 obtain ⟨ns,rfl,h63,rfl⟩:=h
 have c0:=QR ns 0
 obtain ⟨p,hp,hpa⟩:=kB (i:=fcell ns 0%4) (by omega) (by omega)
 refine xn S 1 (d:= .int p) (xm (xt (xa xf (xa xf (xa xf (xa xf xc))))) (xG (xi Se 6 (v5 M) (by decide) (xa (xb Se 0) (xa xf xc)) ⟨ns,0,rfl,h63,by decide,by decide,rfl⟩) xf (by decide)) hpa) ?_
 obtain ⟨C,fI,fdI,hC,hMk,hBd,hIn⟩:=UV M
 refine xbZ S 2 0 hMk hIn (by decide) hBd hC (xb Se 1) fun ad l=>?_
 refine xn S 3 (d:=stD (0,0)) (xt (xa xf (xa (xt (xa xf (xa xf xc))) xc))) ?_
 refine jU S 4 (ds:=[]) (kL xc) ?_
 have g0:Gs p (0,0):=⟨by decide,Zz hp Rat.le_refl (yU hp 0) ⟨0,by rw [Int.pow_zero];rfl⟩,by decide+kernel,by decide+kernel⟩
 have ml:(ns.map D.int).length=ns.length:=List.length_map ..
 refine Y2 S (U6 Se 1 (xa xf (xa (Js Se 2 (xa xf (xa (Jr Se 7 (xa (yJ Se 12 (n:=ns.length) (d:= .lst (ns.map D.int)) (xa (xb Se 0) xc) (congrArg some ml) M.g6) (xa xf xc)) M.rS) xc)) M.sE) xc)) (by refine ⟨?_,?_,?_,?_⟩<;>omega) M.m4)
  (fun m c=>∃(B:List (Int×Rat)) (x:Int×Rat) (s5 s6 s7 s8 s9 s10 s11:Slot),c=[.val (.lst (ns.map D.int)),.val (.int p),.dsk ad l C (.int p) (stD x) (B.map stD),.val (stD x),.own (B.map stD),s5,s6,s7,s8,s9,s10,s11]/\(isDsk s5=false/\isDsk s6=false/\isDsk s7=false/\isDsk s8=false/\isDsk s9=false/\isDsk s10=false/\isDsk s11=false)/\I91 p x/\(∀u∈B,I91 p u)/\B.length<=m) ⟨[],(0,0),_,_,_,_,_,_,_,rfl,⟨rfl,rfl,rfl,rfl,rfl,rfl,rfl⟩,I91.zero hp,(fun u hu=>by cases hu),Nat.zero_le _⟩ ?_ ?_
 ·rintro m d _ hd ⟨B,x,s5,s6,s7,s8,s9,s10,s11,rfl,⟨h5,h6,h7,h8,h9,h10,h11⟩,hx,hB,hl⟩
  obtain ⟨hm,rfl⟩:=yR hd
  refine ⟨_,yT S 5,?_⟩
  rw [show (1:Int)+(m:Int)*1=1+(m:Int) by omega]
  have hm60:m<60:=by omega
  have cm:=QR ns (1+(m:Int))
  have hr:=Ko hp (fcell ns (1+(m:Int)))
  refine Vr (xi Se 3 (UT M) (by decide) (xa (xb Se 1) (xa (xi Se 6 (v5 M) (by decide) (xa (xb Se 0) (xa (xb Se 5) xc)) ⟨ns,1+(m:Int),rfl,h63,by omega,by omega,rfl⟩) xc)) ⟨p,_,rfl,hp,cm,rfl⟩) (YV Se.calm (zG (yT S 6) (zG (yT S 7) YU))) ?_
  generalize row91 p (fcell ns (1+(m:Int)))=rw0 at hr ⊢
  refine Vo (fun c'=>∃rw:Rw91,RwI p rw/\((∃u,rw= .go u)∨x.1.natAbs<=280)/\c'=[.val (.lst (ns.map D.int)),.val (.int p),.dsk ad l C (.int p) (stD x) (B.map stD),.val (stD x),.own (B.map stD),.val (.int (1+(m:Int))),.val (.str rw.w),.val (.lst (rw.ps p)),s8,s9,s10,s11]) (X7 (wS Se 8 (xa (xm (d:= .int x.1) (xb Se 3) xf rfl) xc) M.ny) xf) (fun h=>?_) (fun h=>⟨rw0,hr,.inr (by have:=of_decide_eq_false h;omega),rfl⟩) ?_
  ·refine jT S 6 7 (d1:= .str "go") (d2:= .lst [stD (0,0)]) (xa xl (xa (xX (xa (xt (xa xf (xa (xt (xa xf (xa xf xc))) xc))) xc)) xc)) (by rw [Z.sc];decide+kernel) (by rw [Z.sc];decide+kernel) (Y1 Z.sc fun _=>rfl) ?_
   exact xj ⟨.go (0,0),⟨g0,I91.zero hp⟩,.inl ⟨_,rfl⟩,rfl⟩
  rintro _ ⟨rw,hr,hk,rfl⟩
  refine Vr (d:= .tup [.non,.str ""]) (xt (xa vA (xa xl xc))) (YV Se.calm (zG (yT S 8) (zG (yT S 9) YU))) (hw:=Y1 Z.sc fun _=>rfl) ?_
  refine jV (fun c'=>∃(x1:Int×Rat) (B1:List (Int×Rat)) (bh:Option (Int×Rat)) (rf:Str),Due91 p x B (rw.tx p) m (fin91 x1 B1 bh).1 (fin91 x1 B1 bh).2 rf/\B1.length<=m/\c'=[.val (.lst (ns.map D.int)),.val (.int p),.dsk ad l C (.int p) (stD x) (B.map stD),.val (stD x1),.own (B1.map stD),.val (.int (1+(m:Int))),.val (.str rw.w),.val (.lst (rw.ps p)),.val (opD bh),.val (.str rf),s10,s11]) (xz (x:=rw.w) (y:= "undo") (xb Se 6) xl) (fun h=>?_) (fun h=>?_) ?_
  ·have e:=xbW h
   subst e
   clear h hk hr
   rcases XA B with rfl | ⟨B0,y,rfl⟩
   ·refine xo (Vm 4 (ds:=[]) rfl (qr Se (d1:= .lst []) (d2:= .lst []) (xb Se 4) (xX xc))) (fun _=>?_) (fun h=>?_)
    ·exact xn S 9 (d:= .str "nothing") xl (xj (xj ⟨x,[],none,"nothing",Wr hx,Nat.zero_le _,rfl⟩))
    ·exfalso;revert h;decide+kernel
   ·refine xo (Vm 4 (ds:=(B0++ [y]).map stD) rfl (qr Se (d1:= .lst ((B0++ [y]).map stD)) (d2:= .lst []) (xb Se 4) (xX xc) (Y4 _) (by decide+kernel))) (fun h=>by rw [Q0] at h;cases h) (fun _=>?_)
    refine WE S 4 3 (ds:=B0.map stD) (d:=stD y) (by show Slot.own ((B0++ [y]).map stD)=_;rw [List.map_append];rfl) (xj (xj ⟨y,B0,none,"",Wq hp (by omega) hB hl,?_,rfl⟩))
    rw [List.length_append,List.length_singleton] at hl;omega
  ·obtain ⟨bh,rf,hT,hD⟩:=J9 hp (by omega) hx hB hl hr (xbf h) hk
   refine Vr (xi Se 9 (VU M) (by decide) (xa (xb Se 1) (xa (xb Se 6) (xa (xb Se 7) (xa (xb Se 3) xc)))) hT) (YV Se.calm (zG (yT S 8) (zG (yT S 9) YU))) ?_
   exact xj ⟨x,B,bh,rf,hD,hl,rfl⟩
  rintro _ ⟨x1,B1,bh,rf,hD,l1,rfl⟩
  refine Vo (fun c'=>∃(x':Int×Rat) (B':List (Int×Rat)) (s8:Slot),isDsk s8=false/\Due91 p x B (rw.tx p) m x' B' rf/\c'=[.val (.lst (ns.map D.int)),.val (.int p),.dsk ad l C (.int p) (stD x) (B.map stD),.val (stD x'),.own (B'.map stD),.val (.int (1+(m:Int))),.val (.str rw.w),.val (.lst (rw.ps p)),s8,.val (.str rf),s10,s11]) (J4 (d:=opD bh) (xb Se 8)) (fun h=>?_) (fun h=>?_) ?_
  ·cases bh with
   | none=>exact absurd h (by simp [opD,isNon])
   | some u=>
    refine Y3 S 4 (ds:=B1.map stD) (d:=stD x1) rfl (xb Se 3) ?_ (by rw [List.length_map];omega)
    refine xn S 3 (d:=stD u) (xb Se 8) (xj ⟨u,B1++ [x1],.val (stD u),rfl,hD,?_⟩)
    rw [List.map_append]
    rfl
  ·cases bh with
   | none=>exact ⟨x1,B1,.val .non,rfl,hD,rfl⟩
   | some u=>exact absurd h (by simp [opD,isNon])
  clear h8
  rintro _ ⟨x',B',s8,h8,hD,rfl⟩
  have hO:=hD.ix.okd hp
  have hlen:=hD.len
  refine xn S 10 (d:= .tup [.str rf,.non]) (xt (xa (xb Se 9) (xa vA xc))) ?_
  have hTl:=uN (k:=x'.1) (a:=x'.2) (yp hO).1 (yp hO).2
  refine Vo (fun c'=>∃dv:D,zr (.int p) (stD x) (B.map stD) [.str (rw.tx p)] (.ok dv (stD x') (B'.map stD))/\eqD dv dv=true/\SeqAt.shaped (toPy dv)=true/\c'=[.val (.lst (ns.map D.int)),.val (.int p),.dsk ad l C (.int p) (stD x) (B.map stD),.val (stD x'),.own (B'.map stD),.val (.int (1+(m:Int))),.val (.str rw.w),.val (.lst (rw.ps p)),s8,.val (.str rf),.val dv,s11]) (xz (x:=rf) (y:= "") (xb Se 9) xl) (fun h=>?_) (fun h=>?_) ?_
  ·rcases hD.said with ⟨rfl,hS⟩ | ⟨hi,_⟩
   ·exact xn S 10 (d:= .tup [.str "",.str (tx (stx x'.1 x'.2))]) (xt (xa xl (xa (xi Se 13 (v3 M) (by decide) (xa (xb Se 3) xc) ⟨x',rfl,(yp (hO)).1,(yp (hO)).2,rfl⟩) xc))) (xj ⟨_,hS,XN _ _,qu hTl.tx,rfl⟩)
   ·rw [(Zd hi).1] at h;cases h
  ·rcases hD.said with ⟨rfl,_⟩ | ⟨hi,hS⟩
   ·exfalso;revert h;decide+kernel
   ·exact ⟨_,hS,(Zd hi).2.1,(Zd hi).2.2,rfl⟩
  rintro _ ⟨dv,hS,hq,hsh,rfl⟩
  refine Vn (v:=false) (Vk (vh (YZ Se (wb Se 5 2 (qR M) (by decide) rfl (fun j hj=>by rcases j with _ | _ | _ | _ | _ | _ | _ | _ | _ | _ | _ | _ | j<;>first | rfl | exact h5 | exact h6 | exact h7 | exact h8 | exact h9 | exact h10 | exact h11 | exact absurd rfl hj) hC (xa ?TX xc) hS) (xb Se 10) hsh hsh) (by rw [hq];rfl)) (YX (YY (YW (wO Se 11 2 4 (wD M) (by decide) rfl (fun j hj=>by rcases j with _ | _ | _ | _ | _ | _ | _ | _ | _ | _ | _ | _ | j<;>first | rfl | exact h5 | exact h6 | exact h7 | exact h8 | exact h9 | exact h10 | exact h11 | exact absurd rfl hj) hC (d:=stD x') (xb Se 3) (us:=B'.map stD) rfl ⟨x',rfl,rfl,rfl,by rw [List.length_map];omega,rfl⟩))))).pt (fun h=>by cases h) (fun _=>xj (xj ⟨B',x',_,_,_,_,_,_,_,rfl,⟨rfl,rfl,rfl,h8,rfl,rfl,h11⟩,hD.ix,hD.iB,hD.len⟩))
  case TX=>exact (xi Se 14 (Xu M) (by decide) (xa (xb Se 6) (xa (xb Se 7) xc)) (xaJ hp hr))
 rintro _ ⟨B,x,s5,s6,s7,s8,s9,s10,s11,rfl,⟨h5,h6,h7,h8,h9,h10,h11⟩,hx,hB,hl⟩
 rw [ym] at hl
 have hl:B.length<=60:=by omega
 obtain ⟨t0,t1⟩:=jM (fcell ns 1)
 refine xn S 11 (qf (xG (xF (xG (xi Se 6 (v5 M) (by decide) (xa (xb Se 0) (xa xf xc)) ⟨ns,1,rfl,h63,by decide,by decide,rfl⟩) (vz xf xf ⟨by decide,by decide,by decide⟩) (by decide+kernel)) (vz xf xf ⟨by decide,by decide,by decide⟩) (Um _)) (xF xf (vz xf xf ⟨by decide,by decide,by decide⟩) (.of_left (intBits_le_64 (by decide) (by decide)))) (by decide+kernel)) (vz xf xf ⟨by decide,by decide,by decide⟩)) ?_
 generalize fcell ns 1%10^(59:Int).toNat*1442695040888963407^(3:Int).toNat%(2*10^(59:Int).toNat) - 10^(59:Int).toNat=t at t0 t1 ⊢
 obtain ⟨b0,b1,b2⟩:=JJ (fcell ns 2)
 refine xn S 7 (d:= .lst [frD (Rat.divInt t (1+fcell ns 2%10^(18:Int).toNat))]) (xX (xa ?LW xc)) ?_
 case LW=>exact (xi Se 4 (uD M) (by decide) (xa (xb Se 11) (xa (yA xf (xG (xi Se 6 (v5 M) (by decide) (xa (xb Se 0) (xa xf xc)) ⟨ns,2,rfl,h63,by decide,by decide,rfl⟩) (vz xf xf ⟨by decide,by decide,by decide⟩) (by decide+kernel))) xc)) ⟨_,_,rfl,by omega,b2,rfl⟩)
 have L:=KK hp (B:=B) (by omega) hx t0 t1 b0 b1
 generalize Rat.divInt t (1+fcell ns 2%10^(18:Int).toNat)=a at L ⊢
 generalize (x.1,restQ p x.1 (x.2+a))=x' at L
 refine Y3 S 4 (ds:=B.map stD) (d:=stD x) rfl (xb Se 3) ?_ (by rw [List.length_map];omega)
 obtain ⟨CS,fS,fdS,hCS,hMS,hBS,hIS⟩:=qE M
 refine xn S 3 (d:=stD x') (XL Se 10 hMS hIS (by decide) hBS hCS (zl M) (by decide) (by decide) (q:=frD a) (xC (xb Se 7) xf rfl) ⟨a,rfl⟩ (xa (xb Se 1) (xa (xb Se 3) xc)) ⟨_,_,_,.inr (.inl ⟨rfl,a,rfl,rfl⟩),rfl,L.mov⟩) ?_
 have eB:B.map stD++ [stD x]=(B++ [x]).map stD:=by rw [List.map_append];rfl
 rw [eB]
 have hlB:(B++ [x]).length<=61:=by rw [List.length_append,List.length_singleton];omega
 have hTl:=uN (k:=x'.1) (a:=x'.2) (yp L.okd).1 (yp L.okd).2
 refine Vn (v:=false) (Vk (vh (YZ Se (wb Se 5 2 (qR M) (by decide) rfl (fun j hj=>by rcases j with _ | _ | _ | _ | _ | _ | _ | _ | _ | _ | _ | _ | j<;>first | rfl | exact h5 | exact h6 | exact h7 | exact h8 | exact h9 | exact h10 | exact h11 | exact absurd rfl hj) hC (xa ?TY xc) L.said) (xt (xa xl (xa (xi Se 13 (v3 M) (by decide) (xa (xb Se 3) xc) ⟨x',rfl,(yp (L.okd)).1,(yp (L.okd)).2,rfl⟩) xc))) (qu hTl.tx) (qu hTl.tx)) (by rw [XN];rfl)) (YX (YY (YW (wO Se 11 2 4 (wD M) (by decide) rfl (fun j hj=>by rcases j with _ | _ | _ | _ | _ | _ | _ | _ | _ | _ | _ | _ | j<;>first | rfl | exact h5 | exact h6 | exact h7 | exact h8 | exact h9 | exact h10 | exact h11 | exact absurd rfl hj) hC (d:=stD x') (xb Se 3) (us:=(B++ [x]).map stD) rfl ⟨x',rfl,rfl,rfl,by rw [List.length_map];omega,rfl⟩))))).pt (fun h=>by cases h) (fun _=>xj ?_)
 case TY=>exact (xi Se 14 (Xu M) (by decide) (xa xl (xa (xb Se 7) xc)) L.text)
 have hO:Okd (stD x'):=L.okd
 have hOB:∀u∈B++ [x],Okd (stD u):=fun u hu=>by
  rcases List.mem_append.mp hu with h | h
  ·exact (hB u h).okd hp
  ·rw [List.mem_singleton.mp h];exact hx.okd hp
 refine yZ S (fun c=>∃(B:List (Int×Rat)) (x:Int×Rat) (s5 s6 s7 s8 s9 s10 s11:Slot),c=[.val (.lst (ns.map D.int)),.val (.int p),.dsk ad l C (.int p) (stD x) (B.map stD),.val (stD x),.own (B.map stD),s5,s6,s7,s8,s9,s10,s11]/\(isDsk s5=false/\isDsk s6=false/\isDsk s7=false/\isDsk s8=false/\isDsk s9=false/\isDsk s10=false/\isDsk s11=false)/\Okd (stD x)/\(∀u∈B,Okd (stD u))/\B.length<=61) (fun c=>match c with | [_,_,_,_,.own l,_,_,_,_,_,_,_]=>l.length | _=>0) ⟨B++ [x],x',_,_,_,_,_,_,_,rfl,⟨h5,h6,rfl,h8,h9,h10,rfl⟩,hO,hOB,hlB⟩ ?_
 clear L hTl hO hOB hlB eB hx hB hl h5 h6 h7 h8 h9 h10 h11
 rintro _ ⟨B,x,s5,s6,s7,s8,s9,s10,s11,rfl,⟨h5,h6,h7,h8,h9,h10,h11⟩,hx,hB,hl⟩
 refine ⟨_,Vm 4 (ds:=B.map stD) rfl (Vl Se (d1:= .lst (B.map stD)) (d2:= .lst []) (xb Se 4) (xX xc) (Y4 _) (by decide+kernel)),fun h=>?_,fun h=>?_⟩
 ·rcases XA B with rfl | ⟨B0,y,rfl⟩
  ·exfalso;revert h;decide+kernel
  have gy:=hB y (by simp)
  have hl0:B0.length+1<=61:=by simpa using hl
  have hTl:=uN (k:=y.1) (a:=y.2) (yp gy).1 (yp gy).2
  refine WE S 4 3 (ds:=B0.map stD) (d:=stD y) (by show Slot.own ((B0++ [y]).map stD)=_;rw [List.map_append];rfl) ?_
  refine Vn (v:=false) (Vk (vh (YZ Se (wb Se 5 2 (qR M) (by decide) rfl (fun j hj=>by rcases j with _ | _ | _ | _ | _ | _ | _ | _ | _ | _ | _ | _ | j<;>first | rfl | exact h5 | exact h6 | exact h7 | exact h8 | exact h9 | exact h10 | exact h11 | exact absurd rfl hj) hC (xa xl xc) (xaH gy (by omega))) (xt (xa xl (xa (xi Se 13 (v3 M) (by decide) (xa (xb Se 3) xc) ⟨y,rfl,(yp (gy)).1,(yp (gy)).2,rfl⟩) xc))) (qu hTl.tx) (qu hTl.tx)) (by rw [XN];rfl)) (YX (YY (YW (wO Se 11 2 4 (wD M) (by decide) rfl (fun j hj=>by rcases j with _ | _ | _ | _ | _ | _ | _ | _ | _ | _ | _ | _ | j<;>first | rfl | exact h5 | exact h6 | exact h7 | exact h8 | exact h9 | exact h10 | exact h11 | exact absurd rfl hj) hC (d:=stD y) (xb Se 3) (us:=B0.map stD) rfl ⟨y,rfl,rfl,rfl,by rw [List.length_map];omega,rfl⟩))))).pt (fun h=>by cases h) (fun _=>xj (xj ⟨⟨B0,y,_,_,_,_,_,_,_,rfl,⟨h5,h6,h7,h8,h9,h10,h11⟩,gy,fun u hu=>hB u (List.mem_append_left _ hu),by omega⟩,?_⟩))
  show (B0.map stD).length<((B0++ [y]).map stD).length
  simp
 ·rcases XA B with rfl | ⟨B0,y,rfl⟩
  ·refine Kc (W9 Se (wb Se 5 2 (qR M) (by decide) rfl (fun j hj=>by rcases j with _ | _ | _ | _ | _ | _ | _ | _ | _ | _ | _ | _ | j<;>first | rfl | exact h5 | exact h6 | exact h7 | exact h8 | exact h9 | exact h10 | exact h11 | exact absurd rfl hj) hC (xa xl xc) xbg) (xt (xa xl (xa vA xc))) (by decide+kernel) (by decide+kernel)) ?_
   show D.bl _=D.bl true
   rw [show eqD (.tup [.str "nothing",.non]) (.tup [.str "nothing",.non])=true by decide+kernel]
  ·rw [Q0] at h;cases h
theorem all_mk {l:PySem.W.OpenLaw} {w:World} {K:PySem.W.Frag} {h:Heap} {mg:Str->Option Value} {fa f6 c_TreeError c_NoPrime gg gn gq gk c_TooMany c_NoLine gw gc c_TooFar c_NOUGHT c_ONE:Addr} (X:K.In h) (G:h.Ns mainGlobals mg) (hfa:mg "law" =some (.ref fa))
  {od6 an6:Option Addr} {sl6:Array (Option Value)} {oc6 toc6 kV6 dc6 pm6 cd6 ct6:Value} {Td6:Addr} {ttk6:Tok} {tn6:Nat} {tod6:Option Addr} {tsl6:Array (Option Value)}
  (a0:AtK K "is_whole" Xj)
  (a1:AtK K "shared" Qm)
  (a2:AtK K "power_of" Xd)
  (a3:AtK K "raised" Yk)
  (a4:AtK K "over_by" Xf)
  (a5:AtK K "over_by_prime" xaq)
  (a6:PySem.W.nsIn K mainGlobals "fraction" =some (some (.ref f6))) (l6:K.lookup f6=some ⟨oc6,od6,.func (PySem.W.fnOf "fraction" "fraction" (defArgs z4) (defBody z4) (defScope z4) (.ref Td6) kV6 dc6 pm6 an6 cd6 ct6),sl6⟩) (c6:PySem.W.codeIn K cd6 "fraction" =true) (k6:PySem.W.keepIn K (.ref f6)=true)
  (a7:AtK K "is_fraction" q8)
  (a8:AtK K "plus" kf)
  (a9:AtK K "minus" WH)
  (a10:AtK K "times" WG)
  (a11:AtK K "over" kg)
  (a12:AtK K "power_in" Xe)
  (a13:AtK K "prime_power" qx)
  (a14:AtK K "rest_by" w8)
  (a15:AtK K "table_of" u7)
  (a16:AtK K "measure" Yp)
  (a17:AtK K "product" Yl)
  (a18:AtK K "row_by_column" qk)
  (a19:AtK K "is_spot" Yr)
  (a20:AtK K "spot_of" Yi)
  (a21:AtK K "table_at" u9)
  (a22:AtK K "least_power" qZ)
  (a23:AtK K "fraction_text" zJ)
  (a24:AtK K "whole_text" qX)
  (a25:AtK K "spot_text" w5)
  (a26:AtK K "is_figures" vO)
  (a27:AtK K "read_figures" qw)
  (a28:AtK K "read_whole" vN)
  (a29:AtK K "read_fraction" ql)
  (a30:AtK K "read_spot" qY)
  (a31:AtK K "read_end" Xb)
  (a32:AtK K "moved" Yn)
  (a33:AtK K "form_of" Qs)
  (a34:AtK K "is_number_to" Ym)
  (a35:AtK K "read_word" Yj)
  (a36:AtK K "table_from" Yg)
  (a37:AtK K "gone" Qr)
  (a38:AtK K "moved_by" Yo)
  (a39:AtK K "scaled" Xa)
  (a40:AtK K "shifted" w6)
  (a41:AtK K "flipped" ua)
  (a42:AtK K "_law_cell" Zc)
  (a43:AtK K "_law_more" Qo)
  (a44:AtK K "_law_whole" WF)
  (a45:AtK K "_law_low" kh)
  (a46:AtK K "_law_power" xar)
  (a47:AtK K "_law_spot" Ql)
  (a48:AtK K "_law_fraction_text" Xh)
  (a49:AtK K "_law_spot_text" WI)
  (a50:AtK K "_law_fraction" WJ)
  (a51:AtK K "_law_refusal" w9)
  (a52:AtK K "_law_said" Qn)
  (a53:AtK K "_law_row" Qp)
  (a54:AtK K "_law_text" Yq)
  (a55:AtK K "_law_behind" WK)
  (a56:AtK K "_law_tried" Yf)
  (a57:AtK K "_law_lies" Qq)
  (a58:AtK K "law" Xi)
  (d6:K.lookup Td6=some ⟨toc6,tod6,.seq #[.int 1 ttk6] tn6,tsl6⟩)
  (z_isinstance:PySem.W.nsIn K mainGlobals "isinstance" =some none)
  (z_int:PySem.W.nsIn K mainGlobals "int" =some none)
  (z_bool:PySem.W.nsIn K mainGlobals "bool" =some none)
  (z_abs:PySem.W.nsIn K mainGlobals "abs" =some none)
  (z_tuple:PySem.W.nsIn K mainGlobals "tuple" =some none)
  (z_len:PySem.W.nsIn K mainGlobals "len" =some none)
  (z_min:PySem.W.nsIn K mainGlobals "min" =some none)
  (z_str:PySem.W.nsIn K mainGlobals "str" =some none)
  (z_reversed:PySem.W.nsIn K mainGlobals "reversed" =some none)
  (z_all:PySem.W.nsIn K mainGlobals "all" =some none)
  (z_range:PySem.W.nsIn K mainGlobals "range" =some none)
  (z_max:PySem.W.nsIn K mainGlobals "max" =some none)
  (z_ValueError:PySem.W.nsIn K mainGlobals "ValueError" =some none)
  {c_Desk:Addr}
  {c_Scale:Addr}
  {c_Shift:Addr}
  {c_Flip:Addr}
  {c_FORMS:Addr} {kn_FORMS:Nat} {ta_FORMS_0 tb_FORMS_0 ta_FORMS_1 tb_FORMS_1 ta_FORMS_2 tb_FORMS_2 ta_FORMS_3 tb_FORMS_3 ta_FORMS_4 tb_FORMS_4 ta_FORMS_5 tb_FORMS_5 ta_FORMS_6 tb_FORMS_6 ta_FORMS_7 tb_FORMS_7 ta_FORMS_8 tb_FORMS_8 ta_FORMS_9 tb_FORMS_9 ta_FORMS_10 tb_FORMS_10 ta_FORMS_11 tb_FORMS_11 ta_FORMS_12 tb_FORMS_12 ta_FORMS_13 tb_FORMS_13 ta_FORMS_14 tb_FORMS_14 ta_FORMS_15 tb_FORMS_15:Tok}
  {c_MOST:Addr} {kn_MOST:Nat} {ta_MOST_0 tb_MOST_0 ta_MOST_1 tb_MOST_1:Tok}
  {c_CHANGES:Addr} {kn_CHANGES:Nat} {ta_CHANGES_0 ta_CHANGES_1 ta_CHANGES_2 ta_CHANGES_3 ta_CHANGES_4:Tok}
  {cf_CHANGES_0 cf_CHANGES_1 cf_CHANGES_2 cf_CHANGES_3 cf_CHANGES_4:Addr}
  {c_QUESTIONS:Addr} {kn_QUESTIONS:Nat} {ta_QUESTIONS_0 ta_QUESTIONS_1 ta_QUESTIONS_2 ta_QUESTIONS_3 ta_QUESTIONS_4 ta_QUESTIONS_5 ta_QUESTIONS_6 ta_QUESTIONS_7 ta_QUESTIONS_8 ta_QUESTIONS_9:Tok}
  {cf_QUESTIONS_0 cf_QUESTIONS_1 cf_QUESTIONS_2 cf_QUESTIONS_3 cf_QUESTIONS_4 cf_QUESTIONS_5 cf_QUESTIONS_6 cf_QUESTIONS_7 cf_QUESTIONS_8 cf_QUESTIONS_9:Addr}
  {ko_NOUGHT:Option Addr} {kn_NOUGHT:Nat} {ks_NOUGHT:Array (Option Value)} {kt_NOUGHT_0 kt_NOUGHT_1:Tok}
  {ko_ONE:Option Addr} {kn_ONE:Nat} {ks_ONE:Array (Option Value)} {kt_ONE_0 kt_ONE_1:Tok}
  {c_FIRST c2_FIRST:Addr} {ko_FIRST kp_FIRST:Option Addr} {kn_FIRST kq_FIRST:Nat} {ks_FIRST kr_FIRST:Array (Option Value)} {kt_FIRST_0 kt_FIRST_1 kt_FIRST_2:Tok}
  {kt_FAR:Tok}
  {kt_FIGURES:Tok}
  {kt_MOST_FIGURES:Tok}
  {kt_MOST_FIRST_FIGURES:Tok}
  {kt_FURTHEST_FIRST:Tok}
  {kt_PIECE_FIGURES:Tok}
  {kt_MOST_BOTTOM:Tok}
  {kt_FURTHEST_WAY:Tok}
  {kt_MOST_SPOTS:Tok}
  {kt_KEEPS:Tok}
  {kt_TURNS:Tok}
  {kt_SLIDES:Tok}
  {kt_MOST_NUMBER_FIGURES:Tok}
  (nd:ndK K=true)
  (mF:PySem.W.nsIn K mainGlobals "Desk" =some (some (.ref c_Desk)))
  (dk_Desk:dskKb K c_Desk=true)
  (dm_Desk:PySem.W.makesIn K c_Desk=true)
  (dp_Desk:PySem.W.keepIn K (.ref c_Desk)=true)
  (mt_init93:MtK K c_Desk "__init__" "Desk.__init__" Xk)
  (mt_say91:MtK K c_Desk "say" "Desk.say" Za)
  (mt_lies93:MtK K c_Desk "lies" "Desk.lies" Xg)
  (mt_steps93:MtK K c_Desk "steps" "Desk.steps" wx)
  (mt_lay93:MtK K c_Desk "lay" "Desk.lay" Zb)
  (mt_undo93:MtK K c_Desk "undo" "Desk.undo" u4)
  (g_Scale:PySem.W.nsIn K mainGlobals "Scale" =some (some (.ref c_Scale)))
  (dk_Scale:deKb K c_Scale=true)
  (dm_Scale:PySem.W.makesIn K c_Scale=true)
  (dp_Scale:PySem.W.keepIn K (.ref c_Scale)=true)
  (g_Shift:PySem.W.nsIn K mainGlobals "Shift" =some (some (.ref c_Shift)))
  (dk_Shift:deKb K c_Shift=true)
  (dm_Shift:PySem.W.makesIn K c_Shift=true)
  (dp_Shift:PySem.W.keepIn K (.ref c_Shift)=true)
  (g_Flip:PySem.W.nsIn K mainGlobals "Flip" =some (some (.ref c_Flip)))
  (dk_Flip:deKb K c_Flip=true)
  (dm_Flip:PySem.W.makesIn K c_Flip=true)
  (dp_Flip:PySem.W.keepIn K (.ref c_Flip)=true)
  (di_Flip:PySem.W.findIn K (.ref c_Flip) "__init__" =some (some (.builtin "object.__init__")))
  (mt_doneE_Scale:MtK K c_Scale "done" "Deed.done" z5)
  (mt_doneE_Shift:MtK K c_Shift "done" "Deed.done" z5)
  (mt_doneE_Flip:MtK K c_Flip "done" "Deed.done" z5)
  (mt_iniScale91:MtK K c_Scale "__init__" "Scale.__init__" z3)
  (mt_tabScale:MtK K c_Scale "table" "Scale.table" vm)
  (mt_iniShift:MtK K c_Shift "__init__" "Shift.__init__" vo)
  (mt_tabShift:MtK K c_Shift "table" "Shift.table" vk)
  (mt_tabFlip:MtK K c_Flip "table" "Flip.table" ww)
  (ka_FORMS:PySem.W.nsIn K mainGlobals "FORMS" =some (some (.ref c_FORMS)))
  (kl_FORMS:K.lookup c_FORMS=some ⟨.type "dict",none,.dict #[⟨PyData.keyHash w.params "go",.str "go" ta_FORMS_0,.str "SPOT" tb_FORMS_0⟩,⟨PyData.keyHash w.params "move",.str "move" ta_FORMS_1,.str "A B C D" tb_FORMS_1⟩,⟨PyData.keyHash w.params "scale",.str "scale" ta_FORMS_2,.str "F" tb_FORMS_2⟩,⟨PyData.keyHash w.params "shift",.str "shift" ta_FORMS_3,.str "F" tb_FORMS_3⟩,⟨PyData.keyHash w.params "flip",.str "flip" ta_FORMS_4,.str "" tb_FORMS_4⟩,⟨PyData.keyHash w.params "undo",.str "undo" ta_FORMS_5,.str "" tb_FORMS_5⟩,⟨PyData.keyHash w.params "ties",.str "ties" ta_FORMS_6,.str "" tb_FORMS_6⟩,⟨PyData.keyHash w.params "road",.str "road" ta_FORMS_7,.str "SPOT" tb_FORMS_7⟩,⟨PyData.keyHash w.params "towards",.str "towards" ta_FORMS_8,.str "END STEPS" tb_FORMS_8⟩,⟨PyData.keyHash w.params "way",.str "way" ta_FORMS_9,.str "SPOT" tb_FORMS_9⟩,⟨PyData.keyHash w.params "meet",.str "meet" ta_FORMS_10,.str "SPOT SPOT" tb_FORMS_10⟩,⟨PyData.keyHash w.params "near",.str "near" ta_FORMS_11,.str "END END" tb_FORMS_11⟩,⟨PyData.keyHash w.params "within",.str "within" ta_FORMS_12,.str "REACH" tb_FORMS_12⟩,⟨PyData.keyHash w.params "kind",.str "kind" ta_FORMS_13,.str "A B C D" tb_FORMS_13⟩,⟨PyData.keyHash w.params "numbers",.str "numbers" ta_FORMS_14,.str "A B C D" tb_FORMS_14⟩,⟨PyData.keyHash w.params "figures",.str "figures" ta_FORMS_15,.str "F" tb_FORMS_15⟩] kn_FORMS,#[]⟩)
  (ks_FORMS:(c_FORMS==sysModules)=false)
  (ka_MOST:PySem.W.nsIn K mainGlobals "MOST" =some (some (.ref c_MOST)))
  (kl_MOST:K.lookup c_MOST=some ⟨.type "dict",none,.dict #[⟨PyData.keyHash w.params "STEPS",.str "STEPS" ta_MOST_0,.int 300 tb_MOST_0⟩,⟨PyData.keyHash w.params "REACH",.str "REACH" ta_MOST_1,.int 7 tb_MOST_1⟩] kn_MOST,#[]⟩)
  (ks_MOST:(c_MOST==sysModules)=false)
  (ka_CHANGES:PySem.W.nsIn K mainGlobals "CHANGES" =some (some (.ref c_CHANGES)))
  (tg_CHANGES_0:PySem.W.nsIn K mainGlobals "gone" =some (some (.ref cf_CHANGES_0)))
  (tg_CHANGES_1:PySem.W.nsIn K mainGlobals "moved_by" =some (some (.ref cf_CHANGES_1)))
  (tg_CHANGES_2:PySem.W.nsIn K mainGlobals "scaled" =some (some (.ref cf_CHANGES_2)))
  (tg_CHANGES_3:PySem.W.nsIn K mainGlobals "shifted" =some (some (.ref cf_CHANGES_3)))
  (tg_CHANGES_4:PySem.W.nsIn K mainGlobals "flipped" =some (some (.ref cf_CHANGES_4)))
  (kl_CHANGES:K.lookup c_CHANGES=some ⟨.type "dict",none,.dict #[⟨PyData.keyHash w.params "go",.str "go" ta_CHANGES_0,.ref cf_CHANGES_0⟩,⟨PyData.keyHash w.params "move",.str "move" ta_CHANGES_1,.ref cf_CHANGES_1⟩,⟨PyData.keyHash w.params "scale",.str "scale" ta_CHANGES_2,.ref cf_CHANGES_2⟩,⟨PyData.keyHash w.params "shift",.str "shift" ta_CHANGES_3,.ref cf_CHANGES_3⟩,⟨PyData.keyHash w.params "flip",.str "flip" ta_CHANGES_4,.ref cf_CHANGES_4⟩] kn_CHANGES,#[]⟩)
  (ks_CHANGES:(c_CHANGES==sysModules)=false)
  (ka_QUESTIONS:PySem.W.nsIn K mainGlobals "QUESTIONS" =some (some (.ref c_QUESTIONS)))
  (tg_QUESTIONS_0:PySem.W.nsIn K mainGlobals "ties_text" =some (some (.ref cf_QUESTIONS_0)))
  (tg_QUESTIONS_1:PySem.W.nsIn K mainGlobals "road_text" =some (some (.ref cf_QUESTIONS_1)))
  (tg_QUESTIONS_2:PySem.W.nsIn K mainGlobals "towards_text" =some (some (.ref cf_QUESTIONS_2)))
  (tg_QUESTIONS_3:PySem.W.nsIn K mainGlobals "way_text" =some (some (.ref cf_QUESTIONS_3)))
  (tg_QUESTIONS_4:PySem.W.nsIn K mainGlobals "meet_text" =some (some (.ref cf_QUESTIONS_4)))
  (tg_QUESTIONS_5:PySem.W.nsIn K mainGlobals "near_text" =some (some (.ref cf_QUESTIONS_5)))
  (tg_QUESTIONS_6:PySem.W.nsIn K mainGlobals "within_text" =some (some (.ref cf_QUESTIONS_6)))
  (tg_QUESTIONS_7:PySem.W.nsIn K mainGlobals "kind_text" =some (some (.ref cf_QUESTIONS_7)))
  (tg_QUESTIONS_8:PySem.W.nsIn K mainGlobals "numbers_text" =some (some (.ref cf_QUESTIONS_8)))
  (tg_QUESTIONS_9:PySem.W.nsIn K mainGlobals "figures_text" =some (some (.ref cf_QUESTIONS_9)))
  (kl_QUESTIONS:K.lookup c_QUESTIONS=some ⟨.type "dict",none,.dict #[⟨PyData.keyHash w.params "ties",.str "ties" ta_QUESTIONS_0,.ref cf_QUESTIONS_0⟩,⟨PyData.keyHash w.params "road",.str "road" ta_QUESTIONS_1,.ref cf_QUESTIONS_1⟩,⟨PyData.keyHash w.params "towards",.str "towards" ta_QUESTIONS_2,.ref cf_QUESTIONS_2⟩,⟨PyData.keyHash w.params "way",.str "way" ta_QUESTIONS_3,.ref cf_QUESTIONS_3⟩,⟨PyData.keyHash w.params "meet",.str "meet" ta_QUESTIONS_4,.ref cf_QUESTIONS_4⟩,⟨PyData.keyHash w.params "near",.str "near" ta_QUESTIONS_5,.ref cf_QUESTIONS_5⟩,⟨PyData.keyHash w.params "within",.str "within" ta_QUESTIONS_6,.ref cf_QUESTIONS_6⟩,⟨PyData.keyHash w.params "kind",.str "kind" ta_QUESTIONS_7,.ref cf_QUESTIONS_7⟩,⟨PyData.keyHash w.params "numbers",.str "numbers" ta_QUESTIONS_8,.ref cf_QUESTIONS_8⟩,⟨PyData.keyHash w.params "figures",.str "figures" ta_QUESTIONS_9,.ref cf_QUESTIONS_9⟩] kn_QUESTIONS,#[]⟩)
  (ks_QUESTIONS:(c_QUESTIONS==sysModules)=false)
  (gF:PySem.W.nsIn K mainGlobals "TreeError" =some (some (.ref c_TreeError)))
  (g4:PySem.W.nsIn K mainGlobals "NoPrime" =some (some (.ref c_NoPrime)))
  (gh:PySem.W.nsIn K mainGlobals "NoFraction" =some (some (.ref gg)))
  (gr:PySem.W.nsIn K mainGlobals "NoText" =some (some (.ref gn)))
  (gu:PySem.W.nsIn K mainGlobals "NoSpot" =some (some (.ref gq)))
  (gm:PySem.W.nsIn K mainGlobals "NoTable" =some (some (.ref gk)))
  (g5:PySem.W.nsIn K mainGlobals "TooMany" =some (some (.ref c_TooMany)))
  (hV:PySem.W.nsIn K mainGlobals "NoLine" =some (some (.ref c_NoLine)))
  (gB:PySem.W.nsIn K mainGlobals "NoRow" =some (some (.ref gw)))
  (gd:PySem.W.nsIn K mainGlobals "NothingDone" =some (some (.ref gc)))
  (hW:PySem.W.nsIn K mainGlobals "TooFar" =some (some (.ref c_TooFar)))
  (x_NoFraction:PySem.W.excIn K gg [.type "ValueError",.type "Exception",.type "BaseException",.type "object"] "ValueError.__new__" =true)
  (gA:excKb K gg=true)
  (mP:PySem.W.kitOne K (.ref gg) (.type "ValueError")=some true)
  (gR:PySem.W.kitOne K (.ref gg) (.ref c_NoPrime)=some false)
  (gL:PySem.W.kitOne K (.ref gg) (.ref gg)=some true)
  (g7:PySem.W.kitOne K (.ref gg) (.ref gn)=some false)
  (g8:PySem.W.kitOne K (.ref gg) (.ref gq)=some false)
  (gS:PySem.W.kitOne K (.ref gg) (.ref gk)=some false)
  (gT:PySem.W.kitOne K (.ref gg) (.ref c_TooMany)=some false)
  (g9:PySem.W.kitOne K (.ref gg) (.ref c_NoLine)=some false)
  (hJ:PySem.W.kitOne K (.ref gg) (.ref gw)=some false)
  (gI:PySem.W.kitOne K (.ref gg) (.ref gc)=some false)
  (hE:PySem.W.kitOne K (.ref gg) (.ref c_TooFar)=some false)
  (gG:PySem.W.exmOne K (.ref gg) (.ref c_TreeError)=some true)
  (x_NoTable:PySem.W.excIn K gk [.type "ValueError",.type "Exception",.type "BaseException",.type "object"] "ValueError.__new__" =true)
  (gE:excKb K gk=true)
  (nt:PySem.W.kitOne K (.ref gk) (.type "ValueError")=some true)
  (hX:PySem.W.kitOne K (.ref gk) (.ref c_NoPrime)=some false)
  (gU:PySem.W.kitOne K (.ref gk) (.ref gg)=some false)
  (mh:PySem.W.kitOne K (.ref gk) (.ref gn)=some false)
  (mi:PySem.W.kitOne K (.ref gk) (.ref gq)=some false)
  (ma:PySem.W.kitOne K (.ref gk) (.ref gk)=some true)
  (md:PySem.W.kitOne K (.ref gk) (.ref c_TooMany)=some false)
  (mj:PySem.W.kitOne K (.ref gk) (.ref c_NoLine)=some false)
  (my:PySem.W.kitOne K (.ref gk) (.ref gw)=some false)
  (gN:PySem.W.kitOne K (.ref gk) (.ref gc)=some false)
  (mn:PySem.W.kitOne K (.ref gk) (.ref c_TooFar)=some false)
  (gM:PySem.W.exmOne K (.ref gk) (.ref c_TreeError)=some true)
  (x_NoText:PySem.W.excIn K gn [.type "ValueError",.type "Exception",.type "BaseException",.type "object"] "ValueError.__new__" =true)
  (nU:excKb K gn=true)
  (nV:PySem.W.kitOne K (.ref gn) (.type "ValueError")=some true)
  (mH:PySem.W.kitOne K (.ref gn) (.ref c_NoPrime)=some false)
  (mt:PySem.W.kitOne K (.ref gn) (.ref gg)=some false)
  (mQ:PySem.W.kitOne K (.ref gn) (.ref gn)=some true)
  (mR:PySem.W.kitOne K (.ref gn) (.ref gq)=some false)
  (mI:PySem.W.kitOne K (.ref gn) (.ref gk)=some false)
  (mJ:PySem.W.kitOne K (.ref gn) (.ref c_TooMany)=some false)
  (mS:PySem.W.kitOne K (.ref gn) (.ref c_NoLine)=some false)
  (m7:PySem.W.kitOne K (.ref gn) (.ref gw)=some false)
  (mq:PySem.W.kitOne K (.ref gn) (.ref gc)=some false)
  (mT:PySem.W.kitOne K (.ref gn) (.ref c_TooFar)=some false)
  (mz:PySem.W.exmOne K (.ref gn) (.ref c_TreeError)=some true)
  (x_NoSpot:PySem.W.excIn K gq [.type "ValueError",.type "Exception",.type "BaseException",.type "object"] "ValueError.__new__" =true)
  (nW:excKb K gq=true)
  (nX:PySem.W.kitOne K (.ref gq) (.type "ValueError")=some true)
  (mK:PySem.W.kitOne K (.ref gq) (.ref c_NoPrime)=some false)
  (mw:PySem.W.kitOne K (.ref gq) (.ref gg)=some false)
  (mU:PySem.W.kitOne K (.ref gq) (.ref gn)=some false)
  (mV:PySem.W.kitOne K (.ref gq) (.ref gq)=some true)
  (mL:PySem.W.kitOne K (.ref gq) (.ref gk)=some false)
  (mM:PySem.W.kitOne K (.ref gq) (.ref c_TooMany)=some false)
  (mW:PySem.W.kitOne K (.ref gq) (.ref c_NoLine)=some false)
  (m8:PySem.W.kitOne K (.ref gq) (.ref gw)=some false)
  (mr:PySem.W.kitOne K (.ref gq) (.ref gc)=some false)
  (mX:PySem.W.kitOne K (.ref gq) (.ref c_TooFar)=some false)
  (mB:PySem.W.exmOne K (.ref gq) (.ref c_TreeError)=some true)
  (x_NoRow:PySem.W.excIn K gw [.type "ValueError",.type "Exception",.type "BaseException",.type "object"] "ValueError.__new__" =true)
  (rn:excKb K gw=true)
  (rq:PySem.W.kitOne K (.ref gw) (.type "ValueError")=some true)
  (mY:PySem.W.kitOne K (.ref gw) (.ref c_NoPrime)=some false)
  (mC:PySem.W.kitOne K (.ref gw) (.ref gg)=some false)
  (m9:PySem.W.kitOne K (.ref gw) (.ref gn)=some false)
  (nb:PySem.W.kitOne K (.ref gw) (.ref gq)=some false)
  (mZ:PySem.W.kitOne K (.ref gw) (.ref gk)=some false)
  (m3:PySem.W.kitOne K (.ref gw) (.ref c_TooMany)=some false)
  (nc:PySem.W.kitOne K (.ref gw) (.ref c_NoLine)=some false)
  (ni:PySem.W.kitOne K (.ref gw) (.ref gw)=some true)
  (mx:PySem.W.kitOne K (.ref gw) (.ref gc)=some false)
  (ng:PySem.W.kitOne K (.ref gw) (.ref c_TooFar)=some false)
  (mE:PySem.W.exmOne K (.ref gw) (.ref c_TreeError)=some true)
  (x_NothingDone:PySem.W.excIn K gc [.type "ValueError",.type "Exception",.type "BaseException",.type "object"] "ValueError.__new__" =true)
  (gv:excKb K gc=true)
  (mG:PySem.W.kitOne K (.ref gc) (.type "ValueError")=some true)
  (gO:PySem.W.kitOne K (.ref gc) (.ref c_NoPrime)=some false)
  (gJ:PySem.W.kitOne K (.ref gc) (.ref gg)=some false)
  (gW:PySem.W.kitOne K (.ref gc) (.ref gn)=some false)
  (gX:PySem.W.kitOne K (.ref gc) (.ref gq)=some false)
  (gP:PySem.W.kitOne K (.ref gc) (.ref gk)=some false)
  (gQ:PySem.W.kitOne K (.ref gc) (.ref c_TooMany)=some false)
  (gY:PySem.W.kitOne K (.ref gc) (.ref c_NoLine)=some false)
  (hG:PySem.W.kitOne K (.ref gc) (.ref gw)=some false)
  (gH:PySem.W.kitOne K (.ref gc) (.ref gc)=some true)
  (gZ:PySem.W.kitOne K (.ref gc) (.ref c_TooFar)=some false)
  (gD:PySem.W.exmOne K (.ref gc) (.ref c_TreeError)=some true)
  (ka_NOUGHT:PySem.W.nsIn K mainGlobals "NOUGHT" =some (some (.ref c_NOUGHT)))
  (kl_NOUGHT:K.lookup c_NOUGHT=some ⟨.type "tuple",ko_NOUGHT,.seq #[.int 0 kt_NOUGHT_0,.int 1 kt_NOUGHT_1] kn_NOUGHT,ks_NOUGHT⟩)
  (ka_ONE:PySem.W.nsIn K mainGlobals "ONE" =some (some (.ref c_ONE)))
  (kl_ONE:K.lookup c_ONE=some ⟨.type "tuple",ko_ONE,.seq #[.int 1 kt_ONE_0,.int 1 kt_ONE_1] kn_ONE,ks_ONE⟩)
  (ka_FIRST:PySem.W.nsIn K mainGlobals "FIRST" =some (some (.ref c_FIRST)))
  (kl_FIRST:K.lookup c_FIRST=some ⟨.type "tuple",ko_FIRST,.seq #[.int 0 kt_FIRST_0,.ref c2_FIRST] kn_FIRST,ks_FIRST⟩)
  (km_FIRST:K.lookup c2_FIRST=some ⟨.type "tuple",kp_FIRST,.seq #[.int 0 kt_FIRST_1,.int 1 kt_FIRST_2] kq_FIRST,kr_FIRST⟩)
  (ka_FAR:PySem.W.nsIn K mainGlobals "FAR" =some (some (.str "far" kt_FAR)))
  (ka_FIGURES:PySem.W.nsIn K mainGlobals "FIGURES" =some (some (.str "0123456789" kt_FIGURES)))
  (ka_MOST_FIGURES:PySem.W.nsIn K mainGlobals "MOST_FIGURES" =some (some (.int 60 kt_MOST_FIGURES)))
  (ka_MOST_FIRST_FIGURES:PySem.W.nsIn K mainGlobals "MOST_FIRST_FIGURES" =some (some (.int 3 kt_MOST_FIRST_FIGURES)))
  (ka_FURTHEST_FIRST:PySem.W.nsIn K mainGlobals "FURTHEST_FIRST" =some (some (.int 300 kt_FURTHEST_FIRST)))
  (ka_PIECE_FIGURES:PySem.W.nsIn K mainGlobals "PIECE_FIGURES" =some (some (.int 1000 kt_PIECE_FIGURES)))
  (ka_MOST_BOTTOM:PySem.W.nsIn K mainGlobals "MOST_BOTTOM" =some (some (.int 300 kt_MOST_BOTTOM)))
  (ka_FURTHEST_WAY:PySem.W.nsIn K mainGlobals "FURTHEST_WAY" =some (some (.int 500 kt_FURTHEST_WAY)))
  (ka_MOST_SPOTS:PySem.W.nsIn K mainGlobals "MOST_SPOTS" =some (some (.int 400 kt_MOST_SPOTS)))
  (ka_KEEPS:PySem.W.nsIn K mainGlobals "KEEPS" =some (some (.str "keeps" kt_KEEPS)))
  (ka_TURNS:PySem.W.nsIn K mainGlobals "TURNS" =some (some (.str "turns" kt_TURNS)))
  (ka_SLIDES:PySem.W.nsIn K mainGlobals "SLIDES" =some (some (.str "slides" kt_SLIDES)))
  (ka_MOST_NUMBER_FIGURES:PySem.W.nsIn K mainGlobals "MOST_NUMBER_FIGURES" =some (some (.int 3 kt_MOST_NUMBER_FIGURES)))
  :∃fd:FuncData,(∀(s:Shared) (v:Value),BindsTo s fd ⟨[v],[]⟩ [("_law_script",v)])/\∀base:Heap,K.In base->base.Ns mainGlobals mg->FnOk l.prog w K mg base CX0 11 fa fd ["_law_script"] (spD K Q9):=by
 obtain ⟨f,oc,kV,dc,pm,cd,ct,od,an,sl,h1,h2,h3,h4⟩:=a58
 have e:=hfa.symm.trans (PySem.W.mg_of X G h1)
 cases e
 have FL:=ZB (st:=Xi) h2 h3 h4
 refine ⟨PySem.W.fnOf "law" "law" (defArgs Xi) (defBody Xi) (defScope Xi) .none kV dc pm an cd ct,fun s v=> .of_eq rfl,fun base _ _=>?_⟩
 have M:Mo ⟨l.prog,w,K,mg,base⟩:={
  nd:=nd
  gb:=PySem.W.mg_none_of X G z_isinstance
  mD:=PySem.W.mg_none_of X G z_int
  nY:=PySem.W.mg_none_of X G z_bool
  ny:=PySem.W.mg_none_of X G z_abs
  gC:=PySem.W.mg_none_of X G z_tuple
  g6:=PySem.W.mg_none_of X G z_len
  rS:=PySem.W.mg_none_of X G z_min
  nz:=PySem.W.mg_none_of X G z_str
  nA:=PySem.W.mg_none_of X G z_reversed
  sK:=PySem.W.mg_none_of X G z_all
  m4:=PySem.W.mg_none_of X G z_range
  sE:=PySem.W.mg_none_of X G z_max
  mO:=PySem.W.mg_none_of X G z_ValueError
  nZ:=xB X G a0
  rT:=xB X G a1
  n4:=xB X G a2
  rB:=xB X G a3
  n5:=xB X G a4
  sL:=xB X G a5
  n6:=⟨_,_,_,_,_,_,_,_,_,_,_,_,_,_,l6,d6,rfl,c6,k6,PySem.W.mg_of X G a6⟩
  nD:=xB X G a7
  sG:=xB X G a8
  sr:=xB X G a9
  ss:=xB X G a10
  sH:=xB X G a11
  n9:=xB X G a12
  nv:=xB X G a13
  nO:=xB X G a14
  rc:=xB X G a15
  rC:=xB X G a16
  rD:=xB X G a17
  nq:=xB X G a18
  rE:=xB X G a19
  rF:=xB X G a20
  re:=xB X G a21
  nE:=xB X G a22
  nj:=xB X G a23
  nF:=xB X G a24
  nP:=xB X G a25
  nJ:=xB X G a26
  nw:=xB X G a27
  nK:=xB X G a28
  nr:=xB X G a29
  nG:=xB X G a30
  rg:=xB X G a31
  rG:=xB X G a32
  rV:=xB X G a33
  rH:=xB X G a34
  rJ:=xB X G a35
  rK:=xB X G a36
  rW:=xB X G a37
  rL:=xB X G a38
  rh:=xB X G a39
  nQ:=xB X G a40
  nR:=xB X G a41
  su:=xB X G a42
  rX:=xB X G a43
  sv:=xB X G a44
  sI:=xB X G a45
  sM:=xB X G a46
  rY:=xB X G a47
  ri:=xB X G a48
  sw:=xB X G a49
  sy:=xB X G a50
  nT:=xB X G a51
  rZ:=xB X G a52
  r6:=xB X G a53
  rM:=xB X G a54
  sA:=xB X G a55
  rN:=xB X G a56
  r9:=xB X G a57
  gF:=⟨_,PySem.W.mg_of X G gF⟩
  g4:=⟨_,PySem.W.mg_of X G g4⟩
  gh:=⟨_,PySem.W.mg_of X G gh⟩
  gr:=⟨_,PySem.W.mg_of X G gr⟩
  gu:=⟨_,PySem.W.mg_of X G gu⟩
  gm:=⟨_,PySem.W.mg_of X G gm⟩
  g5:=⟨_,PySem.W.mg_of X G g5⟩
  hV:=⟨_,PySem.W.mg_of X G hV⟩
  gB:=⟨_,PySem.W.mg_of X G gB⟩
  gd:=⟨_,PySem.W.mg_of X G gd⟩
  hW:=⟨_,PySem.W.mg_of X G hW⟩
  gg:=⟨_,PySem.W.mg_of X G gh,x_NoFraction⟩
  gA:=fun C h1=>by cases h1.symm.trans (PySem.W.mg_of X G gh);exact qU gA
  mP:=wn X G gh mP
  gR:=xr X G gh g4 gR
  gL:=xr X G gh gh gL
  g7:=xr X G gh gr g7
  g8:=xr X G gh gu g8
  gS:=xr X G gh gm gS
  gT:=xr X G gh g5 gT
  g9:=xr X G gh hV g9
  hJ:=xr X G gh gB hJ
  gI:=xr X G gh gd gI
  hE:=xr X G gh hW hE
  gG:=wM X G gh gF gG
  gk:=⟨_,PySem.W.mg_of X G gm,x_NoTable⟩
  gE:=fun C h1=>by cases h1.symm.trans (PySem.W.mg_of X G gm);exact qU gE
  nt:=wn X G gm nt
  hX:=xr X G gm g4 hX
  gU:=xr X G gm gh gU
  mh:=xr X G gm gr mh
  mi:=xr X G gm gu mi
  ma:=xr X G gm gm ma
  md:=xr X G gm g5 md
  mj:=xr X G gm hV mj
  my:=xr X G gm gB my
  gN:=xr X G gm gd gN
  mn:=xr X G gm hW mn
  gM:=wM X G gm gF gM
  gn:=⟨_,PySem.W.mg_of X G gr,x_NoText⟩
  nU:=fun C h1=>by cases h1.symm.trans (PySem.W.mg_of X G gr);exact qU nU
  nV:=wn X G gr nV
  mH:=xr X G gr g4 mH
  mt:=xr X G gr gh mt
  mQ:=xr X G gr gr mQ
  mR:=xr X G gr gu mR
  mI:=xr X G gr gm mI
  mJ:=xr X G gr g5 mJ
  mS:=xr X G gr hV mS
  m7:=xr X G gr gB m7
  mq:=xr X G gr gd mq
  mT:=xr X G gr hW mT
  mz:=wM X G gr gF mz
  gq:=⟨_,PySem.W.mg_of X G gu,x_NoSpot⟩
  nW:=fun C h1=>by cases h1.symm.trans (PySem.W.mg_of X G gu);exact qU nW
  nX:=wn X G gu nX
  mK:=xr X G gu g4 mK
  mw:=xr X G gu gh mw
  mU:=xr X G gu gr mU
  mV:=xr X G gu gu mV
  mL:=xr X G gu gm mL
  mM:=xr X G gu g5 mM
  mW:=xr X G gu hV mW
  m8:=xr X G gu gB m8
  mr:=xr X G gu gd mr
  mX:=xr X G gu hW mX
  mB:=wM X G gu gF mB
  gw:=⟨_,PySem.W.mg_of X G gB,x_NoRow⟩
  rn:=fun C h1=>by cases h1.symm.trans (PySem.W.mg_of X G gB);exact qU rn
  rq:=wn X G gB rq
  mY:=xr X G gB g4 mY
  mC:=xr X G gB gh mC
  m9:=xr X G gB gr m9
  nb:=xr X G gB gu nb
  mZ:=xr X G gB gm mZ
  m3:=xr X G gB g5 m3
  nc:=xr X G gB hV nc
  ni:=xr X G gB gB ni
  mx:=xr X G gB gd mx
  ng:=xr X G gB hW ng
  mE:=wM X G gB gF mE
  gc:=⟨_,PySem.W.mg_of X G gd,x_NothingDone⟩
  gv:=fun C h1=>by cases h1.symm.trans (PySem.W.mg_of X G gd);exact qU gv
  mG:=wn X G gd mG
  gO:=xr X G gd g4 gO
  gJ:=xr X G gd gh gJ
  gW:=xr X G gd gr gW
  gX:=xr X G gd gu gX
  gP:=xr X G gd gm gP
  gQ:=xr X G gd g5 gQ
  gY:=xr X G gd hV gY
  hG:=xr X G gd gB hG
  gH:=xr X G gd gd gH
  gZ:=xr X G gd hW gZ
  gD:=wM X G gd gF gD
  mF:=⟨_,PySem.W.mg_of X G mF⟩
  gz:=fun C h1=>by cases h1.symm.trans (PySem.W.mg_of X G mF);exact K9 dk_Desk
  sd:=kX dm_Desk dp_Desk (PySem.W.mg_of X G mF) mt_init93
  sB:=qG (PySem.W.mg_of X G mF) mt_say91
  se:=qG (PySem.W.mg_of X G mF) mt_lies93
  rO:=qG (PySem.W.mg_of X G mF) mt_steps93
  sC:=qG (PySem.W.mg_of X G mF) mt_lay93
  si:=qG (PySem.W.mg_of X G mF) mt_undo93
  m5:=fun C h1=>by cases h1.symm.trans (PySem.W.mg_of X G g_Scale);exact Wt dk_Scale
  m6:=fun C h1=>by cases h1.symm.trans (PySem.W.mg_of X G g_Shift);exact Wt dk_Shift
  sj:=fun C h1=>by cases h1.symm.trans (PySem.W.mg_of X G g_Flip);exact Wt dk_Flip
  sk:=⟨_,PySem.W.mg_of X G g_Flip,dm_Flip,di_Flip,dp_Flip⟩
  nH:=qG (PySem.W.mg_of X G g_Scale) mt_doneE_Scale
  nI:=qG (PySem.W.mg_of X G g_Shift) mt_doneE_Shift
  nL:=qG (PySem.W.mg_of X G g_Flip) mt_doneE_Flip
  nM:=kX dm_Scale dp_Scale (PySem.W.mg_of X G g_Scale) mt_iniScale91
  rj:=qG (PySem.W.mg_of X G g_Scale) mt_tabScale
  rk:=kX dm_Shift dp_Shift (PySem.W.mg_of X G g_Shift) mt_iniShift
  rl:=qG (PySem.W.mg_of X G g_Shift) mt_tabShift
  rP:=qG (PySem.W.mg_of X G g_Flip) mt_tabFlip
  rm:=⟨_,uH (l:=[("go",ta_FORMS_0,.str "SPOT" tb_FORMS_0),("move",ta_FORMS_1,.str "A B C D" tb_FORMS_1),("scale",ta_FORMS_2,.str "F" tb_FORMS_2),("shift",ta_FORMS_3,.str "F" tb_FORMS_3),("flip",ta_FORMS_4,.str "" tb_FORMS_4),("undo",ta_FORMS_5,.str "" tb_FORMS_5),("ties",ta_FORMS_6,.str "" tb_FORMS_6),("road",ta_FORMS_7,.str "SPOT" tb_FORMS_7),("towards",ta_FORMS_8,.str "END STEPS" tb_FORMS_8),("way",ta_FORMS_9,.str "SPOT" tb_FORMS_9),("meet",ta_FORMS_10,.str "SPOT SPOT" tb_FORMS_10),("near",ta_FORMS_11,.str "END END" tb_FORMS_11),("within",ta_FORMS_12,.str "REACH" tb_FORMS_12),("kind",ta_FORMS_13,.str "A B C D" tb_FORMS_13),("numbers",ta_FORMS_14,.str "A B C D" tb_FORMS_14),("figures",ta_FORMS_15,.str "F" tb_FORMS_15)]) (PySem.W.mg_of X G ka_FORMS) ks_FORMS kl_FORMS (show (["go","move","scale","shift","flip","undo","ties","road","towards","way","meet","near","within","kind","numbers","figures"]:List Str).Nodup by decide+kernel),.cons ⟨_,rfl⟩ (.cons ⟨_,rfl⟩ (.cons ⟨_,rfl⟩ (.cons ⟨_,rfl⟩ (.cons ⟨_,rfl⟩ (.cons ⟨_,rfl⟩ (.cons ⟨_,rfl⟩ (.cons ⟨_,rfl⟩ (.cons ⟨_,rfl⟩ (.cons ⟨_,rfl⟩ (.cons ⟨_,rfl⟩ (.cons ⟨_,rfl⟩ (.cons ⟨_,rfl⟩ (.cons ⟨_,rfl⟩ (.cons ⟨_,rfl⟩ (.cons ⟨_,rfl⟩ (.nil))))))))))))))))⟩
  nh:=⟨_,uH (l:=[("STEPS",ta_MOST_0,.int 300 tb_MOST_0),("REACH",ta_MOST_1,.int 7 tb_MOST_1)]) (PySem.W.mg_of X G ka_MOST) ks_MOST kl_MOST (show (["STEPS","REACH"]:List Str).Nodup by decide+kernel),.cons ⟨_,rfl⟩ (.cons ⟨_,rfl⟩ (.nil))⟩
  nN:=⟨_,uH (l:=[("go",ta_CHANGES_0,.ref cf_CHANGES_0),("move",ta_CHANGES_1,.ref cf_CHANGES_1),("scale",ta_CHANGES_2,.ref cf_CHANGES_2),("shift",ta_CHANGES_3,.ref cf_CHANGES_3),("flip",ta_CHANGES_4,.ref cf_CHANGES_4)]) (PySem.W.mg_of X G ka_CHANGES) ks_CHANGES kl_CHANGES (show (["go","move","scale","shift","flip"]:List Str).Nodup by decide+kernel),.cons ⟨_,PySem.W.mg_of X G tg_CHANGES_0,rfl⟩ (.cons ⟨_,PySem.W.mg_of X G tg_CHANGES_1,rfl⟩ (.cons ⟨_,PySem.W.mg_of X G tg_CHANGES_2,rfl⟩ (.cons ⟨_,PySem.W.mg_of X G tg_CHANGES_3,rfl⟩ (.cons ⟨_,PySem.W.mg_of X G tg_CHANGES_4,rfl⟩ (.nil)))))⟩
  sq:=⟨_,uH (l:=[("ties",ta_QUESTIONS_0,.ref cf_QUESTIONS_0),("road",ta_QUESTIONS_1,.ref cf_QUESTIONS_1),("towards",ta_QUESTIONS_2,.ref cf_QUESTIONS_2),("way",ta_QUESTIONS_3,.ref cf_QUESTIONS_3),("meet",ta_QUESTIONS_4,.ref cf_QUESTIONS_4),("near",ta_QUESTIONS_5,.ref cf_QUESTIONS_5),("within",ta_QUESTIONS_6,.ref cf_QUESTIONS_6),("kind",ta_QUESTIONS_7,.ref cf_QUESTIONS_7),("numbers",ta_QUESTIONS_8,.ref cf_QUESTIONS_8),("figures",ta_QUESTIONS_9,.ref cf_QUESTIONS_9)]) (PySem.W.mg_of X G ka_QUESTIONS) ks_QUESTIONS kl_QUESTIONS (show (["ties","road","towards","way","meet","near","within","kind","numbers","figures"]:List Str).Nodup by decide+kernel),.cons ⟨_,PySem.W.mg_of X G tg_QUESTIONS_0,rfl⟩ (.cons ⟨_,PySem.W.mg_of X G tg_QUESTIONS_1,rfl⟩ (.cons ⟨_,PySem.W.mg_of X G tg_QUESTIONS_2,rfl⟩ (.cons ⟨_,PySem.W.mg_of X G tg_QUESTIONS_3,rfl⟩ (.cons ⟨_,PySem.W.mg_of X G tg_QUESTIONS_4,rfl⟩ (.cons ⟨_,PySem.W.mg_of X G tg_QUESTIONS_5,rfl⟩ (.cons ⟨_,PySem.W.mg_of X G tg_QUESTIONS_6,rfl⟩ (.cons ⟨_,PySem.W.mg_of X G tg_QUESTIONS_7,rfl⟩ (.cons ⟨_,PySem.W.mg_of X G tg_QUESTIONS_8,rfl⟩ (.cons ⟨_,PySem.W.mg_of X G tg_QUESTIONS_9,rfl⟩ (.nil))))))))))⟩
  gK:=⟨_,PySem.W.mg_of X G ka_NOUGHT,_,_,_,kl_NOUGHT,rfl,rfl,of_decide_eq_true rfl,.cons ⟨_,rfl⟩ (.cons ⟨_,rfl⟩ (.nil))⟩
  nB:=⟨_,PySem.W.mg_of X G ka_ONE,_,_,_,kl_ONE,rfl,rfl,of_decide_eq_true rfl,.cons ⟨_,rfl⟩ (.cons ⟨_,rfl⟩ (.nil))⟩
  sD:=⟨_,_,PySem.W.mg_of X G ka_FIRST,⟨_,_,_,kl_FIRST,rfl,rfl,of_decide_eq_true rfl,.cons ⟨_,rfl⟩ (.cons rfl .nil)⟩,⟨_,_,_,km_FIRST,rfl,rfl,of_decide_eq_true rfl,.cons ⟨_,rfl⟩ (.cons ⟨_,rfl⟩ .nil)⟩⟩
  sF:=⟨_,PySem.W.mg_of X G ka_FAR⟩
  rQ:=⟨_,PySem.W.mg_of X G ka_FIGURES⟩
  me:=⟨_,PySem.W.mg_of X G ka_MOST_FIGURES⟩
  ms:=⟨_,PySem.W.mg_of X G ka_MOST_FIRST_FIGURES⟩
  no:=⟨_,PySem.W.mg_of X G ka_FURTHEST_FIRST⟩
  nu:=⟨_,PySem.W.mg_of X G ka_PIECE_FIGURES⟩
  rR:=⟨_,PySem.W.mg_of X G ka_MOST_BOTTOM⟩
  rA:=⟨_,PySem.W.mg_of X G ka_FURTHEST_WAY⟩
  so:=⟨_,PySem.W.mg_of X G ka_MOST_SPOTS⟩
  sN:=⟨_,PySem.W.mg_of X G ka_KEEPS⟩
  sO:=⟨_,PySem.W.mg_of X G ka_TURNS⟩
  sJ:=⟨_,PySem.W.mg_of X G ka_SLIDES⟩
  mf:=⟨_,PySem.W.mg_of X G ka_MOST_NUMBER_FIGURES⟩
  }
 exact okk_law M FL
theorem walk {l:PySem.W.OpenLaw} {q:Program} {loose:List Str} {XP:(Str->Option Value)->Heap->Prop} {YP:World->Heap->Prop} {d:DefRec} {K:Params->PySem.W.Frag} (hn:l.most=some 63) (hdf:d.params.defaults=[])
  (hY:∀(w:World) (h:Heap),YP w h->(K w.params).In h)
  (F:∀(w:World) (mg:Str->Option Value) (fa:Addr) (h:Heap),(K w.params).In h->h.Ns mainGlobals mg->mg d.name=some (.ref fa)->
   ∃fd:FuncData,(∀(s:Shared) (u:Value),BindsTo s fd ⟨[u],[]⟩ [("_law_script",u)])/\∀base:Heap,(K w.params).In base->base.Ns mainGlobals mg->FnOk l.prog w (K w.params) mg base CX0 11 fa fd ["_law_script"] (spD (K w.params) Q9)):
  PySem.W.WalkO q loose XP YP l.row.toRowW d [] (fun f vs=>PySem.call f vs):=
 L2.walk_of (n:=63) (k:=11) (x:= "_law_script") (CX:=fun _=>CX0) (sp:=fun w=>spD (K w.params) Q9) hn (by decide) hdf ⟨rfl,by decide,by decide⟩ hY F (fun w H a ns hl _ hS=>law_sp _ H a ns hl hS) fun _ _ _ _ _ z=>z
end R
open PySem PySem.W PyProof.Rows
local macro_rules | `(tactic| walk_at "F")=> `(tactic| (refine' DL.atK_of ?a ?l ?c ?k;(case a=>k_is);(case l=>k_is);(case c=>k_is);(case k=>k_is)))
local macro_rules | `(tactic| walk_at "M")=> `(tactic| (refine' DL.mtK_of ?a ?l ?c ?k ?f;(case a=>k_is);(case l=>k_is);(case c=>k_is);(case k=>k_is);(case f=>kernel_rfl)))
def PySem.W.Fast.tw10040131570802758093 : Unit := ()
def PySem.W.Fast.tw10499355100562978501 : Unit := ()
def PySem.W.Fast.tw10669728335601059459 : Unit := ()
def PySem.W.Fast.tw10700028726529989808 : Unit := ()
def PySem.W.Fast.tw10715770333998106185 : Unit := ()
def PySem.W.Fast.tw10733755390678898915 : Unit := ()
def PySem.W.Fast.tw10906570987148221419 : Unit := ()
def PySem.W.Fast.tw10995126805971278841 : Unit := ()
def PySem.W.Fast.tw11314253462445082060 : Unit := ()
def PySem.W.Fast.tw11326263565672427674 : Unit := ()
def PySem.W.Fast.tw11766599174748662749 : Unit := ()
def PySem.W.Fast.tw11796381747625644587 : Unit := ()
def PySem.W.Fast.tw12266719062529209971 : Unit := ()
def PySem.W.Fast.tw12270399414716289011 : Unit := ()
def PySem.W.Fast.tw12402651601060972101 : Unit := ()
def PySem.W.Fast.tw12697557507486131794 : Unit := ()
def PySem.W.Fast.tw12726003613565686658 : Unit := ()
def PySem.W.Fast.tw129368493768667466 : Unit := ()
def PySem.W.Fast.tw13273275665353357866 : Unit := ()
def PySem.W.Fast.tw132986996376743318 : Unit := ()
def PySem.W.Fast.tw13413556044370788298 : Unit := ()
def PySem.W.Fast.tw13695352097465753617 : Unit := ()
def PySem.W.Fast.tw13953811257361410084 : Unit := ()
def PySem.W.Fast.tw13982589003852338372 : Unit := ()
def PySem.W.Fast.tw13995515629314430427 : Unit := ()
def PySem.W.Fast.tw14209904834380520178 : Unit := ()
def PySem.W.Fast.tw14311793917357487816 : Unit := ()
def PySem.W.Fast.tw14319052162754731146 : Unit := ()
def PySem.W.Fast.tw14344031825298258913 : Unit := ()
def PySem.W.Fast.tw14515057729258955200 : Unit := ()
def PySem.W.Fast.tw14598249450546842737 : Unit := ()
def PySem.W.Fast.tw14733627697020747166 : Unit := ()
def PySem.W.Fast.tw14779949345947436923 : Unit := ()
def PySem.W.Fast.tw14898143103508406958 : Unit := ()
def PySem.W.Fast.tw15103300766347674897 : Unit := ()
def PySem.W.Fast.tw15150367493543302655 : Unit := ()
def PySem.W.Fast.tw15279776189903555292 : Unit := ()
def PySem.W.Fast.tw15327207020180715427 : Unit := ()
def PySem.W.Fast.tw15426213754669844407 : Unit := ()
def PySem.W.Fast.tw15476604438300716429 : Unit := ()
def PySem.W.Fast.tw1548949143760518949 : Unit := ()
def PySem.W.Fast.tw15863876636176696067 : Unit := ()
def PySem.W.Fast.tw16072586778361918518 : Unit := ()
def PySem.W.Fast.tw16151973318598448221 : Unit := ()
def PySem.W.Fast.tw16470789409475971296 : Unit := ()
def PySem.W.Fast.tw16694892070065511171 : Unit := ()
def PySem.W.Fast.tw17045698166126336050 : Unit := ()
def PySem.W.Fast.tw17281246877033196190 : Unit := ()
def PySem.W.Fast.tw17306048126117633791 : Unit := ()
def PySem.W.Fast.tw17380241575272782615 : Unit := ()
def PySem.W.Fast.tw17398762250083208380 : Unit := ()
def PySem.W.Fast.tw17597724456208242884 : Unit := ()
def PySem.W.Fast.tw1760627992775280634 : Unit := ()
def PySem.W.Fast.tw17667624549945496450 : Unit := ()
def PySem.W.Fast.tw17689459445255246807 : Unit := ()
def PySem.W.Fast.tw17870056972025316013 : Unit := ()
def PySem.W.Fast.tw17916942583699082847 : Unit := ()
def PySem.W.Fast.tw18231119530485096865 : Unit := ()
def PySem.W.Fast.tw18428526297724481899 : Unit := ()
def PySem.W.Fast.tw19347230137946668 : Unit := ()
def PySem.W.Fast.tw1961681932875694339 : Unit := ()
def PySem.W.Fast.tw1995335005970487131 : Unit := ()
def PySem.W.Fast.tw2047498872776621651 : Unit := ()
def PySem.W.Fast.tw2463018093010998576 : Unit := ()
def PySem.W.Fast.tw2560190467799194339 : Unit := ()
def PySem.W.Fast.tw2999031026902665995 : Unit := ()
def PySem.W.Fast.tw3093556462725527848 : Unit := ()
def PySem.W.Fast.tw3312002947425734267 : Unit := ()
def PySem.W.Fast.tw3318123085112634140 : Unit := ()
def PySem.W.Fast.tw3391811543127871808 : Unit := ()
def PySem.W.Fast.tw3522632996451917938 : Unit := ()
def PySem.W.Fast.tw3640383704724449966 : Unit := ()
def PySem.W.Fast.tw3673419880598524811 : Unit := ()
def PySem.W.Fast.tw3674678100896415140 : Unit := ()
def PySem.W.Fast.tw3713009140050933037 : Unit := ()
def PySem.W.Fast.tw3808041078086234031 : Unit := ()
def PySem.W.Fast.tw3997890604515559611 : Unit := ()
def PySem.W.Fast.tw4005910721664658279 : Unit := ()
def PySem.W.Fast.tw4014790142732881247 : Unit := ()
def PySem.W.Fast.tw4297211605981359902 : Unit := ()
def PySem.W.Fast.tw4297265718622312654 : Unit := ()
def PySem.W.Fast.tw4403870085293230235 : Unit := ()
def PySem.W.Fast.tw4527195316288303896 : Unit := ()
def PySem.W.Fast.tw4574168274690135146 : Unit := ()
def PySem.W.Fast.tw4990665733145827695 : Unit := ()
def PySem.W.Fast.tw5133892993178802956 : Unit := ()
def PySem.W.Fast.tw5140871046048193695 : Unit := ()
def PySem.W.Fast.tw5589412890043178161 : Unit := ()
def PySem.W.Fast.tw5830818916916008113 : Unit := ()
def PySem.W.Fast.tw5992835339602219688 : Unit := ()
def PySem.W.Fast.tw6104421095678886852 : Unit := ()
def PySem.W.Fast.tw623536106209631894 : Unit := ()
def PySem.W.Fast.tw6253451361116945010 : Unit := ()
def PySem.W.Fast.tw6299035737062735571 : Unit := ()
def PySem.W.Fast.tw6383855186765659289 : Unit := ()
def PySem.W.Fast.tw6436582362647459226 : Unit := ()
def PySem.W.Fast.tw6731811490008341381 : Unit := ()
def PySem.W.Fast.tw7102814036575090854 : Unit := ()
def PySem.W.Fast.tw7104233533057986981 : Unit := ()
def PySem.W.Fast.tw7170648913991855748 : Unit := ()
def PySem.W.Fast.tw7236961365448736980 : Unit := ()
def PySem.W.Fast.tw7351930773356270995 : Unit := ()
def PySem.W.Fast.tw7655558709310891261 : Unit := ()
def PySem.W.Fast.tw8025014110390302932 : Unit := ()
def PySem.W.Fast.tw8038312762265090011 : Unit := ()
def PySem.W.Fast.tw8115504031223327066 : Unit := ()
def PySem.W.Fast.tw8119890432782900929 : Unit := ()
def PySem.W.Fast.tw8219524589890270346 : Unit := ()
def PySem.W.Fast.tw8326581392842116228 : Unit := ()
def PySem.W.Fast.tw832831120037091695 : Unit := ()
def PySem.W.Fast.tw838335730259890894 : Unit := ()
def PySem.W.Fast.tw8420489166212252782 : Unit := ()
def PySem.W.Fast.tw8655115315009704517 : Unit := ()
def PySem.W.Fast.tw8781736607021751293 : Unit := ()
def PySem.W.Fast.tw890778903496264890 : Unit := ()
def PySem.W.Fast.tw9130575834109121711 : Unit := ()
def PySem.W.Fast.tw9324741871039355928 : Unit := ()
def PySem.W.Fast.tw9649690056917795495 : Unit := ()
def PySem.W.Fast.tw9669019623752088457 : Unit := ()
def PySem.W.Fast.tw9848407012760973196 : Unit := ()
def PySem.W.Fast.tw9896973392338184458 : Unit := ()
set_option maxRecDepth 100000 in
set_option maxHeartbeats 0 in
theorem PySem.Challenge.cw_primetree_k91_deeds_at_the_desk_holds : PySem.Challenge.rw_primetree_k91_deeds_at_the_desk.Holds := by
 w_on;o_law;k_head;(case hw=>w_witness2)
 k_fill
 refine R.walk (l:=PySem.Challenge.rw_primetree_k91_deeds_at_the_desk) rfl rfl (fun w h Y=>PySem.W.kIn_of Y) ?F
 case F=>
  intro w mg fa h KX G hmg
  refine' R.all_mk KX G hmg ?a0 ?a1 ?a2 ?a3 ?a4 ?a5 ?a6 ?l6 ?c6 ?k6 ?a7 ?a8 ?a9 ?a10 ?a11 ?a12 ?a13 ?a14 ?a15 ?a16 ?a17 ?a18 ?a19 ?a20 ?a21 ?a22 ?a23 ?a24 ?a25 ?a26 ?a27 ?a28 ?a29 ?a30 ?a31 ?a32 ?a33 ?a34 ?a35 ?a36 ?a37 ?a38 ?a39 ?a40 ?a41 ?a42 ?a43 ?a44 ?a45 ?a46 ?a47 ?a48 ?a49 ?a50 ?a51 ?a52 ?a53 ?a54 ?a55 ?a56 ?a57 ?a58 ?d6 ?z_isinstance ?z_int ?z_bool ?z_abs ?z_tuple ?z_len ?z_min ?z_str ?z_reversed ?z_all ?z_range ?z_max ?z_ValueError ?_ ?qmF ?_ ?_ ?_ ?q_mt_init93 ?q_mt_say91 ?q_mt_lies93 ?q_mt_steps93 ?q_mt_lay93 ?q_mt_undo93 ?q_g_Scale ?_ ?_ ?_ ?q_g_Shift ?_ ?_ ?_ ?q_g_Flip ?_ ?_ ?_ ?q_di_Flip ?q_mt_doneE_Scale ?q_mt_doneE_Shift ?q_mt_doneE_Flip ?q_mt_iniScale91 ?q_mt_tabScale ?q_mt_iniShift ?q_mt_tabShift ?q_mt_tabFlip ?q_ka_FORMS ?q_kl_FORMS ?_ ?q_ka_MOST ?q_kl_MOST ?_ ?q_ka_CHANGES ?q_tg_CHANGES_0 ?q_tg_CHANGES_1 ?q_tg_CHANGES_2 ?q_tg_CHANGES_3 ?q_tg_CHANGES_4 ?q_kl_CHANGES ?_ ?q_ka_QUESTIONS ?q_tg_QUESTIONS_0 ?q_tg_QUESTIONS_1 ?q_tg_QUESTIONS_2 ?q_tg_QUESTIONS_3 ?q_tg_QUESTIONS_4 ?q_tg_QUESTIONS_5 ?q_tg_QUESTIONS_6 ?q_tg_QUESTIONS_7 ?q_tg_QUESTIONS_8 ?q_tg_QUESTIONS_9 ?q_kl_QUESTIONS ?_ ?qgF ?qg4 ?qgh ?qgr ?qgu ?qgm ?qg5 ?qhV ?qgB ?qgd ?qhW ?_ ?_ ?_ ?_ ?_ ?_ ?_ ?_ ?_ ?_ ?_ ?_ ?_ ?_ ?_ ?_ ?_ ?_ ?_ ?_ ?_ ?_ ?_ ?_ ?_ ?_ ?_ ?_ ?_ ?_ ?_ ?_ ?_ ?_ ?_ ?_ ?_ ?_ ?_ ?_ ?_ ?_ ?_ ?_ ?_ ?_ ?_ ?_ ?_ ?_ ?_ ?_ ?_ ?_ ?_ ?_ ?_ ?_ ?_ ?_ ?_ ?_ ?_ ?_ ?_ ?_ ?_ ?_ ?_ ?_ ?_ ?_ ?_ ?_ ?_ ?_ ?_ ?_ ?_ ?_ ?_ ?_ ?_ ?_ ?q_ka_NOUGHT ?q_kl_NOUGHT ?q_ka_ONE ?q_kl_ONE ?q_ka_FIRST ?q_kl_FIRST ?q_km_FIRST ?q_ka_FAR ?q_ka_FIGURES ?q_ka_MOST_FIGURES ?q_ka_MOST_FIRST_FIGURES ?q_ka_FURTHEST_FIRST ?q_ka_PIECE_FIGURES ?q_ka_MOST_BOTTOM ?q_ka_FURTHEST_WAY ?q_ka_MOST_SPOTS ?q_ka_KEEPS ?q_ka_TURNS ?q_ka_SLIDES ?q_ka_MOST_NUMBER_FIGURES
  (case a0=>walk_at "F")
  (case a1=>walk_at "F")
  (case a2=>walk_at "F")
  (case a3=>walk_at "F")
  (case a4=>walk_at "F")
  (case a5=>walk_at "F")
  (case a6=>k_is);(case l6=>k_is);(case c6=>k_is);(case k6=>k_is)
  (case a7=>walk_at "F")
  (case a8=>walk_at "F")
  (case a9=>walk_at "F")
  (case a10=>walk_at "F")
  (case a11=>walk_at "F")
  (case a12=>walk_at "F")
  (case a13=>walk_at "F")
  (case a14=>walk_at "F")
  (case a15=>walk_at "F")
  (case a16=>walk_at "F")
  (case a17=>walk_at "F")
  (case a18=>walk_at "F")
  (case a19=>walk_at "F")
  (case a20=>walk_at "F")
  (case a21=>walk_at "F")
  (case a22=>walk_at "F")
  (case a23=>walk_at "F")
  (case a24=>walk_at "F")
  (case a25=>walk_at "F")
  (case a26=>walk_at "F")
  (case a27=>walk_at "F")
  (case a28=>walk_at "F")
  (case a29=>walk_at "F")
  (case a30=>walk_at "F")
  (case a31=>walk_at "F")
  (case a32=>walk_at "F")
  (case a33=>walk_at "F")
  (case a34=>walk_at "F")
  (case a35=>walk_at "F")
  (case a36=>walk_at "F")
  (case a37=>walk_at "F")
  (case a38=>walk_at "F")
  (case a39=>walk_at "F")
  (case a40=>walk_at "F")
  (case a41=>walk_at "F")
  (case a42=>walk_at "F")
  (case a43=>walk_at "F")
  (case a44=>walk_at "F")
  (case a45=>walk_at "F")
  (case a46=>walk_at "F")
  (case a47=>walk_at "F")
  (case a48=>walk_at "F")
  (case a49=>walk_at "F")
  (case a50=>walk_at "F")
  (case a51=>walk_at "F")
  (case a52=>walk_at "F")
  (case a53=>walk_at "F")
  (case a54=>walk_at "F")
  (case a55=>walk_at "F")
  (case a56=>walk_at "F")
  (case a57=>walk_at "F")
  (case a58=>walk_at "F")
  (case d6=>k_is)
  (case z_isinstance=>k_is)
  (case z_int=>k_is)
  (case z_bool=>k_is)
  (case z_abs=>k_is)
  (case z_tuple=>k_is)
  (case z_len=>k_is)
  (case z_min=>k_is)
  (case z_str=>k_is)
  (case z_reversed=>k_is)
  (case z_all=>k_is)
  (case z_range=>k_is)
  (case z_max=>k_is)
  (case z_ValueError=>k_is)
  (case qmF=>k_is)
  (case q_mt_init93=>walk_at "M")
  (case q_mt_say91=>walk_at "M")
  (case q_mt_lies93=>walk_at "M")
  (case q_mt_steps93=>walk_at "M")
  (case q_mt_lay93=>walk_at "M")
  (case q_mt_undo93=>walk_at "M")
  (case q_g_Scale=>k_is)
  (case q_g_Shift=>k_is)
  (case q_g_Flip=>k_is)
  (case q_di_Flip=>k_is)
  (case q_mt_doneE_Scale=>walk_at "M")
  (case q_mt_doneE_Shift=>walk_at "M")
  (case q_mt_doneE_Flip=>walk_at "M")
  (case q_mt_iniScale91=>walk_at "M")
  (case q_mt_tabScale=>walk_at "M")
  (case q_mt_iniShift=>walk_at "M")
  (case q_mt_tabShift=>walk_at "M")
  (case q_mt_tabFlip=>walk_at "M")
  (case q_ka_FORMS=>k_is)
  (case q_kl_FORMS=>k_is)
  (case q_ka_MOST=>k_is)
  (case q_kl_MOST=>k_is)
  (case q_ka_CHANGES=>k_is)
  (case q_tg_CHANGES_0=>k_is)
  (case q_tg_CHANGES_1=>k_is)
  (case q_tg_CHANGES_2=>k_is)
  (case q_tg_CHANGES_3=>k_is)
  (case q_tg_CHANGES_4=>k_is)
  (case q_kl_CHANGES=>k_is)
  (case q_ka_QUESTIONS=>k_is)
  (case q_tg_QUESTIONS_0=>k_is)
  (case q_tg_QUESTIONS_1=>k_is)
  (case q_tg_QUESTIONS_2=>k_is)
  (case q_tg_QUESTIONS_3=>k_is)
  (case q_tg_QUESTIONS_4=>k_is)
  (case q_tg_QUESTIONS_5=>k_is)
  (case q_tg_QUESTIONS_6=>k_is)
  (case q_tg_QUESTIONS_7=>k_is)
  (case q_tg_QUESTIONS_8=>k_is)
  (case q_tg_QUESTIONS_9=>k_is)
  (case q_kl_QUESTIONS=>k_is)
  (case qgF=>k_is)
  (case qg4=>k_is)
  (case qgh=>k_is)
  (case qgr=>k_is)
  (case qgu=>k_is)
  (case qgm=>k_is)
  (case qg5=>k_is)
  (case qhV=>k_is)
  (case qgB=>k_is)
  (case qgd=>k_is)
  (case qhW=>k_is)
  (case q_ka_NOUGHT=>k_is)
  (case q_kl_NOUGHT=>k_is)
  (case q_ka_ONE=>k_is)
  (case q_kl_ONE=>k_is)
  (case q_ka_FIRST=>k_is)
  (case q_kl_FIRST=>k_is)
  (case q_km_FIRST=>k_is)
  (case q_ka_FAR=>k_is)
  (case q_ka_FIGURES=>k_is)
  (case q_ka_MOST_FIGURES=>k_is)
  (case q_ka_MOST_FIRST_FIGURES=>k_is)
  (case q_ka_FURTHEST_FIRST=>k_is)
  (case q_ka_PIECE_FIGURES=>k_is)
  (case q_ka_MOST_BOTTOM=>k_is)
  (case q_ka_FURTHEST_WAY=>k_is)
  (case q_ka_MOST_SPOTS=>k_is)
  (case q_ka_KEEPS=>k_is)
  (case q_ka_TURNS=>k_is)
  (case q_ka_SLIDES=>k_is)
  (case q_ka_MOST_NUMBER_FIGURES=>k_is)
  all_goals kernel_rfl
#print axioms PySem.Challenge.cw_primetree_k91_deeds_at_the_desk_holds
