import PyProof.Rows.All
import Wide.All
import OpenK.AllK
import Wide.FinOn
import Lean
import PyProof.EqAt
import PyProof.EqKinds
import PyProof.TupleCall
import PyProof.ExcArgsOwn
import KE.KIntText
import PyProof.StrLawsRepr
import PyProof.StrLawsOcc
import PyProof.SliceStr2
import PyProof.FString
import PyProof.StrOps2
import PyProof.AutoIntG2
import PyProof.ConsumeWalk
import PyProof.MinMaxWalk
import PyProof.WalkInts
import PyProof.ZipIter
import PyProof.SumWalk
import PyProof.SeqI3
import PyProof.CompUse
import PyProof.Rows.SortWalk
import KE.KSortTup
import KE.KRevIter
import PyProof.ListRange
import PyProof.JoinWalk
import PyProof.Rows.SetFrom
import PyProof.TupleKey
import PyProof.SetRoads
import PySem.SetTable
import PyProof.DictFindH
import KE.KDictList
import PyProof.Rows.TupTab
import PyProof.Rows.TupDisplay
import PyProof.DictRoadsH
import PyProof.MaxThree
import PyProof.P3In
import PyProof.WalksEnum
import PyProof.EnumMake
import PySem.Challenge.RW_primetree_k94_words_refused
set_option bootstrap.genMatcherCode false
noncomputable section
set_option Elab.async false
set_option linter.all false
set_option maxRecDepth 100000
def mz:=@List.mem_of_getElem?
def mB:=@List.length_map
def mC:=@of_decide_eq_true
def mD:=@List.getElem?_eq_getElem
def mE:=@Nat.lt_of_lt_of_le
def mF:=@if_neg
def mG:=@List.getElem?_set_ne
def mH:=@if_pos
def mI:=@List.mem_cons_of_mem
def mJ:=@Nat.le_refl
namespace L2
open PySem PySem.Spec PyProof.Rows
abbrev Key:=Sum Int Str
def keyIs:Key->Value->Bool
 | .inl k,v=>Value.isInt k v
 | .inr x,v=>Value.isStrOf x v
def keyH (w:World):Key->Int
 | .inl k=>hashInt k
 | .inr x=>hashStr w x
theorem yf:∀{k:Key} {v:Value},keyIs k v=true->(∃i t,k=Sum.inl i/\v=Value.int i t)∨(∃x t,k=Sum.inr x/\v=Value.str x t)
 | .inl i,v,h=>by
  obtain ⟨t,e⟩:=Value.isInt_shape (k:=i) (v:=v) h
  exact .inl ⟨i,t,rfl,e⟩
 | .inr x,v,h=>by
  obtain ⟨t,e⟩:=Value.isStrOf_shape (x:=x) (v:=v) h
  exact .inr ⟨x,t,rfl,e⟩
theorem xan (a b:Int):decide ((Sum.inl a:Key)=Sum.inl b)=(a==b):=by
 by_cases e:a=b
 ·subst e;simp
 ·have h:¬(Sum.inl a:Key)=Sum.inl b:=fun q=>e (Sum.inl.inj q)
  rw [decide_eq_false h]
  exact (beq_eq_false_iff_ne.mpr e).symm
theorem xak (a b:Str):decide ((Sum.inr a:Key)=Sum.inr b)=decide (a=b):=by
 by_cases e:a=b
 ·subst e;simp
 ·have h:¬(Sum.inr a:Key)=Sum.inr b:=fun q=>e (Sum.inr.inj q)
  rw [decide_eq_false h,decide_eq_false e]
theorem xam (a:Int) (b:Str):decide ((Sum.inl a:Key)=Sum.inr b)=false:=decide_eq_false (fun q=>nomatch q)
theorem xal (a:Str) (b:Int):decide ((Sum.inr a:Key)=Sum.inl b)=false:=decide_eq_false (fun q=>nomatch q)
def mixKind (prog:Program) (w:World):PySem.KeyKind prog w Key where
 is:=keyIs
 hash:=keyH w
 inj:=fun v a b ha hb=>by
  rcases yf ha with ⟨i,t,rfl,rfl⟩ | ⟨x,t,rfl,rfl⟩
  ·rcases yf hb with ⟨j,u,rfl,e⟩ | ⟨y,u,rfl,e⟩
   ·injection e with e1 _;rw [e1]
   ·exact nomatch e
  ·rcases yf hb with ⟨j,u,rfl,e⟩ | ⟨y,u,rfl,e⟩
   ·exact nomatch e
   ·injection e with e1 _;rw [e1]
 byValue:=fun k v h=>by
  rcases yf h with ⟨i,t,rfl,rfl⟩ | ⟨x,t,rfl,rfl⟩<;>rfl
 pyHash:=fun hv h=>by
  rcases yf hv with ⟨i,t,rfl,rfl⟩ | ⟨x,t,rfl,rfl⟩
  ·exact wpAny_pyHash_int h
  ·exact wpAny_pyHash_str h
 eqBool:=fun hu hv h=>by
  rcases yf hu with ⟨i,t,rfl,rfl⟩ | ⟨x,t,rfl,rfl⟩
  ·rcases yf hv with ⟨j,u,rfl,rfl⟩ | ⟨y,u,rfl,rfl⟩
   ·rw [xan] at h;exact wpAny_eqBool_int h
   ·rw [xam] at h;exact SeqAt.EqAt.int_str i t y u _ _ _ _ h
  ·rcases yf hv with ⟨j,u,rfl,rfl⟩ | ⟨y,u,rfl,rfl⟩
   ·rw [xal] at h;exact SeqAt.EqAt.str_int x t j u _ _ _ _ h
   ·rw [xak] at h;exact wpAny_eqBool_str h
 «strs» :=fun k x t v h=>by
  rcases yf h with ⟨i,u,rfl,e⟩ | ⟨y,u,rfl,e⟩
  ·exact nomatch e
  ·injection e with e1 _
   subst e1
   cases v<;>rfl
inductive V where
 | non | bl (b:Bool) | int (i:Int) | str (x:Str) | byt (b:Array UInt8) | flt (b:UInt64) | ref (a:Addr) | ty (n:String)
 deriving DecidableEq
def RelV:V->Value->Prop
 | .non,u=>u=Value.none
 | .bl b,u=>u=Value.bool b
 | .int i,u=>∃t,u=Value.int i t
 | .str x,u=>∃t,u=Value.str x t
 | .byt b,u=>∃t,u=Value.bytes b t
 | .flt b,u=>∃t,u=Value.float b t
 | .ref a,u=>u=Value.ref a
 | .ty n,u=>u=Value.type n
abbrev Vals:List V->List Value->Prop:=Paired RelV
theorem Vals.length {xs:List V} {us:List Value} (r:Vals xs us):xs.length=us.length:=Paired.length r
theorem Vals.get:∀{xs:List V} {us:List Value} {i:Nat} {x:V},Vals xs us->xs[i]? =some x->∃u,us[i]? =some u/\RelV x u
 | _,_,_,_,.nil,e=>by simp at e
 | _,_,0,_,.cons r _,e=>by simp at e;subst e;exact ⟨_,rfl,r⟩
 | _,_,i+1,x,.cons _ t,e=>by
  obtain ⟨u,h1,h2⟩:=Vals.get (i:=i) (x:=x) t (by simpa using e)
  exact ⟨u,by simpa using h1,h2⟩
theorem Vals.set {x:V} {u:Value} (r:RelV x u):∀{xs:List V} {us:List Value} (i:Nat),Vals xs us->Vals (xs.set i x) (us.set i u)
 | _,_,_,.nil=> .nil
 | _,_,0,.cons _ t=> .cons r t
 | _,_,i+1,.cons q t=> .cons q (Vals.set r i t)
theorem Vals.append:∀{xs ys:List V} {us ws:List Value},Vals xs us->Vals ys ws->Vals (xs++ys) (us++ws)
 | _,_,_,_,.nil,s=>s
 | _,_,_,_,.cons r t,s=> .cons r (Vals.append t s)
def RelO:Option V->Option Value->Prop
 | some v,some u=>RelV v u
 | none,none=>True
 | _,_=>False
def KV {κ:Type}:List (κ×V)->List (κ×Value)->Prop:=Paired fun (p:κ×V) (q:κ×Value)=>p.1=q.1/\RelV p.2 q.2
def kV:Key->V
 | .inl i=> .int i
 | .inr x=> .str x
inductive HO where
 | lst (xs:List V)
 | tup (xs:List V)
 | dK (kvs:List (Key×V)) | dT (kvs:List (List Key×V))
 | set (S:Int->Bool) (n:Nat)
 | ins (C dx:Addr) (fs:List (Str×V))
 | own (x:Addr)
 | xd (fs:List (Str×V))
 | met (f x:Addr)
 | rng (lo hi:Int)
 | frz (o:Obj) (u:HO)
 | tbl (ps:Array Value)
 | ext (φ:Heap->Prop)
abbrev Hp:=Addr->Option HO
def upd (H:Hp) (a:Addr) (o:HO):Hp:=fun b=>if b=a then some o else H b
theorem xm {H:Hp} {a:Addr} {o:HO}:upd H a o a=some o:=by unfold upd;rw [mH rfl]
theorem xh {H:Hp} {a b:Addr} {o:HO} (h:b≠a):upd H a o b=H b:=by unfold upd;rw [mF h]
theorem xo {H:Hp} {a b:Addr} {o:HO} (h:H a=some o) (h':H b=none):a≠b:=by
 intro e;subst e;rw [h] at h';cases h'
section
variable (P:Program) (w:World)
def ObjOk (H:Hp) (h:Heap) (a:Addr):HO->Prop
 | .lst xs=>xs.length<=sizeLine/\∃(its:List Value) (n:Nat),Vals xs its/\h.get? a=some { cls:= .type "list",data:= .seq its.toArray n }
 | .tup xs=>xs.length<=sizeLine/\∃its:List Value,Vals xs its/\IsTup h a its.toArray
 | .dK kvs=>kvs.length<=sizeLine/\(a==sysModules)=false/\∃vs,KV kvs vs/\h.DictOf (mixKind P w) a vs
 | .dT kvs=>kvs.length<=sizeLine/\(a==sysModules)=false/\∃xs:List (List Key×Addr×Value),
   Paired (fun (p:List Key×V) (q:List Key×Addr×Value)=>p.1=q.1/\H q.2.1=some (.tup (p.1.map kV))/\RelV p.2 q.2.2) kvs xs/\
   ∃o es ep,h.get? a=some o/\o.ExactDict/\o.data= .dict es ep/\es.toList=xs.map (entryOfKey (tupleKind (mixKind P w)))/\(xs.map (·.1)).Nodup
 | .set S n=>h.SetOf (intKind P w) a S n
 | .ins C dx fs=>H dx=some (.own a)/\fs.length<=1000/\dx≠a/\h.get? a=some (W.instObj C dx)/\
   ∃mA,h.Ns1 dx mA/\(∀f,RelO (fs.lookup f) (mA f))/\PySem.Within mA (fs.map (·.1))
 | .own _=>∃o,h.get? a=some o
 | .xd fs=>∃mA,h.Ns1 a mA/\∀f,RelO (fs.lookup f) (mA f)
 | .rng lo hi=>∃t u v,h.get? a=some { cls:= .type "range",data:= .fields #[.int lo t,.int hi u,.int 1 v] }
 | .frz o u=>h.get? a=some o/\ObjOk H h a u
 | .tbl ps=>h.get? a=some { cls:= .none,data:= .fields ps }
 | .met f x=>h.get? a=some (W.methodObj (.ref f) (.ref x))
 | .ext φ=>φ h/\(∃o,h.get? a=some o)/\∀h1 h2:Heap,φ h1->(∀o,h1.get? a=some o->h2.get? a=some o)->φ h2
def HOk (H:Hp) (h:Heap):Prop:=∀a o,H a=some o->ObjOk P w H h a o
end
section
variable {P:Program} {w:World} {H H':Hp} {h h':Heap} {a:Addr} {o:HO}
theorem ObjOk.lt (x:ObjOk P w H h a o):a<h.objs.size:=by
 cases o with
 | lst xs=>obtain ⟨_,_,_,_,e⟩:=x;exact Heap.lt_size e
 | tup xs=>obtain ⟨_,_,_,p⟩:=x;exact p.lt
 | dK kvs=>obtain ⟨_,_,_,_,o,_,_,e,_⟩:=x;exact Heap.lt_size e
 | dT kvs=>obtain ⟨_,_,_,_,o,_,_,e,_⟩:=x;exact Heap.lt_size e
 | set S n=>obtain ⟨o,_,_,_,e,_⟩:=x;exact Heap.lt_size e
 | ins C dx fs=>obtain ⟨_,_,_,e,_⟩:=x;exact Heap.lt_size e
 | own y=>obtain ⟨_,e⟩:=x;exact Heap.lt_size e
 | xd fs=>obtain ⟨_,⟨_,_,_,e,_⟩,_⟩:=x;exact Heap.lt_size e
 | rng lo hi=>obtain ⟨_,_,_,e⟩:=x;exact Heap.lt_size e
 | frz ob u=>obtain ⟨e,_⟩:=x;exact Heap.lt_size e
 | tbl ps=>exact Heap.lt_size (show h.get? a=some _ from x)
 | met f y=>exact Heap.lt_size (show h.get? a=some _ from x)
 | ext φ=>obtain ⟨_,⟨_,e⟩,_⟩:=x;exact Heap.lt_size e
theorem Paired.mapP {α β:Type} {F G:α->β->Prop}:∀{l₁:List α} {l₂:List β},Paired F l₁ l₂->(∀a b,F a b->G a b)->Paired G l₁ l₂
 | _,_,.nil,_=> .nil
 | _,_,.cons r t,f=> .cons (f _ _ r) (Paired.mapP t f)
theorem ObjOk.stay (x:ObjOk P w H h a o) (k:∀b u,(b=a∨H b=some (.own a))->h.get? b=some u->h'.get? b=some u)
  (ho:∀b,H b=some (.own a)->H' b=some (.own a)) (ht:∀b xs,H b=some (.tup xs)->H' b=some (.tup xs)):ObjOk P w H' h' a o:=by
 induction o with
 | lst xs=>obtain ⟨z,its,n,r,e⟩:=x;exact ⟨z,its,n,r,k _ _ (.inl rfl) e⟩
 | tup xs=>obtain ⟨z,its,r,ob,e,c⟩:=x;exact ⟨z,its,r,ob,k _ _ (.inl rfl) e,c⟩
 | dK kvs=>obtain ⟨z,y,vs,r,ob,es,ep,e,c⟩:=x;exact ⟨z,y,vs,r,ob,es,ep,k _ _ (.inl rfl) e,c⟩
 | dT kvs=>
  obtain ⟨z,y,xs,r,ob,es,ep,e,c⟩:=x
  exact ⟨z,y,xs,Paired.mapP r fun p q z=>⟨z.1,ht _ _ z.2.1,z.2.2⟩,ob,es,ep,k _ _ (.inl rfl) e,c⟩
 | set S n=>obtain ⟨ob,es,ep,t,e,c⟩:=x;exact ⟨ob,es,ep,t,k _ _ (.inl rfl) e,c⟩
 | ins C dx fs=>
  obtain ⟨d,z,ne,e,mA,⟨od,es,ep,e2,c⟩,r⟩:=x
  exact ⟨ho _ d,z,ne,k _ _ (.inl rfl) e,mA,⟨od,es,ep,k _ _ (.inr d) e2,c⟩,r⟩
 | own y=>obtain ⟨ob,e⟩:=x;exact ⟨ob,k _ _ (.inl rfl) e⟩
 | xd fs=>obtain ⟨mA,⟨od,es,ep,e,c⟩,r⟩:=x;exact ⟨mA,⟨od,es,ep,k _ _ (.inl rfl) e,c⟩,r⟩
 | rng lo hi=>obtain ⟨t,u,v,e⟩:=x;exact ⟨t,u,v,k _ _ (.inl rfl) e⟩
 | frz ob u ih=>obtain ⟨e,q⟩:=x;exact ⟨k _ _ (.inl rfl) e,ih q⟩
 | tbl ps=>
  have e:h.get? a=some { cls:= .none,data:= .fields ps }:=x
  show h'.get? a=some { cls:= .none,data:= .fields ps }
  exact k a _ (.inl rfl) e
 | met f y=>
  have e:h.get? a=some (W.methodObj (.ref f) (.ref y)):=x
  show h'.get? a=some (W.methodObj (.ref f) (.ref y))
  exact k a _ (.inl rfl) e
 | ext φ=>obtain ⟨p,⟨o,e⟩,st⟩:=x;exact ⟨st _ _ p fun o q=>k _ _ (.inl rfl) q,⟨o,k _ _ (.inl rfl) e⟩,st⟩
theorem HOk.lt (x:HOk P w H h) (e:H a=some o):a<h.objs.size:=(x a o e).lt
theorem HOk.fresh (x:HOk P w H h) (e:h.objs.size<=a):H a=none:=by
 cases q:H a with
 | none=>rfl
 | some u=>exact absurd (mE (x.lt q) e) (Nat.lt_irrefl _)
theorem HOk.kept (x:HOk P w H h) (k:∀b u,h.get? b=some u->h'.get? b=some u):HOk P w H h':=fun a o e=>
 (x a o e).stay (fun b u _ q=>k b u q) (fun _ q=>q) fun _ _ q=>q
theorem HOk.laid (x:HOk P w H h) (k:∀b u,h.get? b=some u->h'.get? b=some u) (hp:h.objs.size<=a) (new:ObjOk P w (upd H a o) h' a o):HOk P w (upd H a o) h':=fun b u e=>by
 have hn:=x.fresh hp
 by_cases hb:b=a
 ·subst hb;rw [xm] at e;cases e;exact new
 ·rw [xh hb] at e
  exact (x b u e).stay (fun c v _ q=>k c v q) (fun c q=>by rw [xh (xo q hn)];exact q) fun c xs q=>by rw [xh (xo q hn)];exact q
end
def Rd (H:Hp) (a:Addr) (u:HO):Prop:=H a=some u∨∃o,H a=some (.frz o u)
theorem Rd.ok {P:Program} {w:World} {H:Hp} {h:Heap} {a:Addr} {u:HO} (r:Rd H a u) (x:HOk P w H h):ObjOk P w H h a u:=by
 rcases r with r | ⟨o,r⟩
 ·exact x a u r
 ·obtain ⟨_,q⟩:=x a _ r
  exact q
def Mut:Option HO->Prop
 | some (.lst _)=>True
 | some (.dK _)=>True
 | some (.dT _)=>True
 | some (.set _ _)=>True
 | some (.ins _ _ _)=>True
 | some (.ext _)=>True
 | _=>False
section
variable {P:Program} {w:World} {H:Hp} {h h':Heap} {x e:Addr} {o':HO}
theorem HOk.write (ok:HOk P w H h) (mu:Mut (H x)) (he:e=x∨H e=some (.own x)) (k:∀b u,b≠e->h.get? b=some u->h'.get? b=some u) (heo:∃u,h'.get? e=some u)
  (new:ObjOk P w (upd H x o') h' x o'):HOk P w (upd H x o') h':=fun b u q=>by
 have nown:∀c y,H c=some (.own y)->c≠x:=fun c y r z=>by subst z;rw [r] at mu;exact mu
 have ntup:∀c xs,H c=some (.tup xs)->c≠x:=fun c xs r z=>by subst z;rw [r] at mu;exact mu
 by_cases hb:b=x
 ·subst hb;rw [xm] at q;cases q;exact new
 ·rw [xh hb] at q
  by_cases hbe:b=e
  ·have q':H b=some (.own x):=by
    rcases he with z | z
    ·exact absurd (hbe.trans z) hb
    ·rw [hbe];exact z
   rw [q] at q';cases q'
   obtain ⟨v,hv⟩:=heo
   exact ⟨v,by rw [hbe];exact hv⟩
  ·refine (ok b u q).stay (fun c v hc r=>k c v ?_ r) (fun c r=>by rw [xh (nown c b r)];exact r) fun c xs r=>by rw [xh (ntup c xs r)];exact r
   rcases hc with rfl | hc
   ·exact hbe
   ·rintro rfl
    rcases he with z | z
    ·exact nown c b hc z
    ·rw [hc] at z;cases z;exact hb rfl
end
structure Un (fs ex:List Addr) (H H':Hp) (h h':Heap):Prop where
 keep:∀b o,h.get? b=some o->H b=none->b∉fs->b∉ex->h'.get? b=some o
 slot:∀b o,h.get? b=some o->H b=none->b∈fs->b∉ex->∃sl,h'.get? b=some { o with slots:=sl }
 free:∀b o,h.get? b=some o->H b=none->b∉ex->H' b=none
 there:∀b o,h.get? b=some o->b∉ex->∃o',h'.get? b=some o'
 tups:∀b xs,H b=some (.tup xs)->H' b=some (.tup xs)
 frzs:∀b o u,H b=some (.frz o u)->H' b=some (.frz o u)
 tbls:∀b ps,H b=some (.tbl ps)->∃more,H' b=some (.tbl (ps++more))
section
variable {fs fs' ex ex':List Addr} {H H1 H2:Hp} {h h1 h2 h':Heap} {a x e:Addr} {o:HO}
theorem Un.any (u:Un fs ex H H1 h h1) {b:Addr} {ob:Obj} (q:h.get? b=some ob) (n:H b=none) (hx:b∉ex):∃sl,h1.get? b=some { ob with slots:=sl }:=by
 by_cases hb:b∈fs
 ·exact u.slot b ob q n hb hx
 ·exact ⟨ob.slots,u.keep b ob q n hb hx⟩
theorem Un.kept (k:∀b u,h.get? b=some u->h'.get? b=some u):Un fs ex H H h h':=
 ⟨fun b ob q _ _ _=>k b ob q,fun b ob q _ _ _=>⟨ob.slots,k b ob q⟩,fun _ _ _ n _=>n,fun b ob q _=>⟨ob,k b ob q⟩,fun _ _ q=>q,fun _ _ _ q=>q,fun _ ps q=>⟨#[],by rw [q];simp⟩⟩
theorem Un.refl:Un fs ex H H h h:=Un.kept fun _ _ q=>q
theorem Un.laid (k:∀b u,h.get? b=some u->h'.get? b=some u) (hp:h.objs.size<=a) (hn:H a=none):Un fs ex H (upd H a o) h h' where
 keep:=fun b u q _ _ _=>k b u q
 slot:=fun b u q _ _ _=>⟨u.slots,k b u q⟩
 free:=fun b u q n _=>by rw [xh (Nat.ne_of_lt (mE (Heap.lt_size q) hp))];exact n
 there:=fun b u q _=>⟨u,k b u q⟩
 tups:=fun b xs q=>by rw [xh (xo q hn)];exact q
 frzs:=fun b u xs q=>by rw [xh (xo q hn)];exact q
 tbls:=fun b ps q=>⟨#[],by rw [xh (xo q hn),q];simp⟩
theorem Un.write (mu:Mut (H x)) (he:e=x∨H e=some (.own x)) (k:∀b u,b≠e->h.get? b=some u->h'.get? b=some u) (heo:∃u,h'.get? e=some u):Un fs ex H (upd H x o) h h':=by
 have hx:∀b,H b=none->b≠x:=fun b n z=>by subst z;rw [n] at mu;exact mu
 have hb:∀b,H b=none->b≠e:=fun b n z=>by
  subst z
  rcases he with r | r
  ·exact hx b n r
  ·rw [n] at r;cases r
 have hm:∀b u,H b=some u->¬Mut (some u)->b≠x:=fun b u q nm z=>by subst z;rw [q] at mu;exact nm mu
 refine ⟨fun b u q n _ _=>k b u (hb b n) q,fun b u q n _ _=>⟨u.slots,k b u (hb b n) q⟩,fun b u q n _=>by rw [xh (hx b n)];exact n,fun b u q _=>?_,
  fun b xs q=>by rw [xh (hm b _ q fun z=>z)];exact q,fun b u xs q=>by rw [xh (hm b _ q fun z=>z)];exact q,fun b ps q=>⟨#[],by rw [xh (hm b _ q fun z=>z),q];simp⟩⟩
 by_cases hbe:b=e
 ·subst hbe;exact heo
 ·exact ⟨u,k b u hbe q⟩
end
noncomputable def trk (h:Heap) (H:Hp):List Addr:=(List.range h.objs.size).filter fun a=>(H a).isSome
def hidT (h:Heap) (H:Hp):Heap:=W.hideAll h (trk h H)
theorem Wy (h:Heap) (H:Hp):(hidT h H).objs.size=h.objs.size:=W.hideAll_size _ _
theorem jr {h:Heap} {H:Hp} {b:Addr} {o:Obj} (e:h.get? b=some o) (n:H b=none):(hidT h H).get? b=some o:=
 W.hideAll_get _ e fun hm=>by
  have q:(H b).isSome=true:=(List.mem_filter.mp hm).2
  rw [n] at q;simp at q
theorem Jm {h:Heap} {H:Hp} {b:Addr} {o:Obj} (e:(hidT h H).get? b=some o):h.get? b=some o/\H b=none:=by
 have e':h.get? b=some o:=W.of_hideAll (trk h H) e
 refine ⟨e',?_⟩
 cases q:H b with
 | none=>rfl
 | some x=>
  have hm:b∈trk h H:=List.mem_filter.mpr ⟨List.mem_range.mpr (Heap.lt_size e'),by simp [q]⟩
  have z:(hidT h H).get? b=none:=W.hideAll_none (trk h H) hm
  rw [z] at e;cases e
noncomputable def allNews (g h:Heap) (L:Addr):List (Addr×Obj):=(List.range h.objs.size).filterMap fun a=>if a=L∨(g.get? a).isSome=true then none else (h.get? a).map fun o=>(a,o)
noncomputable def rest (g h:Heap) (L d:Addr):List (Addr×Obj):=(allNews g h L).filter fun p=>decide (p.1≠d)
structure Mod (K:W.Frag) (mg:Str->Option Value) (base:Heap):Prop where
 kin:K.In base
 glob:base.Ns mainGlobals mg
 blt:∃mb,base.Ns builtinsNs mb/\∀x:Str,x≠ "__name__" ->mb x=bootBuiltins x
 nolimit:base.NoLimit
structure Cx where
 prog:Program
 w:World
 K:W.Frag
 mg:Str->Option Value
 base:Heap
 A:Around
 N:List Str
 s₀:Shared
 H₀:Hp
 env:Env
 outer:List Env
 stack:List Env
 ex:List Addr
 fn:Str->Bool
 calm:Bool
 pn:List (Addr×Obj)
 xe:Value->Shared->Prop
noncomputable def frs (l:List Env):List Addr:=l.filterMap (·.frame)
abbrev Cx.fs (X:Cx):List Addr:=frs X.outer
def Vis (sc:Scope) (x:Str):Prop:=sc.names.lookup x=some .local∨sc.names.lookup x=some .cell∨sc.names.lookup x=some .free
def Loc (sc:Scope) (x:Str):Prop:=sc.names.lookup x=some .local∨sc.names.lookup x=some .cell
def Look (env:Env) (h:Heap) (m:Str->Option Value) (x:Str) (u:Value):Prop:=
 (env.kindOf x=some .local/\m x=some u)∨((env.kindOf x=some .cell∨env.kindOf x=some .free)/\∃c,env.cells.lookup x=some c/\h.IsCell c (some u))
structure Cx.Ok (X:Cx):Prop where
 mod:Mod X.K X.mg X.base
 kind:X.env.scope.kind= .function
 glob:X.env.globals=mainGlobals
 blt:X.env.builtins=builtinsNs
 above:X.s₀.heap.objs.size<=X.env.locals
 inj:∀x y c,X.env.cells.lookup x=some c->X.env.cells.lookup y=some c->x=y
 has:∀x,(X.env.kindOf x=some .cell∨X.env.kindOf x=some .free)->∃c,X.env.cells.lookup x=some c
 cab:∀x c,X.fn x=true->X.env.cells.lookup x=some c->X.s₀.heap.objs.size<=c
 hd:X.calm=true->X.A.handled=none
 frames:X.A.frames=some X.stack
 stk:X.stack=X.outer∨(X.stack=X.env::X.outer/\X.env.frame=some X.env.locals)
 exf:∀b∈X.ex,b≠X.env.locals/\∀x c,X.env.cells.lookup x=some c->c≠b
 bs:∀b o,X.base.get? b=some o->X.s₀.heap.get? b=some o/\X.H₀ b=none
 bsz:X.base.objs.size<=X.s₀.heap.objs.size
 noex:∀b o,X.base.get? b=some o->b∉X.ex
 exfs:∀b∈X.ex,b∉X.fs
 funs:X.s₀.heap.FunFrames X.base X.outer
 frf:∀b∈X.fs,X.H₀ b=none
structure Inv (X:Cx) (pins:List (Addr×Obj)) (σ:List (Option V)) (H:Hp) (s:Shared):Prop where
 ok:X.Ok
 os:s.os=X.s₀.os
 bare:AllBare s.gens
 base:Un X.fs X.ex X.H₀ H X.s₀.heap s.heap
 loc:∃m,s.heap.Ns X.env.locals m/\∀(i:Nat) (x:Str) (v:V),X.N[i]? =some x->σ[i]? =some (some v)->Vis X.env.scope x->∃u,RelV v u/\Look X.env s.heap m x u
 cell:∀x c,X.env.cells.lookup x=some c->∃v,s.heap.IsCell c v
 free:H X.env.locals=none
 freeC:∀x c,X.env.cells.lookup x=some c->H c=none
 pin:∀p∈X.pn++pins,s.heap.get? p.1=some p.2/\H p.1=none/\p.1≠X.env.locals/\p.1∉X.fs/\∀v,p.2.data≠ .cell v
 hok:HOk X.prog X.w H s.heap
 len:σ.length=X.N.length
section
variable {X:Cx} {pins:List (Addr×Obj)} {σ:List (Option V)} {H H':Hp} {s:Shared} {h':Heap}
theorem Cx.Ok.nofr (ok:X.Ok) {b:Addr} {o:Obj} (e:X.base.get? b=some o):b∉X.fs:=fun hb=>by
 have:=(ok.funs.mem hb).1
 rw [e] at this;cases this
theorem Inv.bs (I:Inv X pins σ H s):∀b o,X.base.get? b=some o->s.heap.get? b=some o/\H b=none:=fun b o e=>
 ⟨I.base.keep b o (I.ok.bs b o e).1 (I.ok.bs b o e).2 (I.ok.nofr e) (I.ok.noex b o e),I.base.free b o (I.ok.bs b o e).1 (I.ok.bs b o e).2 (I.ok.noex b o e)⟩
theorem Inv.bk (I:Inv X pins σ H s):∀b o,X.base.get? b=some o->s.heap.get? b=some o:=fun b o e=>(I.bs b o e).1
theorem Inv.mod (I:Inv X pins σ H s):Mod X.K X.mg X.base:=I.ok.mod
theorem Inv.kIn (I:Inv X pins σ H s):X.K.In s.heap:=I.ok.mod.kin.keeps I.bk
theorem Inv.lt (I:Inv X pins σ H s):X.env.locals<s.heap.objs.size:=let ⟨_,hn,_⟩:=I.loc;hn.lt
theorem Inv.sz (I:Inv X pins σ H s):X.s₀.heap.objs.size<=s.heap.objs.size:=Nat.le_trans I.ok.above (Nat.le_of_lt I.lt)
theorem Inv.nofs (I:Inv X pins σ H s) {a:Addr} (h:s.heap.objs.size<=a):a∉X.fs:=fun hb=>by
 obtain ⟨_,o,ho,_⟩:=I.ok.funs.mem hb
 exact absurd (mE (Heap.lt_size ho) (Nat.le_trans I.sz h)) (Nat.lt_irrefl _)
theorem Inv.cne (I:Inv X pins σ H s):∀x c,X.env.cells.lookup x=some c->c≠X.env.locals:=fun x c e z=>by
 obtain ⟨v,o,ho,hd⟩:=I.cell x c e
 obtain ⟨m,⟨o',es,ep,ho',hd',_⟩,_⟩:=I.loc
 rw [z,ho'] at ho;cases ho;rw [hd'] at hd;cases hd
theorem Inv.funs (I:Inv X pins σ H s):s.heap.FunFrames X.base X.outer:=by
 have all:∀(l:List Env),(∀b∈frs l,b∈X.fs)->X.s₀.heap.FunFrames X.base l->s.heap.FunFrames X.base l:=by
  intro l
  induction l with
  | nil=>intro _ _;trivial
  | cons env r ih=>
   intro hs hl
   obtain ⟨hk,⟨L,o,hf,hn,ho,hd⟩,hr⟩:=hl
   have hL:L∈X.fs:=hs L (by unfold frs;rw [List.filterMap_cons,hf];exact List.mem_cons_self)
   obtain ⟨sl,e⟩:=I.base.slot L o ho (I.ok.frf L hL) hL fun z=>I.ok.exfs L z hL
   exact ⟨hk,⟨L,_,hf,hn,e,hd⟩,ih (fun b hb=>hs b (by unfold frs;rw [List.filterMap_cons,hf];exact mI _ hb)) hr⟩
 exact all X.outer (fun _ hb=>hb) I.ok.funs
theorem Inv.stack (I:Inv X pins σ H s):s.heap.FunFrames X.base X.stack:=by
 rcases I.ok.stk with e | ⟨e,hf⟩
 ·rw [e];exact I.funs
 ·rw [e]
  obtain ⟨m,hn,_⟩:=I.loc
  refine .cons (by rw [I.ok.kind];decide) hf hn ?_ I.funs
  exact Heap.get?_none_of_le (Nat.le_trans I.ok.bsz I.ok.above)
theorem Inv.stkSub (I:Inv X pins σ H s):∀b∈frs X.stack,b∈X.env.locals::X.fs:=fun b hb=>by
 rcases I.ok.stk with e | ⟨e,hf⟩
 ·rw [e] at hb;exact mI _ hb
 ·rw [e] at hb
  unfold frs at hb
  rw [List.filterMap_cons,hf] at hb
  exact hb
theorem Inv.stkFree (I:Inv X pins σ H s):∀b∈frs X.stack,H b=none:=fun b hb=>by
 rcases List.mem_cons.mp (I.stkSub b hb) with e | hb
 ·rw [e];exact I.free
 ·obtain ⟨_,o,ho,_⟩:=I.ok.funs.mem hb
  exact I.base.free b o ho (I.ok.frf b hb) fun z=>I.ok.exfs b z hb
theorem Inv.step {g':Array GenState} {t':Nat} {d':Drawn} {ch:List Addr} (I:Inv X pins σ H s)
  (hch:∀b∈ch,(b∈X.ex∨X.s₀.heap.objs.size<=b)/\b≠X.env.locals/\(∀x c,X.env.cells.lookup x=some c->c≠b)/\∀p∈X.pn++pins,p.1≠b)
  (keep:∀b o,b≠X.env.locals->b∉X.fs->b∉ch->s.heap.get? b=some o->H b=none->h'.get? b=some o)
  (slot:∀b o,b≠X.env.locals->b∈X.fs->b∉ch->s.heap.get? b=some o->H b=none->∃sl,h'.get? b=some { o with slots:=sl }) (free:∀b o,b∉ch->s.heap.get? b=some o->H b=none->H' b=none)
  (there:∀b o,b∉ch->s.heap.get? b=some o->∃o',h'.get? b=some o')
  (tups:∀b xs,H b=some (.tup xs)->H' b=some (.tup xs)) (frzs:∀b o u,H b=some (.frz o u)->H' b=some (.frz o u)) (tbls:∀b ps,H b=some (.tbl ps)->∃more,H' b=some (.tbl (ps++more)))
  (ns:∀m,s.heap.Ns X.env.locals m->h'.Ns X.env.locals m) (hok:HOk X.prog X.w H' h') (hg:AllBare g'):
  Inv X pins σ H' { s with heap:=h',gens:=g',drawn:=d',toks:=t' }:=by
 have neL:∀b o,X.s₀.heap.get? b=some o->b≠X.env.locals:=fun b o e=>Nat.ne_of_lt (mE (Heap.lt_size e) I.ok.above)
 have neC:∀b o,X.s₀.heap.get? b=some o->b∉X.ex->b∉ch:=fun b o e hx hb=>by
  rcases (hch b hb).1 with z | z
  ·exact hx z
  ·exact absurd (mE (Heap.lt_size e) z) (Nat.lt_irrefl _)
 have cellK:∀x c,X.env.cells.lookup x=some c->∀v,s.heap.IsCell c v->h'.IsCell c v:=fun x c e v ⟨o,ho,hd⟩=>by
  have nch:c∉ch:=fun z=>(hch c z).2.2.1 x c e rfl
  by_cases hc:c∈X.fs
  ·obtain ⟨sl,q⟩:=slot c o (I.cne x c e) hc nch ho (I.freeC x c e)
   exact ⟨_,q,hd⟩
  ·exact ⟨o,keep c o (I.cne x c e) hc nch ho (I.freeC x c e),hd⟩
 refine ⟨I.ok,I.os,hg,⟨fun b o e n hb hx=>?_,fun b o e n hb hx=>?_,fun b o e n hx=>?_,fun b o e hx=>?_,fun b xs e=>tups b xs (I.base.tups b xs e),fun b o xs e=>frzs b o xs (I.base.frzs b o xs e),fun b ps e=>?_⟩,?_,fun x c e=>?_,?_,fun x c e=>?_,fun p hp=>?_,hok,I.len⟩
 ·exact keep b o (neL b o e) hb (neC b o e hx) (I.base.keep b o e n hb hx) (I.base.free b o e n hx)
 ·obtain ⟨sl,e1⟩:=I.base.slot b o e n hb hx
  obtain ⟨sl',e2⟩:=slot b _ (neL b o e) hb (neC b o e hx) e1 (I.base.free b o e n hx)
  exact ⟨sl',e2⟩
 ·obtain ⟨o',e1⟩:=I.base.there b o e hx
  exact free b o' (neC b o e hx) e1 (I.base.free b o e n hx)
 ·obtain ⟨o',e1⟩:=I.base.there b o e hx
  exact there b o' (neC b o e hx) e1
 ·obtain ⟨m1,e1⟩:=I.base.tbls b ps e
  obtain ⟨m2,e2⟩:=tbls b _ e1
  exact ⟨m1++m2,by rw [e2,Array.append_assoc]⟩
 ·obtain ⟨m,hn,hl⟩:=I.loc
  refine ⟨m,ns m hn,fun i x v e1 e2 e3=>?_⟩
  obtain ⟨u,r,l⟩:=hl i x v e1 e2 e3
  refine ⟨u,r,?_⟩
  rcases l with l | ⟨k,c,e,z⟩
  ·exact .inl l
  ·exact .inr ⟨k,c,e,cellK x c e _ z⟩
 ·obtain ⟨v,z⟩:=I.cell x c e
  exact ⟨v,cellK x c e v z⟩
 ·obtain ⟨m,⟨o,_,_,ho,_⟩,_⟩:=I.loc
  exact free _ o (fun z=>(hch _ z).2.1 rfl) ho I.free
 ·obtain ⟨v,o,ho,hd⟩:=I.cell x c e
  exact free c o (fun z=>(hch c z).2.2.1 x c e rfl) ho (I.freeC x c e)
 ·obtain ⟨e,n,ne,nf,d⟩:=I.pin p hp
  have nch:p.1∉ch:=fun z=>(hch p.1 z).2.2.2 p hp rfl
  exact ⟨keep p.1 p.2 ne nf nch e n,free p.1 p.2 nch e n,ne,nf,d⟩
theorem Inv.un {t':Nat} (I:Inv X pins σ H s) (u:Un X.fs [] H H' s.heap h') (hok:HOk X.prog X.w H' h'):Inv X pins σ H' { s with heap:=h',toks:=t' }:=by
 obtain ⟨m,⟨o,es,ep,ho,r⟩,_⟩:=id I.loc
 obtain ⟨sl,hL⟩:=u.any ho I.free (by simp)
 exact I.step (g':=s.gens) (d':=s.drawn) (ch:=[]) (fun _ z=>nomatch z) (fun b o _ hb _ e n=>u.keep b o e n hb (by simp)) (fun b o _ hb _ e n=>u.slot b o e n hb (by simp)) (fun b o _ e n=>u.free b o e n (by simp)) (fun b o _ e=>u.there b o e (by simp)) u.tups u.frzs u.tbls (fun m' hm=>by
  obtain ⟨o',es',ep',ho',r'⟩:=hm
  rw [ho] at ho';cases ho'
  exact ⟨_,es',ep',hL,r'⟩) hok I.bare
theorem Inv.call {g':Array GenState} {t':Nat} {d':Drawn} {ch:List Addr} (I:Inv X pins σ H s) (u:Un (frs X.stack) ch H H' s.heap h') (hok:HOk X.prog X.w H' h') (hg:AllBare g')
  (hch:∀b∈ch,(b∈X.ex∨X.s₀.heap.objs.size<=b)/\b≠X.env.locals/\(∀x c,X.env.cells.lookup x=some c->c≠b)/\∀p∈X.pn++pins,p.1≠b):
  Inv X pins σ H' { s with heap:=h',gens:=g',drawn:=d',toks:=t' }:=by
 obtain ⟨m,⟨o,es,ep,ho,r⟩,_⟩:=id I.loc
 obtain ⟨sl,hL⟩:=u.any ho I.free fun z=>(hch _ z).2.1 rfl
 exact I.step (ch:=ch) hch (fun b o hL hb hc e n=>u.keep b o e n (fun z=>(List.mem_cons.mp (I.stkSub b z)).elim hL hb) hc) (fun b o _ _ hc e n=>u.any e n hc) (fun b o hc e n=>u.free b o e n hc) (fun b o hc e=>u.there b o e hc) u.tups u.frzs u.tbls (fun m' hm=>by
  obtain ⟨o',es',ep',ho',r'⟩:=hm
  rw [ho] at ho';cases ho'
  exact ⟨_,es',ep',hL,r'⟩) hok hg
theorem Inv.turned {t':Nat} {it:Addr} (I:Inv X pins σ H s) (k:∀b o,b≠it->s.heap.get? b=some o->h'.get? b=some o) (hn:H it=none) (hL:it≠X.env.locals)
  (h1:it∈X.ex∨X.s₀.heap.objs.size<=it) (h2:∀x c,X.env.cells.lookup x=some c->c≠it) (h3:∀p∈X.pn++pins,p.1≠it):Inv X pins σ H { s with heap:=h',toks:=t' }:=by
 have nit:∀b u,H b=some u->b≠it:=fun b u e z=>by rw [z,hn] at e;cases e
 refine I.step (g':=s.gens) (d':=s.drawn) (ch:=[it]) (fun b hb=>?_) (fun b o _ _ hc e _=>k b o (fun z=>hc (by simp [z])) e) (fun b o _ _ hc e _=>⟨o.slots,k b o (fun z=>hc (by simp [z])) e⟩) (fun _ _ _ _ n=>n)
  (fun b o hc e=>⟨o,k b o (fun z=>hc (by simp [z])) e⟩) (fun _ _ e=>e) (fun _ _ _ e=>e) (fun b ps e=>⟨#[],by rw [e];simp⟩) (fun m hm=>?_) (fun b u e=>?_) I.bare
 ·have e:b=it:=by simpa using hb
  subst e
  exact ⟨h1,hL,h2,h3⟩
 ·obtain ⟨o,es,ep,ho,r⟩:=hm
  exact ⟨o,es,ep,k _ o (Ne.symm hL) ho,r⟩
 ·refine (I.hok b u e).stay (fun c v hc q=>k c v ?_ q) (fun _ q=>q) fun _ _ q=>q
  rcases hc with z | z
  ·rw [z];exact nit b u e
  ·exact nit c _ z
theorem Inv.tok (I:Inv X pins σ H s) (t:Nat):Inv X pins σ H { s with toks:=t }:=I.un (h':=s.heap) (t':=t) Un.refl I.hok
theorem Inv.kept {t':Nat} (I:Inv X pins σ H s) (k:∀b u,s.heap.get? b=some u->h'.get? b=some u):Inv X pins σ H { s with heap:=h',toks:=t' }:=I.un (Un.kept k) (I.hok.kept k)
theorem Inv.laid {a:Addr} {o:HO} {t':Nat} (I:Inv X pins σ H s) (k:∀b u,s.heap.get? b=some u->h'.get? b=some u) (hp:s.heap.objs.size<=a) (new:ObjOk X.prog X.w (upd H a o) h' a o):
  Inv X pins σ (upd H a o) { s with heap:=h',toks:=t' }:=I.un (Un.laid k hp (I.hok.fresh hp)) (I.hok.laid k hp new)
theorem Inv.write {x e:Addr} {o:HO} {t':Nat} (I:Inv X pins σ H s) (mu:Mut (H x)) (he:e=x∨H e=some (.own x)) (k:∀b u,b≠e->s.heap.get? b=some u->h'.get? b=some u) (heo:∃u,h'.get? e=some u)
  (new:ObjOk X.prog X.w (upd H x o) h' x o):Inv X pins σ (upd H x o) { s with heap:=h',toks:=t' }:=I.un (Un.write mu he k heo) (I.hok.write mu he k heo new)
theorem Inv.pins_of {pins':List (Addr×Obj)} (I:Inv X pins σ H s) (h:∀p∈pins',s.heap.get? p.1=some p.2/\H p.1=none/\p.1≠X.env.locals/\p.1∉X.fs/\∀v,p.2.data≠ .cell v):Inv X pins' σ H s:=
 ⟨I.ok,I.os,I.bare,I.base,I.loc,I.cell,I.free,I.freeC,fun p hp=>(List.mem_append.mp hp).elim (fun z=>I.pin p (List.mem_append_left _ z)) (h p),I.hok,I.len⟩
theorem uI {N:List Str} (hN:N.Nodup) {i j:Nat} {x:Str} (a:N[i]? =some x) (b:N[j]? =some x):i=j:=by
 obtain ⟨h1,e1⟩:=List.getElem?_eq_some_iff.mp a
 obtain ⟨h2,e2⟩:=List.getElem?_eq_some_iff.mp b
 exact (List.getElem_inj hN).mp (e1.trans e2.symm)
theorem VW {M:Model} {A:Around} {E:Value->Shared->Prop} {i:Nat} {x:Str} {v:V} {u:Value} {Q:Unit->Shared->Prop} (I:Inv X pins σ H s) (hN:X.N.Nodup) (hi:X.N[i]? =some x) (hx:Loc X.env.scope x) (r:RelV v u)
  (h:∀s',Inv X pins (σ.set i (some v)) H s'->(∃a,Heap.SameBut a s.heap s'.heap/\(a=X.env.locals∨X.env.cells.lookup x=some a))->Q () s') (hf:X.fn x=true∨X.env.scope.names.lookup x=some .local:=by first | exact .inl rfl | exact .inr rfl | assumption):wpAny M A (storeName X.env x u) Q E s:=by
 obtain ⟨m,hn,hl⟩:=id I.loc
 have hcls:(X.env.scope.kind== .class || (X.env.scope.kind== .module && X.env.locals !=X.env.globals))=false:=by rw [I.ok.kind];rfl
 have hiσ:i<σ.length:=by rw [I.len];exact (List.getElem?_eq_some_iff.mp hi).1
 have cne:=I.cne
 have tracked:∀{a:Addr} {h':Heap},(∃o,s.heap.get? a=some o/\H a=none)->Heap.SameBut a s.heap h'->HOk X.prog X.w H h':=fun {a h'} ha hs b ob e=>by
  obtain ⟨_,_,hfree⟩:=ha
  refine (I.hok b ob e).stay (fun c w' hc q=>(hs.2 c ?_).trans q) (fun _ q=>q) fun _ _ q=>q
  rintro rfl
  rcases hc with rfl | hc
  ·rw [hfree] at e;cases e
  ·rw [hfree] at hc;cases hc
 rcases hx with hk | hk
 ·refine wpAny_storeName_local hk hn (fun h' hn' hs=>?_) hcls
  obtain ⟨oL,_,_,hoL,_⟩:=id hn
  refine h _ ⟨I.ok,I.os,I.bare,⟨fun b o e n hb hx=>?_,fun b o e n hb hx=>?_,I.base.free,fun b o e hx=>?_,I.base.tups,I.base.frzs,I.base.tbls⟩,⟨_,hn',fun j y v' e1 e2 e3=>?_⟩,fun y c e=>?_,I.free,I.freeC,fun p hp=>?_,tracked ⟨oL,hoL,I.free⟩ hs,by simpa using I.len⟩ ⟨_,hs,.inl rfl⟩
  ·exact (hs.2 b (Nat.ne_of_lt (mE (Heap.lt_size e) I.ok.above))).trans (I.base.keep b o e n hb hx)
  ·obtain ⟨sl,e1⟩:=I.base.slot b o e n hb hx
   exact ⟨sl,(hs.2 b (Nat.ne_of_lt (mE (Heap.lt_size e) I.ok.above))).trans e1⟩
  ·obtain ⟨o',e1⟩:=I.base.there b o e hx
   exact ⟨o',(hs.2 b (Nat.ne_of_lt (mE (Heap.lt_size e) I.ok.above))).trans e1⟩
  ·by_cases hj:j=i
   ·subst hj
    rw [hi] at e1;cases e1
    rw [List.getElem?_set_self hiσ] at e2
    cases e2
    exact ⟨u,r,.inl ⟨hk,by simp⟩⟩
   ·rw [mG (Ne.symm hj)] at e2
    obtain ⟨u',r',q⟩:=hl j y v' e1 e2 e3
    refine ⟨u',r',?_⟩
    rcases q with ⟨k,e⟩ | ⟨k,c,e,z⟩
    ·refine .inl ⟨k,?_⟩
     have:y≠x:=fun e=>hj (uI hN e1 (e▸hi))
     simp [this,e]
    ·exact .inr ⟨k,c,e,z.sameBut hs (cne y c e)⟩
  ·obtain ⟨w',z⟩:=I.cell y c e
   exact ⟨w',z.sameBut hs (cne y c e)⟩
  ·obtain ⟨e,n,ne,nf,d⟩:=I.pin p hp
   exact ⟨(hs.2 p.1 ne).trans e,n,ne,nf,d⟩
 ·have hfn:X.fn x=true:=by
   rcases hf with z | z
   ·exact z
   ·rw [z] at hk;cases hk
  obtain ⟨c,hc⟩:=I.ok.has x (.inl hk)
  obtain ⟨w',z⟩:=I.cell x c hc
  refine wpAny_storeName_cell I.ok.kind hk hc z (fun h' hc' hs=>?_)
  obtain ⟨oc,hoc,hocd⟩:=id z
  refine h { s with heap:=h' } ⟨I.ok,I.os,I.bare,⟨fun b o e n hb hx=>?_,fun b o e n hb hx=>?_,I.base.free,fun b o e hx=>?_,I.base.tups,I.base.frzs,I.base.tbls⟩,⟨m,hn.sameBut hs (Ne.symm (cne x c hc)),fun j y v' e1 e2 e3=>?_⟩,fun y c' e=>?_,I.free,I.freeC,fun p hp=>?_,tracked ⟨oc,hoc,I.freeC x c hc⟩ hs,by simpa using I.len⟩ ⟨c,hs,.inr hc⟩
  ·exact (hs.2 b (Nat.ne_of_lt (mE (Heap.lt_size e) (I.ok.cab x c hfn hc)))).trans (I.base.keep b o e n hb hx)
  ·obtain ⟨sl,e1⟩:=I.base.slot b o e n hb hx
   exact ⟨sl,(hs.2 b (Nat.ne_of_lt (mE (Heap.lt_size e) (I.ok.cab x c hfn hc)))).trans e1⟩
  ·obtain ⟨o',e1⟩:=I.base.there b o e hx
   exact ⟨o',(hs.2 b (Nat.ne_of_lt (mE (Heap.lt_size e) (I.ok.cab x c hfn hc)))).trans e1⟩
  ·by_cases hj:j=i
   ·subst hj
    rw [hi] at e1;cases e1
    rw [List.getElem?_set_self hiσ] at e2
    cases e2
    exact ⟨u,r,.inr ⟨.inl hk,c,hc,hc'⟩⟩
   ·rw [mG (Ne.symm hj)] at e2
    obtain ⟨u',r',q⟩:=hl j y v' e1 e2 e3
    refine ⟨u',r',?_⟩
    rcases q with q | ⟨k,c',e,z'⟩
    ·exact .inl q
    ·refine .inr ⟨k,c',e,z'.sameBut hs ?_⟩
     rintro rfl
     exact hj (uI hN e1 (I.ok.inj _ _ _ e hc▸hi))
  ·by_cases hcc:c'=c
   ·subst hcc;exact ⟨_,hc'⟩
   ·obtain ⟨w2,z2⟩:=I.cell y c' e
    exact ⟨w2,z2.sameBut hs hcc⟩
  ·obtain ⟨e,n,ne,nf,d⟩:=I.pin p hp
   refine ⟨(hs.2 p.1 ?_).trans e,n,ne,nf,d⟩
   intro q
   rw [q,hoc] at e
   have q':oc=p.2:=Option.some.inj e
   exact d w' (by rw [<-q'];exact hocd)
theorem zc {M:Model} {A:Around} {E:Value->Shared->Prop} {i:Nat} {x:Str} {v:V} {u:Value} {Q:Unit->Shared->Prop} (I:Inv X pins σ H s) (hN:X.N.Nodup) (hi:X.N[i]? =some x) (hx:Loc X.env.scope x) (r:RelV v u)
  (h:∀s',Inv X pins (σ.set i (some v)) H s'->Q () s') (hf:X.fn x=true∨X.env.scope.names.lookup x=some .local:=by first | exact .inl rfl | exact .inr rfl | assumption):wpAny M A (storeName X.env x u) Q E s:=
 VW I hN hi hx r (fun s' I' _=>h s' I') hf
theorem Inv.call' {s':Shared} {ch:List Addr} (I:Inv X pins σ H s) (ho:s'.os=s.os) (u:Un (frs X.stack) ch H H' s.heap s'.heap) (hok:HOk X.prog X.w H' s'.heap) (hg:AllBare s'.gens)
  (hch:∀b∈ch,(b∈X.ex∨X.s₀.heap.objs.size<=b)/\b≠X.env.locals/\(∀x c,X.env.cells.lookup x=some c->c≠b)/\∀p∈X.pn++pins,p.1≠b):Inv X pins σ H' s':=by
 obtain ⟨h',g',d',t',o'⟩:=s'
 have e:o'=s.os:=ho
 subst e
 exact I.call (g':=g') (t':=t') (d':=d') u hok hg hch
end
abbrev XK:=Value->Option Addr->Hp->Prop
abbrev St:=List (Option V)
abbrev VK:=V->Hp->Prop
abbrev TE:=St->Hp->VK->Prop
abbrev TT:=St->Hp->(Bool->Hp->Prop)->Prop
abbrev TA:=St->Hp->(List V->Hp->Prop)->Prop
structure Ends where
 nx:St->Hp->Prop
 rt:VK
 bk:St->Hp->Prop:=fun _ _=>False
 ct:St->Hp->Prop:=fun _ _=>False
abbrev TS:=Ends->St->Hp->Prop
def EP (X:Cx) (pins:List (Addr×Obj)) (σ:St) (Q:VK) (u:Value) (s':Shared):Prop:=∃v H',Inv X pins σ H' s'/\RelV v u/\Q v H'
def TP (X:Cx) (pins:List (Addr×Obj)) (σ:St) (Q:Bool->Hp->Prop) (b:Bool) (s':Shared):Prop:=∃H',Inv X pins σ H' s'/\Q b H'
def AP (X:Cx) (pins:List (Addr×Obj)) (σ:St) (Q:List V->Hp->Prop) (us:List Value) (s':Shared):Prop:=∃vs H',Inv X pins σ H' s'/\Vals vs us/\Q vs H'
def SP (X:Cx) (pins:List (Addr×Obj)) (D:Ends) (f:Flow) (s':Shared):Prop:=
 match f with
 | .next=>∃σ' H',Inv X pins σ' H' s'/\D.nx σ' H'
 | .brk=>∃σ' H',Inv X pins σ' H' s'/\D.bk σ' H'
 | .cont=>∃σ' H',Inv X pins σ' H' s'/\D.ct σ' H'
 | .ret u=>∃v σ' H',Inv X pins σ' H' s'/\RelV v u/\D.rt v H'
def PE (X:Cx) (e:Expr) (t:TE):Prop:=
 ∀(pins:List (Addr×Obj)) (s:Shared) (σ:St) (H:Hp) (Q:VK),Inv X pins σ H s->t σ H Q->wpAny (model X.prog X.w) X.A (eval e X.env) (EP X pins σ Q) X.xe s
def PT (X:Cx) (e:Expr) (t:TT):Prop:=
 ∀(pins:List (Addr×Obj)) (s:Shared) (σ:St) (H:Hp) (Q:Bool->Hp->Prop),Inv X pins σ H s->t σ H Q->wpAny (model X.prog X.w) X.A (isTrue e X.env (eval e X.env)) (TP X pins σ Q) X.xe s
def PW (X:Cx) (e:Expr) (t:TT):Prop:=
 ∀(whole:Sem Value) (pins:List (Addr×Obj)) (s:Shared) (σ:St) (H:Hp) (Q:Bool->Hp->Prop),Inv X pins σ H s->t σ H Q->wpAny (model X.prog X.w) X.A (isTrue e X.env whole) (TP X pins σ Q) X.xe s
theorem PW.pt {X:Cx} {e:Expr} {t:TT} (h:PW X e t):PT X e t:=h _
def PA (X:Cx) (es:List Expr) (t:TA):Prop:=
 ∀(pos:Pos) (pins:List (Addr×Obj)) (s:Shared) (σ:St) (H:Hp) (Q:List V->Hp->Prop),Inv X pins σ H s->t σ H Q->wpAny (model X.prog X.w) X.A (spliced (backTo pos (starEach es X.env))) (AP X pins σ Q) X.xe s
def PS (X:Cx) (st:Stmt) (t:TS):Prop:=
 ∀(pins:List (Addr×Obj)) (s:Shared) (σ:St) (H:Hp) (D:Ends),Inv X pins σ H s->t D σ H->wpAny (model X.prog X.w) X.A (exec st X.env) (SP X pins D) X.xe s
def PSs (X:Cx) (st:List Stmt) (t:TS):Prop:=
 ∀(pins:List (Addr×Obj)) (s:Shared) (σ:St) (H:Hp) (D:Ends),Inv X pins σ H s->t D σ H->wpAny (model X.prog X.w) X.A (execs st X.env) (SP X pins D) X.xe s
theorem thn {α:Type} {t:Sem α} {Q Q':α->Shared->Prop} {M:Model} {A:Around} {E:Value->Shared->Prop} {s:Shared} (h:wpAny M A t Q E s) (hQ:∀a s,Q a s->Q' a s):wpAny M A t Q' E s:=wpAny_mono h hQ fun _ _ x=>x
section
variable {X:Cx}
def tVar (i:Nat):TE:=fun σ H Q=>∃v,σ[i]? =some (some v)/\Q v H
def tC (v:V):TE:=fun _ H Q=>Q v H
theorem xT {i:Nat} {x:Str} {pos:Pos} (hN:X.N[i]? =some x) (hv:Vis X.env.scope x) (hd:(x==("__debug__" :Str))=false:=by decide) (hcd:(x==("__classdict__" :Str))=false:=by decide):PE X (.Name x pos) (tVar i):=by
 intro pins s σ H Q I h
 obtain ⟨v,e,h⟩:=h
 obtain ⟨m,hn,hl⟩:=I.loc
 obtain ⟨u,r,l⟩:=hl i x v hN e hv
 have fin:EP X pins σ Q u s:=⟨v,H,I,r,h⟩
 rcases l with ⟨hk,hm⟩ | ⟨hk,c,hc,hcell⟩
 ·exact wpAny_Name (wpAny_loadName_local I.ok.kind hk hn hm fin) hd
 ·rcases hk with hk | hk
  ·exact wpAny_Name (wpAny_loadName_cell I.ok.kind hk hc hcell fin) hd
  ·exact wpAny_Name (wpAny_loadName_free I.ok.kind hk hc hcell fin hcd) hd
theorem K7 {i j pos}:PE X (.Constant (.int i) j pos) (tC (.int i)):=fun _ _ _ H _ I h=>wpAny_Constant_int ⟨.int i,H,I.tok _,⟨_,rfl⟩,h⟩
theorem xa9 {b j pos}:PE X (.Constant (.bool b) j pos) (tC (.bl b)):=fun _ _ _ H _ I h=>Constant_bool ⟨.bl b,H,I,rfl,h⟩
theorem K6 {j pos}:PE X (.Constant .none j pos) (tC .non):=fun _ _ _ H _ I h=>Constant_none ⟨.non,H,I,rfl,h⟩
theorem K3 {x j pos}:PE X (.Constant (.str x) j pos) (tC (.str x)):=fun _ _ _ H _ I h=>Calls.Constant_str ⟨.str x,H,I.tok _,⟨_,rfl⟩,h⟩
def Gl (X:Cx) (x:Str):Prop:=X.env.kindOf x=some .globalImplicit
theorem yz {E:Value->Shared->Prop} {pins:List (Addr×Obj)} {s:Shared} {σ:St} {H:Hp} {x:Str} {u:Value} {pos:Pos} {Q:Value->Shared->Prop} (I:Inv X pins σ H s) (hg:Gl X x) (hm:X.mg x=some u) (h:Q u s)
  (hd:(x==("__debug__" :Str))=false:=by decide):wpAny (model X.prog X.w) X.A (eval (.Name x pos) X.env) Q E s:=
 Calls.Name_function_global I.ok.kind hg (Calls.loadGlobal_global (by rw [I.ok.glob];exact I.mod.glob.keeps I.bk) hm h) hd
theorem vZ {E:Value->Shared->Prop} {pins:List (Addr×Obj)} {s:Shared} {σ:St} {H:Hp} {x:Str} {u:Value} {pos:Pos} {Q:Value->Shared->Prop} (I:Inv X pins σ H s) (hg:Gl X x) (hm:X.mg x=none) (hv:bootBuiltins x=some u) (h:Q u s)
  (hn:x≠ "__name__" :=by decide) (hd:(x==("__debug__" :Str))=false:=by decide):wpAny (model X.prog X.w) X.A (eval (.Name x pos) X.env) Q E s:=by
 obtain ⟨mb,h1,h2⟩:=I.mod.blt
 exact Calls.Name_function_global I.ok.kind hg (Calls.loadGlobal_builtin (by rw [I.ok.glob];exact I.mod.glob.keeps I.bk) hm (by rw [I.ok.blt];exact h1.keeps I.bk) ((h2 x hn).trans hv) h) hd
theorem ve {x:Str} {v:V} {u:Value} {pos:Pos} (hg:Gl X x) (hm:X.mg x=some u) (r:RelV v u) (hd:(x==("__debug__" :Str))=false:=by decide):PE X (.Name x pos) (tC v):=
 fun _ _ _ H _ I h=>yz I hg hm ⟨v,H,I,r,h⟩ hd
theorem Vh {x:Str} {v:V} {u:Value} {pos:Pos} (hg:Gl X x) (hm:X.mg x=none) (hv:bootBuiltins x=some u) (r:RelV v u) (hn:x≠ "__name__" :=by decide) (hd:(x==("__debug__" :Str))=false:=by decide):PE X (.Name x pos) (tC v):=
 fun _ _ _ H _ I h=>vZ I hg hm hv ⟨v,H,I,r,h⟩ hn hd
variable {a b:Expr} {ta tb:TE} {pos:Pos}
def PC (X:Cx) (op:CmpOp) (a b:Expr) (t:TE):Prop:=
 ∀(pins:List (Addr×Obj)) (s:Shared) (σ:St) (H:Hp) (Q:VK),Inv X pins σ H s->t σ H Q->
  wpAny (model X.prog X.w) X.A (eval a X.env) (fun v s₁=>wpAny (model X.prog X.w) X.A (eval b X.env) (fun u s₂=>wpAny (model X.prog X.w) X.A (compareOp op v u) (EP X pins σ Q) X.xe s₂) X.xe s₁) X.xe s
theorem nobehind (b:Expr) {op:CmpOp} (h:op≠ .In) (h2:op≠ .NotIn):behindInMarks op b=false:=by
 have e1:(op==CmpOp.In)=false:=by cases op<;>first | rfl | exact absurd rfl h
 have e2:(op==CmpOp.NotIn)=false:=by cases op<;>first | rfl | exact absurd rfl h2
 cases b<;>simp [behindInMarks,e1,e2]
def tIsN (ta:TE):TE:=fun σ H Q=>ta σ H fun x H1=>Q (.bl (decide (x= .non))) H1
theorem RelV.none_iff {x:V} {v:Value} (r:RelV x v):(v==Value.none)=decide (x= .non):=by
 cases x with
 | non=>cases r;rfl
 | bl _=>cases r;rfl
 | int _=>obtain ⟨t,rfl⟩:=r;rfl
 | str _=>obtain ⟨t,rfl⟩:=r;rfl
 | byt _=>obtain ⟨t,rfl⟩:=r;rfl
 | flt _=>obtain ⟨t,rfl⟩:=r;rfl
 | ref _=>cases r;rfl
 | ty _=>cases r;rfl
theorem K8 {j pos'} (ha:PE X a ta):PC X .Is a (.Constant .none j pos') (tIsN ta):=by
 intro pins s σ H Q I h
 refine thn (ha pins s σ H _ I h) fun v s1 ⟨x,H1,I1,r1,q1⟩=>?_
 exact Constant_none (is_none_gen ⟨.bl _,H1,I1,by rw [r1.none_iff];rfl,q1⟩)
def tB (t:TE):TT:=fun σ H Q=>t σ H fun x H1=>∃c,x= .bl c/\Q c H1
theorem Qa {op:CmpOp} {t:TE} (h:PC X op a b t) (h1:behindInMarks op b=false:=by first | exact nobehind _ (by decide) (by decide) | rfl):PT X (.Compare a [op] [b] pos) (tB t):=by
 intro pins s σ H Q I hw
 refine wpAny_isTrue_Compare1 (thn (h pins s σ H _ I hw) fun v s1 h1=>thn h1 fun u s2 h2=>thn h2 fun c s3 ⟨x,H1,I1,r1,q1⟩=>?_) h1
 obtain ⟨d,rfl,q⟩:=q1
 cases r1
 exact wpAny_truthy_bool ⟨H1,I1,q⟩
theorem KS {e:Expr} {t:TE} (h:PE X e t) (he:∀whole,isTrue e X.env whole=(do let v <-whole;standAt e.pos;holding [v] (truthy v)):=by intro _;rfl):PT X e (tB t):=by
 intro pins s σ H Q I hw
 refine isTrue_plain (thn (h pins s σ H _ I hw) fun v s1 ⟨x,H1,I1,r1,q1⟩=>?_) (he _)
 obtain ⟨d,rfl,q⟩:=q1
 cases r1
 exact wpAny_truthy_bool ⟨H1,I1,q⟩
variable {tA tB':TT} {rest:List Expr}
def tAnd (t u:TT):TT:=fun σ H Q=>t σ H fun c H1=>if c=true then u σ H1 Q else Q false H1
def tOr (t u:TT):TT:=fun σ H Q=>t σ H fun c H1=>if c=true then Q true H1 else u σ H1 Q
def tNot (t:TT):TT:=fun σ H Q=>t σ H fun c H1=>Q (!c) H1
theorem kY (ha:PT X a tA):PW X (.BoolOp .And [a] pos) tA:=by
 intro wh pins s σ H Q I h
 refine isTrue_and (thn (ha pins s σ H Q I h) fun c s1 e=>?_)
 cases c with
 | true=>exact isTrue_and_nil e
 | false=>exact e
theorem UI (ha:PT X a tA):PW X (.BoolOp .Or [a] pos) tA:=by
 intro wh pins s σ H Q I h
 refine isTrue_or (thn (ha pins s σ H Q I h) fun c s1 e=>?_)
 cases c with
 | false=>exact isTrue_or_nil e
 | true=>exact e
theorem UK (ha:PT X a tA) (hb:PW X (.BoolOp .And (b::rest) pos) tB'):PW X (.BoolOp .And (a::b::rest) pos) (tAnd tA tB'):=by
 intro wh pins s σ H Q I h
 refine isTrue_and (thn (ha pins s σ H _ I h) fun c s1 ⟨H1,I1,q1⟩=>?_)
 cases c with
 | true=>exact hb wh pins s1 σ H1 Q I1 q1
 | false=>exact ⟨H1,I1,q1⟩
theorem UJ (ha:PT X a tA) (hb:PW X (.BoolOp .Or (b::rest) pos) tB'):PW X (.BoolOp .Or (a::b::rest) pos) (tOr tA tB'):=by
 intro wh pins s σ H Q I h
 refine isTrue_or (thn (ha pins s σ H _ I h) fun c s1 ⟨H1,I1,q1⟩=>?_)
 cases c with
 | true=>exact ⟨H1,I1,q1⟩
 | false=>exact hb wh pins s1 σ H1 Q I1 q1
theorem KT (ha:PT X a tA):PT X (.UnaryOp .Not a pos) (tNot tA):=by
 intro pins s σ H Q I h
 exact isTrue_not (ha pins s σ H (fun c H1=>Q (!c) H1) I h)
def tAndV (ta tb:TE):TE:=fun σ H Q=>ta σ H fun x H1=>∃c,x= .bl c/\if c=true then tb σ H1 Q else Q (.bl false) H1
def tNotV (ta:TE):TE:=fun σ H Q=>ta σ H fun x H1=>∃c,x= .bl c/\Q (.bl (!c)) H1
theorem K4 {op} {t:TE} (h:PE X a t):PE X (.BoolOp op [a] pos) t:=fun pins s σ H Q I hw=>BoolOp_one (h pins s σ H Q I hw)
theorem UT (ha:PE X a ta) (hb:PE X (.BoolOp .And (b::rest) pos) tb):PE X (.BoolOp .And (a::b::rest) pos) (tAndV ta tb):=by
 intro pins s σ H Q I h
 refine BoolOp_and (thn (ha pins s σ H _ I h) fun v s1 ⟨x,H1,I1,r1,q1⟩=>?_)
 obtain ⟨c,rfl,q1⟩:=q1
 cases r1
 refine wpAny_truthy_bool ?_
 cases c with
 | true=>exact hb pins s1 σ H1 Q I1 q1
 | false=>exact ⟨.bl false,H1,I1,rfl,q1⟩
theorem K5 (ha:PE X a ta):PE X (.UnaryOp .Not a pos) (tNotV ta):=by
 intro pins s σ H Q I h
 refine UnaryOp_ (thn (ha pins s σ H _ I h) fun v s1 ⟨x,H1,I1,r1,q1⟩=>?_)
 obtain ⟨c,rfl,q1⟩:=q1
 cases r1
 exact not_of (wpAny_truthy_bool ⟨.bl (!c),H1,I1,rfl,q1⟩)
end
def SqL (K:W.Frag) (H:Hp) (a:Addr) (xs:List V):Prop:=
 Rd H a (.lst xs)∨
  ∃(o:Obj) (its:Array Value) (n:Nat),K.lookup a=some o/\o.cls= .type "list" /\o.dict=none/\o.data= .seq its n/\its.size<=sizeLine/\Vals xs its.toList
def SqT (K:W.Frag) (H:Hp) (a:Addr) (xs:List V):Prop:=
 Rd H a (.tup xs)∨
  ∃(o:Obj) (its:Array Value) (n:Nat),K.lookup a=some o/\o.cls= .type "tuple" /\o.data= .seq its n/\its.size<=sizeLine/\Vals xs its.toList
noncomputable def absV:Value->Option V
 | .none=>some .non
 | .bool b=>some (.bl b)
 | .int i _=>some (.int i)
 | .str x _=>some (.str x)
 | .bytes b _=>some (.byt b)
 | .float b _=>some (.flt b)
 | .ref a=>some (.ref a)
 | .type n=>some (.ty n)
 | _=>none
theorem RelV.abs {x:V} {u:Value} (r:RelV x u):absV u=some x:=by
 cases x with
 | non=>cases r;rfl
 | bl _=>cases r;rfl
 | int _=>obtain ⟨t,rfl⟩:=r;rfl
 | str _=>obtain ⟨t,rfl⟩:=r;rfl
 | byt _=>obtain ⟨t,rfl⟩:=r;rfl
 | flt _=>obtain ⟨t,rfl⟩:=r;rfl
 | ref _=>cases r;rfl
 | ty _=>cases r;rfl
theorem RelV.inj {x y:V} {u:Value} (r:RelV x u) (q:RelV y u):x=y:=Option.some.inj (r.abs.symm.trans q.abs)
theorem Vals.inj:∀{xs ys:List V} {us:List Value},Vals xs us->Vals ys us->xs=ys
 | _,_,_,.nil,.nil=>rfl
 | _,_,_,.cons r t,.cons r' t'=>by rw [r.inj r',Vals.inj t t']
section
variable {X:Cx} {pins:List (Addr×Obj)} {σ:St} {H:Hp} {s:Shared} {a:Addr} {xs ys:List V}
theorem SqL.of {K:W.Frag} (h:H a=some (.lst xs)):SqL K H a xs:= .inl (.inl h)
theorem SqT.of {K:W.Frag} (h:H a=some (.tup xs)):SqT K H a xs:= .inl (.inl h)
theorem Inv.list (I:Inv X pins σ H s) (h:SqL X.K H a xs):∃its:List Value,Vals xs its/\PlainL s.heap a its.toArray/\xs.length<=sizeLine:=by
 rcases h with h | ⟨o,its,n,hk,hc,hd,hs,hz,r⟩
 ·obtain ⟨z,its,n,r,e⟩:=h.ok I.hok
  exact ⟨its,r,⟨_,n,e,rfl,rfl,rfl⟩,z⟩
 ·refine ⟨its.toList,r,⟨o,n,I.kIn a o hk,hc,hd,by simpa using hs⟩,?_⟩
  have e:=r.length
  simp only [Array.length_toList] at e
  omega
theorem Inv.tuple (I:Inv X pins σ H s) (h:SqT X.K H a xs):∃its:List Value,Vals xs its/\IsTup s.heap a its.toArray/\xs.length<=sizeLine:=by
 rcases h with h | ⟨o,its,n,hk,hc,hs,hz,r⟩
 ·obtain ⟨z,its,r,p⟩:=h.ok I.hok
  exact ⟨its,r,p,z⟩
 ·refine ⟨its.toList,r,⟨o,I.kIn a o hk,hc,n,by simpa using hs⟩,?_⟩
  have e:=r.length
  simp only [Array.length_toList] at e
  omega
theorem Inv.list_inj (I:Inv X pins σ H s) (h:SqL X.K H a xs) (h':SqL X.K H a ys):xs=ys:=by
 obtain ⟨its,r,⟨o,n,e,_,_,d⟩,_⟩:=I.list h
 obtain ⟨its',r',⟨o',n',e',_,_,d'⟩,_⟩:=I.list h'
 rw [e] at e';cases e'
 rw [d] at d'
 injection d' with d1 _
 have:its=its':=by simpa using congrArg Array.toList d1
 subst this
 exact r.inj r'
theorem Inv.tuple_inj (I:Inv X pins σ H s) (h:SqT X.K H a xs) (h':SqT X.K H a ys):xs=ys:=by
 obtain ⟨its,r,⟨o,e,_,n,d⟩,_⟩:=I.tuple h
 obtain ⟨its',r',⟨o',e',_,n',d'⟩,_⟩:=I.tuple h'
 rw [e] at e';cases e'
 rw [d] at d'
 injection d' with d1 _
 have:its=its':=by simpa using congrArg Array.toList d1
 subst this
 exact r.inj r'
end
noncomputable abbrev Cx.wish (X:Cx) (E:Value->Shared->Prop):Cx:={ X with xe:=E }
abbrev Cx.nox (X:Cx):Cx:=X.wish fun _ _=>False
theorem Cx.Ok.wish {X:Cx} (ok:X.Ok) (E:Value->Shared->Prop):(X.wish E).Ok:=
 ⟨ok.mod,ok.kind,ok.glob,ok.blt,ok.above,ok.inj,ok.has,ok.cab,ok.hd,ok.frames,ok.stk,ok.exf,ok.bs,ok.bsz,ok.noex,ok.exfs,ok.funs,ok.frf⟩
theorem Cx.Ok.unwish {X:Cx} {E:Value->Shared->Prop} (ok:(X.wish E).Ok):X.Ok:=
 ⟨ok.mod,ok.kind,ok.glob,ok.blt,ok.above,ok.inj,ok.has,ok.cab,ok.hd,ok.frames,ok.stk,ok.exf,ok.bs,ok.bsz,ok.noex,ok.exfs,ok.funs,ok.frf⟩
section
variable {X:Cx} {pins:List (Addr×Obj)} {σ:St} {H:Hp} {s:Shared} {E:Value->Shared->Prop}
theorem Inv.wish (I:Inv X pins σ H s) (E:Value->Shared->Prop):Inv (X.wish E) pins σ H s:=⟨I.ok.wish E,I.os,I.bare,I.base,I.loc,I.cell,I.free,I.freeC,I.pin,I.hok,I.len⟩
theorem Inv.unwish (I:Inv (X.wish E) pins σ H s):Inv X pins σ H s:=⟨I.ok.unwish,I.os,I.bare,I.base,I.loc,I.cell,I.free,I.freeC,I.pin,I.hok,I.len⟩
theorem SP.unwish {D:Ends} {f:Flow} {s':Shared} (h:SP (X.wish E) pins D f s'):SP X pins D f s':=by
 cases f with
 | next=>obtain ⟨σ',H',I,q⟩:=h;exact ⟨σ',H',I.unwish,q⟩
 | brk=>obtain ⟨σ',H',I,q⟩:=h;exact ⟨σ',H',I.unwish,q⟩
 | cont=>obtain ⟨σ',H',I,q⟩:=h;exact ⟨σ',H',I.unwish,q⟩
 | ret u=>obtain ⟨v,σ',H',I,r,q⟩:=h;exact ⟨v,σ',H',I.unwish,r,q⟩
theorem PSs.nox {st:List Stmt} {t:TS} (h:PSs X.nox st t):PSs X st t:=fun pins s σ H D I hw=>
 wpAny_mono (h pins s σ H D (I.wish _) hw) (fun _ _ q=>q.unwish) fun _ _ z=>False.elim z
end
section
variable {X:Cx} {st:Stmt} {rest:List Stmt} {t u:TS} {e:Expr} {te:TE} {pos:Pos}
def tNext:TS:=fun D σ H=>D.nx σ H
def tSeq (t u:TS):TS:=fun D σ H=>t { D with nx:=u D } σ H
theorem kZ:PSs X [] tNext:=fun _ _ σ H _ I h=>wpAny_execs_nil ⟨σ,H,I,h⟩
theorem va (h1:PS X st t) (h2:PSs X rest u):PSs X (st::rest) (tSeq t u):=by
 intro pins s σ H D I h
 refine wpAny_execs_cons (thn (h1 pins s σ H { D with nx:=u D } I h) fun f s1 q=>?_)
 cases f with
 | next=>
  obtain ⟨σ',H',I',q⟩:=q
  exact h2 pins s1 σ' H' D I' q
 | ret v=>exact q
 | brk=>exact q
 | cont=>exact q
theorem Va (h1:PS X st t):PSs X [st] t:=by
 intro pins s σ H D I h
 refine wpAny_execs_cons (thn (h1 pins s σ H D I h) fun f s1 q=>?_)
 cases f with
 | next=>exact wpAny_execs_nil q
 | ret v=>exact q
 | brk=>exact q
 | cont=>exact q
theorem Inv.quiet {pins:List (Addr×Obj)} {σ:St} {H:Hp} {s:Shared} (I:Inv X pins σ H s):interactive X.env=false:=by simp [interactive,I.ok.kind]
def tDrop (te:TE):TS:=fun D σ H=>te σ H fun _ H1=>D.nx σ H1
theorem vb (he:PE X e te) (hs:swapsWith e none pos.line X.env=pure false:=by rfl):PS X (.Expr e pos) (tDrop te):=by
 intro pins s σ H D I h
 exact wpAny_Expr_any (thn (he pins s σ H _ I h) fun v s1 ⟨x,H1,I1,r1,q1⟩=>⟨σ,H1,I1,q1⟩) I.quiet hs
def tRet (te:TE):TS:=fun D σ H=>te σ H D.rt
theorem Yl (he:PE X e te):PS X (.Return (some e) pos) (tRet te):=by
 intro pins s σ H D I h
 exact wpAny_Return_some (thn (he pins s σ H _ I h) fun v s1 ⟨x,H1,I1,r1,q1⟩=>⟨x,σ,H1,I1,r1,q1⟩)
def tIfS (c:TT) (t u:TS):TS:=fun D σ H=>c σ H fun b H1=>if b=true then t D σ H1 else u D σ H1
theorem Vb {c:Expr} {a b:List Stmt} {tc:TT} (hc:PT X c tc) (ha:PSs X a t) (hb:PSs X b u):PS X (.If c a b pos) (tIfS tc t u):=by
 intro pins s σ H D I h
 refine wpAny_If (thn (hc pins s σ H _ I h) fun d s1 ⟨H1,I1,q1⟩=>?_)
 cases d with
 | true=>exact ha pins s1 σ H1 D I1 q1
 | false=>exact hb pins s1 σ H1 D I1 q1
def tNever:TS:=fun _ _ _=>False
theorem qC {sts:List Stmt}:PSs X sts tNever:=fun _ _ _ _ _ _ h=>h.elim
end
abbrev TG:=V->St->Hp->(St->Hp->Prop)->Prop
abbrev TGs:=List V->St->Hp->(St->Hp->Prop)->Prop
def PG (X:Cx) (target:Expr) (t:TG):Prop:=
 ∀(pins:List (Addr×Obj)) (s:Shared) (σ:St) (H:Hp) (v:V) (u:Value) (Q:St->Hp->Prop),Inv X pins σ H s->RelV v u->t v σ H Q->
  wpAny (model X.prog X.w) X.A (assign target X.env u) (fun _ s'=>∃σ' H',Inv X pins σ' H' s'/\Q σ' H') X.xe s
def PGs (X:Cx) (ts:List Expr) (t:TGs):Prop:=
 ∀(pins:List (Addr×Obj)) (s:Shared) (σ:St) (H:Hp) (vs:List V) (us:List Value) (Q:St->Hp->Prop),Inv X pins σ H s->Vals vs us->t vs σ H Q->
  wpAny (model X.prog X.w) X.A (assignInOrder ((assignEach ts X.env).map (·.2)) us) (fun _ s'=>∃σ' H',Inv X pins σ' H' s'/\Q σ' H') X.xe s
abbrev TSet:=V->V->V->Hp->(Hp->Prop)->Prop
def PSet (X:Cx) (t:TSet):Prop:=
 ∀(pins:List (Addr×Obj)) (s:Shared) (σ:St) (H:Hp) (o i v:V) (ov iv u:Value) (Q:Hp->Prop),Inv X pins σ H s->RelV o ov->RelV i iv->RelV v u->t o i v H Q->
  wpAny (model X.prog X.w) X.A (setItem ov iv u) (fun _ s'=>∃H',Inv X pins σ H' s'/\Q H') X.xe s
section
variable {X:Cx} {pos:Pos}
def gName (i:Nat):TG:=fun v σ H Q=>Q (σ.set i (some v)) H
theorem Ve {i:Nat} {x:Str} (hN:X.N.Nodup) (hi:X.N[i]? =some x) (hx:Loc X.env.scope x) (hf:X.fn x=true∨X.env.scope.names.lookup x=some .local:=by first | exact .inl rfl | exact .inr rfl | assumption):PG X (.Name x pos) (gName i):=by
 intro pins s σ H v u Q I r h
 exact wpAny_assign_Name (zc I hN hi hx r (fun s' I'=>⟨_,H,I',h⟩) hf)
def gNil:TGs:=fun vs σ H Q=>vs=[]/\Q σ H
def gCons (t:TG) (u:TGs):TGs:=fun vs σ H Q=>∃v r,vs=v::r/\t v σ H fun σ' H'=>u r σ' H' Q
theorem Jc:PGs X [] gNil:=by
 intro pins s σ H vs us Q I r h
 obtain ⟨e,h⟩:=h
 subst e
 cases r
 exact assignInOrder_nil ⟨σ,H,I,h⟩
theorem UQ {e:Expr} {es:List Expr} {t:TG} {u:TGs} (h1:PG X e t) (h2:PGs X es u)
  (hs:(assignEach (e::es) X.env).map (·.2)=assign e X.env::(assignEach es X.env).map (·.2):=by rfl):PGs X (e::es) (gCons t u):=by
 intro pins s σ H vs us Q I r h
 obtain ⟨v,vr,e1,h⟩:=h
 subst e1
 cases r with
 | cons r rr=>
  rw [hs]
  refine assignInOrder_cons (thn (h1 pins s σ H _ _ _ I r h) fun _ s1 ⟨σ1,H1,I1,q1⟩=>?_)
  exact h2 pins s1 σ1 H1 _ _ Q I1 rr q1
def gTup (K:W.Frag) (n:Nat) (t:TGs):TG:=fun v σ H Q=>∃a xs,v= .ref a/\SqT K H a xs/\xs.length=n/\t xs σ H Q
theorem K0 {es:List Expr} {k:Nat} {t:TGs} {n:Nat} (hc:X.calm=true) (h:PGs X es t)
  (hn:(assignEach es X.env).length=n:=by rfl) (hst:(assignEach es X.env).findIdx? (·.1)=none:=by rfl):PG X (.Tuple es k pos) (gTup X.K n t):=by
 intro pins s σ H v u Q I r hw
 obtain ⟨a,xs,e1,hq,hl,hw⟩:=hw
 subst e1
 cases r
 obtain ⟨its,rv,ht,hz⟩:=I.tuple hq
 refine assign_Tuple_tuple (I.ok.hd hc) ht (by simp [hn,<-hl,rv.length]) hst fun h' hx=>?_
 have I1:Inv X pins σ H { s with heap:=h' }:=I.kept (t':=s.toks) fun b o e=>hx b o (Nat.ne_of_lt (Heap.lt_size e)) e
 exact h pins _ σ H xs _ Q I1 (by simpa using rv) hw
def gSub (to ti:TE) (t:TSet):TG:=fun v σ H Q=>to σ H fun o H1=>ti σ H1 fun i H2=>t o i v H2 fun H3=>Q σ H3
theorem K1 {o i:Expr} {to ti:TE} {t:TSet} (ho:PE X o to) (hi:PE X i ti) (hs:PSet X t)
  (ha:∀v,assign (.Subscript o i pos) X.env v=(do
   let ov <-holding [v] (eval o X.env)
   let iv <-holding [v,ov] (eval i X.env)
   standAt pos
   holding [v,ov,iv] (setItem ov iv v)
   release [v,ov,iv] []):=by intro _;rfl):PG X (.Subscript o i pos) (gSub to ti t):=by
 intro pins s σ H v u Q I r h
 rw [ha]
 refine wpAny_bind (wpAny_holding (thn (ho pins s σ H _ I h) fun ov s1 ⟨x,H1,I1,r1,q1⟩=>?_))
 refine wpAny_bind (wpAny_holding (thn (hi pins s1 σ H1 _ I1 q1) fun iv s2 ⟨y,H2,I2,r2,q2⟩=>?_))
 refine wpAny_bind (wpAny_standAt (wpAny_bind (wpAny_holding (thn (hs pins s2 σ H2 x y v ov iv u _ I2 r1 r2 r q2) fun _ s3 ⟨H3,I3,q3⟩=>?_))))
 exact wpAny_release ⟨σ,H3,I3,q3⟩
def tAsg (te:TE) (g:TG):TS:=fun D σ H=>te σ H fun x H1=>g x σ H1 D.nx
theorem UO {tg e:Expr} {te:TE} {g:TG} (he:PE X e te) (hg:PG X tg g) (hs:swapsWithSole [tg] e pos.line X.env=pure false:=by rfl) (hw:swappedStores [tg] e X.env=pure none:=by rfl)
  (h1:(assignEach [tg] X.env).map (·.2)=[assign tg X.env]:=by rfl):PS X (.Assign [tg] e pos) (tAsg te g):=by
 intro pins s σ H D I h
 refine wpAny_Assign_stores (thn (he pins s σ H _ I h) fun v s1 ⟨x,H1,I1,r1,q1⟩=>?_) hs hw
 rw [h1]
 exact thn (hg pins s1 σ H1 x v _ I1 r1 q1) fun _ s2 q=>q
theorem qO {i:Nat} {x:Str} {e:Expr} {te:TE} {pos':Pos} (hN:X.N.Nodup) (hi:X.N[i]? =some x) (hx:Loc X.env.scope x) (he:PE X e te) (hs:swapsWith e (some (.Name x pos')) pos.line X.env=pure false:=by rfl) (hf:X.fn x=true∨X.env.scope.names.lookup x=some .local:=by first | exact .inl rfl | exact .inr rfl | assumption):
  PS X (.Assign [.Name x pos'] e pos) (tAsg te (gName i)):=by
 intro pins s σ H D I h
 refine wpAny_Assign_Name (thn (he pins s σ H _ I h) fun v s1 ⟨y,H1,I1,r1,q1⟩=>?_) hs
 exact zc I1 hN hi hx r1 (fun s2 I2=>⟨_,H1,I2,q1⟩) hf
def tPar (i j:Nat) (ta:TA):TS:=fun D σ H=>ta σ H fun vs H1=>∃v w,vs=[v,w]/\D.nx ((σ.set i (some v)).set j (some w)) H1
theorem KW {i j:Nat} {x y:Str} {a b:Expr} {ta:TA} {px py pt:Pos} {kt k2 pt2} (hc:X.calm=true) (hN:X.N.Nodup) (hi:X.N[i]? =some x) (hj:X.N[j]? =some y) (hij:i≠j)
  (hx:X.env.scope.names.lookup x=some .local) (hy:X.env.scope.names.lookup y=some .local) (ha:PA X [a,b] ta)
  (hw:swappedStores [.Tuple [.Name x px,.Name y py] kt pt] (.Tuple [a,b] k2 pt2) X.env=pure (some [x,y]))
  (hs:swapsWithSole [.Tuple [.Name x px,.Name y py] kt pt] (.Tuple [a,b] k2 pt2) pos.line X.env=pure false:=by rfl):
  PS X (.Assign [.Tuple [.Name x px,.Name y py] kt pt] (.Tuple [a,b] k2 pt2) pos) (tPar i j ta):=by
 intro pins s σ H D I h
 rw [exec_Assign_arm]
 refine wpAny_bind (wpAny_standAt ?_)
 rw [hs]
 refine wpAny_bind (wpAny_pure ?_)
 rw [mF (by decide)]
 refine wpAny_bind (Tuple_ (thn (ha _ pins s σ H _ I h) fun us s1 ⟨vs,H1,I1,r1,q1⟩=>?_))
 obtain ⟨v,w,e1,q1⟩:=q1
 subst e1
 obtain ⟨u1,u2,rfl,rv,rw'⟩:∃u1 u2,us=[u1,u2]/\RelV v u1/\RelV w u2:=by
  cases r1 with
  | cons p q=>
   cases q with
   | cons p' q'=>
    cases q'
    exact ⟨_,_,rfl,p,p'⟩
 refine wpAny_newObj_type ?_ (by show 2<=sizeLine;decide)
 have I2:Inv X pins σ H1 { s1 with heap:=s1.heap.push { cls:= .type "tuple",data:= .seq [u1,u2].toArray } }:=I1.kept (t':=s1.toks) fun b o e=>Heap.get?_push_of_some _ e
 rw [hw]
 refine wpAny_bind (wpAny_pure ?_)
 show wpAny (model X.prog X.w) X.A (do rule "assign.swapped-stores";let items <-unpackItems (.ref s1.heap.objs.size) 2 none;assignInOrder [fun v=>bindName X.env y v,fun v=>bindName X.env x v] items.reverse;pure Flow.next) _ _ _
 refine wpAny_bind (wpAny_rule (wpAny_bind (unpackItems_tuple (items:= #[u1,u2]) (I.ok.hd hc) (IsTup.new s1.heap _) fun h' hx'=>?_)))
 have I3:=I2.kept (h':=h') (t':=s1.toks) fun b o e=>hx' b o (Nat.ne_of_lt (Heap.lt_size e)) e
 show wpAny _ _ (assignInOrder [fun v=>bindName X.env y v,fun v=>bindName X.env x v] [u2,u1]>>=fun _=>pure Flow.next) _ _ _
 refine wpAny_bind (assignInOrder_cons (wpAny_bindName (zc I3 hN hj (.inl hy) rw' (fun s2 I4=>?_) (.inr hy))))
 refine assignInOrder_cons (wpAny_bindName (zc I4 hN hi (.inl hx) rv (fun s3 I5=>assignInOrder_nil (wpAny_pure ?_)) (.inr hx)))
 rw [List.set_comm _ _ (Ne.symm hij)] at I5
 exact ⟨_,H1,I5,q1⟩
end
section
variable {X:Cx} {pos:Pos}
def tWhile (c:TT) (tb:TS):TS:=fun D σ H=>∃W:Nat->St->Hp->Prop,(∃m,W m σ H)/\∀m σ H,W m σ H->
 c σ H fun b H1=>if b=true then ∃N:St->Hp->Prop,(∀σ' H',N σ' H'->∃m',m'<m/\W m' σ' H')/\tb { D with nx:=N,ct:=N,bk:=D.nx } σ H1 else D.nx σ H1
theorem UN {c:Expr} {body:List Stmt} {tc:TT} {tb:TS} (hp:PassesOwn (model X.prog X.w) X.A X.env X.xe) (hc:PT X c tc) (hb:PSs X body tb):PS X (.While c body [] pos) (tWhile tc tb):=by
 intro pins s σ H D I h
 obtain ⟨W,⟨m0,w0⟩,turn⟩:=h
 refine wpAny_While (codeAny_whileLoop (fun n s'=>∃σ' H',Inv X pins σ' H' s'/\W n σ' H') ?_ m0 ⟨σ,H,I,w0⟩)
 rintro n s1 ⟨σ1,H1,I1,w1⟩
 refine wpAny_passesOwn hp (thn (hc pins s1 σ1 H1 _ I1 (turn n σ1 H1 w1)) fun b s2 ⟨H2,I2,q2⟩=>?_)
 cases b with
 | true=>
  obtain ⟨N,hN,q2⟩:=q2
  rw [mH rfl]
  refine wpAny_passesOwn hp (thn (hb pins s2 σ1 H2 _ I2 q2) fun f s3 q3=>?_)
  cases f with
  | next=>
   obtain ⟨σ3,H3,I3,n3⟩:=q3
   obtain ⟨m',hm,w3⟩:=hN σ3 H3 n3
   exact ⟨m',hm,σ3,H3,I3,w3⟩
  | cont=>
   obtain ⟨σ3,H3,I3,n3⟩:=q3
   obtain ⟨m',hm,w3⟩:=hN σ3 H3 n3
   exact ⟨m',hm,σ3,H3,I3,w3⟩
  | brk=>exact q3
  | ret v=>exact q3
 | false=>
  rw [mF Bool.false_ne_true]
  exact wpAny_execs_nil ⟨σ1,H2,I2,q2⟩
end
structure It where
 go:Nat->Hp->Prop
 yld:Nat->Hp->V->Hp->Prop
 stop:Nat->Hp->Prop
def FpOk (X:Cx) (pins:List (Addr×Obj)) (H:Hp) (b:Addr):Prop:=
 H b=none/\b≠X.env.locals/\b∉X.fs/\(b∈X.ex∨X.s₀.heap.objs.size<=b)/\(∀x c,X.env.cells.lookup x=some c->c≠b)/\∀p∈X.pn++pins,p.1≠b
theorem Inv.fpOk {X:Cx} {pins:List (Addr×Obj)} {σ:St} {H H':Hp} {s:Shared} {b:Addr} (I:Inv X pins σ H s) (hb:s.heap.objs.size<=b) (hn:H' b=none):FpOk X pins H' b:=by
 refine ⟨hn,Nat.ne_of_gt (mE I.lt hb),I.nofs hb,.inr (Nat.le_trans I.sz hb),fun x c e z=>?_,fun p hp z=>?_⟩
 ·obtain ⟨v,q⟩:=I.cell x c e
  exact absurd (mE q.lt (by rw [z];exact hb)) (Nat.lt_irrefl _)
 ·exact absurd (mE (Heap.lt_size (I.pin p hp).1) (by rw [z];exact hb)) (Nat.lt_irrefl _)
structure Turn (P:Program) (w:World) (K:W.Frag) (tg:Expr) (J:It) (fp:List Addr) (it:Addr) (tn:Nat->Heap->Prop):Prop where
 mem:it∈fp
 obj:∀i h,tn i h->∀b∈fp,∃o,h.get? b=some o/\∀v,o.data≠ .cell v
 keep:∀i h h',tn i h->(∀b∈fp,∀o,h.get? b=some o->h'.get? b=some o)->tn i h'
 item:∀(X:Cx),X.prog=P->X.w=w->X.K=K->X.calm=true->∀(i:Nat) (pins:List (Addr×Obj)) (s:Shared) (σ:St) (H:Hp) (E:Value->Shared->Prop),Inv X pins σ H s->(∀b∈fp,FpOk X pins H b)->tn i s.heap->J.go i H->
  wpAny (model P w) X.A (pyNext (.ref it)) (fun r s1=>∃u,r=some u/\
   wpAny (model P w) X.A (letOwnedTupleGo tg (.ref it) u) (fun _ s2=>∃x H',Inv X pins σ H' s2/\RelV x u/\J.yld i H x H'/\tn (i+1) s2.heap/\∀b∈fp,H' b=none) E s1) E s
 done:∀(X:Cx),X.prog=P->X.w=w->X.K=K->X.calm=true->∀(i:Nat) (pins:List (Addr×Obj)) (s:Shared) (σ:St) (H:Hp) (E:Value->Shared->Prop),Inv X pins σ H s->(∀b∈fp,FpOk X pins H b)->tn i s.heap->J.stop i H->
  wpAny (model P w) X.A (pyNext (.ref it)) (fun r s1=>r=none/\Inv X pins σ H s1) E s
 self:∀(A:Around) (i:Nat) (s:Shared) (Q:Value->Shared->Prop) (E:Value->Shared->Prop),tn i s.heap->Q (.ref it) s->wpAny (model P w) A (pyIter (.ref it)) Q E s
abbrev TI:=St->Hp->(It->Hp->Prop)->Prop
def PIE (X:Cx) (pins:List (Addr×Obj)) (σ:St) (tg:Expr) (R:It->Hp->Prop) (itv:Value) (s2:Shared):Prop:=
 ∃(it:Addr) (fp:List Addr) (tn:Nat->Heap->Prop) (J:It) (H':Hp),itv= .ref it/\Inv X pins σ H' s2/\Turn X.prog X.w X.K tg J fp it tn/\tn 0 s2.heap/\(∀b∈fp,FpOk X pins H' b)/\R J H'
def PI (X:Cx) (tg iter:Expr) (wi:TI):Prop:=
 ∀(pins:List (Addr×Obj)) (s:Shared) (σ:St) (H:Hp) (R:It->Hp->Prop),Inv X pins σ H s->wi σ H R->
  wpAny (model X.prog X.w) X.A (eval iter X.env) (fun v s1=>wpAny (model X.prog X.w) X.A (pyIter v) (PIE X pins σ tg R) X.xe s1) X.xe s
theorem Vs {M:Model} {A:Around} {E:Value->Shared->Prop} {s:Shared} {tg:Expr} {it:Addr} {u:Value} {o:Obj} {n:String} {vs:Array Value} {Q:Unit->Shared->Prop} (ho:s.heap.get? it=some o) (hc:o.cls= .type n) (hd:o.data= .fields vs)
    (hn:["enumerate","zip","dict_itemiterator","dict_reverseitemiterator","odict_iterator","itertools.zip_longest","itertools.pairwise"].contains n=false) (hQ:Q () s):wpAny M A (letOwnedTupleGo tg (.ref it) u) Q E s:=by
  unfold letOwnedTupleGo
  cases tg<;>first
    | exact wpAny_pure hQ
    | (cases u<;>first
        | exact wpAny_pure hQ
        | (refine wpAny_bind (wpAny_load ho ?_)
           rw [hc,hd]
           show wpAny M A (if (["enumerate","zip","dict_itemiterator","dict_reverseitemiterator","odict_iterator","itertools.zip_longest","itertools.pairwise"].contains n && vs[0]? ==some (rawInt _))=true then _ else _) Q E s
           rw [mF (by intro h;rw [hn,Bool.false_and] at h;cases h)]
           exact wpAny_pure hQ))
def Itl (K:W.Frag) (a:Addr):It:=
 ⟨fun i H=>∃xs x,SqL K H a xs/\xs[i]? =some x,fun i H x H'=>H'=H/\∀xs,SqL K H a xs->xs[i]? =some x,fun i H=>∃xs,SqL K H a xs/\xs.length<=i⟩
def Itt (K:W.Frag) (a:Addr):It:=
 ⟨fun i H=>∃xs x,SqT K H a xs/\xs[i]? =some x,fun i H x H'=>H'=H/\∀xs,SqT K H a xs->xs[i]? =some x,fun i H=>∃xs,SqT K H a xs/\xs.length<=i⟩
def Itr (lo:Int) (n:Nat):It:=⟨fun i _=>i<n,fun i H x H'=>H'=H/\x= .int (lo+i),fun i _=>n<=i⟩
theorem VQ {P:Program} {w:World} {K:W.Frag} {tg:Expr} (a it:Addr):Turn P w K tg (Itl K a) [it] it (fun i h=>h.IsListIter it a i) where
 mem:=by simp
 obj:=fun i h st b hb=>by
  have e:b=it:=by simpa using hb
  subst e
  obtain ⟨o,e,c,d⟩:=st
  exact ⟨o,e,fun v z=>by rw [d] at z;cases z⟩
 keep:=fun i h h' st k=>st.at fun o e=>k it (by simp) o e
 item:=by
  intro X hP hw hK hc i pins s σ H E I hf st hg
  subst hP hw hK
  obtain ⟨xs,x,hq,hx⟩:=hg
  obtain ⟨its,rv,p,hz⟩:=I.list hq
  obtain ⟨u,hu,ru⟩:=rv.get hx
  obtain ⟨f0,f1,f2,f3,f4,f5⟩:=hf it (by simp)
  refine wpAny_pyNext_list_item st p.isList (x:=u) (by simpa using hu) fun h' st' sb=>?_
  have I1:Inv X pins σ H { s with heap:=h' }:=I.turned (t':=s.toks) (fun b o hb e=>(sb.2 b hb).trans e) f0 f1 f3 f4 f5
  obtain ⟨o,e,c,d⟩:=id st'
  exact ⟨u,rfl,Vs (s:={ s with heap:=h' }) e c d (by decide) ⟨x,H,I1,ru,⟨rfl,fun ys hy=>by rw [I.list_inj hy hq];exact hx⟩,st',fun b hb=>(hf b hb).1⟩⟩
 done:=by
  intro X hP hw hK hc i pins s σ H E I hf st hg
  subst hP hw hK
  obtain ⟨xs,hq,hx⟩:=hg
  obtain ⟨its,rv,p,hz⟩:=I.list hq
  obtain ⟨f0,f1,f2,f3,f4,f5⟩:=hf it (by simp)
  have hl:=rv.length
  exact wpAny_pyNext_list_end (I.ok.hd hc) st p.isList (by simp;omega) fun h' eb=>⟨rfl,I.turned (t':=s.toks) (fun b o hb e=>eb b o hb e) f0 f1 f3 f4 f5⟩
 self:=fun _ _ _ _ _ st h=>wpAny_pyIter_listiter st h
theorem ZS {P:Program} {w:World} {K:W.Frag} {tg:Expr} (a it:Addr):Turn P w K tg (Itt K a) [it] it (fun i h=>h.IsTupleIter it a i) where
 mem:=by simp
 obj:=fun i h st b hb=>by
  have e:b=it:=by simpa using hb
  subst e
  obtain ⟨o,e,c,d⟩:=st
  exact ⟨o,e,fun v z=>by rw [d] at z;cases z⟩
 keep:=fun i h h' st k=>st.at fun o e=>k it (by simp) o e
 item:=by
  intro X hP hw hK hc i pins s σ H E I hf st hg
  subst hP hw hK
  obtain ⟨xs,x,hq,hx⟩:=hg
  obtain ⟨its,rv,p,hz⟩:=I.tuple hq
  obtain ⟨u,hu,ru⟩:=rv.get hx
  obtain ⟨f0,f1,f2,f3,f4,f5⟩:=hf it (by simp)
  refine wpAny_pyNext_tuple_item st (show s.heap.IsTuple a its.toArray from p) (x:=u) (by simpa using hu) fun h' st' sb=>?_
  have I1:Inv X pins σ H { s with heap:=h' }:=I.turned (t':=s.toks) (fun b o hb e=>(sb.2 b hb).trans e) f0 f1 f3 f4 f5
  obtain ⟨o,e,c,d⟩:=id st'
  exact ⟨u,rfl,Vs (s:={ s with heap:=h' }) e c d (by decide) ⟨x,H,I1,ru,⟨rfl,fun ys hy=>by rw [I.tuple_inj hy hq];exact hx⟩,st',fun b hb=>(hf b hb).1⟩⟩
 done:=by
  intro X hP hw hK hc i pins s σ H E I hf st hg
  subst hP hw hK
  obtain ⟨xs,hq,hx⟩:=hg
  obtain ⟨its,rv,p,hz⟩:=I.tuple hq
  obtain ⟨f0,f1,f2,f3,f4,f5⟩:=hf it (by simp)
  have hl:=rv.length
  exact wpAny_pyNext_tuple_end (I.ok.hd hc) st (show s.heap.IsTuple a its.toArray from p) (by simp;omega) fun h' eb=>⟨rfl,I.turned (t':=s.toks) (fun b o hb e=>eb b o hb e) f0 f1 f3 f4 f5⟩
 self:=fun _ _ _ _ _ st h=>wpAny_pyIter_tupleiter st h
theorem ZT {P:Program} {w:World} {K:PySem.W.Frag} {tg:Expr} (it:Addr) (lo:Int) (n:Nat):Turn P w K tg (Itr lo n) [it] it (fun i h=>IsRangeIter h it (lo+(i:Nat)*1) ((n:Int) - (i:Nat)) 1) where
 mem:=by simp
 obj:=fun i h st b hb=>by
  have e:b=it:=by simpa using hb
  subst e
  exact ⟨_,st,fun v z=>by
   have z':Data.fields _=Data.cell v:=z
   cases z'⟩
 keep:=fun i h h' st k=>k it (by simp) _ st
 item:=by
  intro X hP hw hK hc i pins s σ H E I hf st hg
  subst hP hw hK
  obtain ⟨f0,f1,f2,f3,f4,f5⟩:=hf it (by simp)
  have W:=Walks.range (prog:=X.prog) (w:=X.w) (I.ok.hd hc) it lo 1 n
  refine W.item i s _ _ hg st fun v h' tk hv st' kk=>?_
  obtain ⟨t,rfl⟩:=hv
  have I1:Inv X pins σ H { s with heap:=h',toks:=tk }:=I.turned (fun b o hb e=>kk b o (by simpa using hb) e) f0 f1 f3 f4 f5
  refine ⟨_,rfl,Vs (s:={ s with heap:=h',toks:=tk }) (n:= "range_iterator") st' rfl rfl (by decide) ⟨.int (lo+i),H,I1,⟨t,?_⟩,⟨rfl,rfl⟩,st',fun b hb=>(hf b hb).1⟩⟩
  rw [Int.mul_one]
 done:=by
  intro X hP hw hK hc i pins s σ H E I hf st hg
  subst hP hw hK
  obtain ⟨f0,f1,f2,f3,f4,f5⟩:=hf it (by simp)
  exact wpAny_pyNext_range_end (I.ok.hd hc) st (by have:n<=i:=hg;omega) fun h' eb=>⟨rfl,I.turned (t':=s.toks) (fun b o hb e=>eb b o hb e) f0 f1 f3 f4 f5⟩
 self:=fun _ _ _ _ _ st h=>wpAny_pyIter_rangeiter st h
section
variable {X:Cx} {tg:Expr}
def iList (K:W.Frag) (tl:TE):TI:=fun σ H R=>tl σ H fun x H1=>∃a,x= .ref a/\(∃xs,SqL K H1 a xs)/\R (Itl K a) H1
def iTup (K:W.Frag) (tl:TE):TI:=fun σ H R=>tl σ H fun x H1=>∃a,x= .ref a/\(∃xs,SqT K H1 a xs)/\R (Itt K a) H1
theorem Jb {l:Expr} {tl:TE} (hl:PE X l tl):PI X tg l (iList X.K tl):=by
 intro pins s σ H R I h
 refine thn (hl pins s σ H _ I h) fun v s1 ⟨x,H1,I1,r1,q1⟩=>?_
 obtain ⟨a,e,⟨xs,hq⟩,q⟩:=q1
 subst e
 cases r1
 obtain ⟨its,rv,p,hz⟩:=I1.list hq
 refine wpAny_pyIter_list p.isList ?_
 refine ⟨s1.heap.objs.size,[s1.heap.objs.size],_,_,H1,rfl,I1.kept (t':=s1.toks) fun b o e=>Heap.get?_push_of_some _ e,VQ a _,⟨_,Heap.get?_push_size _ rfl,rfl,rfl⟩,fun b hb=>?_,q⟩
 have e:b=s1.heap.objs.size:=by simpa using hb
 subst e
 exact I1.fpOk (mJ _) (I1.hok.fresh (mJ _))
theorem KZ {l:Expr} {tl:TE} (hl:PE X l tl):PI X tg l (iTup X.K tl):=by
 intro pins s σ H R I h
 refine thn (hl pins s σ H _ I h) fun v s1 ⟨x,H1,I1,r1,q1⟩=>?_
 obtain ⟨a,e,⟨xs,hq⟩,q⟩:=q1
 subst e
 cases r1
 obtain ⟨its,rv,p,hz⟩:=I1.tuple hq
 refine wpAny_pyIter_tuple (show s1.heap.IsTuple a its.toArray from p) ?_
 refine ⟨s1.heap.objs.size,[s1.heap.objs.size],_,_,H1,rfl,I1.kept (t':=s1.toks) fun b o e=>Heap.get?_push_of_some _ e,ZS a _,⟨_,Heap.get?_push_size _ rfl,rfl,rfl⟩,fun b hb=>?_,q⟩
 have e:b=s1.heap.objs.size:=by simpa using hb
 subst e
 exact I1.fpOk (mJ _) (I1.hok.fresh (mJ _))
theorem Y5 {pins:List (Addr×Obj)} {σ:St} {H:Hp} {s:Shared} {R:It->Hp->Prop} {E:Value->Shared->Prop} {lo hi:Int} {t u v:Tok} {tk:Nat} (I:Inv X pins σ H s) (h1: -(2^62)<=lo) (h2:lo<2^62) (h3: -(2^62)<=hi) (h4:hi<2^62)
  (q:R (Itr lo (hi - lo).toNat) H):wpAny (model X.prog X.w) X.A (pyIter (.ref s.heap.objs.size)) (PIE X pins σ tg R) E { s with heap:=s.heap.push { cls:= .type "range",data:= .fields #[.int lo t,.int hi u,.int 1 v] },toks:=tk }:=by
 refine wpAny_pyIter_range (IsRange.new ..) (small_one h1 h2 h3 h4) ?_
 have I1:Inv X pins σ H { s with heap:=s.heap.push { cls:= .type "range",data:= .fields #[.int lo t,.int hi u,.int 1 v] },toks:=tk }:=I.kept fun b o e=>Heap.get?_push_of_some _ e
 refine ⟨(s.heap.push { cls:= .type "range",data:= .fields #[.int lo t,.int hi u,.int 1 v] }).objs.size,[(s.heap.push { cls:= .type "range",data:= .fields #[.int lo t,.int hi u,.int 1 v] }).objs.size],_,_,H,rfl,
  I1.kept (t':=tk) fun b o e=>Heap.get?_push_of_some _ e,ZT _ lo (hi - lo).toNat,?_,fun b hb=>?_,q⟩
 ·have e1:lo+((0:Nat):Int)*1=lo:=by simp
  have e2:(((hi - lo).toNat:Nat):Int) - ((0:Nat):Int)=Builtin.Range.rangeSize lo hi 1:=by rw [rangeSize_one];split<;>omega
  show IsRangeIter _ _ (lo+((0:Nat):Int)*1) ((((hi - lo).toNat:Nat):Int) - ((0:Nat):Int)) 1
  rw [e1,e2]
  exact Heap.get?_push_size _ rfl
 ·have e:b=(s.heap.push { cls:= .type "range",data:= .fields #[.int lo t,.int hi u,.int 1 v] }).objs.size:=by simpa using hb
  subst e
  exact I1.fpOk (mJ _) (I1.hok.fresh (mJ _))
def iRng1 (ta:TA):TI:=fun σ H R=>ta σ H fun vs H1=>∃j:Int,vs=[.int j]/\ -(2^62)<=j/\j<2^62/\R (Itr 0 j.toNat) H1
def iRng2 (ta:TA):TI:=fun σ H R=>ta σ H fun vs H1=>∃i j:Int,vs=[.int i,.int j]/\(-(2^62)<=i/\i<2^62/\ -(2^62)<=j/\j<2^62)/\R (Itr i (j - i).toNat) H1
theorem Wa {a:Expr} {ta:TA} {p pos:Pos} (hg:Gl X "range") (hm:X.mg "range" =none) (ha:PA X [a] ta) (hs:starEach [a] X.env=[(false,eval a X.env)]:=by rfl):PI X tg (.Call (.Name "range" p) [a] [] pos) (iRng1 ta):=by
 intro pins s σ H R I h
 refine Call_ (vZ I hg hm boot_range (PyProof.Rows.callWith_type1 (thn (ha pos pins s σ H _ I h) fun us s1 ⟨vs,H1,I1,r1,q1⟩=>?_) hs rfl))
 obtain ⟨j,e,q1,q2,q⟩:=q1
 subst e
 cases r1 with
 | cons r rr=>
  cases rr
  obtain ⟨t,rfl⟩:=r
  exact call_range_1 (Y5 I1 (by omega) (by omega) q1 q2 (by simpa using q))
theorem V9 {a b:Expr} {ta:TA} {p pos:Pos} (hg:Gl X "range") (hm:X.mg "range" =none) (ha:PA X [a,b] ta) (hs:starEach [a,b] X.env=[(false,eval a X.env),(false,eval b X.env)]:=by rfl) (hs2:starEach [b] X.env=[(false,eval b X.env)]:=by rfl):
  PI X tg (.Call (.Name "range" p) [a,b] [] pos) (iRng2 ta):=by
 intro pins s σ H R I h
 refine Call_ (vZ I hg hm boot_range (PyProof.Rows.callWith_type1 (thn (ha pos pins s σ H _ I h) fun us s1 ⟨vs,H1,I1,r1,q1⟩=>?_) (by rw [hs,hs2]) (by rw [hs2];rfl)))
 obtain ⟨i,j,e,⟨q1,q2,q3,q4⟩,q⟩:=q1
 subst e
 cases r1 with
 | cons r rr=>
  cases rr with
  | cons r' rr=>
   cases rr
   obtain ⟨t,rfl⟩:=r
   obtain ⟨t',rfl⟩:=r'
   exact call_range_2 (Y5 I1 q1 q2 q3 q4 q)
def tFor (wi:TI) (g:TG) (tb:TS):TS:=fun D σ H=>wi σ H fun J H1=>∃W:Nat->Nat->St->Hp->Prop,(∃m,W 0 m σ H1)/\∀i m σ H,W i m σ H->
 (J.stop i H/\D.nx σ H)∨(J.go i H/\∃N:St->Hp->Prop,(∀σ' H',N σ' H'->∃m',m'<m/\W (i+1) m' σ' H')/\∀x H',J.yld i H x H'->g x σ H' fun σ2 H2=>tb { D with nx:=N,ct:=N,bk:=D.nx } σ2 H2)
def pinsAt (fp:List Addr) (h:Heap):List (Addr×Obj):=fp.filterMap fun b=>(h.get? b).map fun o=>(b,o)
theorem zV {fp:List Addr} {h:Heap} {b:Addr} {o:Obj} (hb:b∈fp) (e:h.get? b=some o):(b,o)∈pinsAt fp h:=List.mem_filterMap.mpr ⟨b,hb,by rw [e];rfl⟩
theorem Wl {fp:List Addr} {h:Heap} {p:Addr×Obj} (hp:p∈pinsAt fp h):p.1∈fp/\h.get? p.1=some p.2:=by
 obtain ⟨b,hb,e⟩:=List.mem_filterMap.mp hp
 cases q:h.get? b with
 | none=>rw [q] at e;cases e
 | some o=>
  rw [q] at e
  have e':(b,o)=p:=Option.some.inj e
  subst e'
  exact ⟨hb,q⟩
theorem Inv.pinned {pins:List (Addr×Obj)} {σ:St} {H:Hp} {s:Shared} {fp:List Addr} (I:Inv X pins σ H s) (hf:∀b∈fp,FpOk X pins H b) (ho:∀b∈fp,∃o,s.heap.get? b=some o/\∀v,o.data≠ .cell v):Inv X (pins++pinsAt fp s.heap) σ H s:=
 I.pins_of fun p hp=>(List.mem_append.mp hp).elim (fun z=>I.pin p (List.mem_append_right _ z)) fun z=>by
  obtain ⟨hb,e⟩:=Wl z
  obtain ⟨f0,f1,f2,_⟩:=hf p.1 hb
  obtain ⟨o,e',d⟩:=ho p.1 hb
  rw [e] at e';cases e'
  exact ⟨e,f0,f1,f2,d⟩
theorem Inv.unpinned {pins pl:List (Addr×Obj)} {σ:St} {H:Hp} {s:Shared} (I:Inv X (pins++pl) σ H s):Inv X pins σ H s:=I.pins_of fun p hp=>I.pin p (List.mem_append_right _ (List.mem_append_left _ hp))
theorem KY {iter:Expr} {body:List Stmt} {wi:TI} {g:TG} {tb:TS} {pos:Pos} (hp:PassesOwn (model X.prog X.w) X.A X.env X.xe) (hc:X.calm=true) (hi:PI X tg iter wi) (hg:PG X tg g) (hb:PSs X body tb)
  (hs:∀x,foldedSetIterable iter X.env x=pure x:=by intro _;rfl):PS X (.For tg iter body [] pos) (tFor wi g tb):=by
 intro pins s σ H D I h
 refine wpAny_For (thn (hi pins s σ H _ I h) fun v s1 h1=>thn h1 fun itv s2 h2=>?_) hs
 obtain ⟨it,fp,tn,J,H2,e,I2,T,st2,f2,W,⟨m0,w0⟩,turn⟩:=h2
 subst e
 have stat:∀{H':Hp},(∀b∈fp,H' b=none)->∀b∈fp,FpOk X pins H' b:=fun hn b hb=>⟨hn b hb,(f2 b hb).2⟩
 refine codeAny_forLoop_any (fun n s'=>∃i σ' H',Inv X pins σ' H' s'/\tn i s'.heap/\(∀b∈fp,H' b=none)/\W i n σ' H') ?_ m0 ⟨0,σ,H2,I2,st2,fun b hb=>(f2 b hb).1,w0⟩
 rintro n s3 ⟨i,σ3,H3,I3,st3,fr3,w3⟩
 rcases turn i n σ3 H3 w3 with ⟨stop,qn⟩ | ⟨go,N,hN,step⟩
 ·refine wpAny_passesOwn hp (thn (T.done X rfl rfl rfl hc i pins s3 σ3 H3 X.xe I3 (stat fr3) st3 stop) fun r s4 ⟨hr,I4⟩=>?_)
  subst hr
  exact wpAny_execs_nil ⟨σ3,H3,I4,qn⟩
 ·refine wpAny_passesOwn hp (thn (T.item X rfl rfl rfl hc i pins s3 σ3 H3 X.xe I3 (stat fr3) st3 go) fun r s4 ⟨u,hr,h4⟩=>?_)
  subst hr
  refine wpAny_passesOwn hp (thn h4 fun _ s5 ⟨x,H5,I5,r5,y5,st5,fr5⟩=>?_)
  have I5':=I5.pinned (stat fr5) (T.obj _ _ st5)
  refine wpAny_passesOwn hp (thn (hg _ s5 σ3 H5 x u _ I5' r5 (step x H5 y5)) fun _ s6 ⟨σ6,H6,I6,q6⟩=>?_)
  refine wpAny_passesOwn hp (thn (hb _ s6 σ6 H6 _ I6 q6) fun f s7 q7=>?_)
  have again:∀{σ7:St} {H7:Hp},Inv X (pins++pinsAt fp s5.heap) σ7 H7 s7->N σ7 H7->∃m,m<n/\∃i σ' H',Inv X pins σ' H' s7/\tn i s7.heap/\(∀b∈fp,H' b=none)/\W i m σ' H':=fun {σ7 H7} I7 n7=>by
   obtain ⟨m',hm,w7⟩:=hN σ7 H7 n7
   refine ⟨m',hm,i+1,σ7,H7,I7.unpinned,T.keep _ _ _ st5 fun b hb o e=>(I7.pin (b,o) (List.mem_append_right _ (List.mem_append_right _ (zV hb e)))).1,fun b hb=>?_,w7⟩
   obtain ⟨o,e,d⟩:=T.obj _ _ st5 b hb
   exact (I7.pin (b,o) (List.mem_append_right _ (List.mem_append_right _ (zV hb e)))).2.1
  cases f with
  | next=>obtain ⟨σ7,H7,I7,n7⟩:=q7;exact again I7 n7
  | cont=>obtain ⟨σ7,H7,I7,n7⟩:=q7;exact again I7 n7
  | brk=>obtain ⟨σ7,H7,I7,q7⟩:=q7;exact ⟨σ7,H7,I7.unpinned,q7⟩
  | ret v=>obtain ⟨x7,σ7,H7,I7,r7,q7⟩:=q7;exact ⟨x7,σ7,H7,I7.unpinned,r7,q7⟩
end
abbrev R2:=V->V->Hp->VK->Prop
def OpR (X:Cx) (f:Value->Value->Sem Value) (r:R2):Prop:=
 ∀(pins:List (Addr×Obj)) (s:Shared) (σ:St) (H:Hp) (x y:V) (v u:Value) (Q:VK),Inv X pins σ H s->RelV x v->RelV y u->r x y H Q->
  wpAny (model X.prog X.w) X.A (f v u) (EP X pins σ Q) X.xe s
def UnR (X:Cx) (f:Value->Sem Value) (r:V->Hp->VK->Prop):Prop:=
 ∀(pins:List (Addr×Obj)) (s:Shared) (σ:St) (H:Hp) (x:V) (v:Value) (Q:VK),Inv X pins σ H s->RelV x v->r x H Q->
  wpAny (model X.prog X.w) X.A (f v) (EP X pins σ Q) X.xe s
def CallR (X:Cx) (f:Value) (r:List V->Hp->VK->Prop):Prop:=
 ∀(pins:List (Addr×Obj)) (s:Shared) (σ:St) (H:Hp) (xs:List V) (us:List Value) (Q:VK),Inv X pins σ H s->Vals xs us->r xs H Q->
  wpAny (model X.prog X.w) X.A (call f us) (EP X pins σ Q) X.xe s
def tOp (r:R2) (ta tb:TE):TE:=fun σ H Q=>ta σ H fun x H1=>tb σ H1 fun y H2=>r x y H2 Q
def tUn (r:V->Hp->VK->Prop) (ta:TE):TE:=fun σ H Q=>ta σ H fun x H1=>r x H1 Q
def rI (C:Int->Int->Prop) (g:Int->Int->V):R2:=fun x y H Q=>∃i j,x= .int i/\y= .int j/\C i j/\Q (g i j) H
def rI0 (g:Int->Int->V):R2:=fun x y H Q=>∃i j,x= .int i/\y= .int j/\Q (g i j) H
def rU (g:Int->V):V->Hp->VK->Prop:=fun x H Q=>∃i,x= .int i/\Q (g i) H
section
variable {X:Cx} {a b c:Expr} {ta tb tc:TE} {pos:Pos}
theorem binT (ha:PE X a ta) (hb:PE X b tb) {pins:List (Addr×Obj)} {s:Shared} {σ:St} {H:Hp} {R:V->V->Hp->Prop} (I:Inv X pins σ H s)
  (h:ta σ H fun x H1=>tb σ H1 fun y H2=>R x y H2) {Q:Value->Shared->Prop} {f:Value->Value->Sem Value}
  (hf:∀v u s2 x y H2,Inv X pins σ H2 s2->RelV x v->RelV y u->R x y H2->wpAny (model X.prog X.w) X.A (f v u) Q X.xe s2):
  wpAny (model X.prog X.w) X.A (eval a X.env) (fun v s₁=>wpAny (model X.prog X.w) X.A (eval b X.env) (fun u s₂=>wpAny (model X.prog X.w) X.A (f v u) Q X.xe s₂) X.xe s₁) X.xe s:=by
 refine thn (ha pins s σ H _ I h) fun v s1 ⟨x,H1,I1,r1,q1⟩=>?_
 refine thn (hb pins s1 σ H1 _ I1 q1) fun u s2 ⟨y,H2,I2,r2,q2⟩=>?_
 exact hf v u s2 x y H2 I2 r1 r2 q2
theorem XC {op:Operator} {r:R2} (ho:OpR X (binaryOp op) r) (ha:PE X a ta) (hb:PE X b tb):PE X (.BinOp a op b pos) (tOp r ta tb):=by
 intro pins s σ H Q I h
 exact wpAny_BinOp (binT ha hb I h fun v u s2 x y H2 I2 rx ry q=>ho pins s2 σ H2 x y v u Q I2 rx ry q)
theorem xa8 {op:UnaryOp} {r:V->Hp->VK->Prop} (ho:UnR X (unaryOp op) r) (ha:PE X a ta):PE X (.UnaryOp op a pos) (tUn r ta):=by
 intro pins s σ H Q I h
 exact UnaryOp_ (thn (ha pins s σ H _ I h) fun v s1 ⟨x,H1,I1,r1,q1⟩=>ho pins s1 σ H1 x v Q I1 r1 q1)
theorem opI {f:Value->Value->Sem Value} {C:Int->Int->Prop} {g:Int->Int->Int}
  (rule:∀(i j:Int) (t u:Tok) (s:Shared) (Q:Value->Shared->Prop) (E:Value->Shared->Prop),C i j->Q (.int (g i j) s.toks) { s with toks:=s.toks+1 }->wpAny (model X.prog X.w) X.A (f (.int i t) (.int j u)) Q E s):
  OpR X f (rI C fun i j=> .int (g i j)):=by
 intro pins s σ H x y v u Q I rx ry h
 obtain ⟨i,j,rfl,rfl,hc,q⟩:=h
 obtain ⟨t,rfl⟩:=rx
 obtain ⟨t',rfl⟩:=ry
 exact rule i j t t' s _ _ hc ⟨.int (g i j),H,I.tok _,⟨_,rfl⟩,q⟩
theorem opI0 {f:Value->Value->Sem Value} {g:Int->Int->Int}
  (rule:∀(i j:Int) (t u:Tok) (s:Shared) (Q:Value->Shared->Prop) (E:Value->Shared->Prop),Q (.int (g i j) s.toks) { s with toks:=s.toks+1 }->wpAny (model X.prog X.w) X.A (f (.int i t) (.int j u)) Q E s):
  OpR X f (rI0 fun i j=> .int (g i j)):=by
 intro pins s σ H x y v u Q I rx ry h
 obtain ⟨i,j,rfl,rfl,q⟩:=h
 obtain ⟨t,rfl⟩:=rx
 obtain ⟨t',rfl⟩:=ry
 exact rule i j t t' s _ _ ⟨.int (g i j),H,I.tok _,⟨_,rfl⟩,q⟩
theorem opB0 {f:Value->Value->Sem Value} {g:Int->Int->Bool}
  (rule:∀(i j:Int) (t u:Tok) (s:Shared) (Q:Value->Shared->Prop) (E:Value->Shared->Prop),Q (.bool (g i j)) s->wpAny (model X.prog X.w) X.A (f (.int i t) (.int j u)) Q E s):
  OpR X f (rI0 fun i j=> .bl (g i j)):=by
 intro pins s σ H x y v u Q I rx ry h
 obtain ⟨i,j,rfl,rfl,q⟩:=h
 obtain ⟨t,rfl⟩:=rx
 obtain ⟨t',rfl⟩:=ry
 exact rule i j t t' s _ _ ⟨.bl (g i j),H,I,rfl,q⟩
def CPow (i j:Int):Prop:=0<=j/\j<=1000000/\i.natAbs<2^64
theorem xae:OpR X (binaryOp .Add) (rI0 fun i j=> .int (i+j)):=opI0 fun _ _ _ _ _ _ _ q=>add_int q
theorem xaa:OpR X (binaryOp .Sub) (rI0 fun i j=> .int (i - j)):=opI0 fun _ _ _ _ _ _ _ q=>sub_int q
theorem xac:OpR X (binaryOp .Mod) (rI (fun _ j=>0<j) fun i j=> .int (i%j)):=opI fun i j _ _ _ _ _ hc q=>by
 have h1:(0:Int)<j:=hc
 exact mod_int' (by omega) (by rw [Int.fmod_eq_emod_of_nonneg i (by omega)];exact q)
theorem Jk:OpR X (binaryOp .Mod) (rI (fun _ j=>j≠0) fun i j=> .int (i.fmod j)):=opI fun _ _ _ _ _ _ _ hc q=>mod_int' hc q
theorem xab:OpR X (binaryOp .Pow) (rI CPow fun i j=> .int (i^j.toNat)):=opI fun _ _ _ _ _ _ _ hc q=>pow_int_small hc.1 hc.2.1 hc.2.2 q
theorem unI {f:Value->Sem Value} {g:Int->Int}
  (rule:∀(i:Int) (t:Tok) (s:Shared) (Q:Value->Shared->Prop) (E:Value->Shared->Prop),Q (.int (g i) s.toks) { s with toks:=s.toks+1 }->wpAny (model X.prog X.w) X.A (f (.int i t)) Q E s):
  UnR X f (rU fun i=> .int (g i)):=by
 intro pins s σ H x v Q I rx h
 obtain ⟨i,rfl,q⟩:=h
 obtain ⟨t,rfl⟩:=rx
 exact rule i t s _ _ ⟨.int (g i),H,I.tok _,⟨_,rfl⟩,q⟩
theorem KC:UnR X (unaryOp .USub) (rU fun i=> .int (-i)):=unI fun _ _ _ _ _ q=>neg_int q
end
def scal:V->V->Bool
 | .non,.non=>true | .non,.int _=>true | .int _,.non=>true | .non,.bl _=>true | .bl _,.non=>true | .non,.str _=>true | .str _,.non=>true
 | .int _,.int _=>true | .bl _,.bl _=>true | .str _,.str _=>true | .byt _,.byt _=>true
 | .int _,.str _=>true | .str _,.int _=>true | .bl _,.str _=>true | .str _,.bl _=>true
 | _,_=>false
def rEq:R2:=fun x y H Q=>scal x y=true/\Q (.bl (decide (x=y))) H
def rNe:R2:=fun x y H Q=>scal x y=true/\Q (.bl (!decide (x=y))) H
theorem qK {i j:Int}:decide (V.int i=V.int j)=(i==j):=by
 rw [Bool.eq_iff_iff]
 simp
theorem jS {i j:Bool}:decide (V.bl i=V.bl j)=(i==j):=by
 rw [Bool.eq_iff_iff]
 simp
theorem wS {i j:Str}:decide (V.str i=V.str j)=(i==j):=by
 rw [Bool.eq_iff_iff]
 simp
theorem VE {i j:Array UInt8}:decide (V.byt i=V.byt j)=(i.toList==j.toList):=by
 rw [Bool.eq_iff_iff]
 cases i
 cases j
 simp
section
variable {X:Cx} {a b c:Expr} {ta tb tc:TE} {pos:Pos}
theorem xO {pins:List (Addr×Obj)} {σ:St} {H:Hp} {s:Shared} {Q:VK} {k k':Bool} (I:Inv X pins σ H s) (q:Q (.bl k) H) (e:k=k'):EP X pins σ Q (.bool k') s:=by
 subst e
 exact ⟨.bl k,H,I,rfl,q⟩
theorem U0:OpR X (compareOp .Eq) rEq:=by
 intro pins s σ H x y v u Q I rx ry h
 obtain ⟨hs,q⟩:=h
 cases x with
 | non=>
  cases rx
  cases y with
  | non=>cases ry;exact PySem.EqNone.eq_none_none (xO I q (by simp))
  | bl j=>cases ry;exact PySem.EqNone.eq_none_bool (xO I q (by simp))
  | int j=>obtain ⟨t',rfl⟩:=ry;exact PySem.EqNone.eq_none_int (xO I q (by simp))
  | str j=>obtain ⟨t',rfl⟩:=ry;exact PySem.EqNone.eq_none_str (xO I q (by simp))
  | _=>exact absurd (show false=true from hs) Bool.false_ne_true
 | bl i=>
  cases rx
  cases y with
  | non=>cases ry;exact PySem.EqNone.eq_bool_none (xO I q (by simp))
  | bl j=>cases ry;exact eq_bool (xO I q jS)
  | str j=>obtain ⟨t',rfl⟩:=ry;exact PySem.EqMixed.eq_bool_str (xO I q (by simp))
  | _=>exact absurd (show false=true from hs) Bool.false_ne_true
 | int i=>
  obtain ⟨t,rfl⟩:=rx
  cases y with
  | non=>cases ry;exact PySem.EqNone.eq_int_none (xO I q (by simp))
  | int j=>obtain ⟨t',rfl⟩:=ry;exact eq_int (xO I q qK)
  | str j=>obtain ⟨t',rfl⟩:=ry;exact PySem.EqMixed.eq_int_str (xO I q (by simp))
  | _=>exact absurd (show false=true from hs) Bool.false_ne_true
 | str i=>
  obtain ⟨t,rfl⟩:=rx
  cases y with
  | non=>cases ry;exact PySem.EqNone.eq_str_none (xO I q (by simp))
  | bl j=>cases ry;exact PySem.EqMixed.eq_str_bool (xO I q (by simp))
  | int j=>obtain ⟨t',rfl⟩:=ry;exact PySem.EqMixed.eq_str_int (xO I q (by simp))
  | str j=>obtain ⟨t',rfl⟩:=ry;exact eq_str (xO I q wS)
  | _=>exact absurd (show false=true from hs) Bool.false_ne_true
 | byt i=>
  obtain ⟨t,rfl⟩:=rx
  cases y with
  | byt j=>obtain ⟨t',rfl⟩:=ry;exact W.eq_bytes (xO I q VE)
  | _=>exact absurd (show false=true from hs) Bool.false_ne_true
 | _=>cases y<;>exact absurd (show false=true from hs) Bool.false_ne_true
theorem UY:OpR X (compareOp .NotEq) rNe:=by
 intro pins s σ H x y v u Q I rx ry h
 obtain ⟨hs,q⟩:=h
 cases x with
 | non=>
  cases rx
  cases y with
  | non=>cases ry;exact PySem.EqNone.ne_none_none (xO I q (by simp))
  | bl j=>cases ry;exact PySem.EqNone.ne_none_bool (xO I q (by simp))
  | int j=>obtain ⟨t',rfl⟩:=ry;exact PySem.EqNone.ne_none_int (xO I q (by simp))
  | str j=>obtain ⟨t',rfl⟩:=ry;exact PySem.EqNone.ne_none_str (xO I q (by simp))
  | _=>exact absurd (show false=true from hs) Bool.false_ne_true
 | bl i=>
  cases rx
  cases y with
  | non=>cases ry;exact PySem.EqNone.ne_bool_none (xO I q (by simp))
  | bl j=>cases ry;exact ne_bool (xO I q (congrArg not jS))
  | str j=>obtain ⟨t',rfl⟩:=ry;exact PySem.EqMixed.ne_bool_str (xO I q (by simp))
  | _=>exact absurd (show false=true from hs) Bool.false_ne_true
 | int i=>
  obtain ⟨t,rfl⟩:=rx
  cases y with
  | non=>cases ry;exact PySem.EqNone.ne_int_none (xO I q (by simp))
  | int j=>obtain ⟨t',rfl⟩:=ry;exact ne_int (xO I q (congrArg not qK))
  | str j=>obtain ⟨t',rfl⟩:=ry;exact PySem.EqMixed.ne_int_str (xO I q (by simp))
  | _=>exact absurd (show false=true from hs) Bool.false_ne_true
 | str i=>
  obtain ⟨t,rfl⟩:=rx
  cases y with
  | non=>cases ry;exact PySem.EqNone.ne_str_none (xO I q (by simp))
  | bl j=>cases ry;exact PySem.EqMixed.ne_str_bool (xO I q (by simp))
  | int j=>obtain ⟨t',rfl⟩:=ry;exact PySem.EqMixed.ne_str_int (xO I q (by simp))
  | str j=>obtain ⟨t',rfl⟩:=ry;exact ne_str (xO I q (congrArg not wS))
  | _=>exact absurd (show false=true from hs) Bool.false_ne_true
 | byt i=>
  obtain ⟨t,rfl⟩:=rx
  cases y with
  | byt j=>obtain ⟨t',rfl⟩:=ry;exact W.ne_bytes (xO I q (congrArg not VE))
  | _=>exact absurd (show false=true from hs) Bool.false_ne_true
 | _=>cases y<;>exact absurd (show false=true from hs) Bool.false_ne_true
theorem xba:OpR X (compareOp .Lt) (rI0 fun i j=> .bl (decide (i<j))):=opB0 fun _ _ _ _ _ _ _ q=>lt_int q
theorem Ko:OpR X (compareOp .LtE) (rI0 fun i j=> .bl (decide (i<=j))):=opB0 fun _ _ _ _ _ _ _ q=>le_int q
theorem Kp:OpR X (compareOp .Gt) (rI0 fun i j=> .bl (decide (j<i))):=opB0 fun _ _ _ _ _ _ _ q=>gt_int q
theorem Kq:OpR X (compareOp .GtE) (rI0 fun i j=> .bl (decide (j<=i))):=opB0 fun _ _ _ _ _ _ _ q=>ge_int q
theorem Wb:OpR X (compareOp .In) (fun x y H Q=>∃i j,x= .str i/\y= .str j/\Q (.bl (!(Builtin.Str.occurrences j i 0 j.length 1).isEmpty)) H):=by
 intro pins s σ H x y v u Q I rx ry h
 obtain ⟨i,j,rfl,rfl,q⟩:=h
 obtain ⟨t,rfl⟩:=rx
 obtain ⟨t',rfl⟩:=ry
 exact in_str (xO I q rfl)
theorem nomark (b:Expr) {op:CmpOp} (h:op≠ .In:=by decide) (h2:op≠ .NotIn:=by decide):behindInMarks op b=false:=by
 have e1:(op==CmpOp.In)=false:=by cases op<;>first | rfl | exact absurd rfl h
 have e2:(op==CmpOp.NotIn)=false:=by cases op<;>first | rfl | exact absurd rfl h2
 cases b<;>simp [behindInMarks,e1,e2]
theorem vf {op:CmpOp} {r:R2} (ho:OpR X (compareOp op) r) (ha:PE X a ta) (hb:PE X b tb) (hm:behindInMarks op b=false):PE X (.Compare a [op] [b] pos) (tOp r ta tb):=by
 intro pins s σ H Q I h
 exact wpAny_Compare1 (binT ha hb I h fun v u s2 x y H2 I2 rx ry q=>ho pins s2 σ H2 x y v u Q I2 rx ry q) hm
def tTest (t:TE):TT:=fun σ H Q=>t σ H fun x H'=>∃k,x= .bl k/\Q k H'
theorem Yj {op:CmpOp} {r:R2} (ho:OpR X (compareOp op) r) (ha:PE X a ta) (hb:PE X b tb) (hm:behindInMarks op b=false):PT X (.Compare a [op] [b] pos) (tTest (tOp r ta tb)):=by
 intro pins s σ H Q I h
 refine wpAny_isTrue_Compare1 (thn (ha pins s σ H _ I h) fun v s1 ⟨x,H1,I1,r1,q1⟩=>thn (hb pins s1 σ H1 _ I1 q1) fun u s2 ⟨y,H2,I2,r2,q2⟩=>
  thn (ho pins s2 σ H2 x y v u _ I2 r1 r2 q2) fun c s3 ⟨z,H3,I3,r3,k,e,q3⟩=>?_) hm
 subst e
 cases r3
 exact wpAny_truthy_bool ⟨H3,I3,q3⟩
theorem line63:(sizeLine:Nat)<2^63:=by rw [sizeLine_eq];decide
theorem Qg:OpR X (binaryOp .Add) (fun x y H Q=>∃i j,x= .str i/\y= .str j/\i.length+j.length<=sizeLine/\Q (.str (i++j)) H):=by
 intro pins s σ H x y v u Q I rx ry h
 obtain ⟨i,j,rfl,rfl,hz,q⟩:=h
 obtain ⟨t,rfl⟩:=rx
 obtain ⟨t',rfl⟩:=ry
 exact add_str (fun t' tk=>⟨.str (i++j),H,I.tok _,⟨_,rfl⟩,q⟩) hz
theorem vals1 {x:V} {us:List Value} (r:Vals [x] us):∃u,us=[u]/\RelV x u:=by
 cases r with
 | cons r1 r2=>cases r2;exact ⟨_,rfl,r1⟩
theorem vals2 {x y:V} {us:List Value} (r:Vals [x,y] us):∃u w',us=[u,w']/\RelV x u/\RelV y w':=by
 cases r with
 | cons r1 r2=>
  cases r2 with
  | cons r3 r4=>cases r4;exact ⟨_,_,rfl,r1,r3⟩
theorem jV:CallR X (.builtin "abs") (fun xs H Q=>∃i,xs=[.int i]/\Q (.int (if i<0 then -i else i)) H):=by
 intro pins s σ H xs us Q I r h
 obtain ⟨i,rfl,q⟩:=h
 obtain ⟨u,rfl,t,rfl⟩:=vals1 r
 exact call_abs_int fun u tk=>⟨.int (if i<0 then -i else i),H,I.tok _,⟨_,rfl⟩,q⟩
theorem WT (hc:X.calm=true):CallR X (.builtin "max") (fun xs H Q=>∃i j,xs=[.int i,.int j]/\Q (.int (if j>i then j else i)) H):=by
 intro pins s σ H xs us Q I r h
 obtain ⟨i,j,rfl,q⟩:=h
 obtain ⟨u,w',rfl,⟨t,rfl⟩,⟨t',rfl⟩⟩:=vals2 r
 refine max_two_ints (I.ok.hd hc) fun h' tk k=>⟨_,H,I.kept k,?_,q⟩
 by_cases hj:j>i
 ·rw [mH hj,mH hj];exact ⟨_,rfl⟩
 ·rw [mF hj,mF hj];exact ⟨_,rfl⟩
theorem WS (hc:X.calm=true):CallR X (.builtin "min") (fun xs H Q=>∃i j,xs=[.int i,.int j]/\Q (.int (if j<i then j else i)) H):=by
 intro pins s σ H xs us Q I r h
 obtain ⟨i,j,rfl,q⟩:=h
 obtain ⟨u,w',rfl,⟨t,rfl⟩,⟨t',rfl⟩⟩:=vals2 r
 refine min_two_ints (I.ok.hd hc) fun h' tk k=>⟨_,H,I.kept k,?_,q⟩
 by_cases hj:j<i
 ·rw [mH hj,mH hj];exact ⟨_,rfl⟩
 ·rw [mF hj,mF hj];exact ⟨_,rfl⟩
theorem WU:CallR X (.type "int") (fun xs H Q=>(∃i,xs=[.int i]/\Q (.int i) H)∨∃k,xs=[.bl k]/\Q (.int (if k then 1 else 0)) H):=by
 intro pins s σ H xs us Q I r h
 rcases h with ⟨i,rfl,q⟩ | ⟨k,rfl,q⟩
 ·obtain ⟨u,rfl,t,rfl⟩:=vals1 r
  exact call_int_int ⟨.int i,H,I,⟨_,rfl⟩,q⟩
 ·obtain ⟨u,rfl,r1⟩:=vals1 r
  cases r1
  exact call_int_bool ⟨.int (if k then 1 else 0),H,I.tok _,⟨_,rfl⟩,q⟩
theorem vH:CallR X (.type "str") (fun xs H Q=>∃i,xs=[.int i]/\i.natAbs.log2<1920/\Q (.str (toString i)) H):=by
 intro pins s σ H xs us Q I r h
 obtain ⟨i,rfl,hz,q⟩:=h
 obtain ⟨u,rfl,t,rfl⟩:=vals1 r
 exact PySem.P.str_of_int hz ⟨.str _,H,I.tok _,⟨_,rfl⟩,q⟩
def LenV (K:W.Frag) (x:V) (H:Hp) (n:Nat):Prop:=
 match x with
 | .str y=>y.length<=sizeLine/\n=y.length
 | .byt y=>y.size<=sizeLine/\n=y.size
 | .ref p=>(∃xs,SqL K H p xs/\n=xs.length)∨∃xs,SqT K H p xs/\n=xs.length
 | _=>False
theorem vI:CallR X (.builtin "len") (fun xs H Q=>∃x n,xs=[x]/\LenV X.K x H n/\Q (.int n) H):=by
 intro pins s σ H xs us Q I r h
 obtain ⟨x,n,rfl,e,q⟩:=h
 obtain ⟨u,rfl,rx⟩:=vals1 r
 have hl:=line63
 have hs:sizeLine=16777216:=sizeLine_eq
 cases x with
 | str y=>
  obtain ⟨t,rfl⟩:=rx
  obtain ⟨hy,e'⟩:y.length<=sizeLine/\n=y.length:=e
  subst e'
  exact len_str (by omega) ⟨.int _,H,I.tok _,⟨_,rfl⟩,q⟩
 | byt y=>
  obtain ⟨t,rfl⟩:=rx
  obtain ⟨hy,e'⟩:y.size<=sizeLine/\n=y.size:=e
  subst e'
  exact W.len_bytes (by omega) ⟨.int _,H,I.tok _,⟨_,rfl⟩,q⟩
 | ref p=>
  cases rx
  have e':(∃xs,SqL X.K H p xs/\n=xs.length)∨∃xs,SqT X.K H p xs/\n=xs.length:=e
  rcases e' with ⟨xs,hx,e'⟩ | ⟨xs,hx,e'⟩
  ·subst e'
   obtain ⟨its,r',pl,hz⟩:=I.list hx
   have hlen:=r'.length
   exact Calls.call_len_list pl.isList (by simp only [List.size_toArray];omega) ⟨.int xs.length,H,I.tok _,⟨_,by simp only [List.size_toArray];rw [hlen]⟩,q⟩
  ·subst e'
   obtain ⟨its,r',pl,hz⟩:=I.tuple hx
   have hlen:=r'.length
   exact len_tuple pl (by simp only [List.size_toArray];omega) ⟨.int xs.length,H,I.tok _,⟨_,by simp only [List.size_toArray];rw [hlen]⟩,q⟩
 | _=>exact (show False from e).elim
end
structure ObjM (h:Heap) (x dx C:Addr) (mA:Str->Option Value):Prop where
 obj:h.get? x=some (W.instObj C dx)
 ns:h.Ns1 dx mA
 ne:dx≠x
theorem Wr {h:Heap} {dx:Addr} {mA:Str->Option Value} (n:h.Ns1 dx mA):∃od,h.get? dx=some od/\∀name,W.lookIn name od=some (mA name):=by
 obtain ⟨o,es,ep,ho,hd,hk,_,hm⟩:=n
 refine ⟨o,ho,fun name=>?_⟩
 have e:=hm name
 unfold nsFind findBy at e
 rw [<-Array.find?_toList] at e
 unfold W.lookIn
 rw [hd]
 dsimp only
 split
 ·rename_i y q
  rw [q] at e
  exact congrArg some e
 ·rename_i q
  rw [q] at e
  have a:es.toList.any (·.refKey)=false:=by
   rw [List.any_eq_false]
   intro y hy
   obtain ⟨z,t,hkey⟩:=hk y (Array.mem_toList_iff.mp hy)
   simp [DictEntry.refKey,hkey]
  have a':¬es.toList.any (·.refKey)=true:=by rw [a];exact Bool.false_ne_true
  rw [mF a']
  exact congrArg some e
theorem ObjM.look {h:Heap} {x dx C:Addr} {mA:Str->Option Value} (I:ObjM h x dx C mA):∃od,W.InstAt h x (W.instObj C dx) C (some od)/\∀name,W.lookIn name od=some (mA name):=
 let ⟨od,ho,hl⟩:=Wr I.ns
 ⟨od,⟨I.obj,rfl,rfl,ho⟩,hl⟩
section
variable {prog:Program} {w:World} {A:Around} {E:Value->Shared->Prop} {s:Shared} {K:W.Frag} {x dx C f:Addr} {mA:Str->Option Value} {name:Str} {v:Value}
theorem Jw {expr:Bool} {Q:Value->Shared->Prop} (X:K.In s.heap) (I:ObjM s.heap x dx C mA) (hg:W.plainGet K C name=true) (hh:W.hasDictIn K C=true)
  (ha:W.findIn K (.ref C) name=some none) (hv:mA name=some v) (hv':W.handedIn v=true) (h:Q v { s with toks:=s.toks+1 }):
  wpAny (model prog w) A (getAttr (.ref x) name expr) Q E s:=by
 obtain ⟨od,J,hl⟩:=I.look
 exact W.get_value X J (W.plainGet_of hg).1 (W.findObj_own hh ha rfl (by rw [hl,hv])) hv' h
theorem jt {pl:Sem Bool} {Q:Value×List Value->Shared->Prop} (X:K.In s.heap) (I:ObjM s.heap x dx C mA) (hg:W.plainGet K C name=true)
  (hf:W.findIn K (.ref C) name=some (some (.ref f))) (ht:W.isFn K (.ref f)=true) (hv:mA name=none) (h:Q (.ref f,[.ref x]) s):
  wpAny (model prog w) A (getMethod (.ref x) name pl) Q E s:=by
 obtain ⟨od,J,hl⟩:=I.look
 exact W.method_fn X J (W.plainGet_of hg).1 (W.plainGet_of hg).2 hf (beq_iff_eq.mp ht) (by show (W.lookIn name od).map (·.isSome)=some false;rw [hl,hv];rfl) h
theorem kP {ns:List Str} {Q:Unit->Shared->Prop} (X:K.In s.heap) (I:ObjM s.heap x dx C mA)
  (hs:W.findIn K (.ref C) "__setattr__" =some (some (.builtin "object.__setattr__"))) (hp:W.plainOver K C=true) (ht:W.takerIn K C name=some none) (hh:W.hasDictIn K C=true)
  (hw:PySem.Within mA ns) (hsz:ns.length<=sizeLine)
  (h:∀h',ObjM h' x dx C (fun y=>if y=name then some v else mA y)->Heap.SameBut dx s.heap h'->Q () { s with heap:=h',toks:=s.toks+2 }):
  wpAny (model prog w) A (setAttr (.ref x) name v) Q E s:=by
 obtain ⟨od,J,hl⟩:=I.look
 refine W.set_plain X J hs (W.osa_open (s:={ s with toks:=s.toks+1 }) (r:=none) X J hp ht fun b=>?_)
 obtain ⟨cd,hc,hd'⟩:=W.any_some hh
 have hx:s.heap.get? x=some ⟨.ref C,some dx,.plain,#[]⟩:=I.obj
 refine wpAny_bind (wpAny_pure (wpAny_bind (wpAny_bind (wpAny_loadPart hx (wpAny_bind (W.Looks.here (s:={ s with toks:=s.toks+1 }) (W.looks_clsIn X hc) ?_))))))
 rw [hd']
 refine wpAny_pure (a:=some dx) (wpAny_bind (wpAny_pure (wpAny_bind ?_)))
 refine wpAny_nsSet1 (s:={ s with toks:=s.toks+1 }) I.ns fun h' hn2 hs2=>?_
 obtain ⟨oD,esD,epD,hoD,hdD,hcD⟩:=hn2.count (PySem.Within.cons name v hw)
 refine wpAny_bind (wpAny_lookBehind hoD (by rw [hdD];exact pastItsLine_dict (Nat.le_trans hcD (by rw [List.length_cons];omega))) ?_)
 exact wpAny_pure (h _ ⟨(hs2.2 _ (Ne.symm I.ne)).trans I.obj,hn2,I.ne⟩ hs2)
theorem Zm {R:Result->Shared->Prop} {vs:List Value} {kw:List (Str×Value)} (X:K.In s.heap) (hm:W.makesIn K C=true)
  (hi:W.findIn K (.ref C) "__init__" =some (some (.ref f))) (hf:W.typeIn K (.ref f)=some (.type "function"))
  (h:codeAny (model prog w) (A.under (.builtin "type.__call__" ⟨.ref C::vs,kw⟩)) (.call (.ref f) ⟨.ref (s.heap.objs.size+1)::vs,kw⟩) (W.InitBack (s.heap.objs.size+1) R)
   { s with heap:=(s.heap.push W.emptyDict).push (W.instObj C s.heap.objs.size) }):
  codeAny (model prog w) A (.call (.ref C) ⟨vs,kw⟩) R s:=by
 obtain ⟨hh,g,d,t,os⟩:=s
 exact W.make_core (W.makes_of X hm) (W.looks_findIn X hi) (fun self=>W.bind_fn X self hf) (.inl rfl) h
end
noncomputable def putF (f:Str) (v:V):List (Str×V)->List (Str×V)
 | []=>[(f,v)]
 | (g,x)::r=>if g=f then (g,v)::r else (g,x)::putF f v r
theorem ww (f g:Str) (v:V):∀fs:List (Str×V),(putF f v fs).lookup g=if g=f then some v else fs.lookup g
 | []=>by
  show List.lookup g [(f,v)]=_
  by_cases h:g=f
  ·have hb:(g==f)=true:=beq_iff_eq.mpr h
   simp only [List.lookup,hb,if_pos h]
  ·have hb:(g==f)=false:=beq_eq_false_iff_ne.mpr h
   simp only [List.lookup,hb,if_neg h]
 | (k,x)::r=>by
  have ih:=ww f g v r
  rw [show putF f v ((k,x)::r)=(if k=f then (k,v)::r else (k,x)::putF f v r) from rfl]
  by_cases hk:k=f
  ·rw [mH hk]
   by_cases h:g=k
   ·have hb:(g==k)=true:=beq_iff_eq.mpr h
    simp only [List.lookup,hb,if_pos (h.trans hk)]
   ·have hb:(g==k)=false:=beq_eq_false_iff_ne.mpr h
    simp only [List.lookup,hb,if_neg (fun e:g=f=>h (e.trans hk.symm))]
  ·rw [mF hk]
   by_cases h:g=k
   ·have hb:(g==k)=true:=beq_iff_eq.mpr h
    simp only [List.lookup,hb,if_neg (fun e:g=f=>hk (h.symm.trans e))]
   ·have hb:(g==k)=false:=beq_eq_false_iff_ne.mpr h
    simp only [List.lookup,hb]
    exact ih
theorem v3 (f:Str) (v:V):∀fs:List (Str×V),f∈(putF f v fs).map (·.1)/\∀g,g∈fs.map (·.1)->g∈(putF f v fs).map (·.1)
 | []=>⟨by simp [putF],fun g h=>by simp at h⟩
 | (k,x)::r=>by
  obtain ⟨i1,i2⟩:=v3 f v r
  rw [show putF f v ((k,x)::r)=(if k=f then (k,v)::r else (k,x)::putF f v r) from rfl]
  by_cases hk:k=f
  ·rw [mH hk]
   subst hk
   exact ⟨by simp,fun g h=>by simpa using h⟩
  ·rw [mF hk]
   refine ⟨?_,fun g h=>?_⟩
   ·rw [List.map_cons]
    exact mI _ i1
   ·rw [List.map_cons] at h ⊢
    rcases List.mem_cons.mp h with e | e
    ·exact List.mem_cons.mpr (.inl e)
    ·exact mI _ (i2 g e)
theorem wz (f:Str) (v:V):∀fs:List (Str×V),(putF f v fs).length<=fs.length+1
 | []=>by simp [putF]
 | (k,x)::r=>by
  have ih:=wz f v r
  rw [show putF f v ((k,x)::r)=(if k=f then (k,v)::r else (k,x)::putF f v r) from rfl]
  by_cases hk:k=f
  ·rw [mH hk,List.length_cons,List.length_cons];omega
  ·rw [mF hk,List.length_cons,List.length_cons];omega
theorem RelO.some_of {v:V} {o:Option Value} (r:RelO (some v) o):∃u,o=some u/\RelV v u:=by
 cases o with
 | none=>exact (show False from r).elim
 | some u=>exact ⟨u,rfl,r⟩
theorem RelO.none_of {o:Option Value} (r:RelO none o):o=none:=by
 cases o with
 | none=>rfl
 | some u=>exact (show False from r).elim
theorem Wz {v:V} {u:Value} (r:RelV v u):W.handedIn u=true:=by
 cases v with
 | non=>cases (show u=Value.none from r);rfl
 | bl b=>cases (show u=Value.bool b from r);rfl
 | int i=>obtain ⟨t,e⟩:=(show ∃t,u=Value.int i t from r);cases e;rfl
 | str x=>obtain ⟨t,e⟩:=(show ∃t,u=Value.str x t from r);cases e;rfl
 | byt b=>obtain ⟨t,e⟩:=(show ∃t,u=Value.bytes b t from r);cases e;rfl
 | flt b=>obtain ⟨t,e⟩:=(show ∃t,u=Value.float b t from r);cases e;rfl
 | ref a=>cases (show u=Value.ref a from r);rfl
 | ty n=>cases (show u=Value.type n from r);rfl
section
variable {P:Program} {w:World} {H H':Hp} {h h':Heap} {a C dx:Addr} {fs fs':List (Str×V)}
theorem wO (hok:HOk P w H h) (e:H a=some (.ins C dx fs)):∃mA,ObjM h a dx C mA/\(∀f,RelO (fs.lookup f) (mA f))/\PySem.Within mA (fs.map (·.1))/\fs.length<=1000/\H dx=some (.own a):=by
 obtain ⟨d,z,ne,ob,mA,n,r,q⟩:=(show ObjOk P w H h a (.ins C dx fs) from hok a _ e)
 exact ⟨mA,⟨ob,n,ne⟩,r,q,z,d⟩
end
structure Cls (K:W.Frag) (C:Addr):Prop where
 pg:W.plainGet K C Str.empty=true
 hd:W.hasDictIn K C=true
 po:W.plainOver K C=true
 sa:W.findIn K (.ref C) "__setattr__" =some (some (.builtin "object.__setattr__"))
theorem Cls.get {K:W.Frag} {C:Addr} (c:Cls K C) (f:Str):W.plainGet K C f=true:=c.pg
def NoAttr (K:W.Frag) (C:Addr) (f:Str):Prop:=W.findIn K (.ref C) f=some none
theorem NoAttr.taker {K:W.Frag} {C:Addr} {f:Str} (n:NoAttr K C f):W.takerIn K C f=some none:=by
 unfold W.takerIn
 rw [show W.findIn K (.ref C) f=some none from n]
 rfl
structure Meth (K:W.Frag) (C:Addr) (m:Str) (f:Addr):Prop where
 at_:W.findIn K (.ref C) m=some (some (.ref f))
 fn:W.isFn K (.ref f)=true
 kp:W.keepIn K (.ref f)=true
section
variable {X:Cx} {pins:List (Addr×Obj)} {σ:St} {H:Hp} {s:Shared} {a C dx:Addr} {fs:List (Str×V)} {f:Str} {v:V} {A:Around} {E:Value->Shared->Prop}
theorem QD {b:Bool} {Q:Value->Shared->Prop} (I:Inv X pins σ H s) (e:H a=some (.ins C dx fs)) (c:Cls X.K C) (n:NoAttr X.K C f) (l:fs.lookup f=some v)
  (h:∀u s',Inv X pins σ H s'->RelV v u->Q u s'):wpAny (model X.prog X.w) A (getAttr (.ref a) f b) Q E s:=by
 obtain ⟨mA,O,r,_,_,_⟩:=wO I.hok e
 obtain ⟨u,hu,ru⟩:=RelO.some_of (v:=v) (o:=mA f) (by rw [<-l];exact r f)
 exact Jw I.kIn O (c.get f) c.hd n hu (Wz ru) (h u _ (I.tok _) ru)
theorem qR {m:Str} {g:Addr} {pl:Sem Bool} {Q:Value×List Value->Shared->Prop} (I:Inv X pins σ H s) (e:H a=some (.ins C dx fs)) (c:Cls X.K C) (k:Meth X.K C m g) (l:fs.lookup m=none)
  (h:Q (.ref g,[.ref a]) s):wpAny (model X.prog X.w) A (getMethod (.ref a) m pl) Q E s:=by
 obtain ⟨mA,O,r,_,_,_⟩:=wO I.hok e
 have hn:mA m=none:=RelO.none_of (by rw [<-l];exact r m)
 exact jt I.kIn O (c.get m) k.at_ k.fn hn h
theorem Z2 {y:V} {u:Value} {Q:Unit->Shared->Prop} (I:Inv X pins σ H s) (e:H a=some (.ins C dx fs)) (c:Cls X.K C) (n:NoAttr X.K C f) (hl:fs.length<1000) (ry:RelV y u)
  (h:∀s',Inv X pins σ (upd H a (.ins C dx (putF f y fs))) s'->Q () s'):wpAny (model X.prog X.w) A (setAttr (.ref a) f u) Q E s:=by
 obtain ⟨mA,O,r,wi,_,ho⟩:=wO I.hok e
 have hz:(fs.map (·.1)).length<=sizeLine:=by rw [mB,sizeLine_eq];omega
 refine kP I.kIn O c.sa c.po n.taker c.hd wi hz fun h' O' sb=>h _ ?_
 have hd:∃o,h'.get? dx=some o:=let ⟨o,_,_,e',_⟩:=O'.ns;⟨o,e'⟩
 refine I.write (x:=a) (e:=dx) (by rw [e];exact True.intro) (.inr ho) (fun b q hb z=>(sb.2 b hb).trans z) hd ?_
 refine ⟨by rw [xh O.ne];exact ho,?_,O.ne,O'.obj,_,O'.ns,fun g=>?_,fun g hg=>?_⟩
 ·have:=wz f y fs;omega
 ·show RelO ((putF f y fs).lookup g) (if g=f then some u else mA g)
  rw [ww]
  by_cases q:g=f
  ·rw [mH q,mH q];exact ry
  ·rw [mF q,mF q];exact r g
 ·by_cases q:g=f
  ·rw [q];exact (v3 f y fs).1
  ·refine (v3 f y fs).2 g (wi g fun z=>hg ?_)
   show (if g=f then some u else mA g)=none
   rw [mF q];exact z
theorem Inv.made (I:Inv X pins σ H s):Inv X pins σ (upd (upd H s.heap.objs.size (.own (s.heap.objs.size+1))) (s.heap.objs.size+1) (.ins C s.heap.objs.size []))
  { s with heap:=(s.heap.push W.emptyDict).push (W.instObj C s.heap.objs.size) }:=by
 have e1:(s.heap.push W.emptyDict).get? s.heap.objs.size=some W.emptyDict:=Heap.get?_push_size s.heap rfl
 have e2:((s.heap.push W.emptyDict).push (W.instObj C s.heap.objs.size)).get? (s.heap.objs.size+1)=some (W.instObj C s.heap.objs.size):=by
  have:=Heap.get?_push_size (s.heap.push W.emptyDict) (o:=W.instObj C s.heap.objs.size) rfl
  rwa [Heap.size_push] at this
 have e3:(s.heap.push W.emptyDict).Ns s.heap.objs.size (fun _=>none):=⟨W.emptyDict,#[],_,e1,rfl,(fun e he=>absurd he (by simp)),fun _=>rfl⟩
 have I1:=I.laid (a:=s.heap.objs.size) (o:= .own (s.heap.objs.size+1)) (h':=s.heap.push W.emptyDict) (t':=s.toks) (fun b u q=>Heap.get?_push_of_some _ q) (mJ _) ⟨_,e1⟩
 refine I1.laid (a:=s.heap.objs.size+1) (o:= .ins C s.heap.objs.size []) (t':=s.toks) (fun b u q=>Heap.get?_push_of_some _ q) (Nat.le_of_eq (Heap.size_push _ _)) ?_
 have ne:s.heap.objs.size≠s.heap.objs.size+1:=Nat.ne_of_lt (Nat.lt_succ_self _)
 refine ⟨by rw [xh ne,xm],Nat.zero_le _,ne,e2,fun _=>none,(Heap.Ns1.of_empty e3).at fun o q=>Heap.get?_push_of_some _ q,fun _=>True.intro,fun y hy=>absurd rfl hy⟩
theorem JZ {prog:Program} {w:World} {env:Env} {e:Expr} {f:Str} {pos:Pos} {s:Shared} {Q:Value->Shared->Prop} (hb:attributeBase e f env (eval e env)=eval e env)
  (h:wpAny (model prog w) A (eval e env) (fun o s₁=>wpAny (model prog w) A (getAttr o f true) Q E s₁) E s):wpAny (model prog w) A (eval (.Attribute e f pos) env) Q E s:=
 Attribute_any_ h (by rw [arm_eval_Attribute,hb])
end
def tFld (K:W.Frag) (ta:TE) (f:Str):TE:=fun σ H Q=>ta σ H fun x H1=>∃a C dx fs v,x= .ref a/\H1 a=some (.ins C dx fs)/\Cls K C/\NoAttr K C f/\fs.lookup f=some v/\Q v H1
def sFld (K:W.Frag) (ta tv:TE) (f:Str):TS:=fun D σ H=>tv σ H fun y H1=>ta σ H1 fun x H2=>∃a C dx fs,x= .ref a/\H2 a=some (.ins C dx fs)/\Cls K C/\NoAttr K C f/\fs.length<1000/\
 D.nx σ (upd H2 a (.ins C dx (putF f y fs)))
section
variable {X:Cx} {o e value:Expr} {f:Str} {pos pos' tpos:Pos} {ta tv:TE}
theorem qf (he:PE X e ta) (hb:attributeBase e f X.env (eval e X.env)=eval e X.env):PE X (.Attribute e f pos) (tFld X.K ta f):=by
 intro pins s σ H Q I h
 refine JZ hb (thn (he pins s σ H _ I h) fun u s1 ⟨x,H1,I1,rx,a,C,dx,fs,v,ex,ea,c,n,l,q⟩=>?_)
 subst ex
 obtain rfl:u=Value.ref a:=rx
 exact QD I1 ea c n l fun u' s2 I2 ru=>⟨v,H1,I2,ru,q⟩
theorem uo (ha:PE X o ta) (hv:PE X value tv) (hs:swapsWith value (some (.Attribute o f pos')) pos.line X.env=pure false):PS X (.Assign [.Attribute o f pos'] value pos) (sFld X.K ta tv f):=by
 intro pins s σ H D I h
 refine plainObj_wpAny_Assign_Attribute (thn (hv pins s σ H _ I h) fun u s1 ⟨y,H1,I1,ry,q⟩=>thn (ha pins s1 σ H1 _ I1 q) fun ov s2 ⟨x,H2,I2,rx,a,C,dx,fs,ex,ea,c,n,l,q2⟩=>?_) hs
 subst ex
 obtain rfl:ov=Value.ref a:=rx
 exact Z2 I2 ea c n l ry fun s3 I3=>⟨σ,_,I3,q2⟩
theorem wv {pl:Sem Bool} {m:Str} {apos:Pos} {args:List Expr} {pins:List (Addr×Obj)} {s:Shared} {σ:St} {H:Hp} {Q:Value->Shared->Prop} {te:TE} (he:PE X e te) (I:Inv X pins σ H s)
  (h:te σ H fun x H1=>∃a C dx fs g,x= .ref a/\H1 a=some (.ins C dx fs)/\Cls X.K C/\Meth X.K C m g/\fs.lookup m=none/\
   ∀s1,Inv X pins σ H1 s1->wpAny (model X.prog X.w) X.A (callWith pos (.ref g) [.ref a] (backTo pos (starEach args X.env)) (backToKw pos (keywordEach [] X.env))) Q X.xe s1)
  (ht:eval (.Call (.Attribute e m apos) args [] pos) X.env=(do
   let ov <-eval e X.env
   standAt apos.atName
   let (f,first) <-holding [ov] (getMethod ov m pl)
   callWith pos f first (backTo pos (starEach args X.env)) (backToKw pos (keywordEach [] X.env)))):
  wpAny (model X.prog X.w) X.A (eval (.Call (.Attribute e m apos) args [] pos) X.env) Q X.xe s:=by
 refine W.methodCall_KW (pl:=pl) (thn (he pins s σ H _ I h) fun u s1 ⟨x,H1,I1,rx,a,C,dx,fs,g,ex,ea,c,k,l,q⟩=>?_) ht
 subst ex
 obtain rfl:u=Value.ref a:=rx
 exact qR I1 ea c k l (q s1 I1)
end
section
variable {X:Cx} {pins:List (Addr×Obj)} {σ:St} {H:Hp} {s:Shared} {A:Around} {E:Value->Shared->Prop} {Q:Value->Shared->Prop} {c:Value} {b:Bool}
inductive TyOf (K:W.Frag) (H:Hp):V->Value->Prop where
 | non:TyOf K H .non (.type "NoneType")
 | bl (x:Bool):TyOf K H (.bl x) (.type "bool")
 | int (i:Int):TyOf K H (.int i) (.type "int")
 | str (x:Str):TyOf K H (.str x) (.type "str")
 | flt (x:UInt64):TyOf K H (.flt x) (.type "float")
 | lst {a:Addr} {xs:List V} (e:H a=some (.lst xs)):TyOf K H (.ref a) (.type "list")
 | frz {a:Addr} {o:Obj} {xs:List V} (e:H a=some (.frz o (.lst xs))):TyOf K H (.ref a) (.type "list")
 | tup {a:Addr} {xs:List V} (e:H a=some (.tup xs)):TyOf K H (.ref a) (.type "tuple")
 | dK {a:Addr} {kvs:List (Key×V)} (e:H a=some (.dK kvs)):TyOf K H (.ref a) (.type "dict")
 | dT {a:Addr} {kvs:List (List Key×V)} (e:H a=some (.dT kvs)):TyOf K H (.ref a) (.type "dict")
 | ins {a C dx:Addr} {fs:List (Str×V)} (e:H a=some (.ins C dx fs)) (cl:Cls K C) (ha:W.findIn K (.ref C) "__class__" =some (some (.builtin "object.__class__")))
   (hn:W.specialIn K (.builtin "object.__class__") "__get__" =some (some (.builtin "getset_descriptor.__get__"))) (htk:W.takesIn K (.builtin "object.__class__")=some true)
   (hm:W.mroIn K C (.type "object")=some true):TyOf K H (.ref a) (.ref C)
theorem qD {x:V} {u t:Value} (I:Inv X pins σ H s) (rx:RelV x u) (ty:TyOf X.K H x t) (e:W.kitOne X.K t c=some b) (h:∀tk,Q (.bool b) { s with toks:=tk }):
  wpAny (model X.prog X.w) A (call (.builtin "isinstance") [u,c]) Q E s:=by
 cases ty with
 | non=>cases (show u=Value.none from rx);exact W.kia_one W.kitx_none I.kIn True.intro e (fun z=>nomatch z) h
 | bl y=>cases (show u=Value.bool y from rx);exact W.kia_one W.kitx_bool I.kIn True.intro e (fun z=>nomatch z) h
 | int i=>obtain ⟨t,q⟩:=(show ∃t,u=Value.int i t from rx);cases q;exact W.kia_one W.kitx_int I.kIn True.intro e (fun z=>nomatch z) h
 | str y=>obtain ⟨t,q⟩:=(show ∃t,u=Value.str y t from rx);cases q;exact W.kia_one W.kitx_str I.kIn True.intro e (fun z=>nomatch z) h
 | flt y=>obtain ⟨t,q⟩:=(show ∃t,u=Value.float y t from rx);cases q;exact W.kia_one W.kitx_float I.kIn True.intro e (fun z=>nomatch z) h
 | @lst a xs ea=>
  cases (show u=Value.ref a from rx)
  obtain ⟨_,_,n,_,h1⟩:=(show ObjOk X.prog X.w H s.heap a (.lst xs) from I.hok a _ ea)
  exact W.kia_one W.kitx_list I.kIn ⟨_,h1,rfl⟩ e (fun z=>nomatch z) h
 | @frz a ob xs ea=>
  cases (show u=Value.ref a from rx)
  obtain ⟨_,_,_,n,_,h1⟩:=(show ObjOk X.prog X.w H s.heap a (.frz ob (.lst xs)) from I.hok a _ ea)
  exact W.kia_one W.kitx_list I.kIn ⟨_,h1,rfl⟩ e (fun z=>nomatch z) h
 | @tup a xs ea=>
  cases (show u=Value.ref a from rx)
  obtain ⟨_,_,_,p⟩:=(show ObjOk X.prog X.w H s.heap a (.tup xs) from I.hok a _ ea)
  obtain ⟨o,h1,h2,_⟩:=p
  exact W.kia_one W.kitx_tuple I.kIn ⟨o,h1,h2⟩ e (fun z=>nomatch z) h
 | @dK a kvs ea=>
  cases (show u=Value.ref a from rx)
  obtain ⟨_,_,vs,_,p⟩:=(show ObjOk X.prog X.w H s.heap a (.dK kvs) from I.hok a _ ea)
  obtain ⟨o,es,ep,h1,h2,_⟩:=p
  exact W.kia_one W.kitx_dict I.kIn ⟨o,h1,h2.1⟩ e (fun z=>nomatch z) h
 | @dT a kvs ea=>
  cases (show u=Value.ref a from rx)
  obtain ⟨_,_,xs,_,o,es,ep,h1,h2,_⟩:=(show ObjOk X.prog X.w H s.heap a (.dT kvs) from I.hok a _ ea)
  exact W.kia_one W.kitx_dict I.kIn ⟨o,h1,h2.1⟩ e (fun z=>nomatch z) h
 | @ins a C dx fs ea cl ha hn htk hm=>
  cases (show u=Value.ref a from rx)
  obtain ⟨mA,O,_⟩:=wO I.hok ea
  obtain ⟨od,J,_⟩:=O.look
  exact W.kia_one (W.kitx_own (cl.get _) cl.hd ha hn htk hm) I.kIn J e (fun z=>nomatch z) h
end
structure Room (k:Nat) (A:Around):Prop where
 hd:A.handled=none
 dp:A.depth+3*k+5<recursionLimit
 un:A.units+16*k+200<cLine
theorem Room.mono {j k:Nat} {A:Around} (r:Room k A) (h:j<=k):Room j A:=⟨r.hd,by have:=r.dp;omega,by have:=r.un;omega⟩
theorem Room.deeper {k:Nat} {A:Around} (r:Room (k+1) A) (env:Env):Room k (A.deeper env):=
 ⟨r.hd,by have:=r.dp;show A.depth+1+3*k+5<_;omega,by have:=r.un;show A.units+3+16*k+200<_;omega⟩
theorem Qw {A:Around} {C:Addr} {us:List Value} {kw:List (Str×Value)}:(A.under (.builtin "type.__call__" ⟨.ref C::us,kw⟩)).depth=A.depth+1:=by
 first | rfl | simp [Around.under,Code.weight,Code.isCreation,Code.isGuard,Code.isCaller,Code.frames,Code.isFrame,guardIds]
theorem Qu {A:Around} {C:Addr} {us:List Value} {kw:List (Str×Value)}:(A.under (.builtin "type.__call__" ⟨.ref C::us,kw⟩)).units=A.units+1:=by
 first | rfl | simp [Around.under,Code.cUnits,Code.frames,Code.isFrame]
theorem Room.make {k:Nat} {A:Around} (r:Room (k+1) A) (C:Addr) (us:List Value) (kw:List (Str×Value)):Room k (A.under (.builtin "type.__call__" ⟨.ref C::us,kw⟩)):=
 ⟨r.hd,by have:=r.dp;rw [Qw];omega,by have:=r.un;rw [Qu];omega⟩
theorem Room.depth {k:Nat} {A:Around} (r:Room k A):A.depth<recursionLimit:=by have:=r.dp;omega
theorem Room.units {k:Nat} {A:Around} (r:Room k A):A.units+64<cLine:=by have:=r.un;omega
def tNil:TA:=fun _ H Q=>Q [] H
def tCons (ta:TE) (tr:TA):TA:=fun σ H Q=>ta σ H fun x H1=>tr σ H1 fun xs H2=>Q (x::xs) H2
section
variable {X:Cx} {e:Expr} {es:List Expr} {te:TE} {t:TA} {pos:Pos}
theorem yq:PA X [] tNil:=fun _ _ _ _ H Q I h=>Calls.spliced_nil ⟨[],H,I,.nil,h⟩
theorem xQ (ha:PE X e te) (hr:PA X es t) (hs:starEach (e::es) X.env=(false,eval e X.env)::starEach es X.env:=by rfl):PA X (e::es) (tCons te t):=by
 intro pos pins s σ H Q I h
 rw [hs]
 show wpAny _ _ (spliced ((false,eval e X.env)::backTo pos (starEach es X.env))) _ _ s
 refine Calls.spliced_cons (thn (ha pins s σ H _ I h) fun u s1 ⟨x,H1,I1,r1,q1⟩=>?_)
 exact thn (hr pos pins s1 σ H1 _ I1 q1) fun us s2 ⟨xs,H2,I2,r2,q2⟩=>⟨x::xs,H2,I2,.cons r1 r2,q2⟩
def tTup (t:TA):TE:=fun σ H Q=>t σ H fun xs H1=>xs.length<=sizeLine/\∀p,H1 p=none->Q (.ref p) (upd H1 p (.tup xs))
def tLst (t:TA):TE:=fun σ H Q=>t σ H fun xs H1=>xs.length<=sizeLine/\∀p,H1 p=none->Q (.ref p) (upd H1 p (.lst xs))
theorem Qc {x1} (h:PA X es t):PE X (.Tuple es x1 pos) (tTup t):=by
 intro pins s σ H Q I hq
 refine wpAny_Tuple_spliced (thn (h pos pins s σ H _ I hq) fun us s1 ⟨xs,H1,I1,r,z,q⟩=>⟨by rw [<-r.length];exact z,?_⟩)
 have hf:H1 s1.heap.objs.size=none:=I1.hok.fresh (mJ _)
 refine ⟨.ref s1.heap.objs.size,upd H1 s1.heap.objs.size (.tup xs),I1.laid (t':=s1.toks) (fun b u e=>Heap.get?_push_of_some _ e) (mJ _) ?_,rfl,q _ hf⟩
 exact ⟨z,us,r,⟨_,Heap.get?_push_size _ rfl,rfl,_,rfl⟩⟩
theorem Ym (h:PA X es t):PE X (.List es pos) (tLst t):=by
 intro pins s σ H Q I hq
 refine wpAny_List_spliced (thn (h pos pins s σ H _ I hq) fun us s1 ⟨xs,H1,I1,r,z,q⟩=>⟨by rw [<-r.length];exact z,?_⟩)
 have hf:H1 s1.heap.objs.size=none:=I1.hok.fresh (mJ _)
 refine ⟨.ref s1.heap.objs.size,upd H1 s1.heap.objs.size (.lst xs),I1.laid (t':=s1.toks) (fun b u e=>Heap.get?_push_of_some _ e) (mJ _) ?_,rfl,q _ hf⟩
 exact ⟨z,us,0,r,Heap.get?_push_size _ rfl⟩
end
abbrev Sp:=List V->Hp->VK->XK->Prop
abbrev CXT:=List Env->Hp->Shared->XK->Value->Shared->Prop
structure Env0 (P:Program) (w:World) (K:W.Frag) (mg:Str->Option Value) (base:Heap) (A:Around) (outer:List Env) (s:Shared) (H:Hp):Prop where
 frames:A.frames=some outer
 mod:Mod K mg base
 bs:∀b o,base.get? b=some o->s.heap.get? b=some o/\H b=none
 bsz:base.objs.size<=s.heap.objs.size
 funs:s.heap.FunFrames base outer
 frf:∀b∈frs outer,H b=none
 hok:HOk P w H s.heap
 bare:AllBare s.gens
def CE (outer:List Env) (P:Program) (w:World) (H:Hp) (s:Shared) (Q:VK) (u:Value) (s':Shared):Prop:=
 ∃v H',s'.os=s.os/\AllBare s'.gens/\Un (frs outer) [] H H' s.heap s'.heap/\HOk P w H' s'.heap/\RelV v u/\Q v H'
def CR (CX:CXT) (outer:List Env) (P:Program) (w:World) (H:Hp) (s:Shared) (Q:VK) (E:XK) (r:Result) (s':Shared):Prop:=
 match r with
 | .ok (.ret u)=>CE outer P w H s Q u s'
 | .ok _=>False
 | .error e=>CX outer H s E e s'
structure FnOk (P:Program) (w:World) (K:W.Frag) (mg:Str->Option Value) (base:Heap) (CX:CXT) (k:Nat) (f:Addr) (fd:FuncData) (ps:List Str) (sp:Sp):Prop where
 len:∀vs H Q E,sp vs H Q E->vs.length=ps.length
 run:∀(A:Around) (outer:List Env) (s:Shared) (H:Hp) (args:Args) (us:List Value) (vs:List V) (Q:VK) (E:XK),Room k A->Env0 P w K mg base A outer s H->BindsTo s fd args (ps.zip us)->Vals vs us->sp vs H Q E->
  codeAny (model P w) A (.call (.ref f) args) (CR CX outer P w H s Q E) s
theorem Env0.make {P:Program} {w:World} {K:W.Frag} {mg:Str->Option Value} {base:Heap} {A:Around} {outer:List Env} {s:Shared} {H:Hp} (e:Env0 P w K mg base A outer s H) (C:Addr) (us:List Value) (kw:List (Str×Value)):
  Env0 P w K mg base (A.under (.builtin "type.__call__" ⟨.ref C::us,kw⟩)) outer s H:=⟨by first | exact e.frames | (simpa [Around.under,Code.envs,Code.isFrame,pushEnvs] using e.frames),e.mod,e.bs,e.bsz,e.funs,e.frf,e.hok,e.bare⟩
section
variable {X:Cx} {pins:List (Addr×Obj)} {σ:St} {H:Hp} {s s':Shared}
theorem Inv.env0 (I:Inv X pins σ H s):Env0 X.prog X.w X.K X.mg X.base X.A X.stack s H:=
 ⟨I.ok.frames,I.ok.mod,I.bs,Nat.le_trans I.ok.bsz I.sz,I.stack,I.stkFree,I.hok,I.bare⟩
theorem Inv.after {Q:VK} {u:Value} (I:Inv X pins σ H s) (h:CE X.stack X.prog X.w H s Q u s'):EP X pins σ Q u s':=by
 obtain ⟨v,H',os,bare,un,hok,r,q⟩:=h
 obtain ⟨hh,g,d,t,os'⟩:=s'
 obtain rfl:os'=s.os:=os
 exact ⟨v,H',I.call (h':=hh) (g':=g) (d':=d) (t':=t) (ch:=[]) un hok bare (fun b z=>absurd z (by simp)),r,q⟩
end
def tCall (sp:Sp) (dvs:List V) (E:XK) (t:TA):TE:=fun σ H Q=>t σ H fun vs H1=>sp (vs++dvs) H1 Q E
def tMeth (C:Addr) (m:Str) (sp:Sp) (dvs:List V) (E:XK) (ta:TE) (t:TA):TE:=fun σ H Q=>ta σ H fun x H1=>∃a dx fs,x= .ref a/\H1 a=some (.ins C dx fs)/\fs.lookup m=none/\
 t σ H1 fun vs H2=>sp (x::(vs++dvs)) H2 Q E
def tMake (C:Addr) (sp:Sp) (dvs:List V) (E:XK) (t:TA):TE:=fun σ H Q=>t σ H fun vs H1=>∀x dx,H1 x=none->H1 dx=none->dx≠x->
 sp (.ref x::(vs++dvs)) (upd (upd H1 dx (.own x)) x (.ins C dx [])) (fun v H2=>v= .non/\Q (.ref x) H2) E
def Binds (K:W.Frag) (fd:FuncData) (ps:List Str) (ds:List Value):Prop:=
 ∀(s:Shared) (us:List Value),K.In s.heap->(us++ds).length=ps.length->BindsTo s fd ⟨us,[]⟩ (ps.zip (us++ds))
theorem Binds.all {K:W.Frag} {fd:FuncData} {ps:List Str} (h:∀us:List Value,us.length=ps.length->bindArgs fd ⟨us,[]⟩=pure (ps.zip us)):Binds K fd ps []:=fun s us _ hl=>by
 rw [List.append_nil] at hl ⊢
 exact .of_eq (h us hl)
def Passes (CX:CXT) (X:Cx) (E:XK):Prop:=∀(pins:List (Addr×Obj)) (σ:St) (H:Hp) (s:Shared) (e:Value) (s':Shared),Inv X pins σ H s->CX X.stack H s E e s'->X.xe e s'
section
variable {X:Cx} {CX:CXT} {k:Nat} {f C:Addr} {fd:FuncData} {ps:List Str} {sp:Sp} {dvs:List V} {ds:List Value} {E:XK} {x m:Str} {p pos apos:Pos} {e o:Expr} {es:List Expr} {ta:TE} {t:TA}
theorem ug {pins:List (Addr×Obj)} {σ:St} {H:Hp} {s:Shared} {Q:VK} {us:List Value} {vs:List V} (F:FnOk X.prog X.w X.K X.mg X.base CX k f fd ps sp) (hr:Room k X.A) (hb:Binds X.K fd ps ds) (hd:Vals dvs ds) (hx:Passes CX X E)
  (I:Inv X pins σ H s) (r:Vals vs us) (h:sp (vs++dvs) H Q E):wpAny (model X.prog X.w) X.A (call (.ref f) us) (EP X pins σ Q) X.xe s:=by
 have r2:Vals (vs++dvs) (us++ds):=r.append hd
 have hl:(us++ds).length=ps.length:=by rw [<-r2.length];exact F.len _ _ _ _ h
 refine wpAny_call (codeAny_mono (F.run X.A X.stack s H ⟨us,[]⟩ (us++ds) (vs++dvs) Q E hr I.env0 (hb s us I.kIn hl) r2 h) fun r s' hq=>?_)
 cases r with
 | error e=>exact hx pins σ H s e s' I hq
 | ok fl=>
  cases fl with
  | ret u=>exact I.after hq
  | next=>exact False.elim hq
  | brk=>exact False.elim hq
  | cont=>exact False.elim hq
theorem wK (F:FnOk X.prog X.w X.K X.mg X.base CX k f fd ps sp) (hr:Room k X.A) (hg:Gl X x) (hm:X.mg x=some (.ref f)) (hk:W.keepIn X.K (.ref f)=true) (hb:Binds X.K fd ps ds) (hd:Vals dvs ds) (hx:Passes CX X E)
  (ha:PA X (e::es) t) (hdb:(x==("__debug__" :Str))=false:=by decide) (he:starEach (e::es) X.env=(false,eval e X.env)::starEach es X.env:=by rfl) (hpl:(backTo pos (starEach es X.env)).any (·.1)=false:=by rfl):
  PE X (.Call (.Name x p) (e::es) [] pos) (tCall sp dvs E t):=by
 intro pins s σ H Q I h
 refine wpAny_Call_Name_kw (yz I hg hm ?_ hdb)
 refine W.callWith_K (h₀:=X.base) I.ok.mod.kin hk (thn (ha pos pins s σ H _ I h) fun us s1 ⟨vs,H1,I1,r,q⟩=>⟨I1.kIn,?_⟩) he hpl
 exact ug F hr hb hd hx I1 r q
theorem Vf {pl:Sem Bool} (he:PE X o ta) (c:Cls X.K C) (hm:Meth X.K C m f) (F:FnOk X.prog X.w X.K X.mg X.base CX k f fd ps sp) (hr:Room k X.A) (hb:Binds X.K fd ps ds) (hd:Vals dvs ds) (hx:Passes CX X E) (ha:PA X (e::es) t)
  (hst:starEach (e::es) X.env=(false,eval e X.env)::starEach es X.env:=by rfl) (hpl:(backTo pos (starEach es X.env)).any (·.1)=false:=by rfl)
  (ht:eval (.Call (.Attribute o m apos) (e::es) [] pos) X.env=(do
   let ov <-eval o X.env
   standAt apos.atName
   let (f,first) <-holding [ov] (getMethod ov m pl)
   callWith pos f first (backTo pos (starEach (e::es) X.env)) (backToKw pos (keywordEach [] X.env))):=by rfl):
  PE X (.Call (.Attribute o m apos) (e::es) [] pos) (tMeth C m sp dvs E ta t):=by
 intro pins s σ H Q I h
 refine W.methodCall_KW (pl:=pl) (thn (he pins s σ H _ I h) fun u s1 ⟨x,H1,I1,rx,a,dx,fs,ex,ea,l,q⟩=>?_) ht
 subst ex
 obtain rfl:u=Value.ref a:=rx
 refine qR I1 ea c hm l ?_
 refine W.callWith_K (first:=[.ref a]) (h₀:=X.base) I.ok.mod.kin hm.kp (thn (ha pos pins s1 σ H1 _ I1 q) fun us s2 ⟨vs,H2,I2,r,q2⟩=>⟨I2.kIn,?_⟩) hst hpl
 exact ug (us:= .ref a::us) (vs:= .ref a::vs) F hr hb hd hx I2 (.cons rfl r) q2
theorem US {pl:Sem Bool} (he:PE X o ta) (c:Cls X.K C) (hm:Meth X.K C m f) (F:FnOk X.prog X.w X.K X.mg X.base CX k f fd ps sp) (hr:Room k X.A) (hb:Binds X.K fd ps ds) (hd:Vals dvs ds) (hx:Passes CX X E)
  (ht:eval (.Call (.Attribute o m apos) [] [] pos) X.env=(do
   let ov <-eval o X.env
   standAt apos.atName
   let (f,first) <-holding [ov] (getMethod ov m pl)
   callWith pos f first (backTo pos (starEach [] X.env)) (backToKw pos (keywordEach [] X.env))):=by rfl):
  PE X (.Call (.Attribute o m apos) [] [] pos) (tMeth C m sp dvs E ta tNil):=by
 intro pins s σ H Q I h
 refine W.methodCall_KW (pl:=pl) (thn (he pins s σ H _ I h) fun u s1 ⟨x,H1,I1,rx,a,dx,fs,ex,ea,l,q⟩=>?_) ht
 subst ex
 obtain rfl:u=Value.ref a:=rx
 refine qR I1 ea c hm l ?_
 exact W.callWith_K0 (first:=[.ref a]) I1.kIn hm.kp (ug (us:=[.ref a]) (vs:=[.ref a]) F hr hb hd hx I1 (.cons rfl .nil) q)
structure Mk (K:W.Frag) (C f:Addr):Prop where
 makes:W.makesIn K C=true
 init:W.findIn K (.ref C) "__init__" =some (some (.ref f))
 fn:W.isFn K (.ref f)=true
 kp:W.keepIn K (.ref C)=true
theorem UA {pins:List (Addr×Obj)} {σ:St} {H:Hp} {s:Shared} {Q:VK} {us:List Value} {vs:List V} (M:Mk X.K C f) (F:FnOk X.prog X.w X.K X.mg X.base CX k f fd ps sp) (hr:Room (k+1) X.A) (hb:Binds X.K fd ps ds) (hd:Vals dvs ds)
  (hx:Passes CX X E) (I:Inv X pins σ H s) (r:Vals vs us)
  (h:∀x dx,H x=none->H dx=none->dx≠x->sp (.ref x::(vs++dvs)) (upd (upd H dx (.own x)) x (.ins C dx [])) (fun v H2=>v= .non/\Q (.ref x) H2) E):
  wpAny (model X.prog X.w) X.A (call (.ref C) us) (EP X pins σ Q) X.xe s:=by
 have hq:=h (s.heap.objs.size+1) s.heap.objs.size (I.hok.fresh (Nat.le_succ _)) (I.hok.fresh (mJ _)) (Nat.ne_of_lt (Nat.lt_succ_self _))
 have I2:=Inv.made (C:=C) I
 have r2:Vals (V.ref (s.heap.objs.size+1)::(vs++dvs)) (Value.ref (s.heap.objs.size+1)::(us++ds)):= .cons rfl (r.append hd)
 have hl:(Value.ref (s.heap.objs.size+1)::us++ds).length=ps.length:=by
  have e:=r2.length
  rw [F.len _ _ _ _ hq] at e
  exact e.symm
 refine wpAny_call (Zm (f:=f) I.kIn M.makes M.init (beq_iff_eq.mp M.fn) (codeAny_mono (F.run _ X.stack _ _ ⟨Value.ref (s.heap.objs.size+1)::us,[]⟩ (Value.ref (s.heap.objs.size+1)::(us++ds)) _ _ E (hr.make C us [])
  (I2.env0.make C us []) (hb _ (Value.ref (s.heap.objs.size+1)::us) I2.kIn hl) r2 hq) fun r s' hq'=>?_))
 cases r with
 | error e=>exact hx pins σ _ _ e s' I2 hq'
 | ok fl=>
  cases fl with
  | ret u=>
   obtain ⟨v,H',I3,rv,ev,q3⟩:=I2.after hq'
   subst ev
   exact ⟨rv,⟨V.ref (s.heap.objs.size+1),H',I3,rfl,q3⟩⟩
  | next=>exact False.elim hq'
  | brk=>exact False.elim hq'
  | cont=>exact False.elim hq'
theorem Jd (M:Mk X.K C f) (F:FnOk X.prog X.w X.K X.mg X.base CX k f fd ps sp) (hr:Room (k+1) X.A) (hg:Gl X x) (hm:X.mg x=some (.ref C)) (hb:Binds X.K fd ps ds) (hd:Vals dvs ds) (hx:Passes CX X E)
  (ha:PA X (e::es) t) (hdb:(x==("__debug__" :Str))=false:=by decide) (he:starEach (e::es) X.env=(false,eval e X.env)::starEach es X.env:=by rfl) (hpl:(backTo pos (starEach es X.env)).any (·.1)=false:=by rfl):
  PE X (.Call (.Name x p) (e::es) [] pos) (tMake C sp dvs E t):=by
 intro pins s σ H Q I h
 refine wpAny_Call_Name_kw (yz I hg hm ?_ hdb)
 refine W.callWith_K (h₀:=X.base) I.ok.mod.kin M.kp (thn (ha pos pins s σ H _ I h) fun us s1 ⟨vs,H1,I1,r,q⟩=>⟨I1.kIn,?_⟩) he hpl
 exact UA M F hr hb hd hx I1 r q
end
structure FnScope (N P:List Str) (sc:Scope):Prop where
 kind:sc.kind= .function
 co:sc.isCoroutine=false
 gen:sc.isGenerator=false
 nd:N.Nodup
 pre:N.take P.length=P
 par:∀x∈P,sc.names.lookup x=some .local∨sc.names.lookup x=some .cell
 nofree:∀y∈sc.names,y.2≠ .free
theorem XU {kindOf:Str->Option NameKind} {x:Str}:∀{binds:List (Str×Value)} {m:Str->Option Value},(∀v,(x,v)∉binds)->bindL kindOf binds m x=m x
 | [],_,_=>rfl
 | (n,v)::r,m,h=>by
  unfold bindL
  rw [XU fun w hw=>h w (mI _ hw)]
  split
  ·have:x≠n:=by rintro rfl;exact h v List.mem_cons_self
   simp [this]
  ·rfl
theorem XV {kindOf:Str->Option NameKind} {x:Str}:∀{binds:List (Str×Value)} {m:Str->Option Value},(∀v,(x,v)∉binds)->bindC kindOf binds m x=m x
 | [],_,_=>rfl
 | (n,v)::r,m,h=>by
  unfold bindC
  rw [XV fun w hw=>h w (mI _ hw)]
  split
  ·rfl
  ·have:x≠n:=by rintro rfl;exact h v List.mem_cons_self
   simp [this]
theorem we {kindOf:Str->Option NameKind} {x:Str} {v:Value}:∀{P:List Str} {vs:List Value} {i:Nat} {m:Str->Option Value},P.Nodup->P[i]? =some x->vs[i]? =some v->kindOf x=some .local->
  bindL kindOf (P.zip vs) m x=some v
 | [],_,_,_,_,h,_,_=>by simp at h
 | _::_,[],_,_,_,_,h,_=>by simp at h
 | p::P,w::vs,0,m,nd,h1,h2,hk=>by
  simp at h1 h2;subst h1;subst h2
  show bindL kindOf ((p,w)::P.zip vs) m p=_
  unfold bindL
  rw [XU fun v hv=>(List.nodup_cons.mp nd).1 (List.of_mem_zip hv).1,mH hk]
  simp
 | p::P,w::vs,i+1,m,nd,h1,h2,hk=>by
  show bindL kindOf ((p,w)::P.zip vs) m x=_
  unfold bindL
  exact we (i:=i) (List.nodup_cons.mp nd).2 (by simpa using h1) (by simpa using h2) hk
theorem wf {kindOf:Str->Option NameKind} {x:Str} {v:Value}:∀{P:List Str} {vs:List Value} {i:Nat} {m:Str->Option Value},P.Nodup->P[i]? =some x->vs[i]? =some v->kindOf x≠some .local->
  bindC kindOf (P.zip vs) m x=some v
 | [],_,_,_,_,h,_,_=>by simp at h
 | _::_,[],_,_,_,_,h,_=>by simp at h
 | p::P,w::vs,0,m,nd,h1,h2,hk=>by
  simp at h1 h2;subst h1;subst h2
  show bindC kindOf ((p,w)::P.zip vs) m p=_
  unfold bindC
  rw [XV fun v hv=>(List.nodup_cons.mp nd).1 (List.of_mem_zip hv).1,mF hk]
  simp
 | p::P,w::vs,i+1,m,nd,h1,h2,hk=>by
  show bindC kindOf ((p,w)::P.zip vs) m x=_
  unfold bindC
  exact wf (i:=i) (List.nodup_cons.mp nd).2 (by simpa using h1) (by simpa using h2) hk
noncomputable def start (N:List Str) (vs:List V):St:=vs.map some++List.replicate (N.length - vs.length) none
noncomputable def cxOf (CX:CXT) (P:Program) (w:World) (K:W.Frag) (mg:Str->Option Value) (base:Heap) (N:List Str) (qual:Str) (scope:Scope) (f:Addr) (cd:Value) (A:Around) (outer:List Env) (s:Shared) (H:Hp) (E:XK):Cx where
 prog:=P
 w:=w
 K:=K
 mg:=mg
 base:=base
 A:=A.deeper (envOfC qual scope s.heap.objs.size f cd)
 N:=N
 s₀:=s
 H₀:=H
 env:=envOfC qual scope s.heap.objs.size f cd
 outer:=outer
 stack:=envOfC qual scope s.heap.objs.size f cd::outer
 ex:=[]
 calm:=true
 fn:=fun _=>true
 pn:=[]
 xe:=fun e s'=>wpAny (model P w) (A.deeper (envOfC qual scope s.heap.objs.size f cd)) (leaving (envOfC qual scope s.heap.objs.size f cd) e) (fun _ s''=>CX outer H s E e s'') (fun e' s''=>CX outer H s E e' s'') s'
theorem vG {sc:Scope} {n:Nat} {x:Str} (h:sc.names.lookup x=some .cell):∃c,(cellsFrom n sc.names []).lookup x=some c:=by
 have q:=W.cellsFrom_some sc.names n [] (.inl h)
 exact Option.isSome_iff_exists.mp q
theorem Ww {CX:CXT} {P:Program} {w:World} {K:W.Frag} {mg:Str->Option Value} {base:Heap} {N ps:List Str} {qual:Str} {scope:Scope} {f:Addr} {cd:Value} {A:Around} {outer:List Env} {s s1:Shared} {H:Hp} {E:XK} {us:List Value} {vs:List V}
  (S:FnScope N ps scope) (hd:A.handled=none) (e0:Env0 P w K mg base A outer s H) (hl:vs.length=ps.length) (r:Vals vs us)
  (x:InCallC s s.heap.objs.size (bindL (envOfC qual scope s.heap.objs.size f cd).kindOf (ps.zip us) fun _=>none) (cellsFrom (s.heap.objs.size+1) scope.names []) (bindC (envOfC qual scope s.heap.objs.size f cd).kindOf (ps.zip us) fun _=>none) s1):
  Inv (cxOf CX P w K mg base N qual scope f cd A outer s H E) [] (start N vs) H s1:=by
 have hpl:ps.length<=N.length:=by have:=congrArg List.length S.pre;rw [List.length_take] at this;omega
 obtain ⟨h1,tk,rfl,hk⟩:=x.done
 have noA:∀b:Addr,b∉(cxOf CX P w K mg base N qual scope f cd A outer s H E).ex:=fun b z=>absurd (show b∈([]:List Addr) from z) (by simp)
 refine ⟨⟨e0.mod,S.kind,rfl,rfl,mJ _,fun y z c h1 h2=>?_,fun y hy=>?_,fun y c _ h=>?_,fun _=>hd,Around.frames_deeper e0.frames,.inr ⟨rfl,rfl⟩,fun b z=>absurd z (noA b),e0.bs,e0.bsz,fun b _ _=>noA b,fun b z=>absurd z (noA b),e0.funs,e0.frf⟩,
  rfl,e0.bare,Un.kept hk,⟨_,x.toInCall.ns,fun i y v h1 h2 h3=>?_⟩,fun y c h=>⟨_,x.cell y c h⟩,e0.hok.fresh (Nat.le_refl _),fun y c h=>?_,fun p hp=>absurd (show p∈([]:List (Addr×Obj)) from hp) (by simp),e0.hok.kept hk,?_⟩
 ·exact name_of_addr x.apart (PySem.mem_of_lookup h1) (PySem.mem_of_lookup h2)
 ·have hy:scope.names.lookup y=some .cell∨scope.names.lookup y=some .free:=hy
  rcases hy with hy | hy
  ·exact vG hy
  ·exact absurd rfl (S.nofree _ (PySem.mem_of_lookup hy))
 ·exact Nat.le_of_lt (x.above y c (PySem.mem_of_lookup h))
 ·have hi:i<vs.length:=by
   unfold start at h2
   by_cases hi:i<vs.length
   ·exact hi
   ·rw [List.getElem?_append_right (by simpa using hi)] at h2
    rw [List.getElem?_replicate] at h2
    split at h2<;>cases h2
  have ha:vs[i]? =some v:=by
   unfold start at h2
   rw [List.getElem?_append_left (by simpa using hi),List.getElem?_map] at h2
   cases e:vs[i]? with
   | none=>rw [e] at h2;cases h2
   | some a=>rw [e] at h2;cases h2;rfl
  obtain ⟨u,hu,rv⟩:=r.get ha
  have hp:ps[i]? =some y:=by
   rw [<-S.pre,List.getElem?_take_of_lt (by omega)];exact h1
  have ndP:ps.Nodup:=by rw [<-S.pre];exact S.nd.sublist (List.take_sublist _ _)
  refine ⟨u,rv,?_⟩
  rcases S.par y (mz hp) with k | k
  ·exact .inl ⟨k,we ndP hp hu k⟩
  ·obtain ⟨c,e⟩:=vG (n:=s.heap.objs.size+1) k
   refine .inr ⟨.inl k,c,e,?_⟩
   have q:=x.cell y c e
   rw [wf ndP hp hu (by show scope.names.lookup y≠_;rw [k];decide)] at q
   exact q
 ·exact e0.hok.fresh (Nat.le_of_lt (x.above y c (PySem.mem_of_lookup h)))
 ·unfold start
  show _=N.length
  rw [List.length_append,mB,List.length_replicate]
  omega
theorem XL {CX:CXT} {P:Program} {w:World} {K:W.Frag} {mg:Str->Option Value} {base:Heap} {k:Nat} {f:Addr} {name qual:Str} {params:Arguments} {body:List Stmt} {scope:Scope} {dV kV doc pm cdv ct oc:Value} {an od:Option Addr}
  {osl:Array (Option Value)} {N ps:List Str} {sp:Sp} (lk:K.lookup f=some ⟨oc,od,.func (W.fnOf name qual params body scope dV kV doc pm an cdv ct),osl⟩) (hcd:W.codeIn K cdv qual=true) (S:FnScope N ps scope)
  (len:∀vs H Q E,sp vs H Q E->vs.length=ps.length)
  (hbody:∀(A:Around) (outer:List Env) (s:Shared) (H:Hp) (vs:List V) (Q:VK) (E:XK),Room k (A.deeper (envOfC qual scope s.heap.objs.size f cdv))->sp vs H Q E->
   ∃t,PSs (cxOf CX P w K mg base N qual scope f cdv A outer s H E) body t/\t { nx:=fun _ H'=>Q .non H',rt:=Q } (start N vs) H):
  FnOk P w K mg base CX (k+1) f (W.fnOf name qual params body scope dV kV doc pm an cdv ct) ps sp:=by
 refine ⟨len,fun A outer s H args us vs Q E hr e0 hb r hsp=>?_⟩
 have hl:=len _ _ _ _ hsp
 have KX:K.In s.heap:=e0.mod.kin.keeps fun b o e=>(e0.bs b o e).1
 have lim:s.heap.NoLimit:=e0.mod.nolimit.keeps fun b o e=>(e0.bs b o e).1
 have hkind:∀y∈ps.zip us,scope.names.lookup y.1=some .local∨(scope.names.lookup y.1=some .cell/\((cellsFrom (s.heap.objs.size+1) scope.names []).lookup y.1).isSome=true):=fun ⟨n,v⟩ hy=>by
  rcases S.par n (List.of_mem_zip hy).1 with q | q
  ·exact .inl q
  ·exact .inr ⟨q,W.cellsFrom_some _ _ _ (.inl q)⟩
 refine codeAny_call_function hr.depth (KX _ _ lk) rfl S.co S.gen rfl (W.codeRec_of KX hcd) (hb _ _ _ _ ?_)
 refine wpAny_newFunctionEnv_cells S.kind hkind fun env he s1 x=>?_
 subst he
 refine ⟨lim.keeps x.toInCall.keep,codeAny_func ?_⟩
 obtain ⟨t,ht,hq⟩:=hbody A outer s H vs Q E (hr.deeper _) hsp
 have I:Inv (cxOf CX P w K mg base N qual scope f cdv A outer s H E) [] (start N vs) H s1:=Ww S hr.hd e0 hl r x
 refine wpAny_mono (ht [] s1 (start N vs) H _ I hq) (fun fl s' hs=>?_) fun e s' hs=>hs
 have fin:∀{σ':St} {H':Hp} {v:V} {u:Value},Inv (cxOf CX P w K mg base N qual scope f cdv A outer s H E) [] σ' H' s'->RelV v u->Q v H'->CE outer P w H s Q u s':=
  fun {σ' H' v u} J rv q=>⟨v,H',J.os,J.bare,J.base,J.hok,rv,q⟩
 cases fl with
 | ret u=>
  obtain ⟨v,σ',H',J,rv,q⟩:=hs
  exact fin J rv q
 | next=>
  obtain ⟨σ',H',J,q⟩:=hs
  exact fin (v:=V.non) (u:=Value.none) J rfl q
 | brk=>
  obtain ⟨_,_,_,q⟩:=hs
  exact False.elim q
 | cont=>
  obtain ⟨_,_,_,q⟩:=hs
  exact False.elim q
section
variable {X:Cx} {x:Str} {p pos:Pos} {e:Expr} {es:List Expr} {t:TA} {id T:String} {r:List V->Hp->VK->Prop}
def tCB (r:List V->Hp->VK->Prop) (t:TA):TE:=fun σ H Q=>t σ H fun vs H1=>r vs H1 Q
theorem zt (hc:CallR X (.builtin id) r) (hg:Gl X x) (hm:X.mg x=none) (hv:bootBuiltins x=some (.builtin id)) (ha:PA X (e::es) t) (hn:x≠ "__name__" :=by decide) (hdb:(x==("__debug__" :Str))=false:=by decide)
  (he:starEach (e::es) X.env=(false,eval e X.env)::starEach es X.env:=by rfl) (hpl:(backTo pos (starEach es X.env)).any (·.1)=false:=by rfl):PE X (.Call (.Name x p) (e::es) [] pos) (tCB r t):=by
 intro pins s σ H Q I h
 refine wpAny_Call_Name_kw (vZ I hg hm hv ?_ hn hdb)
 exact PyProof.Rows.callWith_builtin1 (thn (ha pos pins s σ H _ I h) fun us s1 ⟨vs,H1,I1,r1,q1⟩=>hc pins s1 σ H1 vs us Q I1 r1 q1) he hpl
theorem XD (hc:CallR X (.type T) r) (hg:Gl X x) (hm:X.mg x=none) (hv:bootBuiltins x=some (.type T)) (ha:PA X (e::es) t) (hn:x≠ "__name__" :=by decide) (hdb:(x==("__debug__" :Str))=false:=by decide)
  (he:starEach (e::es) X.env=(false,eval e X.env)::starEach es X.env:=by rfl) (hpl:(backTo pos (starEach es X.env)).any (·.1)=false:=by rfl):PE X (.Call (.Name x p) (e::es) [] pos) (tCB r t):=by
 intro pins s σ H Q I h
 refine wpAny_Call_Name_kw (vZ I hg hm hv ?_ hn hdb)
 exact PyProof.Rows.callWith_type1 (thn (ha pos pins s σ H _ I h) fun us s1 ⟨vs,H1,I1,r1,q1⟩=>hc pins s1 σ H1 vs us Q I1 r1 q1) he hpl
end
end L2
namespace HT
open PySem PyProof.Rows
section
variable {prog:Program} {w:World} {A:Around} {E:Value->Shared->Prop} {s:Shared}
noncomputable def sIx (n d:Nat):Option Int->Nat
 | none=>d
 | some v=>if v<0 then (v+(n:Int)).toNat else min v.toNat n
theorem sIx_none (n d:Nat):sIx n d none=d:=rfl
theorem sIx_nat (n d k:Nat):sIx n d (some (k:Int))=min k n:=by
 show (if (k:Int)<0 then ((k:Int)+(n:Int)).toNat else min (k:Int).toNat n)=min k n
 rw [mF (by omega),Int.toNat_natCast]
theorem sIx_le (n d:Nat) (hd:d<=n) (o:Option Int):sIx n d o<=n:=by
 cases o with
 | none=>exact hd
 | some v=>
  show (if v<0 then (v+(n:Int)).toNat else min v.toNat n)<=n
  by_cases hv:v<0
  ·rw [mH hv];omega
  ·rw [mF hv];exact Nat.min_le_right _ _
end
end HT
namespace L2
open PySem PySem.Spec PyProof.Rows
abbrev TO:=St->Hp->(Option Int->Hp->Prop)->Prop
def PO (X:Cx) (e:Option Expr) (t:TO):Prop:=
 ∀(pins:List (Addr×Obj)) (s:Shared) (σ:St) (H:Hp) (Q:Option Int->Hp->Prop),Inv X pins σ H s->t σ H Q->
  wpAny (model X.prog X.w) X.A (evalPart e X.env) (fun u s'=>∃o H',Inv X pins σ H' s'/\IsPart u o/\Q o H') X.xe s
def tNoPart:TO:=fun _ H Q=>Q none H
def tPart (t:TE):TO:=fun σ H Q=>t σ H fun x H1=>∃i,x= .int i/\Q (some i) H1
section
variable {X:Cx} {e:Expr} {te:TE} {lo hi:Option Expr} {tl th:TO} {pos p2:Pos}
theorem Ja:PO X none tNoPart:=by
 intro pins s σ H Q I h
 rw [evalPart_none]
 exact wpAny_pure ⟨none,H,I,.none,h⟩
theorem k9 (h:PE X e te):PO X (some e) (tPart te):=by
 intro pins s σ H Q I hw
 rw [evalPart_some]
 refine thn (h pins s σ H _ I hw) fun u s1 ⟨x,H1,I1,r1,q1⟩=>?_
 obtain ⟨i,rfl,q⟩:=q1
 obtain ⟨t,rfl⟩:=r1
 exact ⟨some i,H1,I1,.int i t,q⟩
def SlR (X:Cx) (r:V->Option Int->Option Int->Hp->VK->Prop):Prop:=
 ∀(pins:List (Addr×Obj)) (s:Shared) (σ:St) (H:Hp) (x:V) (v vl vu:Value) (lo hi:Option Int) (sl:Addr) (Q:VK),Inv X pins σ H s->RelV x v->s.heap.IsSliceOf sl vl vu .none->IsPart vl lo->IsPart vu hi->r x lo hi H Q->
  ∃T id,typeLookup (.type T) "__getitem__" =pure (some (.builtin id))/\s.TypeIs v T/\wpAny (model X.prog X.w) X.A (getItem v (.ref sl)) (EP X pins σ Q) X.xe s
def tSl (r:V->Option Int->Option Int->Hp->VK->Prop) (te:TE) (tl th:TO):TE:=fun σ H Q=>te σ H fun x H1=>tl σ H1 fun l H2=>th σ H2 fun u H3=>r x l u H3 Q
theorem UR {r:V->Option Int->Option Int->Hp->VK->Prop} (hr:SlR X r) (he:PE X e te) (hl:PO X lo tl) (hu:PO X hi th):PE X (.Subscript e (.Slice lo hi none p2) pos) (tSl r te tl th):=by
 intro pins s σ H Q I h
 refine Subscript_ (thn (he pins s σ H _ I h) fun v s1 ⟨x,H1,I1,r1,q1⟩=>?_)
 refine wpAny_Slice (thn (hl pins s1 σ H1 _ I1 q1) fun vl s2 ⟨l,H2,I2,pl,q2⟩=>thn (hu pins s2 σ H2 _ I2 q2) fun vu s3 ⟨u,H3,I3,pu,q3⟩=>?_)
 rw [evalPart_none]
 refine wpAny_pure ?_
 have I4:Inv X pins σ H3 { s3 with heap:=s3.heap.push { cls:= .type "slice",data:= .fields #[vl,vu,.none] } }:=I3.kept (t':=s3.toks) fun b ob q=>Heap.get?_push_of_some _ q
 obtain ⟨T,id,hT,ht,hg⟩:=hr pins { s3 with heap:=s3.heap.push { cls:= .type "slice",data:= .fields #[vl,vu,.none] } } σ H3 x v vl vu l u s3.heap.objs.size Q I4 r1 (Heap.IsSliceOf.new ..) pl pu q3
 show wpAny (model X.prog X.w) X.A (subscriptTail e (.Slice lo hi none p2) v (.ref s3.heap.objs.size)) (EP X pins σ Q) X.xe { s3 with heap:=s3.heap.push { cls:= .type "slice",data:= .fields #[vl,vu,.none] } }
 exact tail_any (ops:=[.ref s3.heap.objs.size,v]) ht hT hg (by with_unfolding_all rfl)
end
def ixN (n:Nat) (i:Int):Option Nat:=if 0<=i then (if i<n then some i.toNat else none) else if -(n:Int)<=i then some (i+n).toNat else none
def atI {α:Type} (xs:List α) (i:Int):Option α:=(ixN xs.length i).bind fun j=>xs[j]?
theorem Vp {n:Nat} {i:Int} {j:Nat} (h:ixN n i=some j):seqIndex? i n=some j/\j<n/\ -(n:Int)<=i/\i<n:=by
 unfold ixN at h
 by_cases h0:0<=i
 ·rw [mH h0] at h
  by_cases h1:i<n
  ·rw [mH h1] at h
   have e:i.toNat=j:=Option.some.inj h
   exact ⟨by rw [seqIndex_of h0 h1,e],by omega,by omega,h1⟩
  ·rw [mF h1] at h;cases h
 ·rw [mF h0] at h
  by_cases h1: -(n:Int)<=i
  ·rw [mH h1] at h
   have e:(i+n).toNat=j:=Option.some.inj h
   exact ⟨by rw [seqIndex_neg (by omega) h1,e],by omega,h1,by omega⟩
  ·rw [mF h1] at h;cases h
theorem YU {α:Type} {xs:List α} {i:Int} {v:α} (h:atI xs i=some v):∃j,seqIndex? i xs.length=some j/\xs[j]? =some v/\j<xs.length/\ -(xs.length:Int)<=i/\i<xs.length:=by
 unfold atI at h
 cases e:ixN xs.length i with
 | none=>rw [e] at h;cases h
 | some j=>
  rw [e] at h
  obtain ⟨h1,h2,h3,h4⟩:=Vp e
  exact ⟨j,h1,h,h2,h3,h4⟩
theorem VJ {α:Type} {xs:List α} {j:Nat} {v:α} (h:xs[j]? =some v):atI xs (j:Int)=some v:=by
 have hj:j<xs.length:=(List.getElem?_eq_some_iff.mp h).1
 have e:ixN xs.length (j:Int)=some j:=by
  unfold ixN
  rw [if_pos (by omega),if_pos (by omega)];simp
 unfold atI;rw [e];exact h
def PlainIx (b:Expr):Prop:=∀o i,subscripted b false o i=operate [o,i] (getItem o i)
def IxR (X:Cx) (r:R2):Prop:=
 ∀(value slice:Expr) (pins:List (Addr×Obj)) (s:Shared) (σ:St) (H:Hp) (x y:V) (v u:Value) (Q:VK),Inv X pins σ H s->RelV x v->RelV y u->r x y H Q->
  subscripted slice false v u=operate [v,u] (getItem v u)->wpAny (model X.prog X.w) X.A (subscriptTail value slice v u) (EP X pins σ Q) X.xe s
def MtR (X:Cx) (id:String) (r:V->List V->Hp->VK->Prop):Prop:=
 ∀(pins:List (Addr×Obj)) (s:Shared) (σ:St) (H:Hp) (x:V) (xs:List V) (v:Value) (us:List Value) (Q:VK),Inv X pins σ H s->RelV x v->Vals xs us->r x xs H Q->
  wpAny (model X.prog X.w) X.A (call (.builtin id) (v::us)) (EP X pins σ Q) X.xe s
section
variable {X:Cx} {a b:Expr} {ta tb:TE} {pos:Pos}
theorem Vg {r:R2} (hr:IxR X r) (ha:PE X a ta) (hb:PE X b tb) (hs:PlainIx b):PE X (.Subscript a b pos) (tOp r ta tb):=by
 intro pins s σ H Q I h
 exact Subscript_ (binT ha hb I h fun v u s2 x y H2 I2 rx ry q=>hr a b pins s2 σ H2 x y v u Q I2 rx ry q (hs _ _))
def rIxL (K:W.Frag):R2:=fun x y H Q=>∃p xs i v,x= .ref p/\y= .int i/\SqL K H p xs/\atI xs i=some v/\Q v H
def rIxT (K:W.Frag):R2:=fun x y H Q=>∃p xs i v,x= .ref p/\y= .int i/\SqT K H p xs/\atI xs i=some v/\Q v H
def rIxS:R2:=fun x y H Q=>∃z i c,x= .str z/\y= .int i/\z.length<=sizeLine/\atI z.cps.toList i=some c/\Q (.str ⟨#[c]⟩) H
theorem Vo:IxR X (rIxL X.K):=by
 intro value slice pins s σ H x y v u Q I rx ry h hs
 obtain ⟨p,xs,i,z,rfl,rfl,hq,he,q⟩:=h
 cases rx
 obtain ⟨t,rfl⟩:=ry
 obtain ⟨its,r,pl,hz⟩:=I.list hq
 obtain ⟨j,h1,h2,h3,h4,h5⟩:=YU he
 obtain ⟨w,ew,rw'⟩:=r.get h2
 have hl:=r.length
 have hn:=line63
 have fin:EP X pins σ Q w s:=⟨z,H,I,rw',q⟩
 by_cases h0:0<=i
 ·have hj:i.toNat=j:=by
   rw [seqIndex_of h0 h5] at h1
   exact Option.some.inj h1
  exact item_listR pl.isList h0 (by omega) (by rw [hj];simpa using ew) fin hs
 ·have hj:(i+(its.toArray.size:Int)).toNat=j:=by
   rw [seqIndex_neg (by omega) h4] at h1
   rw [List.size_toArray,<-hl]
   exact Option.some.inj h1
  exact subscriptTail_builtinR (x:=w) pl.isList.typeIs slot_list_getitem.lookup
   (wpAny_getItem_list_neg (Q:=fun r s'=>r=w/\EP X pins σ Q r s') pl.isList (by omega) (by rw [List.size_toArray]<;>omega) (by omega) (by rw [hj];simpa using ew) ⟨rfl,fin⟩) hs
theorem xao:IxR X (rIxT X.K):=by
 intro value slice pins s σ H x y v u Q I rx ry h hs
 obtain ⟨p,xs,i,z,rfl,rfl,hq,he,q⟩:=h
 cases rx
 obtain ⟨t,rfl⟩:=ry
 obtain ⟨its,r,pl,hz⟩:=I.tuple hq
 obtain ⟨j,h1,h2,h3,h4,h5⟩:=YU he
 obtain ⟨w,ew,rw'⟩:=r.get h2
 have hl:=r.length
 have hn:=line63
 have fin:EP X pins σ Q w s:=⟨z,H,I,rw',q⟩
 exact subscriptTail_builtinR (x:=w) pl.typeIs slot_tuple_getitem.lookup
  (getItem_tuple (j:=j) (Q:=fun r s'=>r=w/\EP X pins σ Q r s') pl (by omega) (by omega) (by rw [List.size_toArray,<-hl];exact h1) (by simpa using ew) ⟨rfl,fin⟩) hs
theorem xap:IxR X rIxS:=by
 intro value slice pins s σ H x y v u Q I rx ry h hs
 obtain ⟨z,i,c,rfl,rfl,hz,he,q⟩:=h
 obtain ⟨t,rfl⟩:=rx
 obtain ⟨t',rfl⟩:=ry
 obtain ⟨j,h1,h2,h3,h4,h5⟩:=YU he
 have hl:z.cps.toList.length=z.length:=by simp [Str.length]
 rw [hl] at h1 h4 h5
 have hn:=line63
 exact tail_any (typeIs_str s z t) slot_str_getitem.lookup (getItem_str (c:=c) (by
  have e1:decide (i< -(2^63:Int))=false:=decide_eq_false (by omega)
  have e2:decide (i≥2^63)=false:=decide_eq_false (by omega)
  rw [e1,e2,Bool.or_false]) (by rw [h1];simpa using h2) ⟨.str ⟨#[c]⟩,H,I.tok _,⟨_,rfl⟩,q⟩) hs
theorem Qt (its:List Value) (n j:Nat) (u:Value):Obj.mapSeq (·.setIfInBounds j u) { cls:= .type "list",data:= .seq its.toArray n }={ cls:= .type "list",data:= .seq (its.set j u).toArray n }:=by
 simp [Obj.mapSeq]
theorem Inv.lst {pins:List (Addr×Obj)} {σ:St} {H:Hp} {s:Shared} {p:Addr} {xs:List V} (I:Inv X pins σ H s) (h:H p=some (.lst xs)):
  ∃(its:List Value) (n:Nat),Vals xs its/\s.heap.get? p=some { cls:= .type "list",data:= .seq its.toArray n }/\xs.length<=sizeLine:=by
 obtain ⟨z,its,n,r,e⟩:=I.hok p _ h
 exact ⟨its,n,r,e,z⟩
theorem Inv.lstUpd {pins:List (Addr×Obj)} {σ:St} {H:Hp} {s:Shared} {p:Addr} {xs ys:List V} {its its':List Value} {n n':Nat} {f:Obj->Obj} (I:Inv X pins σ H s) (h:H p=some (.lst xs))
  (ho:s.heap.get? p=some { cls:= .type "list",data:= .seq its.toArray n }) (hf:f { cls:= .type "list",data:= .seq its.toArray n }={ cls:= .type "list",data:= .seq its'.toArray n' }) (r:Vals ys its') (hz:ys.length<=sizeLine) (t:Nat):
  Inv X pins σ (upd H p (.lst ys)) { s with heap:=s.heap.update p f,toks:=t }:=by
 have e:(s.heap.update p f).get? p=some { cls:= .type "list",data:= .seq its'.toArray n' }:=by
  rw [Heap.get?_update_self f ho (by rw [hf]<;>rfl),hf]
 refine I.write (x:=p) (e:=p) (by rw [h];trivial) (.inl rfl) (fun b u hb q=>(Heap.get?_update_other _ _ (Ne.symm hb)).trans q) ⟨_,e⟩ ?_
 exact ⟨hz,its',n',r,e⟩
def rSetL:V->V->V->Hp->(Hp->Prop)->Prop:=fun o i v H Q=>∃p xs k j,o= .ref p/\i= .int k/\H p=some (.lst xs)/\ixN xs.length k=some j/\Q (upd H p (.lst (xs.set j v)))
theorem Ux:PSet X rSetL:=by
 intro pins s σ H o i v ov iv u Q I ro ri rv h
 obtain ⟨p,xs,k,j,rfl,rfl,hp,hj,q⟩:=h
 cases ro
 obtain ⟨t,rfl⟩:=ri
 obtain ⟨its,n,r,ho,hz⟩:=I.lst hp
 obtain ⟨h1,h2,h3,h4⟩:=Vp hj
 have hl:=r.length
 have hn:=line63
 have I':Inv X pins σ (upd H p (.lst (xs.set j v))) { s with heap:=s.heap.update p (Obj.mapSeq (·.setIfInBounds j u)) }:=
  I.lstUpd hp ho (Qt its n j u) (r.set rv j) (by rw [List.length_set];exact hz) s.toks
 by_cases h0:0<=k
 ·have hk:k.toNat=j:=by
   rw [seqIndex_of h0 h4] at h1
   exact Option.some.inj h1
  exact W.ki_setAt ho h0 (by omega) (by rw [List.size_toArray,<-hl];exact h4) (by rw [hk];exact ⟨_,I',q⟩)
 ·have hk:(k+(its.toArray.size:Int)).toNat=j:=by
   rw [seqIndex_neg (by omega) h3] at h1
   rw [List.size_toArray,<-hl]
   exact Option.some.inj h1
  exact W.ki_setBack ho (by omega) (by rw [List.size_toArray,<-hl];exact h3) (by omega) (by rw [hk];exact ⟨_,I',q⟩)
def tyV (K:W.Frag) (T:String) (x:V) (H:Hp):Prop:=match x with
 | .str _=>T= "str"
 | .int _=>T= "int"
 | .ref p=>(T= "list" /\∃xs,SqL K H p xs)∨(T= "tuple" /\∃o,K.lookup p=some o/\o.cls= .type "tuple" /\o.dict=none)∨
   (T= "dict" /\((∃kvs,H p=some (.dK kvs))∨∃kvs,H p=some (.dT kvs)))∨(T= "set" /\∃S n,H p=some (.set S n))
 | _=>False
theorem Ub {pins:List (Addr×Obj)} {σ:St} {H:Hp} {s:Shared} {T:String} {x:V} {v:Value} (I:Inv X pins σ H s) (r:RelV x v) (ty:tyV X.K T x H):
  s.TypeIs v T/\∀a,v= .ref a->∃ob,s.heap.get? a=some ob/\ob.dict=none:=by
 cases x with
 | str z=>
  obtain ⟨t,rfl⟩:=r
  cases (show T= "str" from ty)
  exact ⟨typeIs_str s z t,fun _ e=>nomatch e⟩
 | int i=>
  obtain ⟨t,rfl⟩:=r
  cases (show T= "int" from ty)
  exact ⟨typeIs_int s i t,fun _ e=>nomatch e⟩
 | ref p=>
  cases r
  rcases ty with ⟨rfl,xs,hq⟩ | ⟨rfl,o,hk,hc,hd⟩ | ⟨rfl,hk⟩ | ⟨rfl,S,n,hk⟩
  ·obtain ⟨its,_,pl,_⟩:=I.list hq
   refine ⟨pl.isList.typeIs,fun a e=>?_⟩
   cases e
   obtain ⟨o,n,e,c,hd,_⟩:=pl
   exact ⟨o,e,hd⟩
  ·refine ⟨⟨o,I.kIn p o hk,hc⟩,fun a e=>?_⟩
   cases e
   exact ⟨o,I.kIn _ o hk,hd⟩
  ·have z:∃o,s.heap.get? p=some o/\o.ExactDict:=by
    rcases hk with ⟨kvs,hk⟩ | ⟨kvs,hk⟩
    ·obtain ⟨_,_,_,_,o,_,_,e,ex,_⟩:=I.hok p _ hk
     exact ⟨o,e,ex⟩
    ·obtain ⟨_,_,_,_,o,_,_,e,ex,_⟩:=I.hok p _ hk
     exact ⟨o,e,ex⟩
   obtain ⟨o,e,ex⟩:=z
   refine ⟨⟨o,e,ex.1⟩,fun a e2=>?_⟩
   cases e2
   exact ⟨o,e,ex.2.1⟩
  ·obtain ⟨o,_,_,_,e,ex,_⟩:=I.hok p _ hk
   refine ⟨⟨o,e,ex.1⟩,fun a e2=>?_⟩
   cases e2
   exact ⟨o,e,ex.2.1⟩
 | _=>exact False.elim ty
def tBM0 (K:W.Frag) (T:String) (r:V->List V->Hp->VK->Prop) (to:TE):TE:=fun σ H Q=>to σ H fun x H1=>tyV K T x H1/\r x [] H1 Q
def tBM (K:W.Frag) (T:String) (r:V->List V->Hp->VK->Prop) (to:TE) (t:TA):TE:=fun σ H Q=>to σ H fun x H1=>tyV K T x H1/\t σ H1 fun xs H2=>r x xs H2 Q
variable {o e:Expr} {es:List Expr} {to:TE} {t:TA} {name:Str} {apos cpos:Pos} {T id:String} {r:V->List V->Hp->VK->Prop}
theorem Qe (pa:PlainAttrs T) (slot:Slot T name id) (hty:typeOf (.builtin id)=pure (.type "method_descriptor")) (hm:MtR X id r) (ho:PE X o to)
  (hbase:attributeBase o name X.env (eval o X.env)=eval o X.env:=by rfl) (hline:(apos.endLine==cpos.line)=true:=by rfl):PE X (.Call (.Attribute o name apos) [] [] cpos) (tBM0 X.K T r to):=by
 intro pins s σ H Q I h
 refine wpAny_Call_method0_late hbase hline (thn (ho pins s σ H _ I h) fun v s1 ⟨x,H1,I1,r1,ty,q1⟩=>?_)
 obtain ⟨h1,h2⟩:=Ub I1 r1 ty
 exact ⟨T,id,pa,slot,hty,h1,h2,Calls.callWith_builtin rfl (PySem.evalArgs_none (hm pins s1 σ H1 x [] v [] Q I1 r1 .nil q1))⟩
theorem ut (pa:PlainAttrs T) (slot:Slot T name id) (hty:typeOf (.builtin id)=pure (.type "method_descriptor")) (hm:MtR X id r) (ho:PE X o to) (ha:PA X (e::es) t)
  (hbase:attributeBase o name X.env (eval o X.env)=eval o X.env:=by rfl)
  (hfew:((backTo cpos (starEach (e::es) X.env)).all (fun x=> !x.1) && (backToKw cpos (keywordEach [] X.env)).all (fun x=>x.1.isSome)
   && decide ((e::es).length+([]:List Keyword).length+(if ([]:List Keyword).isEmpty then 0 else 1)<30))=true:=by rfl)
  (hline:(apos.endLine==cpos.line)=true:=by rfl) (hs:starEach (e::es) X.env=(false,eval e X.env)::starEach es X.env:=by rfl) (hplain:(backTo cpos (starEach es X.env)).any (·.1)=false:=by rfl):
  PE X (.Call (.Attribute o name apos) (e::es) [] cpos) (tBM X.K T r to t):=by
 intro pins s σ H Q I h
 refine wpAny_Call_method_late hbase hfew hline rfl (thn (ho pins s σ H _ I h) fun v s1 ⟨x,H1,I1,r1,ty,q1⟩=>?_)
 obtain ⟨h1,h2⟩:=Ub I1 r1 ty
 refine ⟨T,id,pa,slot,hty,h1,h2,?_⟩
 have hA:=ha cpos pins s1 σ H1 _ I1 q1
 rw [hs] at hA ⊢
 refine Calls.callWith_builtin (by show (false || (backTo cpos (starEach es X.env)).any (·.1))=false;rw [hplain]<;>rfl) (Calls.evalArgs_plain ?_)
 exact thn hA fun us s2 ⟨vs,H2,I2,r2,q2⟩=>hm pins s2 σ H2 x vs v us Q I2 r1 r2 q2
end
def MtM (X:Cx) (id:String) (r:V->List V->Hp->VK->Prop):Prop:=
 ∀(pins:List (Addr×Obj)) (s:Shared) (σ:St) (H:Hp) (x:V) (xs:List V) (v:Value) (us:List Value) (Q:VK),Inv X pins σ H s->RelV x v->Vals xs us->r x xs H Q->
  wpAny (model X.prog X.w) X.A (call (.builtin id) (v::us)) (EP X pins σ Q) X.xe s
theorem Vals.one:∀{x:V} {us:List Value},Vals [x] us->∃u,us=[u]/\RelV x u
 | _,_,.cons r .nil=>⟨_,rfl,r⟩
theorem Vals.zero:∀{us:List Value},Vals [] us->us=[]
 | _,.nil=>rfl
theorem Vals.dropLast {xs:List V} {us:List Value} (h:Vals xs us):Vals xs.dropLast us.dropLast:=by
 induction h with
 | nil=>exact .nil
 | cons r t ih=>
  cases t with
  | nil=>exact .nil
  | cons q t'=>exact .cons r ih
theorem Vals.eraseIdx:∀{xs:List V} {us:List Value} (i:Nat),Vals xs us->Vals (xs.eraseIdx i) (us.eraseIdx i)
 | _,_,_,.nil=> .nil
 | _,_,0,.cons _ t=>t
 | _,_,i+1,.cons r t=> .cons r (Vals.eraseIdx i t)
theorem QN {α:Type} (l:List α):l.eraseIdx (l.length - 1)=l.dropLast:=by
 induction l with
 | nil=>rfl
 | cons a r ih=>
  cases r with
  | nil=>rfl
  | cons b r=>
   have e:(a::b::r).length - 1=((b::r).length - 1)+1:=by
    have h1:(a::b::r).length=r.length+2:=rfl
    have h2:(b::r).length=r.length+1:=rfl
    omega
   rw [e,List.eraseIdx_cons_succ,ih]
   all_goals rfl
theorem XH {α:Type}:∀(l:List α) (i:Nat),(l.eraseIdx i).length<=l.length
 | [],_=>mJ _
 | _::_,0=>Nat.le_succ _
 | _::r,i+1=>Nat.succ_le_succ (XH r i)
section
variable {X:Cx} {pins:List (Addr×Obj)} {σ:St} {H:Hp} {s:Shared} {l b:Addr} {xs ys zs:List V}
theorem Inv.lset {its its':List Value} {n:Nat} {f:Array Value->Array Value} {t':Nat} (I:Inv X pins σ H s) (hH:H l=some (.lst xs))
  (e:s.heap.get? l=some { cls:= .type "list",data:= .seq its.toArray n }) (hf:f its.toArray=its'.toArray) (hv:Vals ys its') (hz:ys.length<=sizeLine):
  Inv X pins σ (upd H l (.lst ys)) { s with heap:=s.heap.update l (Obj.mapSeq f),toks:=t' }:=by
 have q:=PySem.IsL.update e f
 rw [hf] at q
 refine I.write (x:=l) (e:=l) (by rw [hH];exact trivial) (.inl rfl) (fun b' u hb hu=>(Heap.get?_update_other s.heap (Obj.mapSeq f) (Ne.symm hb)).trans hu) ⟨_,q⟩ ?_
 exact ⟨hz,its',_,hv,q⟩
theorem Inv.lnew {its:List Value} {t':Nat} (I:Inv X pins σ H s) (hv:Vals ys its) (hz:ys.length<=sizeLine):
  Inv X pins σ (upd H s.heap.objs.size (.lst ys)) { s with heap:=s.heap.push { cls:= .type "list",data:= .seq its.toArray },toks:=t' }:=
 I.laid (fun _ _ q=>Heap.get?_push_of_some _ q) (mJ _) ⟨hz,its,0,hv,Heap.get?_push_size _ rfl⟩
theorem Inv.fresh (I:Inv X pins σ H s):H s.heap.objs.size=none:=I.hok.fresh (mJ _)
theorem Inv.lstM (I:Inv X pins σ H s) (hH:H l=some (.lst xs)):xs.length<=sizeLine/\∃(its:List Value) (n:Nat),Vals xs its/\xs.length=its.length/\s.heap.get? l=some { cls:= .type "list",data:= .seq its.toArray n }:=by
 obtain ⟨z,its,n,r,e⟩:=I.hok l _ hH
 exact ⟨z,its,n,r,r.length,e⟩
end
section
variable {X:Cx}
def rAppend:V->List V->Hp->VK->Prop:=fun x vs H Q=>∃l xs y,x= .ref l/\vs=[y]/\H l=some (.lst xs)/\xs.length<sizeLine/\Q .non (upd H l (.lst (xs++ [y])))
theorem vY:MtM X "list.append" rAppend:=by
 intro pins s σ H x vs v us Q I rx rv h
 obtain ⟨l,xs,y,rfl,rfl,hH,hz,q⟩:=h
 cases rx
 obtain ⟨u,rfl,ru⟩:=rv.one
 obtain ⟨z,its,n,r,hl,e⟩:=I.lstM hH
 refine call_meets F.slot_list_append ⟨_,e,rfl⟩ F.entry_list_append (F.args_list_append_2 _ _) (PySem.list_append l its.toArray n u (by rw [List.size_toArray];omega)) ⟨e,?_⟩
 refine ⟨.non,_,I.lset (its':=its++ [u]) hH e (by simp) (r.append (.cons ru .nil)) ?_,rfl,q⟩
 rw [List.length_append,List.length_singleton]
 omega
def rPop:V->List V->Hp->VK->Prop:=fun x vs H Q=>∃l xs y,x= .ref l/\vs=[]/\H l=some (.lst xs)/\xs[xs.length - 1]? =some y/\Q y (upd H l (.lst xs.dropLast))
theorem xai:MtM X "list.pop" rPop:=by
 intro pins s σ H x vs v us Q I rx rv h
 obtain ⟨l,xs,y,rfl,rfl,hH,hy,q⟩:=h
 cases rx
 have hus:=rv.zero
 subst hus
 obtain ⟨z,its,n,r,hl,e⟩:=I.lstM hH
 obtain ⟨u,hu,ru⟩:=r.get hy
 have hy':its.toArray[its.toArray.size - 1]? =some u:=by
  show its.toArray[its.length - 1]? =some u
  rw [<-Array.getElem?_toList,<-hl]
  exact hu
 refine call_meets F.slot_list_pop ⟨_,e,rfl⟩ F.entry_list_pop (F.args_list_pop_1 _) (MeetsSeq.list_pop_last l its.toArray n u hy' (by rw [List.size_toArray];omega)) ⟨e,?_⟩
 refine ⟨y,_,I.lset (its':=its.dropLast) hH e ?_ r.dropLast ?_,ru,q⟩
 ·show its.toArray.eraseIdxIfInBounds (its.toArray.size - 1)=its.dropLast.toArray
  rw [List.size_toArray,List.eraseIdxIfInBounds_toArray,QN]
 ·rw [List.length_dropLast]
  omega
def rPopAt:V->List V->Hp->VK->Prop:=fun x vs H Q=>∃l xs i k y,x= .ref l/\vs=[.int i]/\H l=some (.lst xs)/\ -(2^63)<=i/\i<2^63/\seqIndex? i xs.length=some k/\xs[k]? =some y/\Q y (upd H l (.lst (xs.eraseIdx k)))
theorem U8:MtM X "list.pop" rPopAt:=by
 intro pins s σ H x vs v us Q I rx rv h
 obtain ⟨l,xs,i,k,y,rfl,rfl,hH,h1,h2,hk,hy,q⟩:=h
 cases rx
 obtain ⟨u,rfl,ru⟩:=rv.one
 obtain ⟨t,rfl⟩:=ru
 obtain ⟨z,its,n,r,hl,e⟩:=I.lstM hH
 obtain ⟨w,hw,rw'⟩:=r.get hy
 refine call_meets F.slot_list_pop ⟨_,e,rfl⟩ F.entry_list_pop (F.args_list_pop_2 _ _)
  (MeetsSeq.list_pop_at l its.toArray n i t k w (fitsIndex_both h1 h2) (by rw [List.size_toArray,<-hl];exact hk) (by rw [<-Array.getElem?_toList];exact hw) (by rw [List.size_toArray];omega)) ⟨e,?_⟩
 refine ⟨y,_,I.lset (its':=its.eraseIdx k) hH e ?_ (r.eraseIdx k) ?_,rw',q⟩
 ·show its.toArray.eraseIdxIfInBounds k=(its.eraseIdx k).toArray
  rw [List.eraseIdxIfInBounds_toArray]
 ·have:=XH xs k
  omega
end
end L2
namespace Att
open PySem PySem.W PySem.Calls PyProof.Rows
theorem wC {P:Params} {h:Heap}:∀(ns:List Int) (vs:List Value),WellAll P h vs (ns.map WData.int)->IntsAre vs ns:=by
 intro ns
 induction ns with
 | nil=>
  intro vs w
  rw [List.map_nil] at w
  cases w
  exact .nil
 | cons n ns ih=>
  intro vs w
  rw [List.map_cons] at w
  cases w with
  | cons a b=>
   cases a
   exact .cons _ _ (ih _ b)
theorem V1 {l:OpenLaw} {n:Nat} (hn:l.most=some n) {P:Params} {h:Heap} {args:List WData} {vals:List Value}
  (hpre:l.row.toRowW.claim.pre args=true) (hwl:WellAll P h vals args):
  ∃a vs ns,vals=[Value.ref a]/\args=[WData.list (ns.map WData.int)]/\h.get? a=some { cls:= .type "list",data:= .seq vs.toArray }/\IntsAre vs ns/\ns.length<=n:=by
 have hsh:WShape.hasAll [] args [.list .int]=true:=(pre_splitW hpre).1
 have hc:l.pre.holds [] { args:=args }=true:=(pre_splitW hpre).2
 obtain ⟨d,r,rfl,h1,h2⟩:=hasAllW_cons hsh
 obtain rfl:=hasAllW_nil h2
 obtain ⟨xs,rfl,h3⟩:=hasW_list h1
 obtain ⟨ns,rfl⟩:=items_int h3
 have hlen:ns.length<=n:=by
  unfold OpenLaw.pre at hc
  have h4:(WTm.not (.lt (.lit (.int (n:Int))) (.len (.arg 0)))).holds [] { args:=[.list (ns.map .int)] }=true:=by
   have h4:=(holds_andW hc).1
   rw [hn] at h4
   exact h4
  have h5:=condW_of h4 (w_not (w_lt w_lit (w_len_list (w_arg rfl))))
  rw [mB] at h5
  refine Nat.le_of_not_lt fun q=>?_
  have q':(n:Int)<((ns.length:Nat):Int):=by omega
  first
   | (rw [decide_eq_true q'] at h5;exact absurd h5 (by decide))
   | (simp at h5;omega)
 cases hwl with
 | cons w1 w2=>
  cases w2
  cases w1 with
  | list ho hall=>exact ⟨_,_,ns,rfl,rfl,ho,wC ns _ hall,hlen⟩
theorem V8 (l:OpenLaw) (args:List WData):l.row.toRowW.claim.post args (.bool true) args=true:=
 postW_of (r:=l.row.toRowW) (X:=(true==true))
  (show WShape.has [] (.bool true) .bool=true by first | rfl | decide | simp [WShape.has,WShape.arms,WShape.armsAll])
  (show (WTm.eq .res (.lit (.bool true))).value [] { args:=args,res:=some (.bool true),after:=args }=some (.bool (true==true)) from w_eq_bool (w_res rfl) w_lit) rfl
theorem attach_call {l:OpenLaw} {n:Nat} {q:Program} {loose:List Str} {XP:(Str->Option Value)->Heap->Prop} {YP:World->Heap->Prop} {d:DefRec}
  (hn:l.most=some n) (hdf:d.params.defaults=[])
  (call:∀(w:World) (s₀ s₁:Shared) (mg mb:Str->Option Value) (fa:Addr) (o:Obj) (pm cd doc:Value) (a:Addr) (vs:List Value) (ns:List Int),
   Ground q loose [] XP w s₀ mg mb s₁.heap->YP w s₁.heap->
   s₁.heap.get? fa=some o->o.data= .func (docDef d.name d.params d.body d.scope pm cd doc)->s₁.heap.CodeRec cd d.name->mg d.name=some (.ref fa)->
   s₁.heap.get? a=some { cls:= .type "list",data:= .seq vs.toArray }->IntsAre vs ns->ns.length<=n->s₁.gens= #[]->
   codeAny (model l.prog w) callerA (.call (.ref fa) ⟨[.ref a],[]⟩) (fun r s'=>r= .ok (.ret (.bool true))/\OldK s₁.heap s'.heap/\s'.os=s₁.os/\AllBare s'.gens) s₁):
  WalkO q loose XP YP l.row.toRowW d [] (fun f vs=>PySem.call f vs):=by
 intro w s₀ s₁ mg mb G Y fa o pm cd doc dV kV ho hd hcd hD hmg hg args vals as hpre hlay hrd hwl hlo
 obtain rfl:dV= .none:=Dflts.none hD hdf
 obtain rfl:kV= .none:=Dflts.noKw hD
 obtain ⟨a,vs,ns,rfl,rfl,hobj,hints,hlen⟩:=V1 hn hpre hwl
 refine enter_call (codeAny_mono (call w s₀ s₁ mg mb fa o pm cd doc a vs ns G Y ho (fd_plain hd) hcd hmg hobj hints hlen hg) fun r s' hq=>?_)
 obtain ⟨rfl,h2,h3,h4⟩:=hq
 exact ⟨.inl ⟨.bool true,.bool true,[],rfl,fun _=>rfl,.bool true,V8 l _,fun _=>⟨List.Pairwise.nil,fun _ hm=>(nomatch hm)⟩⟩,h2,h3,h4⟩
end Att
namespace L2
open PySem PySem.Spec PyProof.Rows
theorem Xv:∀{vs:List Value} {ns:List Int},IntsAre vs ns->Vals (ns.map V.int) vs
 | _,_,.nil=> .nil
 | _,_,.cons n t h=> .cons ⟨t,rfl⟩ (Xv h)
def Only (H:Hp):Prop:=∀b,H b=none∨∃o xs,H b=some (.frz o (.lst xs))
theorem je {P:Program} {w:World} {K:W.Frag} {mg mb:Str->Option Value} {CX:CXT} {k:Nat} {fa a:Addr} {fd:FuncData} {x:Str} {sp:Sp} {s₁:Shared} {vs:List Value} {ns:List Int}
  (KX:K.In s₁.heap) (hns:s₁.heap.Ns mainGlobals mg) (hb:s₁.heap.Ns builtinsNs mb) (hbb:∀x:Str,x≠ "__name__" ->mb x=bootBuiltins x) (hlim:s₁.heap.NoLimit) (hg:s₁.gens= #[])
  (ha:s₁.heap.get? a=some { cls:= .type "list",data:= .seq vs.toArray }) (hi:IntsAre vs ns) (hl:ns.length<=sizeLine) (hr:Room k callerA)
  (F:∀base:Heap,K.In base->base.Ns mainGlobals mg->FnOk P w K mg base CX k fa fd [x] sp) (hbind:∀(s:Shared) (u:Value),BindsTo s fd ⟨[u],[]⟩ [(x,u)])
  (hsp:∀H:Hp,Only H->SqL K H a (ns.map V.int)->sp [.ref a] H (fun v _=>v= .bl true) fun _ _ _=>False)
  (hCX:∀H e s',CX [] H s₁ (fun _ _ _=>False) e s'->False):
  codeAny (model P w) callerA (.call (.ref fa) ⟨[.ref a],[]⟩) (fun r s'=>r= .ok (.ret (.bool true))/\OldK s₁.heap s'.heap/\s'.os=s₁.os/\AllBare s'.gens) s₁:=by
 have rv:=Xv hi
 have lenV:=hi.length
 have core:∀H:Hp,Only H->SqL K H a (ns.map V.int)->HOk P w H s₁.heap->(∀b,H b≠none->b=a)->(H a≠none->K.lookup a=none)->
   codeAny (model P w) callerA (.call (.ref fa) ⟨[.ref a],[]⟩) (fun r s'=>r= .ok (.ret (.bool true))/\OldK s₁.heap s'.heap/\s'.os=s₁.os/\AllBare s'.gens) s₁:=by
  intro H hO hS hok hA hK
  have base_of:∀{b:Addr} {o:Obj},s₁.heap.get? b=some o->H b=none->(hidT s₁.heap H).get? b=some o:=fun e n=>jr e n
  have noA:∀{b:Addr} {o:Obj} {es:Array DictEntry} {ep:Nat},s₁.heap.get? b=some o->o.data= .dict es ep->H b=none:=fun {b o es ep} e d=>by
   cases q:H b with
   | none=>rfl
   | some u=>
    have e':b=a:=hA b (by rw [q];simp)
    subst e'
    rw [ha] at e;cases e
    have d':Data.seq vs.toArray _=Data.dict es ep:=d
    cases d'
  have nsK:∀{b:Addr} {m:Str->Option Value},s₁.heap.Ns b m->(hidT s₁.heap H).Ns b m:=fun {b m} ⟨o,es,ep,e,d,r⟩=>⟨o,es,ep,base_of e (noA e d),d,r⟩
  have hKb:K.In (hidT s₁.heap H):=fun b o e=>base_of (KX b o e) (by
   cases q:H b with
   | none=>rfl
   | some u=>
    have e':b=a:=hA b (by rw [q];simp)
    subst e'
    rw [hK (by rw [q];simp)] at e;cases e)
  have hM:Mod K mg (hidT s₁.heap H):=⟨hKb,nsK hns,⟨mb,nsK hb,hbb⟩,let ⟨mc,h1,h2⟩:=hlim;⟨mc,nsK h1,h2⟩⟩
  have e0:Env0 P w K mg (hidT s₁.heap H) callerA [] s₁ H:=⟨rfl,hM,fun b o e=>Jm e,Nat.le_of_eq (Wy _ _),trivial,fun b hb=>absurd (show b∈([]:List Addr) from hb) (by simp),hok,.of_eq hg⟩
  refine codeAny_mono ((F _ hKb (nsK hns)).run callerA [] s₁ H ⟨[.ref a],[]⟩ [.ref a] [.ref a] _ _ hr e0 (hbind s₁ (.ref a)) (.cons rfl .nil) (hsp H hO hS)) fun r s' h=>?_
  cases r with
  | error e=>exact (hCX H e s' h).elim
  | ok fl=>
   cases fl with
   | next=>exact False.elim h
   | brk=>exact False.elim h
   | cont=>exact False.elim h
   | ret u=>
    obtain ⟨v,H',os,bare,un,hok',r',q⟩:=h
    have q':v= .bl true:=q
    subst q'
    obtain rfl:u=Value.bool true:=r'
    refine ⟨rfl,OldK.of_keep fun b o e=>?_,os,bare⟩
    cases q:H b with
    | none=>exact un.keep b o e q (by intro z;exact absurd (show b∈([]:List Addr) from z) (by simp)) (by simp)
    | some u=>
     rcases hO b with z | ⟨ob,xs,z⟩
     ·rw [q] at z;cases z
     ·have z2:=un.frzs b ob _ z
      obtain ⟨e1,_⟩:=hok b _ z
      obtain ⟨e2,_⟩:=hok' b _ z2
      rw [e] at e1;cases e1
      exact e2
 cases hk:K.lookup a with
 | some o=>
  have e:=KX a o hk
  rw [ha] at e
  cases e
  refine core (fun _=>none) (fun _=> .inl rfl) (.inr ⟨_,vs.toArray,_,hk,rfl,rfl,rfl,by rw [List.size_toArray,lenV];exact hl,by simpa using rv⟩) (fun b u z=>by have z':(none:Option HO)=some u:=z;cases z') (fun b z=>absurd rfl z) fun z=>absurd rfl z
 | none=>
  refine core (fun b=>if b=a then some (.frz { cls:= .type "list",data:= .seq vs.toArray } (.lst (ns.map V.int))) else none) (fun b=>?_) (.inl (.inr ⟨{ cls:= .type "list",data:= .seq vs.toArray },if_pos rfl⟩)) (fun b u z=>?_) (fun b z=>?_) fun _=>hk
  ·by_cases hb:b=a
   ·exact .inr ⟨_,_,mH hb⟩
   ·exact .inl (mF hb)
  ·by_cases hb:b=a
   ·have z':=(mH hb).symm.trans z
    cases z'
    subst hb
    exact ⟨ha,by rw [mB];exact hl,vs,_,rv,ha⟩
   ·have z':=(mF hb).symm.trans z
    cases z'
  ·by_cases hb:b=a
   ·exact hb
   ·exact absurd (mF hb) z
theorem walk_of {l:W.OpenLaw} {n k:Nat} {q:Program} {loose:List Str} {XP:(Str->Option Value)->Heap->Prop} {YP:World->Heap->Prop} {d:DefRec} {K:Params->W.Frag} {CX:World->CXT} {sp:World->Sp} {x:Str}
  (hn:l.most=some n) (hn2:n<=sizeLine) (hdf:d.params.defaults=[]) (hr:Room k callerA)
  (hY:∀(w:World) (h:Heap),YP w h->(K w.params).In h)
  (F:∀(w:World) (mg:Str->Option Value) (fa:Addr) (h:Heap),(K w.params).In h->h.Ns mainGlobals mg->mg d.name=some (.ref fa)->
   ∃fd:FuncData,(∀(s:Shared) (u:Value),BindsTo s fd ⟨[u],[]⟩ [(x,u)])/\
    ∀base:Heap,(K w.params).In base->base.Ns mainGlobals mg->FnOk l.prog w (K w.params) mg base (CX w) k fa fd [x] (sp w))
  (hsp:∀(w:World) (H:Hp) (a:Addr) (ns:List Int),ns.length<=n->Only H->SqL (K w.params) H a (ns.map V.int)->sp w [.ref a] H (fun v _=>v= .bl true) fun _ _ _=>False)
  (hCX:∀(w:World) (H:Hp) (s:Shared) (e:Value) (s':Shared),CX w [] H s (fun _ _ _=>False) e s'->False):
  W.WalkO q loose XP YP l.row.toRowW d [] (fun f vs=>PySem.call f vs):=by
 refine Att.attach_call hn hdf fun w s₀ s₁ mg mb fa o pm cd doc a vs ns G Y ho hd hcd hmg hobj hints hlen hg=>?_
 have KX:=hY w _ Y
 obtain ⟨fd,hb,hF⟩:=F w mg fa _ KX G.T.g hmg
 exact je KX G.T.g G.T.b G.T.builtins G.T.nolimit hg hobj hints (Nat.le_trans hlen hn2) hr hF hb (fun H hO hS=>hsp w H a ns hlen hO hS) fun H e s'=>hCX w H s₁ e s'
def defArgs (s:Stmt):Arguments:=match s with
 | .FunctionDef _ a _ _ _ _ _ _ _ _=>a
 | _=>{ posonlyargs:=[],args:=[],vararg:=none,kwonlyargs:=[],kw_defaults:=[],kwarg:=none,defaults:=[] }
def defBody (s:Stmt):List Stmt:=match s with
 | .FunctionDef _ _ b _ _ _ _ _ _ _=>b
 | _=>[]
def defScope (s:Stmt):Scope:=match s with
 | .FunctionDef _ _ _ _ _ _ sc _ _ _=>sc
 | _=>{ kind:= .function,names:=[],isGenerator:=false,isCoroutine:=false }
abbrev CX0:CXT:=fun _ _ _ _ _ _=>False
abbrev E0:XK:=fun _ _ _=>False
theorem pass0 {X:Cx}:Passes CX0 X E0:=fun _ _ _ _ _ _ _ h=>h.elim
structure Fun (K:W.Frag) (x qual:Str) (st:Stmt) (f:Addr) (fd:FuncData):Prop where
 ex:∃(oc:Value) (od:Option Addr) (kV doc pm:Value) (an:Option Addr) (cdv ct:Value) (osl:Array (Option Value)),
  fd=W.fnOf x qual (defArgs st) (defBody st) (defScope st) .none kV doc pm an cdv ct/\K.lookup f=some ⟨oc,od,.func fd,osl⟩/\W.codeIn K cdv qual=true
 kp:W.keepIn K (.ref f)=true
section
variable {P:Program} {w:World} {K:W.Frag} {mg:Str->Option Value} {base:Heap}
theorem Fun.ok {x qual:Str} {st:Stmt} {f:Addr} {fd:FuncData} {N ps:List Str} {k:Nat} {sp:Sp} (F:Fun K x qual st f fd) (S:FnScope N ps (defScope st)) (len:∀vs H Q E,sp vs H Q E->vs.length=ps.length)
  (hbody:∀(cdv:Value) (A:Around) (outer:List Env) (s:Shared) (H:Hp) (vs:List V) (Q:VK) (E:XK),Room k (A.deeper (envOfC qual (defScope st) s.heap.objs.size f cdv))->sp vs H Q E->
   ∃t,PSs (cxOf CX0 P w K mg base N qual (defScope st) f cdv A outer s H E).nox (defBody st) t/\t { nx:=fun _ H'=>Q .non H',rt:=Q } (start N vs) H):FnOk P w K mg base CX0 (k+1) f fd ps sp:=by
 obtain ⟨oc,od,kV,doc,pm,an,cdv,ct,osl,rfl,lk,hcd⟩:=F.ex
 refine XL lk hcd S len fun A outer s H vs Q E hr hsp=>?_
 obtain ⟨t,h,q⟩:=hbody cdv A outer s H vs Q E hr hsp
 exact ⟨t,h.nox,q⟩
theorem Fun.binds {x qual:Str} {st:Stmt} {f:Addr} {fd:FuncData} {ps:List Str} (F:Fun K x qual st f fd)
  (h:∀(kV doc pm:Value) (an:Option Addr) (cdv ct:Value) (us:List Value),us.length=ps.length->bindArgs (W.fnOf x qual (defArgs st) (defBody st) (defScope st) .none kV doc pm an cdv ct) ⟨us,[]⟩=pure (ps.zip us)):Binds K fd ps []:=by
 obtain ⟨oc,od,kV,doc,pm,an,cdv,ct,osl,rfl,lk,hcd⟩:=F.ex
 exact .all (h kV doc pm an cdv ct)
theorem uT {x qual:Str} {st:Stmt} {f:Addr} {oc:Value} {od an:Option Addr} {osl:Array (Option Value)} {kV doc pm cdv ct:Value} (l:K.lookup f=some ⟨oc,od,.func (W.fnOf x qual (defArgs st) (defBody st) (defScope st) .none kV doc pm an cdv ct),osl⟩)
  (c:W.codeIn K cdv qual=true) (k:W.keepIn K (.ref f)=true):Fun K x qual st f (W.fnOf x qual (defArgs st) (defBody st) (defScope st) .none kV doc pm an cdv ct):=⟨⟨oc,od,kV,doc,pm,an,cdv,ct,osl,rfl,l,c⟩,k⟩
end
theorem iteF {A B:Prop} (h:B):if false=true then A else B:=by
 rw [mF Bool.false_ne_true]
 exact h
theorem iteT {A B:Prop} (h:A):if true=true then A else B:=by
 rw [mH rfl]
 exact h
def Same (H H':Hp):Prop:=∀b o,H b=some o->H' b=some o
theorem Same.refl (H:Hp):Same H H:=fun _ _ h=>h
theorem Same.trans {H H1 H2:Hp} (a:Same H H1) (b:Same H1 H2):Same H H2:=fun c o h=>b c o (a c o h)
theorem Same.seq {K:W.Frag} {H H':Hp} {a:Addr} {xs:List V} (e:Same H H') (h:SqL K H a xs):SqL K H' a xs:=by
 rcases h with (h | ⟨o,h⟩) | h
 ·exact .inl (.inl (e _ _ h))
 ·exact .inl (.inr ⟨o,e _ _ h⟩)
 ·exact .inr h
def NoSl (i:Expr):Prop:=∀ov iv,subscripted i false ov iv=operate [ov,iv] (getItem ov iv)
theorem kA {prog:Program} {w:World} {A:Around} {E:Value->Shared->Prop} {s:Shared} {env:Env} {value slice:Expr} {pos:Pos} {T id:String} {Q:Value->Shared->Prop}
  (hl:typeLookup (.type T) "__getitem__" =pure (some (.builtin id))) (hs:NoSl slice)
  (h:wpAny (model prog w) A (eval value env) (fun o s₁=>wpAny (model prog w) A (eval slice env) (fun i s₂=>s₂.TypeIs o T/\wpAny (model prog w) A (getItem o i) Q E s₂) E s₁) E s):
  wpAny (model prog w) A (eval (.Subscript value slice pos) env) Q E s:=by
 refine Subscript_ (wpAny_mono h (fun o s₁ h₁=>wpAny_mono h₁ (fun i s₂ h₂=>?_) fun _ _ x=>x) fun _ _ x=>x)
 obtain ⟨hT,h₂⟩:=h₂
 unfold subscriptTail
 refine wpAny_bind ?_
 rw [getitemInPython_of_ne hT.not_modules]
 refine wpAny_bind (wpAny_specialOf hT hl ?_)
 have fin:wpAny (model prog w) A (subscripted slice false o i) (fun r s₃=>wpAny (model prog w) A (letTemporaryGo value o r>>=fun _=>pure r) Q E s₃) E s₂:=by
  rw [hs o i]
  exact wpAny_operating (wpAny_mono h₂ (fun r s₃ h₃=>wpAny_bind (wpAny_letTemporaryGo (wpAny_pure h₃))) fun _ _ x=>x)
 first
  | exact wpAny_pure (wpAny_bind fin)
  | exact wpAny_bind (wpAny_pure (wpAny_bind fin))
  | exact wpAny_bind fin
end L2
namespace DL
open PySem L2
inductive D where
 | non | bl (b:Bool) | int (i:Int) | str (x:Str) | tup (xs:List D) | lst (xs:List D)
mutual
inductive Rep (K:W.Frag) (F:Hp):V->D->Prop
 | non:Rep K F .non .non
 | bl (b:Bool):Rep K F (.bl b) (.bl b)
 | int (i:Int):Rep K F (.int i) (.int i)
 | str (x:Str):Rep K F (.str x) (.str x)
 | tup {a:Addr} {vs:List V} {ds:List D}:SqT K F a vs->Reps K F vs ds->Rep K F (.ref a) (.tup ds)
 | lst {a:Addr} {vs:List V} {ds:List D}:SqL K F a vs->Reps K F vs ds->Rep K F (.ref a) (.lst ds)
inductive Reps (K:W.Frag) (F:Hp):List V->List D->Prop
 | nil:Reps K F [] []
 | cons {v:V} {vs:List V} {d:D} {ds:List D}:Rep K F v d->Reps K F vs ds->Reps K F (v::vs) (d::ds)
end
theorem yj {K:W.Frag} {H H':Hp} {a:Addr} {xs:List V} (e:Same H H') (h:SqT K H a xs):SqT K H' a xs:=by
 rcases h with (h | ⟨o,h⟩) | h
 ·exact .inl (.inl (e _ _ h))
 ·exact .inl (.inr ⟨o,e _ _ h⟩)
 ·exact .inr h
section
variable {K:W.Frag} {F F':Hp}
mutual
theorem Rep.mono (e:Same F F'):∀{v:V} {d:D},Rep K F v d->Rep K F' v d
 | _,_,.non=> .non
 | _,_,.bl b=> .bl b
 | _,_,.int i=> .int i
 | _,_,.str x=> .str x
 | _,_,.tup h r=> .tup (yj e h) (Reps.mono e r)
 | _,_,.lst h r=> .lst (e.seq h) (Reps.mono e r)
theorem Reps.mono (e:Same F F'):∀{vs:List V} {ds:List D},Reps K F vs ds->Reps K F' vs ds
 | _,_,.nil=> .nil
 | _,_,.cons r t=> .cons (Rep.mono e r) (Reps.mono e t)
end
theorem Reps.length:∀{vs:List V} {ds:List D},Reps K F vs ds->vs.length=ds.length
 | _,_,.nil=>rfl
 | _,_,.cons _ t=>congrArg (· +1) (Reps.length t)
theorem Reps.get:∀{vs:List V} {ds:List D} {i:Nat} {d:D},Reps K F vs ds->ds[i]? =some d->∃v,vs[i]? =some v/\Rep K F v d
 | _,_,_,_,.nil,e=>by simp at e
 | _,_,0,_,.cons r _,e=>by simp at e;subst e;exact ⟨_,rfl,r⟩
 | _,_,i+1,d,.cons _ t,e=>by
  obtain ⟨u,h1,h2⟩:=Reps.get (i:=i) (d:=d) t (by simpa using e)
  exact ⟨u,by simpa using h1,h2⟩
theorem Reps.append:∀{vs ws:List V} {ds es:List D},Reps K F vs ds->Reps K F ws es->Reps K F (vs++ws) (ds++es)
 | _,_,_,_,.nil,s=>s
 | _,_,_,_,.cons r t,s=> .cons r (Reps.append t s)
theorem Reps.ints:∀(ns:List Int),Reps K F (ns.map V.int) (ns.map D.int)
 | []=> .nil
 | n::r=> .cons (.int n) (Reps.ints r)
end
structure Ext (F H F' H':Hp):Prop where
 ff:Same F F'
 fh:Same F' H'
 hh:Same H H'
 fr:∀b,H b≠none->F b=none->F' b=none
theorem Ext.refl {F H:Hp} (h:Same F H):Ext F H F H:=⟨Same.refl F,h,Same.refl H,fun _ _ e=>e⟩
theorem Ext.trans {F H F1 H1 F2 H2:Hp} (a:Ext F H F1 H1) (b:Ext F1 H1 F2 H2):Ext F H F2 H2:=
 ⟨a.ff.trans b.ff,b.fh,a.hh.trans b.hh,fun c hc fc=>b.fr c (fun z=>by
  cases q:H c with
  | none=>exact hc q
  | some o=>rw [a.hh c o q] at z;cases z) (a.fr c hc fc)⟩
theorem Ext.new {F H:Hp} {p:Addr} (h:Same F H) (hp:H p=none) (o:HO):Ext F H (upd F p o) (upd H p o) where
 ff:=fun b u q=>by rw [xh (fun z=>by subst z;rw [h _ _ q] at hp;cases hp)];exact q
 fh:=fun b u q=>by
  by_cases e:b=p
  ·subst e;rw [xm] at q ⊢;exact q
  ·rw [xh e] at q ⊢;exact h _ _ q
 hh:=fun b u q=>by rw [xh (xo q hp)];exact q
 fr:=fun b hb fb=>by rw [xh (fun z=>hb (by rw [z];exact hp))];exact fb
def ExcAt (D:Addr) (dx:Option Addr) (x:Addr) (h:Heap):Prop:=∃o vs,h.get? x=some o/\o.cls= .ref D/\o.data= .fields vs/\∀d,dx=some d->o.dict=some d
structure Thing where
 φ:W.Frag->Hp->Addr->HO->Prop
 keep:∀{K:W.Frag} {F F':Hp} {a:Addr} {o:HO},Same F F'->φ K F a o->φ K F' a o
def ThgOk (t:Thing) (K:W.Frag) (F:Hp) (a:Addr) (o:HO):Prop:=t.φ K F a o
theorem ThgOk.mono {t:Thing} {K:W.Frag} {F F':Hp} {a:Addr} {o:HO} (e:Same F F') (h:ThgOk t K F a o):ThgOk t K F' a o:=t.keep e h
def LstAt (l:Addr) (vs:List V) (h:Heap):Prop:=vs.length<=sizeLine/\∃(its:List Value) (n:Nat),Vals vs its/\h.get? l=some { cls:= .type "list",data:= .seq its.toArray n }
def NotDsk (a:Addr) (o:HO):Prop:=(∀C dx fs,o≠ .ins C dx fs)/\∀vs,o≠ .ext (LstAt a vs)
def ThgX (t:Thing) (K:W.Frag) (F:Hp) (a:Addr) (o:HO):Prop:=ThgOk t K F a o/\NotDsk a o
theorem ThgX.mono {t:Thing} {K:W.Frag} {F F':Hp} {a:Addr} {o:HO} (e:Same F F') (h:ThgX t K F a o):ThgX t K F' a o:=⟨h.1.mono e,h.2⟩
noncomputable def dskF (x y:V) (l:Addr):List (Str×V):=[("prime",x),("spot",y),("earlier",.ref l)]
def DskOk (K:W.Frag) (H₀ F H:Hp) (a l C:Addr) (p s:D) (past:List D):Prop:=
 ∃dx vs x y,H a=some (.ins C dx (dskF x y l))/\H l=some (.ext (LstAt l vs))/\(∃h,LstAt l vs h)/\F a=none/\F l=none/\H₀ a=none/\H₀ l=none/\Rep K F x p/\Rep K F y s/\Reps K F vs past
theorem DskOk.upd {K:W.Frag} {H₀ F H:Hp} {a l C b:Addr} {p s:D} {past:List D} {o o':HO} (h:DskOk K H₀ F H a l C p s past) (hb:H b=some o) (n:NotDsk b o):DskOk K H₀ F (L2.upd H b o') a l C p s past:=by
 obtain ⟨dx,vs,x,y,h1,h2,h3,h4,h5,h6,h7,r1,r2,r3⟩:=h
 have ea:a≠b:=fun z=>by rw [<-z,h1] at hb;cases hb;exact n.1 _ _ _ rfl
 have el:l≠b:=fun z=>by subst z;rw [h2] at hb;cases hb;exact n.2 _ rfl
 exact ⟨dx,vs,x,y,by rw [xh ea];exact h1,by rw [xh el];exact h2,h3,h4,h5,h6,h7,r1,r2,r3⟩
theorem DskOk.new {K:W.Frag} {H₀ F H:Hp} {a l C b:Addr} {p s:D} {past:List D} {o:HO} (h:DskOk K H₀ F H a l C p s past) (hb:H b=none):DskOk K H₀ F (L2.upd H b o) a l C p s past:=by
 obtain ⟨dx,vs,x,y,h1,h2,h3,h4,h5,h6,h7,r1,r2,r3⟩:=h
 exact ⟨dx,vs,x,y,by rw [xh (xo h1 hb)];exact h1,by rw [xh (xo h2 hb)];exact h2,h3,h4,h5,h6,h7,r1,r2,r3⟩
theorem DskOk.frz {K:W.Frag} {H₀ F H:Hp} {a l C b:Addr} {p s:D} {past:List D} {o o':HO} (h:DskOk K H₀ F H a l C p s past) (hb:H b=some o) (n:NotDsk b o) (sm:Same F (L2.upd F b o')):DskOk K H₀ (L2.upd F b o') H a l C p s past:=by
 obtain ⟨dx,vs,x,y,h1,h2,h3,h4,h5,h6,h7,r1,r2,r3⟩:=h
 have ea:a≠b:=fun z=>by rw [<-z,h1] at hb;cases hb;exact n.1 _ _ _ rfl
 have el:l≠b:=fun z=>by subst z;rw [h2] at hb;cases hb;exact n.2 _ rfl
 exact ⟨dx,vs,x,y,h1,h2,h3,by rw [xh ea];exact h4,by rw [xh el];exact h5,h6,h7,r1.mono sm,r2.mono sm,r3.mono sm⟩
theorem Yy {a:Addr} {vs:List V}:NotDsk a (.lst vs):=⟨fun _ _ _ z=>(by cases z),fun _ z=>(by cases z)⟩
theorem xbc {a:Addr} {kv:List (Key×V)}:NotDsk a (.dK kv):=⟨fun _ _ _ z=>(by cases z),fun _ z=>(by cases z)⟩
def DskT (C:Addr) (p s:D):Thing:=⟨fun K F _ o=>∃dx l x y,o= .ins C dx (dskF x y l)/\Rep K F x p/\Rep K F y s,fun e ⟨dx,l,x,y,h,r1,r2⟩=>⟨dx,l,x,y,h,r1.mono e,r2.mono e⟩⟩
inductive Slot where
 | un | val (d:D) | own (ds:List D) | exc (C:Addr) (dx:Option Addr) | dic (kvs:List (Int×D)) | thg (t:Thing) | bor (t:Thing) | dsk (a l C:Addr) (p s:D) (past:List D) | fnv (f:Addr)
noncomputable def slot:List Slot->Nat->Slot
 | [],_=> .un
 | x::_,0=>x
 | _::r,n+1=>slot r n
def put:List Slot->Nat->Slot->List Slot
 | [],_,_=>[]
 | _::r,0,y=>y::r
 | x::r,n+1,y=>x::put r n y
theorem yb (y:Slot):∀(c:List Slot) (i:Nat),(put c i y).length=c.length
 | [],_=>rfl
 | _::_,0=>rfl
 | _::r,n+1=>congrArg (· +1) (yb y r n)
theorem xt (y:Slot):∀(c:List Slot) (i j:Nat),i≠j->slot (put c i y) j=slot c j
 | [],_,_,_=>rfl
 | _::_,0,0,h=>absurd rfl h
 | _::_,0,_+1,_=>rfl
 | _::_,_+1,0,_=>rfl
 | _::r,n+1,m+1,h=>xt y r n m (fun z=>h (by rw [z]))
theorem um:∀(c:List Slot) (i:Nat),put c i (slot c i)=c
 | [],_=>rfl
 | _::_,0=>rfl
 | x::r,n+1=>congrArg (x:: ·) (um r n)
theorem xV (y:Slot):∀(c:List Slot) (i:Nat),i<c.length->slot (put c i y) i=y
 | [],_,h=>by simp at h
 | _::_,0,_=>rfl
 | _::r,n+1,h=>xV y r n (by simpa using h)
structure DRep (K:W.Frag) (F:Hp) (kv:List (Key×V)) (kvs:List (Int×D)):Prop where
 ks:kv.map (·.1)=kvs.map fun q=>Sum.inl q.1
 vs:Reps K F (kv.map (·.2)) (kvs.map (·.2))
theorem DRep.mono {K:W.Frag} {F F':Hp} {kv:List (Key×V)} {kvs:List (Int×D)} (e:Same F F') (h:DRep K F kv kvs):DRep K F' kv kvs:=⟨h.ks,h.vs.mono e⟩
def SlotOk (K:W.Frag) (H₀ F H:Hp) (v:Option (Option V)):Slot->Prop
 | .un=>True
 | .val d=>∃x,v=some (some x)/\Rep K F x d
 | .own ds=>∃a vs,v=some (some (.ref a))/\H a=some (.lst vs)/\F a=none/\H₀ a=none/\Reps K F vs ds
 | .exc C dx=>∃a,v=some (some (.ref a))/\H a=some (.ext (ExcAt C dx a))
 | .dic kvs=>∃a kv,v=some (some (.ref a))/\H a=some (.dK kv)/\F a=none/\H₀ a=none/\DRep K F kv kvs
 | .thg t=>∃a o,v=some (some (.ref a))/\H a=some o/\F a=none/\H₀ a=none/\ThgX t K F a o
 | .bor t=>∃a o,v=some (some (.ref a))/\H₀ a=some o/\ThgOk t K F a o
 | .dsk a l C p s past=>v=some (some (.ref a))/\DskOk K H₀ F H a l C p s past
 | .fnv f=>v=some (some (.ref f))
def isOwn:Slot->Bool
 | .own _=>true
 | .dic _=>true
 | .thg _=>true
 | .dsk _ _ _ _ _ _=>true
 | _=>false
structure Env (K:W.Frag) (F₀ H₀ F H:Hp) (σ:St) (c:List Slot):Prop where
 ext:Ext F₀ H₀ F H
 len:σ.length=c.length
 sl:∀i,SlotOk K H₀ F H σ[i]? (slot c i)
 inj:∀(i j:Nat) (a:Addr),isOwn (slot c i)=true->isOwn (slot c j)=true->σ[i]? =some (some (V.ref a))->σ[j]? =some (some (V.ref a))->i=j
section
variable {K:W.Frag} {F₀ H₀ F H F' H':Hp} {σ:St} {c:List Slot}
theorem SlotOk.ext {v:Option (Option V)} (e:Ext F H F' H'):∀{s:Slot},SlotOk K H₀ F H v s->SlotOk K H₀ F' H' v s
 | .un,_=>trivial
 | .val d,⟨x,h,r⟩=>⟨x,h,r.mono e.ff⟩
 | .own ds,⟨a,vs,h,h1,h2,h3,r⟩=>⟨a,vs,h,e.hh _ _ h1,e.fr a (by rw [h1];exact fun z=>nomatch z) h2,h3,r.mono e.ff⟩
 | .exc C dx,⟨a,h,h1⟩=>⟨a,h,e.hh _ _ h1⟩
 | .dic kvs,⟨a,kv,h,h1,h2,h3,r⟩=>⟨a,kv,h,e.hh _ _ h1,e.fr a (by rw [h1];exact fun z=>nomatch z) h2,h3,r.mono e.ff⟩
 | .thg t,⟨a,o,h,h1,h2,h3,r⟩=>⟨a,o,h,e.hh _ _ h1,e.fr a (by rw [h1];exact fun z=>nomatch z) h2,h3,r.mono e.ff⟩
 | .bor t,⟨a,o,h,h1,r⟩=>⟨a,o,h,h1,r.mono e.ff⟩
 | .fnv f,h=>h
 | .dsk a l C p s past,⟨h,r⟩=>⟨h,by
  obtain ⟨dx,vs,x,y,h1,h2,h3,h4,h5,h6,h7,r1,r2,r3⟩:=r
  exact ⟨dx,vs,x,y,e.hh _ _ h1,e.hh _ _ h2,h3,e.fr a (by rw [h1];exact fun z=>nomatch z) h4,e.fr l (by rw [h2];exact fun z=>nomatch z) h5,h6,h7,r1.mono e.ff,r2.mono e.ff,r3.mono e.ff⟩⟩
theorem Env.grow (E:Env K F₀ H₀ F H σ c) (e:Ext F H F' H'):Env K F₀ H₀ F' H' σ c:=⟨E.ext.trans e,E.len,fun i=>(E.sl i).ext e,E.inj⟩
theorem Env.val (E:Env K F₀ H₀ F H σ c) {i:Nat} {d:D} (h:slot c i= .val d):∃x,σ[i]? =some (some x)/\Rep K F x d:=by
 have q:=E.sl i
 rw [h] at q
 exact q
theorem Env.fh (E:Env K F₀ H₀ F H σ c):Same F H:=E.ext.fh
theorem Env.set (E:Env K F₀ H₀ F H σ c) {i:Nat} {x:V} {d:D} (hi:i<c.length) (r:Rep K F x d):Env K F₀ H₀ F H (σ.set i (some x)) (put c i (.val d)) where
 ext:=E.ext
 len:=by rw [List.length_set,yb];exact E.len
 sl:=fun j=>by
  by_cases e:i=j
  ·subst e
   rw [xV _ _ _ hi,List.getElem?_set_self (by rw [E.len];exact hi)]
   exact ⟨x,rfl,r⟩
  ·rw [xt _ _ _ _ e,mG e]
   exact E.sl j
 inj:=fun j k a h1 h2 h3 h4=>by
  by_cases e:i=j
  ·subst e;rw [xV _ _ _ hi] at h1;cases h1
  ·by_cases e2:i=k
   ·subst e2;rw [xV _ _ _ hi] at h2;cases h2
   ·rw [xt _ _ _ _ e] at h1
    rw [xt _ _ _ _ e2] at h2
    rw [mG e] at h3
    rw [mG e2] at h4
    exact E.inj j k a h1 h2 h3 h4
end
structure Cy where
 X:Cx
 F0:Hp
 H0:Hp
abbrev EnvY (Y:Cy) (F H:Hp) (σ:St) (c:List Slot):Prop:=Env Y.X.K Y.F0 Y.H0 F H σ c
def tD (Y:Cy) (c:List Slot) (d:D):TE:=fun σ H Q=>∃F,EnvY Y F H σ c/\∀v F' H',Ext F H F' H'->Rep Y.X.K F' v d->Q v H'
def tT (Y:Cy) (c:List Slot) (b:Bool):TT:=fun σ H Q=>∃F,EnvY Y F H σ c/\∀F' H',Ext F H F' H'->Q b H'
def tA (Y:Cy) (c:List Slot) (ds:List D):TA:=fun σ H Q=>∃F,EnvY Y F H σ c/\∀vs F' H',Ext F H F' H'->Reps Y.X.K F' vs ds->Q vs H'
def EvD (Y:Cy) (e:Expr) (c:List Slot) (d:D):Prop:=PE Y.X e (tD Y c d)
def TeD (Y:Cy) (e:Expr) (c:List Slot) (b:Bool):Prop:=PT Y.X e (tT Y c b)
def ArD (Y:Cy) (es:List Expr) (c:List Slot) (ds:List D):Prop:=PA Y.X es (tA Y c ds)
inductive Out where
 | nx (c:List Slot) | rt (d:D) | bk (c:List Slot) | ct (c:List Slot) | ro (ds:List D) | rs (R:W.Frag->Hp->Hp->V->Hp->Prop)
def Meets (Y:Cy) (F:Hp) (D:Ends):Out->Prop
 | .nx c=>∀σ F' H,Same F F'->EnvY Y F' H σ c->D.nx σ H
 | .rt d=>∀v F' H,Same F F'->Ext Y.F0 Y.H0 F' H->Rep Y.X.K F' v d->D.rt v H
 | .bk c=>∀σ F' H,Same F F'->EnvY Y F' H σ c->D.bk σ H
 | .ct c=>∀σ F' H,Same F F'->EnvY Y F' H σ c->D.ct σ H
 | .ro ds=>∀vs F' H p,Same F F'->Ext Y.F0 Y.H0 F' H->Reps Y.X.K F' vs ds->H p=none->D.rt (.ref p) (upd H p (.lst vs))
 | .rs R=>∀v F' H1 H,Same F F'->Ext Y.F0 Y.H0 F' H1->R Y.X.K F' H1 v H->D.rt v H
theorem Meets.grow {Y:Cy} {F F1:Hp} {D:Ends} (s:Same F F1):∀{o:Out},Meets Y F D o->Meets Y F1 D o
 | .nx _,m=>fun σ F' H s' E=>m σ F' H (s.trans s') E
 | .rt _,m=>fun v F' H s' E r=>m v F' H (s.trans s') E r
 | .bk _,m=>fun σ F' H s' E=>m σ F' H (s.trans s') E
 | .ct _,m=>fun σ F' H s' E=>m σ F' H (s.trans s') E
 | .ro _,m=>fun vs F' H p s' E r hp=>m vs F' H p (s.trans s') E r hp
 | .rs _,m=>fun v F' H1 H s' E r=>m v F' H1 H (s.trans s') E r
def tS (Y:Cy) (c:List Slot) (P:Out->Prop):TS:=fun D σ H=>∃F,EnvY Y F H σ c/\∀o,P o->Meets Y F D o
def StD (Y:Cy) (st:Stmt) (c:List Slot) (P:Out->Prop):Prop:=PS Y.X st (tS Y c P)
def SsD (Y:Cy) (st:List Stmt) (c:List Slot) (P:Out->Prop):Prop:=PSs Y.X st (tS Y c P)
def Thn (Y:Cy) (rest:List Stmt) (P:Out->Prop):Out->Prop
 | .nx c=>SsD Y rest c P
 | o=>P o
theorem xaR:bootBuiltins "abs" =some (.builtin "abs"):=by decide+kernel
theorem xaP:bootBuiltins "max" =some (.builtin "max"):=by decide+kernel
theorem jW:bootBuiltins "min" =some (.builtin "min"):=by decide+kernel
theorem YR:bootBuiltins "len" =some (.builtin "len"):=by decide+kernel
theorem zK:bootBuiltins "isinstance" =some (.builtin "isinstance"):=by decide+kernel
theorem qw:bootBuiltins "int" =some (.type "int"):=by decide+kernel
theorem VH:bootBuiltins "bool" =some (.type "bool"):=by decide+kernel
theorem xX:bootBuiltins "tuple" =some (.type "tuple"):=by decide+kernel
theorem QQ:bootBuiltins "str" =some (.type "str"):=by decide+kernel
structure Tx where
 prog:Program
 w:World
 K:W.Frag
 mg:Str->Option Value
 base:Heap
structure ScB (N ps G:List Str) (sc:Scope):Prop where
 fs:FnScope N ps sc
 loc:∀x∈N,(sc.names.lookup x=some .local∨sc.names.lookup x=some .cell)/\(x==("__debug__" :Str))=false/\(x==("__classdict__" :Str))=false
 gl:∀x∈G,sc.names.lookup x=some .globalImplicit/\(x==("__debug__" :Str))=false/\x≠ "__name__"
structure Sn (Y:Cy) (T:Tx) (N G:List Str):Prop where
 eP:Y.X.prog=T.prog
 eW:Y.X.w=T.w
 eK:Y.X.K=T.K
 eM:Y.X.mg=T.mg
 eB:Y.X.base=T.base
 n:Y.X.N=N
 nd:N.Nodup
 loc:∀x∈N,Loc Y.X.env.scope x/\(x==("__debug__" :Str))=false/\(x==("__classdict__" :Str))=false
 gl:∀x∈G,Gl Y.X x/\(x==("__debug__" :Str))=false/\x≠ "__name__"
structure Se (Y:Cy) (T:Tx) (k:Nat) (N G:List Str):Prop extends Sn Y T N G where
 calm:Y.X.calm=true
 room:Room k Y.X.A
structure Sc (Y:Cy) (T:Tx) (k:Nat) (N G:List Str):Prop extends Se Y T k N G where
 fn:∀y,Y.X.fn y=true
 hp:PassesOwn (model Y.X.prog Y.X.w) Y.X.A Y.X.env Y.X.xe
structure Fx (Y:Cy) (st:Stmt):Prop where
 sc:Y.X.env.scope=defScope st
 ex:Y.X.ex=[]
 stk:Y.X.stack=Y.X.env::Y.X.outer/\Y.X.env.frame=some Y.X.env.locals
theorem PE.imp {X:Cx} {e:Expr} {t t':TE} (h:PE X e t) (i:∀σ H Q,t' σ H Q->t σ H Q):PE X e t':=fun pins s σ H Q I q=>h pins s σ H Q I (i _ _ _ q)
theorem PT.imp {X:Cx} {e:Expr} {t t':TT} (h:PT X e t) (i:∀σ H Q,t' σ H Q->t σ H Q):PT X e t':=fun pins s σ H Q I q=>h pins s σ H Q I (i _ _ _ q)
theorem PA.imp {X:Cx} {e:List Expr} {t t':TA} (h:PA X e t) (i:∀σ H Q,t' σ H Q->t σ H Q):PA X e t':=fun pos pins s σ H Q I q=>h pos pins s σ H Q I (i _ _ _ q)
theorem PS.imp {X:Cx} {e:Stmt} {t t':TS} (h:PS X e t) (i:∀D σ H,t' D σ H->t D σ H):PS X e t':=fun pins s σ H Q I q=>h pins s σ H Q I (i _ _ _ q)
theorem PSs.imp {X:Cx} {e:List Stmt} {t t':TS} (h:PSs X e t) (i:∀D σ H,t' D σ H->t D σ H):PSs X e t':=fun pins s σ H Q I q=>h pins s σ H Q I (i _ _ _ q)
section
variable {Y:Cy} {T:Tx} {k:Nat} {N G:List Str} {c:List Slot} {a b e:Expr} {es:List Expr} {pos:Pos} {d d1 d2:D} {ds:List D} {P:Out->Prop} {rest:List Stmt}
theorem xb (S:Se Y T k N G) (i:Nat) {x:Str} (hN:N[i]? =some x:=by rfl) (hs:slot c i= .val d:=by rfl):EvD Y (.Name x pos) c d:=by
 have hx:=S.loc x (mz hN)
 rw [<-S.n] at hN
 exact PE.imp (xT hN (hx.1.elim .inl fun h=> .inr (.inl h)) hx.2.1 hx.2.2) fun σ H Q ⟨F,E,q⟩=>
  let ⟨x,ex,r⟩:=E.val hs
  ⟨x,ex,q x F H (Ext.refl E.fh) r⟩
theorem vE {v:V} (h:PE Y.X e (tC v)) (r:∀F,Rep Y.X.K F v d):EvD Y e c d:=
 PE.imp h fun σ H Q ⟨F,E,q⟩=>q v F H (Ext.refl E.fh) (r F)
theorem xf {i:Int} {j}:EvD Y (.Constant (.int i) j pos) c (.int i):=vE K7 fun _=> .int i
theorem yB {i:Bool} {j}:EvD Y (.Constant (.bool i) j pos) c (.bl i):=vE xa9 fun _=> .bl i
theorem YJ {j}:EvD Y (.Constant .none j pos) c .non:=vE K6 fun _=> .non
theorem xk {x:Str} {j}:EvD Y (.Constant (.str x) j pos) c (.str x):=vE K3 fun _=> .str x
theorem zg {t:TE} {ta tb:TE} {r:R2} (h:PE Y.X e (tOp r (tD Y c d1) (tD Y c d2)))
  (hr:∀x y F H Q,Same F H->Rep Y.X.K F x d1->Rep Y.X.K F y d2->(∀v F' H',Ext F H F' H'->Rep Y.X.K F' v d->Q v H')->r x y H Q):EvD Y e c d:=
 PE.imp h fun σ H Q ⟨F,E,q⟩=>⟨F,E,fun x F1 H1 e1 r1=>⟨F1,E.grow e1,fun y F2 H2 e2 r2=>
  hr x y F2 H2 Q e2.fh (r1.mono e2.ff) r2 fun v F3 H3 e3 r3=>q v F3 H3 (e1.trans (e2.trans e3)) r3⟩⟩
theorem xaz {r:V->Hp->VK->Prop} (h:PE Y.X e (tUn r (tD Y c d1)))
  (hr:∀x F H Q,Same F H->Rep Y.X.K F x d1->(∀v F' H',Ext F H F' H'->Rep Y.X.K F' v d->Q v H')->r x H Q):EvD Y e c d:=
 PE.imp h fun σ H Q ⟨F,E,q⟩=>⟨F,E,fun x F1 H1 e1 r1=>hr x F1 H1 Q e1.fh r1 fun v F3 H3 e3 r3=>q v F3 H3 (e1.trans e3) r3⟩
section
variable {i j:Int}
theorem xw {K:W.Frag} {F:Hp} {x:V} {i:Int} (r:Rep K F x (.int i)):x= .int i:=by cases r;rfl
theorem zH {K:W.Frag} {F:Hp} {x:V} {i:Bool} (r:Rep K F x (.bl i)):x= .bl i:=by cases r;rfl
theorem xN {K:W.Frag} {F:Hp} {x:V} {i:Str} (r:Rep K F x (.str i)):x= .str i:=by cases r;rfl
theorem YB {K:W.Frag} {F:Hp} {x:V} {ds:List D} (r:Rep K F x (.tup ds)):∃a vs,x= .ref a/\SqT K F a vs/\Reps K F vs ds:=by cases r with | tup h t=>exact ⟨_,_,rfl,h,t⟩
theorem yL {K:W.Frag} {F:Hp} {x:V} {ds:List D} (r:Rep K F x (.lst ds)):∃a vs,x= .ref a/\SqL K F a vs/\Reps K F vs ds:=by cases r with | lst h t=>exact ⟨_,_,rfl,h,t⟩
theorem qv {op:Operator} {C:Int->Int->Prop} {g:Int->Int->Int} (ho:OpR Y.X (binaryOp op) (rI C fun i j=> .int (g i j))) (ha:EvD Y a c (.int i)) (hb:EvD Y b c (.int j)) (hc:C i j):EvD Y (.BinOp a op b pos) c (.int (g i j)):=
 zg (t:=tC .non) (ta:=tC .non) (tb:=tC .non) (XC ho ha hb) fun x y F H Q f rx ry q=>⟨i,j,xw rx,xw ry,hc,q _ F H (Ext.refl f) (.int _)⟩
theorem XQ {op:Operator} {g:Int->Int->Int} (ho:OpR Y.X (binaryOp op) (rI0 fun i j=> .int (g i j))) (ha:EvD Y a c (.int i)) (hb:EvD Y b c (.int j)):EvD Y (.BinOp a op b pos) c (.int (g i j)):=
 zg (t:=tC .non) (ta:=tC .non) (tb:=tC .non) (XC ho ha hb) fun x y F H Q f rx ry q=>⟨i,j,xw rx,xw ry,q _ F H (Ext.refl f) (.int _)⟩
theorem x8 (ha:EvD Y a c (.int i)) (hb:EvD Y b c (.int j)):EvD Y (.BinOp a .Add b pos) c (.int (i+j)):=XQ xae ha hb
theorem yQ (ha:EvD Y a c (.int i)) (hb:EvD Y b c (.int j)):EvD Y (.BinOp a .Sub b pos) c (.int (i - j)):=XQ xaa ha hb
def Bd (n:Nat) (i:Int):Prop:=i.natAbs<2^n
instance {n:Nat} {i:Int}:Decidable (Bd n i):=inferInstanceAs (Decidable (i.natAbs<2^n))
theorem Jj {X:Cx}:OpR X (binaryOp .Mult) (rI (fun i j=>IntMulOk i j) fun i j=> .int (i*j)):=opI fun _ _ _ _ _ _ _ hc q=>PyProof.Rows.mul_int q hc
theorem YT {n:Nat} {i:Int} (h:Bd n i):Builtin.Int.intBits i<=n:=by
 unfold Builtin.Int.intBits
 split
 ·exact Nat.zero_le _
 ·rename_i h0
  have hn:i.natAbs≠0:=fun z=>h0 (by simpa using z)
  have:i.natAbs.log2<n:=(Nat.log2_lt hn).mpr h
  omega
theorem mulOk {m n:Nat} {i j:Int} (h1:Bd m i) (h2:Bd n j) (h:m+n<=134217728):IntMulOk i j:=PySem.IntMulOk.of_le (YT h1) (YT h2) h
theorem xB (ha:EvD Y a c (.int i)) (hb:EvD Y b c (.int j)) (hm:IntMulOk i j):EvD Y (.BinOp a .Mult b pos) c (.int (i*j)):=qv Jj ha hb hm
theorem UZ {X:Cx}:OpR X (binaryOp .FloorDiv) (rI (fun i j=>j≠0/\Bd 9000 j) fun i j=> .int (i.fdiv j)):=opI fun _ j _ _ _ _ _ hc q=>PyProof.Rows.floordiv_int hc.1 q (.inl (PyProof.noPylong_of_log2 (by
 have hn:j.natAbs≠0:=fun z=>hc.1 (Int.natAbs_eq_zero.mp z)
 exact (Nat.log2_lt hn).mpr hc.2)))
theorem vC (ha:EvD Y a c (.int i)) (hb:EvD Y b c (.int j)) (hj:j≠0) (hm:Bd 9000 j):EvD Y (.BinOp a .FloorDiv b pos) c (.int (i.fdiv j)):=qv UZ ha hb ⟨hj,hm⟩
theorem xD (ha:EvD Y a c (.int i)) (hb:EvD Y b c (.int j)) (hj:0<j) (hm:Bd 9000 j):EvD Y (.BinOp a .FloorDiv b pos) c (.int (i / j)):=by
 have h:=vC (pos:=pos) ha hb (by omega) hm
 rw [Int.fdiv_eq_ediv_of_nonneg i (by omega)] at h
 exact h
theorem jB (ha:EvD Y a c (.int i)) (hb:EvD Y b c (.int j)) (hj:j≠0):EvD Y (.BinOp a .Mod b pos) c (.int (i.fmod j)):=qv Jk ha hb hj
theorem xz (ha:EvD Y a c (.int i)) (hb:EvD Y b c (.int j)) (hj:0<j):EvD Y (.BinOp a .Mod b pos) c (.int (i%j)):=qv xac ha hb hj
theorem uZ (ha:EvD Y a c (.int i)) (hb:EvD Y b c (.int j)) (hj:CPow i j):EvD Y (.BinOp a .Pow b pos) c (.int (i^j.toNat)):=qv xab ha hb hj
theorem wc (ha:EvD Y a c (.int i)):EvD Y (.UnaryOp .USub a pos) c (.int (-i)):=
 xaz (xa8 KC ha) fun x F H Q f rx q=>⟨i,xw rx,q _ F H (Ext.refl f) (.int _)⟩
theorem YN {op:CmpOp} {g:Int->Int->Bool} (ho:OpR Y.X (compareOp op) (rI0 fun i j=> .bl (g i j))) (hm:behindInMarks op b=false) (ha:EvD Y a c (.int i)) (hb:EvD Y b c (.int j)):EvD Y (.Compare a [op] [b] pos) c (.bl (g i j)):=
 zg (t:=tC .non) (ta:=tC .non) (tb:=tC .non) (vf ho ha hb hm) fun x y F H Q f rx ry q=>⟨i,j,xw rx,xw ry,q _ F H (Ext.refl f) (.bl _)⟩
theorem xbr (ha:EvD Y a c (.int i)) (hb:EvD Y b c (.int j)):EvD Y (.Compare a [.LtE] [b] pos) c (.bl (decide (i<=j))):=YN Ko (nomark _) ha hb
theorem xbs (ha:EvD Y a c (.int i)) (hb:EvD Y b c (.int j)):EvD Y (.Compare a [.Gt] [b] pos) c (.bl (decide (j<i))):=YN Kp (nomark _) ha hb
theorem xbt (ha:EvD Y a c (.int i)) (hb:EvD Y b c (.int j)):EvD Y (.Compare a [.GtE] [b] pos) c (.bl (decide (j<=i))):=YN Kq (nomark _) ha hb
theorem jG (ha:EvD Y a c (.int i)) (hb:EvD Y b c (.int j)):EvD Y (.Compare a [.Eq] [b] pos) c (.bl (decide (i=j))):=
 zg (t:=tC .non) (ta:=tC .non) (tb:=tC .non) (vf U0 ha hb (nomark _)) fun x y F H Q f rx ry q=>by
  rw [xw rx,xw ry]
  refine ⟨rfl,?_⟩
  rw [qK]
  exact q _ F H (Ext.refl f) (.bl _)
end
theorem xR {v:Bool} (h:EvD Y e c (.bl v)) (he:∀whole,isTrue e Y.X.env whole=(do let v <-whole;standAt e.pos;holding [v] (truthy v)):=by intro _;rfl):TeD Y e c v:=
 PT.imp (KS h he) fun σ H Q ⟨F,E,q⟩=>⟨F,E,fun x F1 H1 e1 r1=>⟨v,zH r1,q F1 H1 e1⟩⟩
theorem qb {op:CmpOp} {r:R2} {v:Bool} (ho:OpR Y.X (compareOp op) r) (hm:behindInMarks op b=false) (ha:EvD Y a c d1) (hb:EvD Y b c d2)
  (hr:∀x y F H Q,Same F H->Rep Y.X.K F x d1->Rep Y.X.K F y d2->(∀F' H',Ext F H F' H'->Q (.bl v) H')->r x y H Q):TeD Y (.Compare a [op] [b] pos) c v:=
 PT.imp (Yj ho ha hb hm) fun σ H Q ⟨F,E,q⟩=>⟨F,E,fun x F1 H1 e1 r1=>⟨F1,E.grow e1,fun y F2 H2 e2 r2=>
  hr x y F2 H2 _ e2.fh (r1.mono e2.ff) r2 fun F3 H3 e3=>⟨v,rfl,q F3 H3 (e1.trans (e2.trans e3))⟩⟩⟩
section
variable {i j:Int}
theorem wG {op:CmpOp} {g:Int->Int->Bool} (ho:OpR Y.X (compareOp op) (rI0 fun i j=> .bl (g i j))) (hm:behindInMarks op b=false) (ha:EvD Y a c (.int i)) (hb:EvD Y b c (.int j)):TeD Y (.Compare a [op] [b] pos) c (g i j):=
 qb ho hm ha hb fun x y F H Q f rx ry q=>⟨i,j,xw rx,xw ry,q F H (Ext.refl f)⟩
theorem wn (ha:EvD Y a c (.int i)) (hb:EvD Y b c (.int j)):TeD Y (.Compare a [.Lt] [b] pos) c (decide (i<j)):=wG xba (nomark _) ha hb
theorem Kl (ha:EvD Y a c (.int i)) (hb:EvD Y b c (.int j)):TeD Y (.Compare a [.LtE] [b] pos) c (decide (i<=j)):=wG Ko (nomark _) ha hb
theorem wq (ha:EvD Y a c (.int i)) (hb:EvD Y b c (.int j)):TeD Y (.Compare a [.Gt] [b] pos) c (decide (j<i)):=wG Kp (nomark _) ha hb
theorem xa1 (ha:EvD Y a c (.int i)) (hb:EvD Y b c (.int j)):TeD Y (.Compare a [.GtE] [b] pos) c (decide (j<=i)):=wG Kq (nomark _) ha hb
theorem yp (ha:EvD Y a c (.int i)) (hb:EvD Y b c (.int j)):TeD Y (.Compare a [.Eq] [b] pos) c (decide (i=j)):=
 qb U0 (nomark _) ha hb fun x y F H Q f rx ry q=>by
  rw [xw rx,xw ry]
  refine ⟨rfl,?_⟩
  rw [qK]
  exact q F H (Ext.refl f)
theorem yY (ha:EvD Y a c (.int i)) (hb:EvD Y b c (.int j)):TeD Y (.Compare a [.NotEq] [b] pos) c (!decide (i=j)):=
 qb UY (nomark _) ha hb fun x y F H Q f rx ry q=>by
  rw [xw rx,xw ry]
  refine ⟨rfl,?_⟩
  rw [qK]
  exact q F H (Ext.refl f)
end
theorem xU {v:Bool} (h:TeD Y a c v):TeD Y (.UnaryOp .Not a pos) c (!v):=
 PT.imp (KT h) fun σ H Q ⟨F,E,q⟩=>⟨F,E,fun F1 H1 e1=>q F1 H1 e1⟩
theorem qc {v w:Bool} (ha:TeD Y a c v) (hb:v=true->PW Y.X (.BoolOp .And (b::es) pos) (tT Y c w)):PW Y.X (.BoolOp .And (a::b::es) pos) (tT Y c (v && w)):=by
 cases v with
 | true=>
  intro whole pins s σ H Q I h
  refine UK ha (hb rfl) whole pins s σ H Q I ?_
  obtain ⟨F,E,q⟩:=h
  exact ⟨F,E,fun F1 H1 e1=>L2.iteT ⟨F1,E.grow e1,fun F2 H2 e2=>q F2 H2 (e1.trans e2)⟩⟩
 | false=>
  intro whole pins s σ H Q I h
  have hn:PW Y.X (.BoolOp .And (b::es) pos) (fun _ _ _=>False):=fun _ _ _ _ _ _ _ z=>z.elim
  refine UK ha hn whole pins s σ H Q I ?_
  obtain ⟨F,E,q⟩:=h
  exact ⟨F,E,fun F1 H1 e1=>L2.iteF (q F1 H1 e1)⟩
theorem yu {v w:Bool} (ha:TeD Y a c v) (hb:v=false->PW Y.X (.BoolOp .Or (b::es) pos) (tT Y c w)):PW Y.X (.BoolOp .Or (a::b::es) pos) (tT Y c (v || w)):=by
 cases v with
 | false=>
  intro whole pins s σ H Q I h
  refine UJ ha (hb rfl) whole pins s σ H Q I ?_
  obtain ⟨F,E,q⟩:=h
  exact ⟨F,E,fun F1 H1 e1=>L2.iteF ⟨F1,E.grow e1,fun F2 H2 e2=>q F2 H2 (e1.trans e2)⟩⟩
 | true=>
  intro whole pins s σ H Q I h
  have hn:PW Y.X (.BoolOp .Or (b::es) pos) (fun _ _ _=>False):=fun _ _ _ _ _ _ _ z=>z.elim
  refine UJ ha hn whole pins s σ H Q I ?_
  obtain ⟨F,E,q⟩:=h
  exact ⟨F,E,fun F1 H1 e1=>L2.iteT (q F1 H1 e1)⟩
theorem qz {v:Bool} (ha:TeD Y a c v):PW Y.X (.BoolOp .And [a] pos) (tT Y c v):=kY ha
theorem yO {v:Bool} (ha:TeD Y a c v):PW Y.X (.BoolOp .Or [a] pos) (tT Y c v):=UI ha
theorem YI {op} (h:EvD Y a c d):EvD Y (.BoolOp op [a] pos) c d:=K4 h
theorem z5 {v:Bool} (ha:EvD Y a c (.bl v)) (hb:v=true->EvD Y (.BoolOp .And (b::es) pos) c d):EvD Y (.BoolOp .And (a::b::es) pos) c (if v=true then d else .bl false):=by
 cases v with
 | true=>
  refine PE.imp (UT ha (hb rfl)) fun σ H Q ⟨F,E,q⟩=>⟨F,E,fun x F1 H1 e1 r1=>⟨true,zH r1,L2.iteT ⟨F1,E.grow e1,fun v F2 H2 e2 r2=>q v F2 H2 (e1.trans e2) (by simpa using r2)⟩⟩⟩
 | false=>
  have hn:PE Y.X (.BoolOp .And (b::es) pos) (fun _ _ _=>False):=fun _ _ _ _ _ _ z=>z.elim
  refine PE.imp (UT ha hn) fun σ H Q ⟨F,E,q⟩=>⟨F,E,fun x F1 H1 e1 r1=>⟨false,zH r1,L2.iteF (q _ F1 H1 e1 (by simpa using Rep.bl false))⟩⟩
theorem jA {v:Bool} (ha:EvD Y a c (.bl v)):EvD Y (.UnaryOp .Not a pos) c (.bl (!v)):=
 PE.imp (K5 ha) fun σ H Q ⟨F,E,q⟩=>⟨F,E,fun x F1 H1 e1 r1=>⟨v,zH r1,q _ F1 H1 e1 (.bl _)⟩⟩
theorem xc:ArD Y [] c []:=PA.imp yq fun σ H Q ⟨F,E,q⟩=>q [] F H (Ext.refl E.fh) .nil
theorem xa (ha:EvD Y e c d) (hr:ArD Y es c ds) (hs:starEach (e::es) Y.X.env=(false,eval e Y.X.env)::starEach es Y.X.env:=by rfl):ArD Y (e::es) c (d::ds):=
 PA.imp (xQ ha hr hs) fun σ H Q ⟨F,E,q⟩=>⟨F,E,fun x F1 H1 e1 r1=>⟨F1,E.grow e1,fun vs F2 H2 e2 r2=>q _ F2 H2 (e1.trans e2) (.cons (r1.mono e2.ff) r2)⟩⟩
theorem xL {n:Nat} (h:n<=1000000):n<=sizeLine:=by rw [sizeLine_eq];omega
theorem xu {x1} (h:ArD Y es c ds) (hz:ds.length<=1000000:=by first | exact of_decide_eq_true rfl | (simp;done)):EvD Y (.Tuple es x1 pos) c (.tup ds):=
 PE.imp (Qc h) fun σ H Q ⟨F,E,q⟩=>⟨F,E,fun vs F1 H1 e1 r1=>⟨by rw [r1.length];exact xL hz,fun p hp=>
  q (.ref p) _ _ (e1.trans (Ext.new e1.fh hp (.tup vs))) (.tup (SqT.of xm) (r1.mono (Ext.new e1.fh hp _).ff))⟩⟩
theorem ym (h:ArD Y es c ds) (hz:ds.length<=1000000:=by first | exact of_decide_eq_true rfl | (simp;done)):EvD Y (.List es pos) c (.lst ds):=
 PE.imp (Ym h) fun σ H Q ⟨F,E,q⟩=>⟨F,E,fun vs F1 H1 e1 r1=>⟨by rw [r1.length];exact xL hz,fun p hp=>
  q (.ref p) _ _ (e1.trans (Ext.new e1.fh hp (.lst vs))) (.lst (SqL.of xm) (r1.mono (Ext.new e1.fh hp _).ff))⟩⟩
theorem Xb {K:W.Frag} {F:Hp} {vs:List V} {ds:List D} {i:Int} {d:D} (r:Reps K F vs ds) (h:atI ds i=some d):∃v,atI vs i=some v/\Rep K F v d:=by
 unfold atI at h ⊢
 rw [r.length]
 cases q:ixN ds.length i with
 | none=>rw [q] at h;cases h
 | some j=>
  rw [q] at h
  obtain ⟨v,h1,h2⟩:=r.get (i:=j) (by simpa using h)
  exact ⟨v,by simpa using h1,h2⟩
theorem xj {i:Int} (ha:EvD Y a c (.tup ds)) (hb:EvD Y b c (.int i)) (h:atI ds i=some d) (hs:PlainIx b:=by intro _ _;rfl):EvD Y (.Subscript a b pos) c d:=
 zg (t:=tC .non) (ta:=tC .non) (tb:=tC .non) (Vg xao ha hb hs) fun x y F H Q f rx ry q=>by
  obtain ⟨p,vs,rfl,hp,r⟩:=YB rx
  obtain ⟨v,hv,rv⟩:=Xb r h
  exact ⟨p,vs,i,v,rfl,xw ry,yj f hp,hv,q v F H (Ext.refl f) rv⟩
theorem xG {i:Int} (ha:EvD Y a c (.lst ds)) (hb:EvD Y b c (.int i)) (h:atI ds i=some d) (hs:PlainIx b:=by intro _ _;rfl):EvD Y (.Subscript a b pos) c d:=
 zg (t:=tC .non) (ta:=tC .non) (tb:=tC .non) (Vg Vo ha hb hs) fun x y F H Q f rx ry q=>by
  obtain ⟨p,vs,rfl,hp,r⟩:=yL rx
  obtain ⟨v,hv,rv⟩:=Xb r h
  exact ⟨p,vs,i,v,rfl,xw ry,f.seq hp,hv,q v F H (Ext.refl f) rv⟩
theorem zM (S:Se Y T k N G) (gi:Nat) {id:String} {x:Str} {p:Pos} {r:List V->Hp->VK->Prop} (hc:CallR Y.X (.builtin id) r) (hg:G[gi]? =some x) (hm:T.mg x=none) (hv:bootBuiltins x=some (.builtin id)) (ha:ArD Y (e::es) c ds)
  (hr:∀vs F H Q,Same F H->Reps Y.X.K F vs ds->(∀v F' H',Ext F H F' H'->Rep Y.X.K F' v d->Q v H')->r vs H Q)
  (he:starEach (e::es) Y.X.env=(false,eval e Y.X.env)::starEach es Y.X.env) (hpl:(backTo pos (starEach es Y.X.env)).any (·.1)=false):EvD Y (.Call (.Name x p) (e::es) [] pos) c d:=
 PE.imp (zt hc (S.gl x (mz hg)).1 (by rw [S.eM];exact hm) hv ha (S.gl x (mz hg)).2.2 (S.gl x (mz hg)).2.1 he hpl) fun σ H Q ⟨F,E,q⟩=>⟨F,E,fun vs F1 H1 e1 r1=>hr vs F1 H1 Q e1.fh r1 fun v F2 H2 e2 r2=>q v F2 H2 (e1.trans e2) r2⟩
theorem wd (S:Se Y T k N G) (gi:Nat) {id:String} {x:Str} {p:Pos} {r:List V->Hp->VK->Prop} (hc:CallR Y.X (.type id) r) (hg:G[gi]? =some x) (hm:T.mg x=none) (hv:bootBuiltins x=some (.type id)) (ha:ArD Y (e::es) c ds)
  (hr:∀vs F H Q,Same F H->Reps Y.X.K F vs ds->(∀v F' H',Ext F H F' H'->Rep Y.X.K F' v d->Q v H')->r vs H Q)
  (he:starEach (e::es) Y.X.env=(false,eval e Y.X.env)::starEach es Y.X.env) (hpl:(backTo pos (starEach es Y.X.env)).any (·.1)=false):EvD Y (.Call (.Name x p) (e::es) [] pos) c d:=
 PE.imp (XD hc (S.gl x (mz hg)).1 (by rw [S.eM];exact hm) hv ha (S.gl x (mz hg)).2.2 (S.gl x (mz hg)).2.1 he hpl) fun σ H Q ⟨F,E,q⟩=>⟨F,E,fun vs F1 H1 e1 r1=>hr vs F1 H1 Q e1.fh r1 fun v F2 H2 e2 r2=>q v F2 H2 (e1.trans e2) r2⟩
theorem inv1 {K:W.Frag} {F:Hp} {vs:List V} {d:D} (r:Reps K F vs [d]):∃v,vs=[v]/\Rep K F v d:=by
 cases r with
 | cons a t=>cases t;exact ⟨_,rfl,a⟩
theorem inv2 {K:W.Frag} {F:Hp} {vs:List V} {d e:D} (r:Reps K F vs [d,e]):∃v w,vs=[v,w]/\Rep K F v d/\Rep K F w e:=by
 cases r with
 | cons a t=>obtain ⟨w,rfl,b⟩:=inv1 t;exact ⟨_,_,rfl,a,b⟩
theorem u3 (S:Se Y T k N G) (gi:Nat) {i:Int} {p:Pos} (ha:ArD Y [e] c [.int i]) (hm:T.mg "abs" =none) (hg:G[gi]? =some ("abs" :Str):=by rfl) (he:starEach [e] Y.X.env=(false,eval e Y.X.env)::starEach [] Y.X.env:=by rfl):EvD Y (.Call (.Name "abs" p) [e] [] pos) c (.int (i.natAbs:Int)):=
 zM S gi jV hg hm xaR ha (fun vs F H Q f r q=>by
  obtain ⟨v,rfl,rv⟩:=inv1 r
  refine ⟨i,by rw [xw rv],?_⟩
  have e:(if i<0 then -i else i)=(i.natAbs:Int):=by split<;>omega
  rw [e]
  exact q _ F H (Ext.refl f) (.int _)) he rfl
theorem QL (S:Se Y T k N G) (gi:Nat) {i j:Int} {p:Pos} {e1:Expr} (ha:ArD Y [e,e1] c [.int i,.int j]) (hm:T.mg "max" =none) (hg:G[gi]? =some ("max" :Str):=by rfl) (he:starEach [e,e1] Y.X.env=(false,eval e Y.X.env)::starEach [e1] Y.X.env:=by rfl) (hpl:(backTo pos (starEach [e1] Y.X.env)).any (·.1)=false:=by rfl):EvD Y (.Call (.Name "max" p) [e,e1] [] pos) c (.int (max i j)):=
 zM S gi (WT S.calm) hg hm xaP ha (fun vs F H Q f r q=>by
  obtain ⟨v,w,rfl,rv,rw'⟩:=inv2 r
  refine ⟨i,j,by rw [xw rv,xw rw'],?_⟩
  have e:(if j>i then j else i)=max i j:=by split<;>omega
  rw [e]
  exact q _ F H (Ext.refl f) (.int _)) he hpl
theorem jC (S:Se Y T k N G) (gi:Nat) {i j:Int} {p:Pos} {e1:Expr} (ha:ArD Y [e,e1] c [.int i,.int j]) (hm:T.mg "min" =none) (hg:G[gi]? =some ("min" :Str):=by rfl) (he:starEach [e,e1] Y.X.env=(false,eval e Y.X.env)::starEach [e1] Y.X.env:=by rfl) (hpl:(backTo pos (starEach [e1] Y.X.env)).any (·.1)=false:=by rfl):EvD Y (.Call (.Name "min" p) [e,e1] [] pos) c (.int (min i j)):=
 zM S gi (WS S.calm) hg hm jW ha (fun vs F H Q f r q=>by
  obtain ⟨v,w,rfl,rv,rw'⟩:=inv2 r
  refine ⟨i,j,by rw [xw rv,xw rw'],?_⟩
  have e:(if j<i then j else i)=min i j:=by split<;>omega
  rw [e]
  exact q _ F H (Ext.refl f) (.int _)) he hpl
def lenD:D->Option Nat
 | .str x=>if x.length<=1000000 then some x.length else none
 | .tup xs=>some xs.length
 | .lst xs=>some xs.length
 | _=>none
theorem yr (S:Se Y T k N G) (gi:Nat) {n:Nat} {p:Pos} (ha:ArD Y [e] c [d]) (hl:lenD d=some n) (hm:T.mg "len" =none) (hg:G[gi]? =some ("len" :Str):=by rfl) (he:starEach [e] Y.X.env=(false,eval e Y.X.env)::starEach [] Y.X.env:=by rfl):EvD Y (.Call (.Name "len" p) [e] [] pos) c (.int n):=
 zM S gi vI hg hm YR ha (fun vs F H Q f r q=>by
  obtain ⟨v,rfl,rv⟩:=inv1 r
  refine ⟨v,n,rfl,?_,q _ F H (Ext.refl f) (.int _)⟩
  cases rv with
  | str x=>
   have hl':(if x.length<=1000000 then some x.length else none)=some n:=hl
   by_cases hx:x.length<=1000000
   ·rw [mH hx] at hl';cases hl';exact ⟨xL hx,rfl⟩
   ·rw [mF hx] at hl';cases hl'
  | tup h t=>cases hl;exact .inr ⟨_,yj f h,t.length.symm⟩
  | lst h t=>cases hl;exact .inl ⟨_,f.seq h,t.length.symm⟩
  | _=>cases hl) he rfl
theorem Zy (S:Se Y T k N G) (gi:Nat) {i:Bool} {p:Pos} (ha:ArD Y [e] c [.bl i]) (hm:T.mg "int" =none) (hg:G[gi]? =some ("int" :Str):=by rfl) (he:starEach [e] Y.X.env=(false,eval e Y.X.env)::starEach [] Y.X.env:=by rfl):EvD Y (.Call (.Name "int" p) [e] [] pos) c (.int (if i then 1 else 0)):=
 wd S gi WU hg hm qw ha (fun vs F H Q f r q=>by
  obtain ⟨v,rfl,rv⟩:=inv1 r
  exact .inr ⟨i,by rw [zH rv],q _ F H (Ext.refl f) (.int _)⟩) he rfl
theorem xn (h:P (.nx c)):SsD Y [] c P:=PSs.imp kZ fun D σ H ⟨F,E,m⟩=>m _ h σ F H (Same.refl F) E
def tAny (Y:Cy) (rest:List Stmt):TS:=fun D σ H=>∃c P F,SsD Y rest c P/\EnvY Y F H σ c/\∀o,P o->Meets Y F D o
theorem Yk:PSs Y.X rest (tAny Y rest):=fun pins s σ H D I ⟨c,P,F,h,e,m⟩=>h pins s σ H D I ⟨F,e,m⟩
theorem xF {st:Stmt} (h:StD Y st c (Thn Y rest P)):SsD Y (st::rest) c P:=
 PSs.imp (va h Yk) fun D σ H ⟨F,e,m⟩=>⟨F,e,fun o ho=>by
  cases o with
  | nx c'=>exact fun σ' F' H' s' E'=>⟨c',P,F',ho,E',fun o' ho'=>(m o' ho').grow s'⟩
  | rt d=>exact m (.rt d) ho
  | bk c'=>exact m (.bk c') ho
  | ct c'=>exact m (.ct c') ho
  | ro ds=>exact m (.ro ds) ho
  | rs R=>exact m (.rs R) ho⟩
theorem KL (h:EvD Y e c d) (hp:P (.rt d)):StD Y (.Return (some e) pos) c P:=
 PS.imp (Yl h) fun D σ H ⟨F,E,m⟩=>⟨F,E,fun v F' H' x r=>m _ hp v F' H' x.ff (E.ext.trans x) r⟩
theorem xi (h:EvD Y e c d) (hp:P (.rt d)):SsD Y (.Return (some e) pos::rest) c P:=xF (KL h hp)
theorem xp {t:Expr} {sa sb:List Stmt} {v:Bool} (ht:TeD Y t c v) (ha:v=true->SsD Y sa c (Thn Y rest P)) (hb:v=false->SsD Y sb c (Thn Y rest P)):SsD Y (.If t sa sb pos::rest) c P:=by
 refine xF ?_
 cases v with
 | true=>exact PS.imp (Vb ht (ha rfl) (qC (sts:=sb))) fun D σ H ⟨F,E,m⟩=>⟨F,E,fun F1 H1 e1=>L2.iteT ⟨F1,E.grow e1,fun o ho=>(m o ho).grow e1.ff⟩⟩
 | false=>exact PS.imp (Vb ht (qC (sts:=sa)) (hb rfl)) fun D σ H ⟨F,E,m⟩=>⟨F,E,fun F1 H1 e1=>L2.iteF ⟨F1,E.grow e1,fun o ho=>(m o ho).grow e1.ff⟩⟩
theorem xl (S:Sc Y T k N G) (i:Nat) {x:Str} {pos':Pos} (he:EvD Y e c d)
  (hr:SsD Y rest (put c i (.val d)) P) (hi:N[i]? =some x:=by rfl) (hlt:i<c.length:=by first | exact mC rfl | decide | omega) (hs:swapsWith e (some (.Name x pos')) pos.line Y.X.env=pure false:=by rfl):SsD Y (.Assign [.Name x pos'] e pos::rest) c P:=by
 have hx:=S.loc x (mz hi)
 have hN:=S.nd
 rw [<-S.n] at hi hN
 refine xF (PS.imp (qO hN hi hx.1 he hs (.inl (S.fn x))) fun D σ H ⟨F,E,m⟩=>⟨F,E,fun v F' H' e' r'=>?_⟩)
 exact m (.nx (put c i (.val d))) hr _ F' H' e'.ff ((E.grow e').set hlt r')
theorem ZZ (S:Sc Y T k N G) (i:Nat) {x:Str} {t:Expr} {p1 p2:Pos} {v:Bool} {a b:Int} (ht:TeD Y t c v) (he:v=true->EvD Y e c (.int a)) (hr:SsD Y rest (put c i (.val (.int (if v=true then a else b)))) P) (hsl:slot c i= .val (.int b):=by rfl) (hi:N[i]? =some x:=by rfl)
  (hlt:i<c.length:=by first | exact mC rfl | decide | omega) (hs:swapsWith e (some (.Name x p1)) p2.line Y.X.env=pure false:=by rfl):SsD Y (.If t [.Assign [.Name x p1] e p2] [] pos::rest) c P:=by
 refine xp ht (fun h=>?_) (fun h=>?_)
 ·refine xl S i (he h) (xn ?_) hi hlt hs
  rw [mH h] at hr
  exact hr
 ·refine xn ?_
  rw [mF (by rw [h];exact Bool.false_ne_true)] at hr
  have e:put c i (.val (.int b))=c:=by rw [<-hsl];exact um c i
  rw [e] at hr
  exact hr
def Turned (I:List Slot->Prop) (Pn:List Slot->Prop) (Pr:D->Prop):Out->Prop
 | .nx c=>I c
 | .ct c=>I c
 | .bk c=>Pn c
 | .rt d=>Pr d
 | .ro _=>False
 | .rs _=>False
def tAnyT (Y:Cy) (e:Expr):TT:=fun σ H Q=>∃c v,TeD Y e c v/\tT Y c v σ H Q
theorem KU {e:Expr}:PT Y.X e (tAnyT Y e):=fun pins s σ H Q I ⟨c,v,h,q⟩=>h pins s σ H Q I q
theorem zo (S:Sc Y T k N G) {t:Expr} {body:List Stmt} (I:List Slot->Prop) (μ:List Slot->Nat) (h0:I c)
  (hs:∀c,I c->∃v,TeD Y t c v/\(v=true->SsD Y body c (Turned (fun c'=>I c'/\μ c'<μ c) (fun c'=>SsD Y rest c' P) (fun d=>P (.rt d))))/\(v=false->SsD Y rest c P)):SsD Y (.While t body [] pos::rest) c P:=by
 refine xF (PS.imp (UN S.hp (KU (e:=t)) (Yk (rest:=body))) fun D σ H ⟨F,E,m⟩=>?_)
 refine ⟨fun n σ H=>∃c F1,I c/\μ c=n/\EnvY Y F1 H σ c/\Same F F1,⟨μ c,c,F,h0,rfl,E,Same.refl F⟩,?_⟩
 rintro n σ H ⟨c,F1,hI,rfl,E,s1⟩
 obtain ⟨v,ht,hb,hn⟩:=hs c hI
 refine ⟨c,v,ht,F1,E,fun F2 H2 e2=>?_⟩
 cases v with
 | false=>exact L2.iteF (m (.nx c) (hn rfl) σ F2 H2 (s1.trans e2.ff) (E.grow e2))
 | true=>
  refine L2.iteT ⟨fun σ' H'=>∃c' F',(I c'/\μ c'<μ c)/\EnvY Y F' H' σ' c'/\Same F F',fun σ' H' ⟨c',F',hI',E',s'⟩=>⟨μ c',hI'.2,c',F',hI'.1,rfl,E',s'⟩,?_⟩
  refine ⟨c,_,F2,hb rfl,E.grow e2,fun o ho=>?_⟩
  have s2:=s1.trans e2.ff
  cases o with
  | nx c'=>exact fun σ' F' H' s' E'=>⟨c',F',ho,E',s2.trans s'⟩
  | ct c'=>exact fun σ' F' H' s' E'=>⟨c',F',ho,E',s2.trans s'⟩
  | bk c'=>exact fun σ' F' H' s' E'=>m (.nx c') ho σ' F' H' (s2.trans s') E'
  | rt d=>exact (m (.rt d) ho).grow s2
  | ro ds=>exact False.elim ho
  | rs R=>exact False.elim ho
end
section
variable {Y:Cy} {T:Tx} {k:Nat} {N G:List Str} {c c':List Slot} {a b e tg:Expr} {es:List Expr} {pos:Pos} {d d1 d2:D} {ds items:List D} {P:Out->Prop} {rest:List Stmt}
def Yields (K:W.Frag) (F1:Hp) (J:It) (items:List D):Prop:=∀(i:Nat) (F H:Hp),Same F1 F->Same F H->
 (∀d,items[i]? =some d->J.go i H/\∀x H',J.yld i H x H'->∃F',Ext F H F' H'/\Rep K F' x d)/\(items.length<=i->J.stop i H)
def tI (Y:Cy) (c:List Slot) (items:List D):TI:=fun σ H R=>∃F,EnvY Y F H σ c/\∀J F1 H1,Ext F H F1 H1->Yields Y.X.K F1 J items->R J H1
def ItD (Y:Cy) (tg e:Expr) (c:List Slot) (items:List D):Prop:=PI Y.X tg e (tI Y c items)
theorem PI.imp {X:Cx} {e:Expr} {t t':TI} (h:PI X tg e t) (i:∀σ H R,t' σ H R->t σ H R):PI X tg e t':=fun pins s σ H R I q=>h pins s σ H R I (i _ _ _ q)
theorem Vq (h:EvD Y e c (.lst ds)):ItD Y tg e c ds:=
 PI.imp (Jb h) fun σ H R ⟨F,E,q⟩=>⟨F,E,fun x F1 H1 e1 r1=>by
  obtain ⟨p,vs,rfl,hp,r⟩:=yL r1
  refine ⟨p,rfl,⟨vs,e1.fh.seq hp⟩,q _ F1 H1 e1 fun i F2 H2 s1 s2=>⟨fun d hd=>?_,fun hl=>⟨vs,s2.seq (s1.seq hp),by rw [r.length];exact hl⟩⟩⟩
  obtain ⟨v,hv,rv⟩:=r.get hd
  refine ⟨⟨vs,v,s2.seq (s1.seq hp),hv⟩,fun x H' y=>?_⟩
  obtain ⟨rfl,y⟩:=y
  have:=y vs (s2.seq (s1.seq hp))
  rw [hv] at this
  cases this
  exact ⟨F2,Ext.refl s2,rv.mono s1⟩⟩
theorem xaq (h:EvD Y e c (.tup ds)):ItD Y tg e c ds:=
 PI.imp (KZ h) fun σ H R ⟨F,E,q⟩=>⟨F,E,fun x F1 H1 e1 r1=>by
  obtain ⟨p,vs,rfl,hp,r⟩:=YB r1
  refine ⟨p,rfl,⟨vs,yj e1.fh hp⟩,q _ F1 H1 e1 fun i F2 H2 s1 s2=>⟨fun d hd=>?_,fun hl=>⟨vs,yj s2 (yj s1 hp),by rw [r.length];exact hl⟩⟩⟩
  obtain ⟨v,hv,rv⟩:=r.get hd
  refine ⟨⟨vs,v,yj s2 (yj s1 hp),hv⟩,fun x H' y=>?_⟩
  obtain ⟨rfl,y⟩:=y
  have:=y vs (yj s2 (yj s1 hp))
  rw [hv] at this
  cases this
  exact ⟨F2,Ext.refl s2,rv.mono s1⟩⟩
noncomputable def rangeD (lo st:Int) (n:Nat):List D:=(List.range n).map fun (m:Nat)=>D.int (lo+(m:Int)*st)
theorem x5 (lo st:Int) (n:Nat):(rangeD lo st n).length=n:=by simp [rangeD]
theorem Z8 {lo st:Int} {n m:Nat} (h:m<n):(rangeD lo st n)[m]? =some (.int (lo+(m:Int)*st)):=by simp [rangeD,h]
theorem yR {lo st:Int} {n m:Nat} {d:D} (h:(rangeD lo st n)[m]? =some d):m<n/\d= .int (lo+(m:Int)*st):=by
 have hl:=(List.getElem?_eq_some_iff.mp h).1
 rw [x5] at hl
 rw [Z8 hl] at h
 cases h
 exact ⟨hl,rfl⟩
theorem qW {K:W.Frag} {F:Hp} (lo:Int) (n:Nat):Yields K F (Itr lo n) (rangeD lo 1 n):=fun i F2 H2 s1 s2=>⟨fun d hd=>by
  obtain ⟨hi,rfl⟩:=yR hd
  refine ⟨hi,fun x H' y=>?_⟩
  obtain ⟨rfl,rfl⟩:=y
  rw [Int.mul_one]
  exact ⟨F2,Ext.refl s2,.int _⟩,fun hl=>by rw [x5] at hl;exact hl⟩
theorem zn (S:Se Y T k N G) (gi:Nat) {j:Int} {p:Pos} (ha:ArD Y [a] c [.int j]) (h1: -(2^62)<=j) (h2:j<2^62) (hm:T.mg "range" =none) (hg:G[gi]? =some ("range" :Str):=by rfl)
  (hs:starEach [a] Y.X.env=[(false,eval a Y.X.env)]:=by rfl):ItD Y tg (.Call (.Name "range" p) [a] [] pos) c (rangeD 0 1 j.toNat):=
 PI.imp (Wa (S.gl _ (mz hg)).1 (by rw [S.eM];exact hm) ha hs) fun σ H R ⟨F,E,q⟩=>⟨F,E,fun vs F1 H1 e1 r1=>by
  obtain ⟨v,rfl,rv⟩:=inv1 r1
  exact ⟨j,by rw [xw rv],h1,h2,q _ F1 H1 e1 (qW 0 j.toNat)⟩⟩
theorem Wv (S:Se Y T k N G) (gi:Nat) {i j:Int} {p:Pos} (ha:ArD Y [a,b] c [.int i,.int j]) (h0: -(2^62)<=i/\i<2^62/\ -(2^62)<=j/\j<2^62) (hm:T.mg "range" =none) (hg:G[gi]? =some ("range" :Str):=by rfl)
  (hs:starEach [a,b] Y.X.env=[(false,eval a Y.X.env),(false,eval b Y.X.env)]:=by rfl) (hs2:starEach [b] Y.X.env=[(false,eval b Y.X.env)]:=by rfl):ItD Y tg (.Call (.Name "range" p) [a,b] [] pos) c (rangeD i 1 (j - i).toNat):=
 PI.imp (V9 (S.gl _ (mz hg)).1 (by rw [S.eM];exact hm) ha hs hs2) fun σ H R ⟨F,E,q⟩=>⟨F,E,fun vs F1 H1 e1 r1=>by
  obtain ⟨v,w,rfl,rv,rw'⟩:=inv2 r1
  exact ⟨i,j,by rw [xw rv,xw rw'],h0,q _ F1 H1 e1 (qW i _)⟩⟩
def tG (Y:Cy) (d:D) (c c':List Slot):TG:=fun v σ H Q=>∃F,EnvY Y F H σ c/\Rep Y.X.K F v d/\∀σ' F' H',Ext F H F' H'->EnvY Y F' H' σ' c'->Q σ' H'
def TgD (Y:Cy) (tg:Expr) (d:D) (c c':List Slot):Prop:=PG Y.X tg (tG Y d c c')
theorem PG.imp {X:Cx} {t t':TG} (h:PG X tg t) (i:∀v σ H Q,t' v σ H Q->t v σ H Q):PG X tg t':=fun pins s σ H x v Q I r q=>h pins s σ H x v Q I r (i _ _ _ _ q)
theorem zi (S:Sc Y T k N G) (i:Nat) {x:Str} (hi:N[i]? =some x:=by rfl) (hlt:i<c.length:=by first | exact mC rfl | decide | omega):TgD Y (.Name x pos) d c (put c i (.val d)):=by
 have hx:=S.loc x (mz hi)
 have hN:=S.nd
 rw [<-S.n] at hi hN
 exact PG.imp (Ve hN hi hx.1 (.inl (S.fn x))) fun v σ H Q ⟨F,E,r,q⟩=>q _ F H (Ext.refl E.fh) (E.set hlt r)
theorem za (S:Sn Y T N G) (i:Nat) {x:Str} (hf:Y.X.fn x=true∨Y.X.env.scope.names.lookup x=some .local) (hi:N[i]? =some x:=by rfl) (hlt:i<c.length:=by first | exact mC rfl | decide | omega):TgD Y (.Name x pos) d c (put c i (.val d)):=by
 have hx:=S.loc x (mz hi)
 have hN:=S.nd
 rw [<-S.n] at hi hN
 exact PG.imp (Ve hN hi hx.1 hf) fun v σ H Q ⟨F,E,r,q⟩=>q _ F H (Ext.refl E.fh) (E.set hlt r)
def gAny (Y:Cy) (tg:Expr):TG:=fun v σ H Q=>∃d c c',TgD Y tg d c c'/\tG Y d c c' v σ H Q
theorem K2:PG Y.X tg (gAny Y tg):=fun pins s σ H x v Q I r ⟨d,c,c',h,q⟩=>h pins s σ H x v Q I r q
theorem Yc (S:Sc Y T k N G) {iter:Expr} {body:List Stmt} (hi:ItD Y tg iter c items) (I:Nat->List Slot->Prop) (h0:I 0 c)
  (hs:∀m d c,items[m]? =some d->I m c->∃c',TgD Y tg d c c'/\SsD Y body c' (Turned (I (m+1)) (fun c'=>SsD Y rest c' P) (fun d=>P (.rt d))))
  (hd:∀c,I items.length c->SsD Y rest c P) (hf:∀x,foldedSetIterable iter Y.X.env x=pure x:=by intro _;rfl):SsD Y (.For tg iter body [] pos::rest) c P:=by
 refine xF (PS.imp (KY S.hp S.calm hi (K2 (tg:=tg)) (Yk (rest:=body)) hf) fun D σ H ⟨F,E,m⟩=>?_)
 refine ⟨F,E,fun J F1 H1 e1 yl=>?_⟩
 refine ⟨fun n r σ H=>r=items.length - n/\n<=items.length/\∃c F,I n c/\EnvY Y F H σ c/\Same F1 F,⟨_,rfl,Nat.zero_le _,c,F1,h0,E.grow e1,Same.refl _⟩,?_⟩
 rintro n r σ2 H2 ⟨rfl,hn,c2,F2,hI,E2,s2⟩
 have y:=yl n F2 H2 s2 E2.fh
 by_cases hlt:n<items.length
 ·obtain ⟨d,hd⟩:∃d,items[n]? =some d:=⟨items[n],mD hlt⟩
  obtain ⟨go,yy⟩:=y.1 d hd
  obtain ⟨c3,tgd,ssd⟩:=hs n d c2 hd hI
  refine .inr ⟨go,fun σ' H'=>∃c' F',I (n+1) c'/\EnvY Y F' H' σ' c'/\Same F1 F',fun σ' H' ⟨c',F',hI',E',s'⟩=>⟨items.length - (n+1),by omega,rfl,hlt,c',F',hI',E',s'⟩,fun x H' yx=>?_⟩
  obtain ⟨F3,e3,r3⟩:=yy x H' yx
  refine ⟨d,c2,c3,tgd,F3,E2.grow e3,r3,fun σ' F' H'' s' E'=>?_⟩
  have s3:Same F1 F':=s2.trans (e3.ff.trans s'.ff)
  refine ⟨c3,_,F',ssd,E',fun o ho=>?_⟩
  cases o with
  | nx c'=>exact fun σ' F' H' s' E'=>⟨c',F',ho,E',s3.trans s'⟩
  | ct c'=>exact fun σ' F' H' s' E'=>⟨c',F',ho,E',s3.trans s'⟩
  | bk c'=>exact fun σ' F' H' s' E'=>m (.nx c') ho σ' F' H' (e1.ff.trans (s3.trans s')) E'
  | rt d=>exact (m (.rt d) ho).grow (e1.ff.trans s3)
  | ro ds=>exact False.elim ho
  | rs R=>exact False.elim ho
 ·have e:n=items.length:=by omega
  subst e
  exact .inl ⟨y.2 (mJ _),m (.nx c2) (hd c2 hI) σ2 F2 H2 (e1.ff.trans s2) E2⟩
end
def spD (K:W.Frag) (R:List D->D->Prop):Sp:=fun vs H Q _=>∃F ds d,Same F H/\Reps K F vs ds/\R ds d/\∀v F' H',Ext F H F' H'->Rep K F' v d->Q v H'
structure FnD (T:Tx) (k:Nat) (x:Str) (R:List D->D->Prop):Prop where
 ex:∃(f:Addr) (fd:FuncData) (ps:List Str),T.mg x=some (.ref f)/\W.keepIn T.K (.ref f)=true/\Binds T.K fd ps []/\FnOk T.prog T.w T.K T.mg T.base CX0 k f fd ps (spD T.K R)
noncomputable def ctx0 (N:List Str) (ds:List D):List Slot:=ds.map Slot.val++List.replicate (N.length - ds.length) Slot.un
def Ret (d:D):Out->Prop
 | .rt e=>e=d
 | .nx _=>d= .non
 | _=>False
theorem zQ:∀(n i:Nat),slot (List.replicate n Slot.un) i= .un
 | 0,_=>rfl
 | _+1,0=>rfl
 | n+1,i+1=>zQ n i
section
variable {K:W.Frag} {F H H0:Hp}
theorem wZ {n:Nat}:∀{vs:List V} {ds:List D},Reps K F vs ds->∀i,SlotOk K H0 F H (vs.map some++List.replicate n none)[i]? (slot (ds.map Slot.val++List.replicate n Slot.un) i)
 | _,_,.nil,i=>by
  show SlotOk K H0 F H _ (slot (List.replicate n Slot.un) i)
  rw [zQ];exact trivial
 | _,_,.cons r t,0=>⟨_,rfl,r⟩
 | _,_,.cons r t,i+1=>by
  have q:=wZ (n:=n) t i
  simpa [slot] using q
theorem vN {n:Nat}:∀(ds:List D) (i:Nat),isOwn (slot (ds.map Slot.val++List.replicate n Slot.un) i)=false
 | [],i=>by
  show isOwn (slot (List.replicate n Slot.un) i)=false
  rw [zQ];rfl
 | _::_,0=>rfl
 | _::r,i+1=>vN r i
theorem qI {N:List Str} {vs:List V} {ds:List D} (f:Same F H) (r:Reps K F vs ds):Env K F H F H (L2.start N vs) (ctx0 N ds) where
 ext:=Ext.refl f
 len:=by
  unfold L2.start ctx0
  simp [r.length]
 sl:=fun i=>by
  unfold L2.start ctx0
  rw [r.length]
  exact wZ r i
 inj:=fun i j a h _ _ _=>by
  unfold ctx0 at h
  rw [vN] at h
  cases h
end
section
variable {Y:Cy} {T:Tx} {k j:Nat} {N G ps:List Str} {c:List Slot} {e:Expr} {es:List Expr} {pos p:Pos} {d:D} {ds:List D} {R:List D->D->Prop} {x qual:Str}
theorem xg (S:Se Y T k N G) (gi:Nat) (Fn:FnD T j x R) (hj:j<=k) (ha:ArD Y (e::es) c ds) (hR:R ds d) (hg:G[gi]? =some x:=by rfl)
  (he:starEach (e::es) Y.X.env=(false,eval e Y.X.env)::starEach es Y.X.env:=by rfl) (hpl:(backTo pos (starEach es Y.X.env)).any (·.1)=false:=by rfl):EvD Y (.Call (.Name x p) (e::es) [] pos) c d:=by
 obtain ⟨f,fd,ps,hm,hk,hb,F⟩:=Fn.ex
 have F':FnOk Y.X.prog Y.X.w Y.X.K Y.X.mg Y.X.base CX0 j f fd ps (spD Y.X.K R):=by rw [S.eP,S.eW,S.eK,S.eM,S.eB];exact F
 have gl:=S.gl x (mz hg)
 refine PE.imp (wK F' (S.room.mono hj) gl.1 (by rw [S.eM];exact hm) (by rw [S.eK];exact hk) (by rw [S.eK];exact hb) .nil pass0 ha gl.2.1 he hpl) fun σ H Q ⟨F,E,q⟩=>⟨F,E,fun vs F1 H1 e1 r1=>?_⟩
 show spD Y.X.K R (vs++ []) H1 Q E0
 rw [List.append_nil]
 exact ⟨F1,ds,d,e1.fh,r1,hR,fun v F2 H2 e2 r2=>q v F2 H2 (e1.trans e2) r2⟩
theorem Ks {st:Stmt} {f:Addr} {fd:FuncData} (F:Fun T.K x qual st f fd) (B:ScB N ps G (defScope st)) (hlen:∀ds d,R ds d->ds.length=ps.length)
  (body:∀(Y:Cy) (S:Sc Y T k N G) (Z:Fx Y st) (ds:List D) (d:D),R ds d->SsD Y (defBody st) (ctx0 N ds) (Ret d)):FnOk T.prog T.w T.K T.mg T.base CX0 (k+1) f fd ps (spD T.K R):=by
 refine F.ok B.fs (fun vs H Q E h=>?_) fun cdv A outer s H vs Q E hr h=>?_
 ·obtain ⟨F0,ds,d,_,r,hR,_⟩:=h
  rw [r.length];exact hlen ds d hR
 ·obtain ⟨F0,ds,d,f0,r,hR,q⟩:=h
  have S:Sc ⟨(cxOf CX0 T.prog T.w T.K T.mg T.base N qual (defScope st) f cdv A outer s H E).nox,F0,H⟩ T k N G:=
   ⟨⟨⟨rfl,rfl,rfl,rfl,rfl,rfl,B.fs.nd,B.loc,B.gl⟩,rfl,hr⟩,fun _=>rfl,PassesOwn.never⟩
  refine ⟨_,body _ S ⟨rfl,rfl,rfl,rfl⟩ ds d hR,F0,qI f0 r,fun o ho=>?_⟩
  cases o with
  | rt e=>cases ho;exact fun v F' H' _ x r'=>q v F' H' x r'
  | nx c=>cases ho;exact fun σ F' H' _ E'=>q .non F' H' E'.ext .non
  | bk c=>exact ho.elim
  | ct c=>exact ho.elim
  | ro ds=>exact ho.elim
  | rs R=>exact ho.elim
def At (T:Tx) (x:Str) (st:Stmt):Prop:=∃(f:Addr) (fd:FuncData),Fun T.K x x st f fd/\T.mg x=some (.ref f)
theorem x9 {st:Stmt} (A:At T x st) (B:ScB N ps G (defScope st)) (hb:∀f fd,Fun T.K x x st f fd->Binds T.K fd ps []) (hlen:∀ds d,R ds d->ds.length=ps.length)
  (body:∀(Y:Cy) (S:Sc Y T k N G) (Z:Fx Y st) (ds:List D) (d:D),R ds d->SsD Y (defBody st) (ctx0 N ds) (Ret d)):FnD T (k+1) x R:=
 let ⟨f,fd,F,hm⟩:=A
 ⟨f,fd,ps,hm,F.kp,hb f fd F,Ks F B hlen body⟩
def ZL (ds:List D) (d:D):Prop:=∃ns:List Int,ds=[.lst (ns.map D.int)]/\ns.length<=63/\d= .bl true
theorem law_sp (K:W.Frag) (H:Hp) (a:Addr) (ns:List Int) (hl:ns.length<=63) (hS:SqL K H a (ns.map V.int)):spD K ZL [.ref a] H (fun v _=>v= .bl true) fun _ _ _=>False:=
 ⟨H,_,_,Same.refl H,.cons (.lst hS (Reps.ints ns)) .nil,⟨ns,rfl,hl,rfl⟩,fun v F' H' _ r=>zH r⟩
theorem JQ {ty:String} (S:Se Y T k N G) (gi:Nat) (hm:T.mg x=none) (hv:bootBuiltins x=some (.type ty)) (hg:G[gi]? =some x):PE Y.X (.Name x pos) (tC (.ty ty)):=
 have gl:=S.gl x (mz hg)
 Vh gl.1 (by rw [S.eM];exact hm) hv rfl gl.2.2 gl.2.1
noncomputable def tyD:D->String
 | .non=> "NoneType" | .bl _=> "bool" | .int _=> "int" | .str _=> "str" | .tup _=> "tuple" | .lst _=> "list"
theorem ji {X:Cx} {pins:List (Addr×Obj)} {σ:St} {F H:Hp} {s:Shared} {A:Around} {E:Value->Shared->Prop} {Q:Value->Shared->Prop} {cv:Value} {b:Bool} {v:V} {u:Value} {d:D}
  (I:Inv X pins σ H s) (rx:RelV v u) (f:Same F H) (r:Rep X.K F v d) (e:W.kitOne X.K (.type (tyD d)) cv=some b) (h:∀tk,Q (.bool b) { s with toks:=tk }):
  wpAny (model X.prog X.w) A (call (.builtin "isinstance") [u,cv]) Q E s:=by
 cases r with
 | non=>exact qD I rx .non e h
 | bl y=>exact qD I rx (.bl y) e h
 | int i=>exact qD I rx (.int i) e h
 | str y=>exact qD I rx (.str y) e h
 | @tup a vs ds hs t=>
  cases (show u=Value.ref a from rx)
  obtain ⟨its,_,p,_⟩:=I.tuple (yj f hs)
  obtain ⟨o,h1,h2,_⟩:=p
  exact W.kia_one W.kitx_tuple I.kIn ⟨o,h1,h2⟩ e (fun z=>nomatch z) h
 | @lst a vs ds hs t=>
  cases (show u=Value.ref a from rx)
  obtain ⟨its,_,p,_⟩:=I.list (f.seq hs)
  obtain ⟨o,n,h1,h2,_⟩:=p
  exact W.kia_one W.kitx_list I.kIn ⟨o,h1,h2⟩ e (fun z=>nomatch z) h
theorem xY (S:Se Y T k N G) (gi gj:Nat) {ty:String} {b:Bool} {pn:Pos} (he:EvD Y e c d) (e2:W.kitOne T.K (.type (tyD d)) (.type ty)=some b) (hm:T.mg "isinstance" =none) (hm2:T.mg x=none) (hv:bootBuiltins x=some (.type ty))
  (hg:G[gi]? =some ("isinstance" :Str):=by rfl) (hg2:G[gj]? =some x:=by rfl)
  (hs:starEach [e,.Name x pn] Y.X.env=(false,eval e Y.X.env)::starEach [.Name x pn] Y.X.env:=by rfl):EvD Y (.Call (.Name "isinstance" p) [e,.Name x pn] [] pos) c (.bl b):=by
 have gl:=S.gl _ (mz hg)
 have hc:CallR Y.X (.builtin "isinstance") (fun xs H Q=>∃v F,xs=[v,.ty ty]/\Same F H/\Rep Y.X.K F v d/\Q (.bl b) H):=by
  intro pins s σ H xs us Q I r h
  obtain ⟨v,F,rfl,f,rv,q⟩:=h
  obtain ⟨u,w',rfl,r1,r2⟩:=vals2 r
  cases (show w'=Value.type ty from r2)
  exact ji I r1 f rv (by rw [S.eK];exact e2) fun tk=>⟨.bl b,H,I.tok tk,rfl,q⟩
 refine PE.imp (zt hc gl.1 (by rw [S.eM];exact hm) zK (xQ he (xQ (JQ S gj hm2 hv hg2) yq) hs) gl.2.2 gl.2.1 hs rfl) fun σ H Q ⟨F,E,q⟩=>⟨F,E,fun v F1 H1 e1 r1=>?_⟩
 exact ⟨v,F1,rfl,e1.fh,r1,q _ F1 H1 e1 (.bl b)⟩
end
theorem Bd.mono {m n:Nat} {i:Int} (h:Bd m i) (l:m<=n):Bd n i:=mE h (Nat.pow_le_pow_right (by decide) l)
theorem Bd.mul {m n:Nat} {i j:Int} (h1:Bd m i) (h2:Bd n j):Bd (m+n) (i*j):=by
 unfold Bd at*
 rw [Int.natAbs_mul,Nat.pow_add]
 exact Nat.mul_lt_mul_of_lt_of_lt h1 h2
theorem Bd.add {m n:Nat} {i j:Int} (h1:Bd m i) (h2:Bd n j):Bd (max m n+1) (i+j):=by
 have a:=h1.mono (Nat.le_max_left m n)
 have b:=h2.mono (Nat.le_max_right m n)
 unfold Bd at*
 rw [Nat.pow_succ]
 omega
theorem Bd.neg {m:Nat} {i:Int} (h:Bd m i):Bd m (-i):=by unfold Bd at*;rw [Int.natAbs_neg];exact h
theorem Bd.sub {m n:Nat} {i j:Int} (h1:Bd m i) (h2:Bd n j):Bd (max m n+1) (i - j):=by rw [Int.sub_eq_add_neg];exact h1.add h2.neg
theorem Bd.of {n:Nat} {i:Int} (b:Int) (h0: -b<i) (h1:i<b) (h:b<=2^n):Bd n i:=by
 unfold Bd
 have e:((2^n:Nat):Int)=(2:Int)^n:=by simp
 omega
mutual
def toPy:D->PyData
 | .non=> .none
 | .bl b=> .bool b
 | .int i=> .int i
 | .str x=> .str x
 | .tup xs=> .tuple (toPys xs)
 | .lst xs=> .list (toPys xs)
def toPys:List D->List PyData
 | []=>[]
 | x::xs=>toPy x::toPys xs
end
def eqD (d e:D):Bool:=PyData.eqv (toPy d) (toPy e)
section
variable {X:Cx} {pins:List (Addr×Obj)} {σ:St} {F H:Hp} {s:Shared}
mutual
theorem zr (I:Inv X pins σ H s) (f:Same F H):∀{v:V} {d:D} {u:Value},Rep X.K F v d->RelV v u->∃as,Reads s.heap u (toPy d) as
 | _,_,_,.non,r=>by cases r;exact ⟨_,.none⟩
 | _,_,_,.bl b,r=>by cases r;exact ⟨_,.bool b⟩
 | _,_,_,.int i,r=>by obtain ⟨t,rfl⟩:=r;exact ⟨_,.int i t⟩
 | _,_,_,.str x,r=>by obtain ⟨t,rfl⟩:=r;exact ⟨_,.str x t⟩
 | _,_,_,.tup h t,r=>by
  cases r
  obtain ⟨its,r2,⟨o,e1,e2,n,e3⟩,_⟩:=I.tuple (yj f h)
  obtain ⟨as,ra⟩:=readss_of I f t r2
  exact ⟨as,.tuple e1 e2 e3 (by simpa using ra)⟩
 | _,_,_,.lst h t,r=>by
  cases r
  obtain ⟨its,r2,⟨o,n,e1,e2,_,e3⟩,_⟩:=I.list (f.seq h)
  obtain ⟨as,ra⟩:=readss_of I f t r2
  exact ⟨_,.list e1 e2 e3 (by simpa using ra)⟩
theorem readss_of (I:Inv X pins σ H s) (f:Same F H):∀{vs:List V} {ds:List D} {us:List Value},Reps X.K F vs ds->Vals vs us->∃as,ReadsAll s.heap us (toPys ds) as
 | _,_,_,.nil,r=>by cases r;exact ⟨_,.nil⟩
 | _,_,_,.cons a t,r=>by
  cases r with
  | cons r1 r2=>
   obtain ⟨as,h1⟩:=zr I f a r1
   obtain ⟨bs,h2⟩:=readss_of I f t r2
   exact ⟨_,.cons h1 h2⟩
end
end
section
variable {Y:Cy} {T:Tx} {k:Nat} {N G:List Str} {c:List Slot} {a b:Expr} {pos:Pos} {d1 d2:D}
def rEqD (K:W.Frag) (d1 d2:D) (v:Bool):R2:=fun x y H Q=>∃F,Same F H/\Rep K F x d1/\Rep K F y d2/\Q (.bl v) H
theorem Yo {X:Cx} (hu:X.A.units+64<cLine) (h1:SeqAt.shaped (toPy d1)=true) (h2:SeqAt.shaped (toPy d2)=true):OpR X (compareOp .Eq) (rEqD X.K d1 d2 (eqD d1 d2)):=by
 intro pins s σ H x y v u Q I rx ry ⟨F,f,r1,r2,q⟩
 obtain ⟨as,ra⟩:=zr I f r1 rx
 obtain ⟨bs,rb⟩:=zr I f r2 ry
 exact SeqAt.compareEq_shaped ra rb h1 h2 hu ⟨.bl _,H,I,rfl,q⟩
theorem UX {X:Cx} (hu:X.A.units+64<cLine) (h1:SeqAt.shaped (toPy d1)=true) (h2:SeqAt.shaped (toPy d2)=true):OpR X (compareOp .NotEq) (rEqD X.K d1 d2 (!eqD d1 d2)):=by
 intro pins s σ H x y v u Q I rx ry ⟨F,f,r1,r2,q⟩
 obtain ⟨as,ra⟩:=zr I f r1 rx
 obtain ⟨bs,rb⟩:=zr I f r2 ry
 exact SeqAt.compareNe_shaped ra rb h1 h2 hu ⟨.bl _,H,I,rfl,q⟩
theorem zD (S:Se Y T k N G) (ha:EvD Y a c d1) (hb:EvD Y b c d2) (h1:SeqAt.shaped (toPy d1)=true:=by rfl) (h2:SeqAt.shaped (toPy d2)=true:=by rfl):TeD Y (.Compare a [.Eq] [b] pos) c (eqD d1 d2):=
 qb (Yo S.room.units h1 h2) (nomark _) ha hb fun x y F H Q f rx ry q=>⟨F,f,rx,ry,q F H (Ext.refl f)⟩
theorem Ud (S:Se Y T k N G) (ha:EvD Y a c d1) (hb:EvD Y b c d2) (h1:SeqAt.shaped (toPy d1)=true:=by rfl) (h2:SeqAt.shaped (toPy d2)=true:=by rfl):TeD Y (.Compare a [.NotEq] [b] pos) c (!eqD d1 d2):=
 qb (UX S.room.units h1 h2) (nomark _) ha hb fun x y F H Q f rx ry q=>⟨F,f,rx,ry,q F H (Ext.refl f)⟩
theorem xaE (S:Se Y T k N G) (ha:EvD Y a c d1) (hb:EvD Y b c d2) (h1:SeqAt.shaped (toPy d1)=true:=by rfl) (h2:SeqAt.shaped (toPy d2)=true:=by rfl):EvD Y (.Compare a [.Eq] [b] pos) c (.bl (eqD d1 d2)):=
 zg (t:=tC .non) (ta:=tC .non) (tb:=tC .non) (vf (Yo S.room.units h1 h2) ha hb (nomark _)) fun x y F H Q f rx ry q=>⟨F,f,rx,ry,q _ F H (Ext.refl f) (.bl _)⟩
def isNon:D->Bool
 | .non=>true
 | _=>false
theorem KG {e:Expr} {d:D} {j pos'} (ha:EvD Y e c d):TeD Y (.Compare e [.Is] [.Constant .none j pos'] pos) c (isNon d):=
 PT.imp (Qa (K8 ha)) fun σ H Q ⟨F,E,q⟩=>⟨F,E,fun x F1 H1 e1 r1=>by
  cases r1<;>exact ⟨_,rfl,q F1 H1 e1⟩⟩
end
def AtV (T:Tx) (x:Str) (st:Stmt) (i:Int):Prop:=∃(f Td:Addr) (oc:Value) (od:Option Addr) (kV doc pm:Value) (an:Option Addr) (cdv ct:Value) (osl:Array (Option Value)) (tk:Tok) (o:Obj) (n:Nat),
 T.K.lookup f=some ⟨oc,od,.func (W.fnOf x x (defArgs st) (defBody st) (defScope st) (.ref Td) kV doc pm an cdv ct),osl⟩/\T.K.lookup Td=some o/\o.data= .seq #[.int i tk] n/\W.codeIn T.K cdv x=true/\W.keepIn T.K (.ref f)=true/\T.mg x=some (.ref f)
structure FnDd (T:Tx) (k:Nat) (x:Str) (i:Int) (R:List D->D->Prop):Prop where
 ex:∃(f:Addr) (fd:FuncData) (ps:List Str) (tk:Tok),T.mg x=some (.ref f)/\W.keepIn T.K (.ref f)=true/\Binds T.K fd ps [.int i tk]/\FnOk T.prog T.w T.K T.mg T.base CX0 k f fd ps (spD T.K R)
theorem jI {Y:Cy} {T:Tx} {k j:Nat} {N G:List Str} {c:List Slot} {e:Expr} {es:List Expr} {pos p:Pos} {d:D} {ds:List D} {i:Int} {R:List D->D->Prop} {x:Str} (S:Se Y T k N G) (gi:Nat) (Fn:FnDd T j x i R) (hj:j<=k) (ha:ArD Y (e::es) c ds) (hR:R (ds++ [.int i]) d) (hg:G[gi]? =some x:=by rfl)
  (he:starEach (e::es) Y.X.env=(false,eval e Y.X.env)::starEach es Y.X.env:=by rfl) (hpl:(backTo pos (starEach es Y.X.env)).any (·.1)=false:=by rfl):EvD Y (.Call (.Name x p) (e::es) [] pos) c d:=by
 obtain ⟨f,fd,ps,tk,hm,hk,hb,F⟩:=Fn.ex
 have F':FnOk Y.X.prog Y.X.w Y.X.K Y.X.mg Y.X.base CX0 j f fd ps (spD Y.X.K R):=by rw [S.eP,S.eW,S.eK,S.eM,S.eB];exact F
 have gl:=S.gl x (mz hg)
 refine PE.imp (wK F' (S.room.mono hj) gl.1 (by rw [S.eM];exact hm) (by rw [S.eK];exact hk) (by rw [S.eK];exact hb) (dvs:=[.int i]) (.cons ⟨tk,rfl⟩ .nil) pass0 ha gl.2.1 he hpl) fun σ H Q ⟨F,E,q⟩=>⟨F,E,fun vs F1 H1 e1 r1=>?_⟩
 show spD Y.X.K R (vs++ [.int i]) H1 Q E0
 exact ⟨F1,_,d,e1.fh,r1.append (.cons (.int i) .nil),hR,fun v F2 H2 e2 r2=>q v F2 H2 (e1.trans e2) r2⟩
def AtK (K:W.Frag) (x:Str) (st:Stmt):Prop:=∃(f:Addr) (oc kV dc pm cd ct:Value) (od an:Option Addr) (sl:Array (Option Value)),W.nsIn K mainGlobals x=some (some (.ref f))/\K.lookup f=some ⟨oc,od,.func (W.fnOf x x (defArgs st) (defBody st) (defScope st) .none kV dc pm an cd ct),sl⟩/\W.codeIn K cd x=true/\W.keepIn K (.ref f)=true
def MtK (K:W.Frag) (C:Addr) (x q:Str) (st:Stmt):Prop:=∃(f:Addr) (oc kV dc pm cd ct:Value) (od an:Option Addr) (sl:Array (Option Value)),W.findIn K (.ref C) x=some (some (.ref f))/\K.lookup f=some ⟨oc,od,.func (W.fnOf x q (defArgs st) (defBody st) (defScope st) .none kV dc pm an cd ct),sl⟩/\W.codeIn K cd q=true/\W.keepIn K (.ref f)=true/\W.isFn K (.ref f)=true
theorem atK_of {K:W.Frag} {x:Str} {st:Stmt} {f:Addr} {oc kV dc pm cd ct:Value} {od an:Option Addr} {sl:Array (Option Value)} (a:W.nsIn K mainGlobals x=some (some (.ref f))) (l:K.lookup f=some ⟨oc,od,.func (W.fnOf x x (defArgs st) (defBody st) (defScope st) .none kV dc pm an cd ct),sl⟩) (c:W.codeIn K cd x=true) (k:W.keepIn K (.ref f)=true):AtK K x st:=⟨f,oc,kV,dc,pm,cd,ct,od,an,sl,a,l,c,k⟩
theorem mtK_of {K:W.Frag} {C:Addr} {x q:Str} {st:Stmt} {f:Addr} {oc kV dc pm cd ct:Value} {od an:Option Addr} {sl:Array (Option Value)} (a:W.findIn K (.ref C) x=some (some (.ref f))) (l:K.lookup f=some ⟨oc,od,.func (W.fnOf x q (defArgs st) (defBody st) (defScope st) .none kV dc pm an cd ct),sl⟩) (c:W.codeIn K cd q=true) (k:W.keepIn K (.ref f)=true) (e:W.isFn K (.ref f)=true):MtK K C x q st:=⟨f,oc,kV,dc,pm,cd,ct,od,an,sl,a,l,c,k,e⟩
theorem xbv {pr:Program} {w:World} {K:W.Frag} {h base:Heap} {mg:Str->Option Value} {x:Str} {st:Stmt} (X:K.In h) (G:h.Ns mainGlobals mg) (a:AtK K x st):At ⟨pr,w,K,mg,base⟩ x st:=
 let ⟨_,_,_,_,_,_,_,_,_,_,h1,h2,h3,h4⟩:=a
 ⟨_,_,uT (st:=st) h2 h3 h4,W.mg_of X G h1⟩
theorem Zk {K:W.Frag} {mg:Str->Option Value} {C:Addr} {cn x q:Str} {st:Stmt} (hm:mg cn=some (.ref C)) (a:MtK K C x q st):∃C f fd,mg cn=some (.ref C)/\Meth K C x f/\Fun K x q st f fd:=
 let ⟨_,_,_,_,_,_,_,_,_,_,h1,h2,h3,h4,h5⟩:=a
 ⟨_,_,_,hm,⟨h1,h5,h4⟩,uT (st:=st) h2 h3 h4⟩
theorem Kr {K:W.Frag} {mg:Str->Option Value} {C:Addr} {cn q:Str} {st:Stmt} (dm:W.makesIn K C=true) (dp:W.keepIn K (.ref C)=true) (hm:mg cn=some (.ref C)) (a:MtK K C "__init__" q st):∃C f fd,mg cn=some (.ref C)/\Mk K C f/\Fun K "__init__" q st f fd:=
 let ⟨_,_,_,_,_,_,_,_,_,_,h1,h2,h3,h4,h5⟩:=a
 ⟨_,_,_,hm,⟨dm,h1,h5,dp⟩,uT (st:=st) h2 h3 h4⟩
def IsN (T:Tx) (a b:Str) (v:Bool):Prop:=∀C C',T.mg a=some (.ref C)->T.mg b=some (.ref C')->W.kitOne T.K (.ref C) (.ref C')=some v
def ExN (T:Tx) (a b:Str) (v:Bool):Prop:=∀C C',T.mg a=some (.ref C)->T.mg b=some (.ref C')->W.exmOne T.K (.ref C) (.ref C')=some v
def VeN (T:Tx) (a:Str):Prop:=∀C,T.mg a=some (.ref C)->W.kitOne T.K (.ref C) (.type "ValueError")=some true
section
variable {pr:Program} {w:World} {K:W.Frag} {h base:Heap} {mg:Str->Option Value} {a b:Str} {C C':Addr} {v:Bool} (X:K.In h) (G:h.Ns mainGlobals mg) (g1:W.nsIn K mainGlobals a=some (some (.ref C)))
include X G g1
theorem xas (g2:W.nsIn K mainGlobals b=some (some (.ref C'))) (e:W.kitOne K (.ref C) (.ref C')=some v):IsN ⟨pr,w,K,mg,base⟩ a b v:=fun _ _ h1 h2=>by
 cases h1.symm.trans (W.mg_of X G g1);cases h2.symm.trans (W.mg_of X G g2);exact e
theorem xay (g2:W.nsIn K mainGlobals b=some (some (.ref C'))) (e:W.exmOne K (.ref C) (.ref C')=some v):ExN ⟨pr,w,K,mg,base⟩ a b v:=fun _ _ h1 h2=>by
 cases h1.symm.trans (W.mg_of X G g1);cases h2.symm.trans (W.mg_of X G g2);exact e
theorem KB (e:W.kitOne K (.ref C) (.type "ValueError")=some true):VeN ⟨pr,w,K,mg,base⟩ a:=fun _ h1=>by
 cases h1.symm.trans (W.mg_of X G g1);exact e
end
end DL
namespace DL
open PySem L2 PySem.W PySem.Spec PySem.Calls PyProof.Rows Builtin Builtin.ObjectAttr Builtin.Getset_descriptor
section
variable {prog:Program} {w:World} {A:Around} {E:Value->Shared->Prop} {K:W.Frag} {x D:Addr} {o:Obj}
structure ExcK (K:W.Frag) (D:Addr):Prop where
 ga:findIn K (.ref D) "__getattribute__" =some (some (.builtin "BaseException.__getattribute__"))
 gt:findIn K (.ref D) "__getattr__" =some none
 ca:findIn K (.ref D) "__class__" =some (some (.builtin "object.__class__"))
 cg:specialIn K (.builtin "object.__class__") "__get__" =some (some (.builtin "getset_descriptor.__get__"))
 tk:takesIn K (.builtin "object.__class__")=some true
 mo:mroIn K D (.type "object")=some true
 mb:mroIn K D (.type "BaseException")=some true
 cl:(clsIn K D).isSome=true
noncomputable def excKb (K:W.Frag) (D:Addr):Bool:=
 findIn K (.ref D) "__getattribute__" ==some (some (.builtin "BaseException.__getattribute__")) && (findIn K (.ref D) "__getattr__" ==some none && (findIn K (.ref D) "__class__" ==some (some (.builtin "object.__class__")) &&
 (specialIn K (.builtin "object.__class__") "__get__" ==some (some (.builtin "getset_descriptor.__get__")) && (takesIn K (.builtin "object.__class__")==some true && (mroIn K D (.type "object")==some true && (mroIn K D (.type "BaseException")==some true && (clsIn K D).isSome))))))
theorem JG {K:W.Frag} {D:Addr} (h:excKb K D=true):ExcK K D:=by
 unfold excKb at h
 simp only [Bool.and_eq_true,beq_iff_eq] at h
 obtain ⟨a,b,c,d,e,f,g,i⟩:=h
 exact ⟨a,b,c,d,e,f,g,i⟩
theorem Xp {s:Shared} {R:Result->Shared->Prop} {tp:Value} (X:K.In s.heap) (hx:s.heap.get? x=some o) (hc:o.cls= .ref D) (hm:mroIn K D (.type "object")=some true)
  (h:R (.ok (.ret (.ref D))) s):codeAny (model prog w) A (.call (.builtin "getset_descriptor.__get__") ⟨[.builtin "object.__class__",.ref x,tp],[]⟩) R s:=by
 obtain ⟨hh,g,dr,t,os⟩:=s
 have L0:Looks (model prog w) hh (typeOf (.ref x)) (.ref D):=hc▸(Looks.ld hx).andThen .now
 have L1:=looks_mroIn (M:=model prog w) X hm
 refine codeAny_call_builtin KF.slot_gs.plain KF.entry_gs (KF.slot_gs.check _ _ _ _ _ _ _ _ KF.type_class (KF.args_gs _ _ _) ?_)
 unfold Builtin.«getset_descriptor.__get__» descrGet
 rw [dga_obj]
 refine wpAny_bind (wpAny_pure ?_)
 unfold descrGetter descrCheckInstance descrNameAndClass isInstance
 simp only [KF.owner_class]
 repeat lk
 refine ⟨Code.quiet_builtin _ (by decide+kernel),codeAny_builtin KF.entry_class ?_⟩
 unfold Builtin.«object.__class__» shownTypeOf
 repeat lk
 exact h
theorem WE {s:Shared} {Q:Option Value->Shared->Prop} (X:K.In s.heap) (Z:ExcK K D) (hx:s.heap.get? x=some o) (hc:o.cls= .ref D)
  (h:Q (some (.ref D)) { s with toks:=s.toks+1 }):wpAny (model prog w) A (getAttr? (.ref x) "__class__") Q E s:=by
 obtain ⟨hh,g,d,t,os⟩:=s
 have L0:Looks (model prog w) hh (typeOf (.ref x)) (.ref D):=hc▸(Looks.ld hx).andThen .now
 have L1:=looks_findIn (M:=model prog w) X Z.ga
 have L2:=looks_findIn (M:=model prog w) X Z.gt
 have L3:=looks_findIn (M:=model prog w) X Z.ca
 have L5:=looks_mroIn (M:=model prog w) X Z.mb
 have LI:Looks (model prog w) hh (isInstance (.ref x) (.type "BaseException")) true:=L0.andThen L5
 unfold getAttr? getAttrBy? getAttrBy
 refine wpAny_bind (wpAny_mkText (wpAny_bind (wpAny_attempt (wpAny_holding (wpAny_bind (L0.at (wpAny_bind (L1.at ?_))))))))
 show wpAny _ _ (getAttrByItsOwn _ _ _ _ _ _) _ _ _
 unfold getAttrByItsOwn hookBefore
 refine wpAny_bind (L2.at (wpAny_bind (wpAny_attempt (wpAny_holding ?_))))
 show wpAny _ _ (boundAndCalled _ _ _) _ _ _
 unfold boundAndCalled
 rw [PySem.F.excAttr_ValueError.ga.bind (.ref x)]
 refine wpAny_bind (wpAny_pure (wpAny_call (codeAny_call_builtin PySem.F.excAttr_ValueError.ga.plain F.entry_bexc_ga ?_)))
 have hk:builtinKind "BaseException.__getattribute__" =some .slot:=by decide+kernel
 have hsplit:splitId "BaseException.__getattribute__" =some ("BaseException","__getattribute__"):=by decide+kernel
 have hargs:=F.args_bexc_ga (.ref x) (Value.str (Str.ofString "__class__") t)
 have hfind:Looks (model prog w) hh (find (.ref x) (.ref D) "__class__") (.bind (.builtin "getset_descriptor.__get__") (.builtin "object.__class__")):=by
  have G1:=looks_specialIn (M:=model prog w) X Z.cg
  have G2:=looks_takesIn (M:=model prog w) X Z.tk
  refine L3.andThen (G1.andThen ?_)
  exact (show Looks (model prog w) hh (dataDescriptor? (some (.builtin "object.__class__")) (some (.builtin "getset_descriptor.__get__"))) (some (.builtin "getset_descriptor.__get__",.builtin "object.__class__")) from G2.andThen .now).andThen (Looks.tag .now)
 simp only [checkBuiltinCall,hk,hsplit]
 refine wpAny_bind (LI.at ?_)
 simp only [Bool.not_true,Bool.false_eq_true,if_false]
 have body:∀(A':Around) (Q':Fin->Shared->Prop) (E':Value->Shared->Prop),Q' (.done (.ret (.ref D))) ⟨hh,g,d,t+1,os⟩->wpAny (model prog w) A' (Builtin.«object.__getattribute__» ⟨[.ref x,.str "__class__" t],[]⟩) Q' E' ⟨hh,g,d,t+1,os⟩:=by
  intro A' Q' E' hq
  unfold Builtin.«object.__getattribute__»
  repeat lk
  refine wpAny_run (h:=none) (Xp (s:=⟨hh,g,d,t+1,os⟩) X hx hc Z.mo ?_)
  exact wpAny_pure (wpAny_pure hq)
 refine wpAny_of_eq (a:=()) hargs (body _ _ _ ?_)
 show wpAny (model prog w) A (handedOut (.ref D)) _ _ _
 exact wpAny_of_eq (handedOut_of rfl) (wpAny_pure h)
theorem jg {dx:Option Addr} (Z:ExcK K D):KitX K (.ref x) (.ref D) (ExcAt D dx x) where
 ty:=fun _ _ _ ⟨o,_,h1,h2,_⟩=>h2▸(Looks.ld h1).andThen .now
 it:=fun _ _ X _=>by
  obtain ⟨cdD,hcD⟩:=Option.isSome_iff_exists.mp Z.cl
  unfold clsIn at hcD
  split at hcD
  ·rename_i c' d' cd' sl' ho
   intro A' Q' E' s' k q
   unfold isType loadHead
   exact wpAny_bind (wpAny_loadPart (k _ _ (X _ _ ho)) (wpAny_pure q))
  ·cases hcD
 ne:=fun h tp dd its n sl X htp=>by
  obtain ⟨cdD,hcD⟩:=Option.isSome_iff_exists.mp Z.cl
  refine Bool.eq_false_iff.mpr fun q=>?_
  have e:D=tp:=Value.ref.inj (beq_iff_eq.mp q)
  subst e
  unfold clsIn at hcD
  split at hcD
  ·rename_i c' d' cd' sl' ho
   have z:=(X _ _ ho).symm.trans htp
   cases z
  ·cases hcD
 ca:=fun X ⟨o,_,h1,h2,_⟩ k=>WE X Z h1 h2 k
end
end DL
namespace DL
open PySem L2
theorem _root_.L2.ObjOk.there {P:Program} {w:World} {H:Hp} {h:Heap} {a:Addr} {o:HO} (x:ObjOk P w H h a o):∃ob,h.get? a=some ob:=by
 cases o with
 | lst xs=>obtain ⟨_,_,_,_,e⟩:=x;exact ⟨_,e⟩
 | tup xs=>obtain ⟨_,_,_,ob,e,_⟩:=x;exact ⟨_,e⟩
 | dK kvs=>obtain ⟨_,_,_,_,o,_,_,e,_⟩:=x;exact ⟨_,e⟩
 | dT kvs=>obtain ⟨_,_,_,_,o,_,_,e,_⟩:=x;exact ⟨_,e⟩
 | set S n=>obtain ⟨o,_,_,_,e,_⟩:=x;exact ⟨_,e⟩
 | ins C dx fs=>obtain ⟨_,_,_,e,_⟩:=x;exact ⟨_,e⟩
 | own y=>obtain ⟨_,e⟩:=x;exact ⟨_,e⟩
 | xd fs=>obtain ⟨_,⟨_,_,_,e,_⟩,_⟩:=x;exact ⟨_,e⟩
 | rng lo hi=>obtain ⟨_,_,_,e⟩:=x;exact ⟨_,e⟩
 | frz ob u=>obtain ⟨e,_⟩:=x;exact ⟨_,e⟩
 | tbl ps=>exact ⟨_,(show h.get? a=some _ from x)⟩
 | met f y=>exact ⟨_,(show h.get? a=some _ from x)⟩
 | ext φ=>obtain ⟨_,⟨_,e⟩,_⟩:=x;exact ⟨_,e⟩
def Kpt (B:Heap) (outer:List PySem.Env) (H:Hp) (s h:Heap):Prop:=∀b o,h.get? b=some o->(H b≠none∨(s.get? b≠none/\b∉frs outer))->B.get? b=some o
theorem wX {P:Program} {w:World} {B:Heap} {outer:List PySem.Env} {H H':Hp} {s h1 h2:Heap} (U:Un (frs outer) [] H H' s h1) (K:Kpt B outer H' s h1) (hk:HOk P w H' h1) (fr:h1.FunFrames B outer) (fu:∀b∈frs outer,H' b=none)
  (st:B.StaysIn h2) (up:∀b∈frs outer,∀o,h1.get? b=some o->(∀vs,o.data≠ .fields vs)->∃sl,h2.get? b=some { o with slots:=sl }):Un (frs outer) [] H H' s h2/\HOk P w H' h2/\Kpt B outer H' s h2:=by
 have frame:∀b o,b∈frs outer->h1.get? b=some o->∃sl,h2.get? b=some { o with slots:=sl }:=fun b o hb e=>by
  obtain ⟨_,o',ho,hd⟩:=fr.mem hb
  rw [e] at ho;cases ho
  exact up b hb o e hd
 refine ⟨⟨fun b o e n hb hx=>?_,fun b o e n hb hx=>?_,U.free,fun b o e hx=>?_,U.tups,U.frzs,U.tbls⟩,fun a o e=>?_,fun b o e c=>?_⟩
 ·exact st _ _ (K b o (U.keep b o e n hb hx) (.inr ⟨by rw [e];exact (fun z=>nomatch z),hb⟩))
 ·obtain ⟨sl,e1⟩:=U.slot b o e n hb hx
  obtain ⟨sl',e2⟩:=frame b _ hb e1
  exact ⟨sl',e2⟩
 ·obtain ⟨o',e1⟩:=U.there b o e hx
  by_cases hb:b∈frs outer
  ·obtain ⟨sl,e2⟩:=frame b _ hb e1
   exact ⟨_,e2⟩
  ·exact ⟨o',st _ _ (K b o' e1 (.inr ⟨by rw [e];exact (fun z=>nomatch z),hb⟩))⟩
 ·refine (hk a o e).stay (fun b u hb q=>?_) (fun _ q=>q) fun _ _ q=>q
  refine st _ _ (K b u q (.inl ?_))
  rcases hb with rfl | hb
  ·rw [e];exact fun z=>nomatch z
  ·rw [hb];exact fun z=>nomatch z
 ·have ex:∃o',h1.get? b=some o':=by
   rcases c with c | ⟨c,_⟩
   ·cases q:H' b with
    | none=>exact absurd q c
    | some u=>exact (hk b u q).there
   ·cases q:s.get? b with
    | none=>exact absurd q c
    | some u=>exact U.there b u q (by simp)
  obtain ⟨o',e1⟩:=ex
  have k:=K b o' e1 c
  have z:=st _ _ k
  rw [e] at z;cases z
  exact k
theorem qZ {P:Program} {w:World} {B:Heap} {outer:List PySem.Env} {H H':Hp} {s h1 h2:Heap} (U:Un (frs outer) [] H H' s h1) (K:Kpt B outer H' s h1) (hk:HOk P w H' h1) (fr:h1.FunFrames B outer) (fu:∀b∈frs outer,H' b=none)
  (st:B.StaysIn h2) (up:h1.UpToSlots h2):Un (frs outer) [] H H' s h2/\HOk P w H' h2/\Kpt B outer H' s h2:=wX U K hk fr fu st fun b _ o e n=>up b o e n
structure Lies (P:Program) (w:World) (outer:List PySem.Env) (H:Hp) (s:Shared) (a C:Addr) (H':Hp) (s':Shared):Prop where
 os:s'.os=s.os
 bare:PyProof.Rows.AllBare s'.gens
 un:Un (frs outer) [] H H' s.heap s'.heap
 hok:HOk P w H' s'.heap
 new:s.heap.get? a=none
 fu:∀b∈frs outer,H' b=none
 fly:∃B a0,Heap.FlyingW B outer a (.ref C) a0 s'.heap/\Kpt B outer H' s.heap s'.heap
def CXE (P:Program) (w:World):CXT:=fun outer H s E e s'=>∃a C H',e= .ref a/\Lies P w outer H s a C H' s'/\E (.ref C) none H'
structure RzM (Y:Cy) (C:Addr) (c:List Slot):Prop where
 made:∀{pins:List (Addr×Obj)} {σ:St} {F H:Hp} {s:Shared} {h':Heap} {e:Addr} {vs:List Value},Inv Y.X pins σ H s->EnvY Y F H σ c->Heap.MadeExcOf s.heap h' e (.ref C) vs->Y.X.xe (.ref e) { s with heap:=h' }
structure Rz (Y:Cy) (C:Addr) (c:List Slot):Prop where
 fly:∀{pins:List (Addr×Obj)} {σ:St} {F H F' H':Hp} {s s':Shared} {e:Addr},Inv Y.X pins σ H s->EnvY Y F H σ c->Same F F'->EnvY Y F' H' σ c->Lies Y.X.prog Y.X.w Y.X.stack H s e C H' s'->Y.X.xe (.ref e) s'
theorem xaj {X:Cx} {pins:List (Addr×Obj)} {σ:St} {H:Hp} {s:Shared} (I:Inv X pins σ H s) (hx:X.ex=[]):Kpt (W.hideAll s.heap (frs X.stack)) X.stack H s.heap s.heap:=fun b o e c=>by
 refine W.hideAll_get _ e fun hb=>?_
 rcases c with c | ⟨_,c⟩
 ·exact c (I.stkFree b hb)
 ·exact c hb
theorem Qz {X:Cx} {pins:List (Addr×Obj)} {σ:St} {H H':Hp} {s:Shared} {B h:Heap} (I:Inv X pins σ H s) (hx:X.ex=[]) (hs:X.stack=X.env::X.outer/\X.env.frame=some X.env.locals) (K:Kpt B X.stack H' s.heap h):Kpt B X.outer H' X.s₀.heap h:=fun b o e c=>by
 refine K b o e ?_
 rcases c with c | ⟨c1,c2⟩
 ·exact .inl c
 ·refine .inr ⟨fun z=>?_,fun hb=>?_⟩
  ·cases q:X.s₀.heap.get? b with
   | none=>exact c1 q
   | some u=>
    obtain ⟨o',e'⟩:=I.base.there b u q (by rw [hx];simp)
    rw [z] at e';cases e'
  ·rw [hs.1] at hb
   unfold frs at hb
   rw [List.filterMap_cons,hs.2] at hb
   rcases List.mem_cons.mp hb with rfl | hb
   ·cases q:X.s₀.heap.get? X.env.locals with
    | none=>exact c1 q
    | some u=>exact absurd (mE (Heap.lt_size q) I.ok.above) (Nat.lt_irrefl _)
   ·exact c2 hb
theorem uJ {X:Cx} {pins:List (Addr×Obj)} {σ:St} {H:Hp} {s:Shared} {a:Addr} (I:Inv X pins σ H s) (hx:X.ex=[]) (n:s.heap.get? a=none):X.s₀.heap.get? a=none:=by
 cases q:X.s₀.heap.get? a with
 | none=>rfl
 | some u=>
  obtain ⟨o',e'⟩:=I.base.there a u q (by rw [hx];simp)
  rw [n] at e';cases e'
theorem zX {X:Cx} {pins:List (Addr×Obj)} {σ:St} {H:Hp} {s:Shared} {h':Heap} {e C:Addr} {vs:List Value} {Q:Unit->Shared->Prop} {E:Value->Shared->Prop} (I:Inv X pins σ H s) (hx:X.ex=[]) (hs:X.stack=X.env::X.outer/\X.env.frame=some X.env.locals)
  (M:Heap.MadeExcOf s.heap h' e (.ref C) vs) (hQ:∀s',Lies X.prog X.w X.outer X.H₀ X.s₀ e C H s'->Q () s'):wpAny (model X.prog X.w) X.A (leaving X.env (.ref e)) Q E { s with heap:=h' }:=by
 have hin:∀env∈X.stack,∀b,env.frame=some b->b∈frs X.stack:=fun env he b hb=>List.mem_filterMap.mpr ⟨env,he,hb⟩
 have fr:=W.funFrames_hide (as:=frs X.stack) I.stack hin
 have fro:s.heap.FunFrames (W.hideAll s.heap (frs X.stack)) X.outer:=by have:=fr;rw [hs.1] at this;rw [hs.1];exact this.2.2
 refine wpAny_leaves_madeW (base:=W.hideAll s.heap (frs X.stack)) (by rw [I.ok.frames,hs.1]) hs.2 (fun b o q=>W.of_hideAll _ q) (by rw [<-hs.1];exact fr) M fun h2 t fl _ _ up=>?_
 have ub:Un (frs X.outer) [] X.H₀ H X.s₀.heap s.heap:=by have:=I.base;rw [hx] at this;exact this
 have fu:∀b∈frs X.outer,H b=none:=fun b hb=>I.stkFree b (by rw [hs.1];unfold frs;rw [List.filterMap_cons,hs.2];exact .tail _ hb)
 obtain ⟨u2,k2,kp⟩:=qZ ub (Qz I hx hs (xaj I hx)) I.hok fro fu fl.1 ((Heap.UpToSlots.of_keeps M.keeps).trans up)
 exact hQ _ ⟨I.os,I.bare,u2,k2,uJ I hx M.new,fu,_,_,fl,kp⟩
theorem qt {X:Cx} {pins:List (Addr×Obj)} {σ:St} {H H':Hp} {s s':Shared} {e C:Addr} {Q:Unit->Shared->Prop} {E:Value->Shared->Prop} (I:Inv X pins σ H s) (hx:X.ex=[]) (hs:X.stack=X.env::X.outer/\X.env.frame=some X.env.locals)
  (L:Lies X.prog X.w X.stack H s e C H' s') (hQ:∀s',Lies X.prog X.w X.outer X.H₀ X.s₀ e C H' s'->Q () s'):wpAny (model X.prog X.w) X.A (leaving X.env (.ref e)) Q E s':=by
 obtain ⟨B,a0,fl,kp⟩:=L.fly
 have I':Inv X pins σ H' s':=I.call' (ch:=[]) L.os L.un L.hok L.bare (fun _ z=>nomatch z)
 refine wpAny_leaves_onW (by rw [I.ok.frames,hs.1]) hs.2 (by rw [<-hs.1];exact fl) fun h2 fl2 up=>?_
 have ub:Un (frs X.outer) [] X.H₀ H' X.s₀.heap s'.heap:=by have:=I'.base;rw [hx] at this;exact this
 have fu:∀b∈frs X.outer,H' b=none:=fun b hb=>L.fu b (by rw [hs.1];unfold frs;rw [List.filterMap_cons,hs.2];exact .tail _ hb)
 have fro:s'.heap.FunFrames B X.outer:=by have:=fl.2.2.1;rw [hs.1] at this;exact this.2.2
 obtain ⟨u2,k2,kp2⟩:=qZ ub (Qz I hx hs kp) L.hok fro fu fl2.1 up
 exact hQ { s' with heap:=h2 } ⟨I'.os,L.bare,u2,k2,uJ I hx L.new,fu,_,_,fl2,kp2⟩
inductive Rs where
 | ok (d:D) | ex (x:Str)
def spX (T:Tx) (R:List D->Rs->Prop):Sp:=fun vs H Q E=>∃F ds r,Same F H/\Reps T.K F vs ds/\R ds r/\(match r with
 | .ok d=>∀v F' H',Ext F H F' H'->Rep T.K F' v d->Q v H'
 | .ex x=>∀C F' H',T.mg x=some (.ref C)->Ext F H F' H'->E (.ref C) none H')
structure FnX (T:Tx) (k:Nat) (x:Str) (R:List D->Rs->Prop):Prop where
 ex:∃(f:Addr) (fd:FuncData) (ps:List Str),T.mg x=some (.ref f)/\W.keepIn T.K (.ref f)=true/\Binds T.K fd ps []/\FnOk T.prog T.w T.K T.mg T.base (CXE T.prog T.w) k f fd ps (spX T R)
def RzN (Y:Cy) (T:Tx) (x:Str) (c:List Slot):Prop:=∀C,T.mg x=some (.ref C)->Rz Y C c
def RzMN (Y:Cy) (T:Tx) (x:Str) (c:List Slot):Prop:=∀C,T.mg x=some (.ref C)->RzM Y C c
def RetX:Rs->Out->Prop
 | .ok d=>Ret d
 | .ex _=>fun _=>False
def tX (Y:Cy) (c:List Slot):TE:=fun σ H _=>∃F,EnvY Y F H σ c
def EvX (Y:Cy) (e:Expr) (c:List Slot):Prop:=PE Y.X e (tX Y c)
def tXA (Y:Cy) (c:List Slot):TA:=fun σ H _=>∃F,EnvY Y F H σ c
def ArX (Y:Cy) (es:List Expr) (c:List Slot):Prop:=PA Y.X es (tXA Y c)
section
variable {Y:Cy} {T:Tx} {k j:Nat} {N G ps:List Str} {c:List Slot} {e:Expr} {es:List Expr} {pos p:Pos} {d:D} {ds:List D} {R:List D->Rs->Prop} {x qual y:Str} {P:Out->Prop} {rest:List Stmt}
theorem xbo {st:Stmt} {f:Addr} {fd:FuncData} (F:Fun T.K x qual st f fd) (B:ScB N ps G (defScope st)) (hlen:∀ds d,R ds d->ds.length=ps.length)
  (body:∀(Y:Cy) (S:Sc Y T k N G) (Z:Fx Y st) (ds:List D) (r:Rs),R ds r->(∀y,r= .ex y->∀c,RzN Y T y c/\RzMN Y T y c)->SsD Y (defBody st) (ctx0 N ds) (RetX r)):FnOk T.prog T.w T.K T.mg T.base (CXE T.prog T.w) (k+1) f fd ps (spX T R):=by
 obtain ⟨oc,od,kV,doc,pm,an,cdv,ct,osl,rfl,lk,hcd⟩:=F.ex
 refine XL lk hcd B.fs (fun vs H Q E h=>?_) fun A outer s H vs Q E hr h=>?_
 ·obtain ⟨F0,ds,d,_,r,hR,_⟩:=h
  rw [r.length];exact hlen ds d hR
 ·obtain ⟨F0,ds,r,f0,rs,hR,q⟩:=h
  have S:Sc ⟨cxOf (CXE T.prog T.w) T.prog T.w T.K T.mg T.base N qual (defScope st) f cdv A outer s H E,F0,H⟩ T k N G:=
   ⟨⟨⟨rfl,rfl,rfl,rfl,rfl,rfl,B.fs.nd,B.loc,B.gl⟩,rfl,hr⟩,fun _=>rfl,PassesOwn.leaving⟩
  refine ⟨_,body _ S ⟨rfl,rfl,rfl,rfl⟩ ds r hR (fun y hy c=>?_),F0,qI f0 rs,fun o ho=>?_⟩
  ·subst hy
   have q:∀C F' H',T.mg y=some (.ref C)->Ext F0 H F' H'->E (.ref C) none H':=q
   exact ⟨fun C hC=>⟨fun I _ _ En L=>qt I rfl ⟨rfl,rfl⟩ L fun s' L=>⟨_,C,_,rfl,L,q C _ _ hC En.ext⟩⟩,fun C hC=>⟨fun I En M=>zX I rfl ⟨rfl,rfl⟩ M fun s' L=>⟨_,C,_,rfl,L,q C _ _ hC En.ext⟩⟩⟩
  ·cases r with
   | ex y=>exact False.elim ho
   | ok d=>
    have q:∀v F' H',Ext F0 H F' H'->Rep T.K F' v d->Q v H':=q
    cases o with
    | rt e=>cases ho;exact fun v F' H' _ x r'=>q v F' H' x r'
    | nx c=>cases ho;exact fun σ F' H' _ E'=>q .non F' H' E'.ext .non
    | bk c=>exact False.elim ho
    | ct c=>exact False.elim ho
    | ro ds=>exact False.elim ho
    | rs R=>exact False.elim ho
theorem zj {st:Stmt} (A:At T x st) (B:ScB N ps G (defScope st)) (hb:∀f fd,Fun T.K x x st f fd->Binds T.K fd ps []) (hlen:∀ds d,R ds d->ds.length=ps.length)
  (body:∀(Y:Cy) (S:Sc Y T k N G) (Z:Fx Y st) (ds:List D) (r:Rs),R ds r->(∀y,r= .ex y->∀c,RzN Y T y c/\RzMN Y T y c)->SsD Y (defBody st) (ctx0 N ds) (RetX r)):FnX T (k+1) x R:=
 let ⟨f,fd,F,hm⟩:=A
 ⟨f,fd,ps,hm,F.kp,hb f fd F,xbo F B hlen body⟩
theorem xM (S:Se Y T k N G) (gi:Nat) (Fn:FnX T j x R) (hj:j<=k) (ha:ArD Y (e::es) c ds) (hR:R ds (.ok d)) (hg:G[gi]? =some x:=by rfl)
  (he:starEach (e::es) Y.X.env=(false,eval e Y.X.env)::starEach es Y.X.env:=by rfl) (hpl:(backTo pos (starEach es Y.X.env)).any (·.1)=false:=by rfl):EvD Y (.Call (.Name x p) (e::es) [] pos) c d:=by
 obtain ⟨f,fd,ps,hm,hk,hb,F⟩:=Fn.ex
 have F':FnOk Y.X.prog Y.X.w Y.X.K Y.X.mg Y.X.base (CXE Y.X.prog Y.X.w) j f fd ps (spX T R):=by rw [S.eP,S.eW,S.eK,S.eM,S.eB];exact F
 have gl:=S.gl x (mz hg)
 refine PE.imp (wK (E:=E0) F' (S.room.mono hj) gl.1 (by rw [S.eM];exact hm) (by rw [S.eK];exact hk) (by rw [S.eK];exact hb) .nil (fun _ _ _ _ _ _ _ ⟨_,_,_,_,_,z⟩=>z.elim) ha gl.2.1 he hpl) fun σ H Q ⟨F,E,q⟩=>⟨F,E,fun vs F1 H1 e1 r1=>?_⟩
 show spX T R (vs++ []) H1 Q E0
 rw [List.append_nil]
 refine ⟨F1,ds,.ok d,e1.fh,by rw [<-S.eK];exact r1,hR,fun v F2 H2 e2 r2=>q v F2 H2 (e1.trans e2) (by rw [<-S.eK] at r2;exact r2)⟩
theorem xI (S:Se Y T k N G) (gi:Nat) (Fn:FnX T j x R) (hj:j<=k) (ha:ArD Y (e::es) c ds) (hR:R ds (.ex y)) (hz:RzN Y T y c) (hg:G[gi]? =some x:=by rfl)
  (he:starEach (e::es) Y.X.env=(false,eval e Y.X.env)::starEach es Y.X.env:=by rfl) (hpl:(backTo pos (starEach es Y.X.env)).any (·.1)=false:=by rfl):EvX Y (.Call (.Name x p) (e::es) [] pos) c:=by
 obtain ⟨f,fd,ps,hm,hk,hb,F⟩:=Fn.ex
 have F':FnOk Y.X.prog Y.X.w Y.X.K Y.X.mg Y.X.base (CXE Y.X.prog Y.X.w) j f fd ps (spX T R):=by rw [S.eP,S.eW,S.eK,S.eM,S.eB];exact F
 have gl:=S.gl x (mz hg)
 intro pins s σ H Q I ⟨F0,E⟩
 refine wpAny_Call_Name_kw (yz I gl.1 (by rw [S.eM];exact hm) ?_ gl.2.1)
 refine W.callWith_K (h₀:=Y.X.base) I.ok.mod.kin (by rw [S.eK];exact hk) (thn (ha pos pins s σ H (fun vs H1=>∃F1,Ext F0 H F1 H1/\Reps Y.X.K F1 vs ds) I ⟨F0,E,fun vs F1 H1 e1 r1=>⟨F1,e1,r1⟩⟩) fun us s1 ⟨vs,H1,I1,r,F1,e1,rs⟩=>⟨I1.kIn,?_⟩) he hpl
 have h:spX T R vs H1 (fun _ _=>False) (fun cls _ H'=>∃C F',cls= .ref C/\T.mg y=some (.ref C)/\Ext F1 H1 F' H'):=
  ⟨F1,ds,.ex y,e1.fh,by rw [<-S.eK];exact rs,hR,fun C F' H' hC ex=>⟨C,F',rfl,hC,ex⟩⟩
 have hl:us.length=ps.length:=by rw [<-r.length];exact F'.len _ _ _ _ h
 have hb':Binds Y.X.K fd ps []:=by rw [S.eK];exact hb
 have hb2:=hb' s1 us I1.kIn (by rw [List.append_nil];exact hl)
 rw [List.append_nil] at hb2
 refine wpAny_call (codeAny_mono (F'.run Y.X.A Y.X.stack s1 H1 ⟨us,[]⟩ us vs _ _ (S.room.mono hj) I1.env0 hb2 r h) fun r s' hq=>?_)
 cases r with
 | error e=>
  obtain ⟨a,C,H',rfl,L,C',F',z,hC,ex⟩:=hq
  cases z
  exact (hz C hC).fly I1 (E.grow e1) ex.ff ((E.grow e1).grow ex) L
 | ok fl=>
  cases fl with
  | ret u=>obtain ⟨_,_,_,_,_,_,_,z⟩:=hq;exact z.elim
  | next=>exact False.elim hq
  | brk=>exact False.elim hq
  | cont=>exact False.elim hq
theorem xZ (h:EvX Y e c):SsD Y (.Return (some e) pos::rest) c P:=xF (PS.imp (Yl h) fun D σ H ⟨F,E,_⟩=>⟨F,E⟩)
theorem yT {x:Str} {pos':Pos} (S:Sc Y T k N G) (i:Nat) (he:EvX Y e c) (hi:N[i]? =some x:=by rfl) (hs:swapsWith e (some (.Name x pos')) pos.line Y.X.env=pure false:=by rfl):SsD Y (.Assign [.Name x pos'] e pos::rest) c P:=by
 have hx:=S.loc x (mz hi)
 have hN:=S.nd
 rw [<-S.n] at hi hN
 exact xF (PS.imp (qO hN hi hx.1 he hs (.inl (S.fn x))) fun D σ H ⟨F,E,_⟩=>⟨F,E⟩)
theorem Uq (he:EvX Y e c) (hs:swapsWith e none pos.line Y.X.env=pure false:=by rfl):SsD Y (.Expr e pos::rest) c P:=
 xF (PS.imp (vb he hs) fun D σ H ⟨F,E,_⟩=>⟨F,E⟩)
theorem Xt (ha:EvX Y e c) (hr:PA Y.X es (fun _ _ _=>False)) (hs:starEach (e::es) Y.X.env=(false,eval e Y.X.env)::starEach es Y.X.env:=by rfl):ArX Y (e::es) c:=
 PA.imp (xQ ha hr hs) fun σ H Q ⟨F,E⟩=>⟨F,E⟩
theorem zO (ha:EvD Y e c d) (hr:ArX Y es c) (hs:starEach (e::es) Y.X.env=(false,eval e Y.X.env)::starEach es Y.X.env:=by rfl):ArX Y (e::es) c:=
 PA.imp (xQ ha hr hs) fun σ H Q ⟨F,E⟩=>⟨F,E,fun x F1 H1 e1 r1=>⟨F1,E.grow e1⟩⟩
theorem y7:PA Y.X es (fun _ _ _=>False):=fun _ _ _ _ _ _ _ z=>z.elim
end
theorem WD {K:W.Frag} {h:Heap} {C:Addr} {bmB:List Value} {newId:String} (X:K.In h) (q:W.excIn K C bmB newId=true):
  ∃bm N nm qn bs hdct sn sub ab col dd k0 k1 k2 k3 k5 mN,h.get? C=some (excClassObj nm qn C N bs bm hdct sn sub ab col dd k0 k1 k2 k3 k5 newId)/\h.Ns N mN/\mN "__init__" =none/\OwnTail h bmB bm:=by
 unfold W.excIn at q
 split at q
 ·rename_i dd cd sl ho
  split at q
  ·rename_i C' bm k0 k1 k2 k3 n k5 hm hs
   simp only [Bool.and_eq_true,beq_iff_eq,Bool.not_eq_true'] at q
   obtain ⟨⟨⟨⟨⟨rfl,rfl⟩,hdel⟩,ht⟩,hok⟩,hni⟩:=q
   obtain ⟨nm,bs,mro,ns,qn,hd,sn,sub,ab,col,del⟩:=cd
   dsimp only at hm hdel hok hni
   subst hm hdel
   have hsl:sl= #[k0,k1,k2,k3,some (.builtin n),k5]:=by
    obtain ⟨l⟩:=sl
    simp only at hs
    rw [hs]
   subst hsl
   exact ⟨bm,ns,nm,qn,bs,hd,sn,sub,ab,col,dd,k0,k1,k2,k3,k5,_,X _ _ ho,.of_isNs (W.isNs_of_in X hok),W.nsMap_none_of_in X hok hni,W.tail_of_in X ht⟩
  ·cases q
 ·cases q
def ClsX (T:Tx) (x:Str):Prop:=∃C,T.mg x=some (.ref C)/\W.excIn T.K C [.type "ValueError",.type "Exception",.type "BaseException",.type "object"] "ValueError.__new__" =true
section
variable {Y:Cy} {T:Tx} {k:Nat} {N G:List Str} {c:List Slot} {e:Expr} {es:List Expr} {pos p cpos:Pos} {ds:List D} {x:Str} {P:Out->Prop} {rest:List Stmt}
theorem yD (S:Sc Y T k N G) (gi:Nat) (hC:ClsX T x) (ha:ArD Y (e::es) c ds) (hz:RzMN Y T x c) (hn:ds.length<=1000000:=by first | exact of_decide_eq_true rfl | (simp;done)) (hg:G[gi]? =some x:=by rfl)
  (he:starEach (e::es) Y.X.env=(false,eval e Y.X.env)::starEach es Y.X.env:=by rfl) (hpl:(backTo cpos (starEach es Y.X.env)).any (·.1)=false:=by rfl):SsD Y (.Raise (some (.Call (.Name x p) (e::es) [] cpos)) none pos::rest) c P:=by
 obtain ⟨C,hm,q⟩:=hC
 have gl:=S.gl x (mz hg)
 refine xF fun pins s σ H D I ⟨F,E,_⟩=>?_
 have q':W.excIn Y.X.K C [.type "ValueError",.type "Exception",.type "BaseException",.type "object"] "ValueError.__new__" =true:=by rw [S.eK];exact q
 obtain ⟨tl,NN,nm,qn,bs,hdct,sn,sub,ab,col,dd,k0,k1,k2,k3,k5,mN,hC,hN,hni,TL⟩:=WD (h:=Y.X.base) I.ok.mod.kin q'
 refine wpAny_Raise_call_subT (C:=C) (nm:=nm) (q:=qn) (N:=NN) (bs:=bs) (bm:=tl) (hdct:=hdct) (sn:=sn) (sub:=sub) (ab:=ab) (col:=col) (dd:=dd) (k0:=k0) (k1:=k1) (k2:=k2) (k3:=k3) (k5:=k5)
  PySem.F.excBase_ValueError (mN:=mN) (TL.hasType PySem.F.excBase_ValueError.hasBase) S.room.hd (by rw [he];show (false || (backTo cpos (starEach es Y.X.env)).any (·.1))=false;rw [hpl];rfl) hni (yz I gl.1 (by rw [S.eM];exact hm) ⟨rfl,?_⟩ gl.2.1)
 have h1:=ha cpos pins s σ H (fun vs H1=>∃F1,Ext F H F1 H1/\vs.length=ds.length) I ⟨F,E,fun vs F1 H1 e1 r1=>⟨F1,e1,r1.length⟩⟩
 rw [he] at h1 ⊢
 refine Calls.evalArgs_plain (wpAny_mono h1 (fun us s2 h2=>?_) fun _ _ y=>y)
 obtain ⟨vs,H1,I1,r1,F1,e1,hl⟩:=h2
 exact ⟨rfl,by show us.length<=sizeLine;rw [<-r1.length,hl];exact xL hn,I1.bk _ _ hC,hN.keeps I1.bk,TL.keeps I1.bk,fun h' a M=>(hz C hm).made I1 (E.grow e1) M⟩
end
theorem XJ {h h' base:Heap}:∀{l:List PySem.Env},h.FunFrames base l->(∀b∈frs l,∀o,h.get? b=some o->(∀vs,o.data≠ .fields vs)->∃o',h'.get? b=some o'/\o'.data=o.data)->h'.FunFrames base l
 | [],_,_=>trivial
 | env::r,x,k=>by
  obtain ⟨h1,⟨L,o,e1,e2,e3,e4⟩,h2⟩:=x
  have hm:∀b∈frs r,b∈frs (env::r):=fun b hb=>by unfold frs;rw [List.filterMap_cons,e1];exact .tail _ hb
  obtain ⟨o',g1,g2⟩:=k L (by unfold frs;rw [List.filterMap_cons,e1];exact .head _) o e3 e4
  exact ⟨h1,⟨L,o',e1,e2,g1,fun vs=>by rw [g2];exact e4 vs⟩,XJ h2 fun b hb=>k b (hm b hb)⟩
structure LiesS (X:Cx) (B:Heap) (fl:Value) (e C:Addr) (H:Hp) (s:Shared):Prop where
 os:s.os=X.s₀.os
 bare:PyProof.Rows.AllBare s.gens
 un:Un (frs X.outer) [] X.H₀ H X.s₀.heap s.heap
 hok:HOk X.prog X.w H s.heap
 new:X.s₀.heap.get? e=none
 fu:∀b∈frs X.stack,H b=none
 fr:X.A.frames=some X.stack
 hs:X.stack=X.env::X.outer/\X.env.frame=some X.env.locals
 st:B.StaysIn s.heap
 be:B.get? e=none
 ff:s.heap.FunFrames B X.stack
 tr:∃a0,s.heap.TracedAtW B e (.ref C) a0 fl
 kp:Kpt B X.outer H X.s₀.heap s.heap
section
variable {X:Cx} {B:Heap} {fl fl':Value} {e C:Addr} {H:Hp} {s:Shared} {h':Heap} {Q:Unit->Shared->Prop} {E:Value->Shared->Prop}
theorem LiesS.outer (L:LiesS X B fl e C H s):s.heap.FunFrames B X.outer/\∀b∈frs X.outer,b∈frs X.stack:=by
 refine ⟨?_,fun b hb=>?_⟩
 ·have:=L.ff;rw [L.hs.1] at this;exact this.2.2
 ·rw [L.hs.1];unfold frs;rw [List.filterMap_cons,L.hs.2];exact .tail _ hb
theorem LiesS.to (L:LiesS X B fl e C H s) (st:B.StaysIn h') (up:∀b∈frs X.stack,∀o,s.heap.get? b=some o->(∀vs,o.data≠ .fields vs)->∃sl,h'.get? b=some { o with slots:=sl }) (tr:∃a0,h'.TracedAtW B e (.ref C) a0 fl'):LiesS X B fl' e C H { s with heap:=h' }:=by
 obtain ⟨o1,o2⟩:=L.outer
 obtain ⟨u,k,q⟩:=wX L.un L.kp L.hok o1 (fun b hb=>L.fu b (o2 b hb)) st fun b hb=>up b (o2 b hb)
 exact ⟨L.os,L.bare,u,k,L.new,L.fu,L.fr,L.hs,st,L.be,XJ L.ff fun b hb o z n=>let ⟨sl,g⟩:=up b hb o z n;⟨_,g,rfl⟩,tr,q⟩
theorem LiesS.noted {env:PySem.Env} (L:LiesS X B .none e C H s) (he:env.frame=X.env.frame) (hQ:∀h' fl,LiesS X B fl e C H { s with heap:=h' }->s.heap.UpToSlots h'->Q () { s with heap:=h' }):wpAny (model X.prog X.w) X.A (noteFrame (.ref e) env) Q E s:=by
 have eq:noteFrame (.ref e) env=noteFrame (.ref e) X.env:=by unfold noteFrame frameOf;rw [he]
 rw [eq]
 obtain ⟨a0,tr⟩:=L.tr
 refine wpAny_noteFrame_onW (base:=B) (outer:=X.outer) (by rw [L.fr,L.hs.1]) (by rw [<-L.hs.1];exact L.ff) L.hs.2 tr L.st L.be fun h' ⟨n1,n2,n3,n4⟩=>?_
 exact hQ h' _ (L.to n1 (fun b _ o q n=>n4 b o q n) ⟨a0,n3⟩) n4
theorem LiesS.but {D:Addr} {m:Str->Option Value} (L:LiesS X B fl e C H s) (hB:B.get? D=none) (hf:D∉frs X.stack) (hn:s.heap.Ns D m) (k:Heap.SameBut D s.heap h'):LiesS X B fl e C H { s with heap:=h' }:=by
 obtain ⟨a0,oe,vs,T,oT,ts,h1,h2,h3,h4,h5,h6,h7,h8,h9⟩:=L.tr
 obtain ⟨o,es,ep,ho,hd,_⟩:=hn
 have ne:∀b u ws,s.heap.get? b=some u->u.data= .fields ws->b≠D:=fun b u ws q w z=>by rw [z,ho] at q;cases q;rw [hd] at w;cases w
 refine L.to (fun b u q=>(k.2 b fun z=>by rw [z,hB] at q;cases q).trans (L.st b u q)) (fun b hb u q _=>⟨u.slots,(k.2 b fun z=>hf (z▸hb)).trans q⟩) ⟨a0,oe,vs,T,oT,ts,(k.2 e (ne _ _ _ h1 h3)).trans h1,h2,h3,h4,h5,h6,(k.2 T (ne _ _ _ h7 h8)).trans h7,h8,h9⟩
theorem LiesS.on {α:Type} {what:String} {env:PySem.Env} {Q:α->Shared->Prop} (L:LiesS X B fl e C H s) (hE:∀h' fl,LiesS X B fl e C H { s with heap:=h' }->E (.ref e) { s with heap:=h' }):wpAny (model X.prog X.w) X.A (passOn what (.ref e) env:Sem α) Q E s:=by
 obtain ⟨a0,oe,vs,T,oT,ts,h1,h2,h3,h4,h5,h6,h7,h8,h9⟩:=L.tr
 have s3:3<ts.size:=(Array.getElem?_eq_some_iff.mp h9).1
 unfold passOn
 refine wpAny_bind (wpAny_field h1 h3 h4 ?_)
 rw [if_neg (show ¬((Value.ref T==Value.none)=true) from by simp)]
 unfold setFlight
 refine wpAny_bind (wpAny_bind (wpAny_field h1 h3 h4 ?_))
 rw [if_pos (show (Value.ref T !=Value.none)=true from by simp)]
 refine wpAny_setField h7 h8 s3 (wpAny_throw (hE _ _ (L.to (fun b u q=>?_) (fun b hb u q n=>⟨u.slots,?_⟩) ⟨a0,oe,vs,T,_,_,?_,h2,h3,h4,h5,h6,Heap.get?_update_self _ h7 (Obj.isFreed_of_fields (Obj.data_mapFields h8 _)),Obj.data_mapFields h8 _,by simp [s3];rfl⟩)))
 ·exact (Heap.get?_update_other _ _ (fun z=>by rw [<-z,h5] at q;cases q)).trans (L.st b u q)
 ·exact (Heap.get?_update_other _ _ (fun z=>by rw [<-z,h7] at q;cases q;exact n _ h8)).trans q
 ·exact (Heap.get?_update_other _ _ h6).trans h1
theorem LiesS.leave (L:LiesS X B fl e C H s) (hQ:∀s',Lies X.prog X.w X.outer X.H₀ X.s₀ e C H s'->Q () s'):wpAny (model X.prog X.w) X.A (leaving X.env (.ref e)) Q E s:=by
 obtain ⟨o1,o2⟩:=L.outer
 have fin:∀h',B.StaysIn h'->h'.FunFrames B X.outer->(∃a0,h'.TracedW B e (.ref C) a0)->(∀b o,s.heap.get? b=some o->(∀vs,o.data≠ .fields vs)->∃sl,h'.get? b=some { o with slots:=sl })->Q () { s with heap:=h' }:=fun h' k1 k2 ⟨a0,k3⟩ k4=>by
  obtain ⟨u,k,q⟩:=wX L.un L.kp L.hok o1 (fun b hb=>L.fu b (o2 b hb)) k1 fun b _=>k4 b
  exact hQ { s with heap:=h' } ⟨L.os,L.bare,u,k,L.new,fun b hb=>L.fu b (o2 b hb),B,a0,⟨k1,L.be,k2,k3⟩,q⟩
 obtain ⟨a0,tr⟩:=L.tr
 have ff:s.heap.FunFrames B (X.env::X.outer):=by rw [<-L.hs.1];exact L.ff
 have hf:X.A.frames=some (X.env::X.outer):=by rw [L.fr,L.hs.1]
 obtain ⟨oe,vs,T,oT,ts,h1,⟨h2,h20⟩,h3,h4,h5,h6,h7,h8,h9⟩:=tr
 unfold leaving
 by_cases hm:fl=rawInt X.env.locals
 ·subst hm
  refine wpAny_bind (wpAny_noteFrame_againW L.hs.2 ⟨oe,vs,T,oT,ts,h1,⟨h2,h20⟩,h3,h4,h5,h6,h7,h8,h9⟩ ?_)
  refine wpAny_landsW (base:=B) (l:=X.env::X.outer) (cls:= .ref C) (a0:=a0) ⟨L.st,L.be,ff,oe,vs,T,oT,ts,h1,⟨h2,h20⟩,h3,h4,h5,h6,h7,h8,h9⟩ fun h' ⟨k1,k2,⟨_,_,k3⟩,k4⟩ up=>fin h' k1 k3 ⟨a0,k4⟩ up
 ·unfold noteFrame
  simp only [L.hs.2]
  refine wpAny_bind (wpAny_bind (wpAny_field h1 h3 h4 ?_))
  rw [if_pos (show (Value.ref T !=Value.none)=true from by simp)]
  refine wpAny_bind (wpAny_field h7 h8 h9 ?_)
  rw [mF (show ¬((fl==rawInt X.env.locals)=true) from fun z=>hm (beq_iff_eq.mp z))]
  refine wpAny_bind (wpAny_setField h7 h8 (Array.getElem?_eq_some_iff.mp h9).1 ?_)
  have oth:∀b,b≠T->(s.heap.update T (Obj.mapFields (·.setIfInBounds 3 Value.none))).get? b=s.heap.get? b:=fun b hb=>Heap.get?_update_other _ _ (Ne.symm hb)
  have nr:∀b o,s.heap.get? b=some o->(∀vs,o.data≠ .fields vs)->b≠T:=fun b o q n z=>by rw [z,h7] at q;cases q;exact n _ h8
  subst_vars
  refine wpAny_newEntryW (base:=B) hf (ff.of_keeps fun b o q n=>⟨o,(oth b (nr b o q n)).trans q,rfl⟩) L.hs.2 ((oth e (Ne.symm h6)).trans h1) (fun b o q=>(oth b fun z=>by rw [z,h5] at q;cases q).trans (L.st b o q)) L.be h3 (Array.getElem?_eq_some_iff.mp h4).1 h20 fun h' ⟨x1,⟨_,_,x2⟩,x3,x4⟩=>?_
  exact fin h' x1 x2 ⟨a0,by rw [h2] at x3;exact x3⟩ fun b o q n=>x4 b o ((oth b (nr b o q n)).trans q) n
end
structure RzS (Y:Cy) (C:Addr) (c:List Slot):Prop where
 hx:Y.X.ex=[]
 hs:Y.X.stack=Y.X.env::Y.X.outer/\Y.X.env.frame=some Y.X.env.locals
 fly:∀{B:Heap} {fl:Value} {σ:St} {F H:Hp} {s:Shared} {e:Addr},LiesS Y.X B fl e C H s->EnvY Y F H σ c->Y.X.xe (.ref e) s
def RzSN (Y:Cy) (T:Tx) (x:Str) (c:List Slot):Prop:=∀C,T.mg x=some (.ref C)->RzS Y C c
end DL
namespace L2
open PySem PySem.Spec PyProof.Rows
structure RoomH (k:Nat) (A:Around):Prop where
 dp:A.depth+3*k+5<recursionLimit
 un:A.units+16*k+200<cLine
theorem RoomH.mono {j k:Nat} {A:Around} (r:RoomH k A) (h:j<=k):RoomH j A:=⟨by have:=r.dp;omega,by have:=r.un;omega⟩
theorem RoomH.deeper {k:Nat} {A:Around} (r:RoomH (k+1) A) (env:Env):RoomH k (A.deeper env):=
 ⟨by have:=r.dp;show A.depth+1+3*k+5<_;omega,by have:=r.un;show A.units+3+16*k+200<_;omega⟩
theorem RoomH.depth {k:Nat} {A:Around} (r:RoomH k A):A.depth<recursionLimit:=by have:=r.dp;omega
noncomputable def cxH (P:Program) (w:World) (K:W.Frag) (mg:Str->Option Value) (base:Heap) (N:List Str) (qual:Str) (scope:Scope) (f:Addr) (cd:Value) (A:Around) (outer:List Env) (s:Shared) (H:Hp):Cx:=
 { cxOf CX0 P w K mg base N qual scope f cd A outer s H E0 with calm:=false,xe:=fun _ _=>False }
structure FnOkH (P:Program) (w:World) (K:W.Frag) (mg:Str->Option Value) (base:Heap) (k:Nat) (f:Addr) (fd:FuncData) (ps:List Str) (sp:Sp):Prop where
 len:∀vs H Q,sp vs H Q E0->vs.length=ps.length
 run:∀(A:Around) (outer:List Env) (s:Shared) (H:Hp) (args:Args) (us:List Value) (vs:List V) (Q:VK),RoomH k A->Env0 P w K mg base A outer s H->BindsTo s fd args (ps.zip us)->Vals vs us->sp vs H Q E0->
  codeAny (model P w) A (.call (.ref f) args) (CR CX0 outer P w H s Q E0) s
theorem QB {P:Program} {w:World} {K:W.Frag} {mg:Str->Option Value} {base:Heap} {N ps:List Str} {qual:Str} {scope:Scope} {f:Addr} {cd:Value} {A:Around} {outer:List Env} {s s1:Shared} {H:Hp} {us:List Value} {vs:List V}
  (S:FnScope N ps scope) (e0:Env0 P w K mg base A outer s H) (hl:vs.length=ps.length) (r:Vals vs us)
  (x:InCallC s s.heap.objs.size (bindL (envOfC qual scope s.heap.objs.size f cd).kindOf (ps.zip us) fun _=>none) (cellsFrom (s.heap.objs.size+1) scope.names []) (bindC (envOfC qual scope s.heap.objs.size f cd).kindOf (ps.zip us) fun _=>none) s1):
  Inv (cxH P w K mg base N qual scope f cd A outer s H) [] (start N vs) H s1:=by
 have hpl:ps.length<=N.length:=by have:=congrArg List.length S.pre;rw [List.length_take] at this;omega
 obtain ⟨h1,tk,rfl,hk⟩:=x.done
 have noA:∀b:Addr,b∉(cxH P w K mg base N qual scope f cd A outer s H).ex:=fun b z=>absurd (show b∈([]:List Addr) from z) (by simp)
 refine ⟨⟨e0.mod,S.kind,rfl,rfl,mJ _,fun y z c h1 h2=>?_,fun y hy=>?_,fun y c _ h=>?_,(fun z=>nomatch z),Around.frames_deeper e0.frames,.inr ⟨rfl,rfl⟩,fun b z=>absurd z (noA b),e0.bs,e0.bsz,fun b _ _=>noA b,fun b z=>absurd z (noA b),e0.funs,e0.frf⟩,
  rfl,e0.bare,Un.kept hk,⟨_,x.toInCall.ns,fun i y v h1 h2 h3=>?_⟩,fun y c h=>⟨_,x.cell y c h⟩,e0.hok.fresh (Nat.le_refl _),fun y c h=>?_,fun p hp=>absurd (show p∈([]:List (Addr×Obj)) from hp) (by simp),e0.hok.kept hk,?_⟩
 ·exact name_of_addr x.apart (PySem.mem_of_lookup h1) (PySem.mem_of_lookup h2)
 ·have hy:scope.names.lookup y=some .cell∨scope.names.lookup y=some .free:=hy
  rcases hy with hy | hy
  ·exact vG hy
  ·exact absurd rfl (S.nofree _ (PySem.mem_of_lookup hy))
 ·exact Nat.le_of_lt (x.above y c (PySem.mem_of_lookup h))
 ·have hi:i<vs.length:=by
   unfold start at h2
   by_cases hi:i<vs.length
   ·exact hi
   ·rw [List.getElem?_append_right (by simpa using hi)] at h2
    rw [List.getElem?_replicate] at h2
    split at h2<;>cases h2
  have ha:vs[i]? =some v:=by
   unfold start at h2
   rw [List.getElem?_append_left (by simpa using hi),List.getElem?_map] at h2
   cases e:vs[i]? with
   | none=>rw [e] at h2;cases h2
   | some a=>rw [e] at h2;cases h2;rfl
  obtain ⟨u,hu,rv⟩:=r.get ha
  have hp:ps[i]? =some y:=by
   rw [<-S.pre,List.getElem?_take_of_lt (by omega)];exact h1
  have ndP:ps.Nodup:=by rw [<-S.pre];exact S.nd.sublist (List.take_sublist _ _)
  refine ⟨u,rv,?_⟩
  rcases S.par y (mz hp) with k | k
  ·exact .inl ⟨k,we ndP hp hu k⟩
  ·obtain ⟨c,e⟩:=vG (n:=s.heap.objs.size+1) k
   refine .inr ⟨.inl k,c,e,?_⟩
   have q:=x.cell y c e
   rw [wf ndP hp hu (by show scope.names.lookup y≠_;rw [k];decide)] at q
   exact q
 ·exact e0.hok.fresh (Nat.le_of_lt (x.above y c (PySem.mem_of_lookup h)))
 ·unfold start
  show _=N.length
  rw [List.length_append,mB,List.length_replicate]
  omega
theorem xaw {P:Program} {w:World} {K:W.Frag} {mg:Str->Option Value} {base:Heap} {k:Nat} {f:Addr} {name qual:Str} {params:Arguments} {body:List Stmt} {scope:Scope} {dV kV doc pm cdv ct oc:Value} {an od:Option Addr}
  {osl:Array (Option Value)} {N ps:List Str} {sp:Sp} (lk:K.lookup f=some ⟨oc,od,.func (W.fnOf name qual params body scope dV kV doc pm an cdv ct),osl⟩) (hcd:W.codeIn K cdv qual=true) (S:FnScope N ps scope)
  (len:∀vs H Q,sp vs H Q E0->vs.length=ps.length)
  (hbody:∀(A:Around) (outer:List Env) (s:Shared) (H:Hp) (vs:List V) (Q:VK),RoomH k (A.deeper (envOfC qual scope s.heap.objs.size f cdv))->sp vs H Q E0->
   ∃t,PSs (cxH P w K mg base N qual scope f cdv A outer s H) body t/\t { nx:=fun _ H'=>Q .non H',rt:=Q } (start N vs) H):
  FnOkH P w K mg base (k+1) f (W.fnOf name qual params body scope dV kV doc pm an cdv ct) ps sp:=by
 refine ⟨len,fun A outer s H args us vs Q hr e0 hb r hsp=>?_⟩
 have hl:=len _ _ _ hsp
 have KX:K.In s.heap:=e0.mod.kin.keeps fun b o e=>(e0.bs b o e).1
 have lim:s.heap.NoLimit:=e0.mod.nolimit.keeps fun b o e=>(e0.bs b o e).1
 have hkind:∀y∈ps.zip us,scope.names.lookup y.1=some .local∨(scope.names.lookup y.1=some .cell/\((cellsFrom (s.heap.objs.size+1) scope.names []).lookup y.1).isSome=true):=fun ⟨n,v⟩ hy=>by
  rcases S.par n (List.of_mem_zip hy).1 with q | q
  ·exact .inl q
  ·exact .inr ⟨q,W.cellsFrom_some _ _ _ (.inl q)⟩
 refine codeAny_call_function hr.depth (KX _ _ lk) rfl S.co S.gen rfl (W.codeRec_of KX hcd) (hb _ _ _ _ ?_)
 refine wpAny_newFunctionEnv_cells S.kind hkind fun env he s1 x=>?_
 subst he
 refine ⟨lim.keeps x.toInCall.keep,codeAny_func ?_⟩
 obtain ⟨t,ht,hq⟩:=hbody A outer s H vs Q (hr.deeper _) hsp
 have I:Inv (cxH P w K mg base N qual scope f cdv A outer s H) [] (start N vs) H s1:=QB S e0 hl r x
 refine wpAny_mono (ht [] s1 (start N vs) H _ I hq) (fun fl s' hs=>?_) fun e s' hs=>False.elim hs
 have fin:∀{σ':St} {H':Hp} {v:V} {u:Value},Inv (cxH P w K mg base N qual scope f cdv A outer s H) [] σ' H' s'->RelV v u->Q v H'->CE outer P w H s Q u s':=
  fun {σ' H' v u} J rv q=>⟨v,H',J.os,J.bare,J.base,J.hok,rv,q⟩
 cases fl with
 | ret u=>
  obtain ⟨v,σ',H',J,rv,q⟩:=hs
  exact fin J rv q
 | next=>
  obtain ⟨σ',H',J,q⟩:=hs
  exact fin (v:=V.non) (u:=Value.none) J rfl q
 | brk=>
  obtain ⟨_,_,_,q⟩:=hs
  exact False.elim q
 | cont=>
  obtain ⟨_,_,_,q⟩:=hs
  exact False.elim q
end L2
namespace DL
open PySem L2
structure ScH (Y:Cy) (T:Tx) (k:Nat) (N G:List Str):Prop extends Sn Y T N G where
 fn:∀y,Y.X.fn y=true
 room:RoomH k Y.X.A
def spH (T:Tx) (R:Str->D->Prop):Sp:=fun vs H Q _=>∃F a C x d,vs=[.ref a]/\Same F H/\(∃dx,H a=some (.ext (ExcAt C dx a)))/\T.mg x=some (.ref C)/\R x d/\∀v F' H',Ext F H F' H'->Rep T.K F' v d->Q v H'
structure FnH (T:Tx) (k:Nat) (x:Str) (R:Str->D->Prop):Prop where
 ex:∃(f:Addr) (fd:FuncData) (ps:List Str),T.mg x=some (.ref f)/\W.keepIn T.K (.ref f)=true/\Binds T.K fd ps []/\FnOkH T.prog T.w T.K T.mg T.base k f fd ps (spH T R)
section
variable {Y:Cy} {T:Tx} {k j:Nat} {N G:List Str} {c:List Slot} {e a b:Expr} {es:List Expr} {pos p:Pos} {d:D} {ds:List D} {R:Str->D->Prop} {x qual y:Str} {P:Out->Prop} {rest:List Stmt}
def ctxH (N:List Str) (C:Addr) (dx:Option Addr):List Slot:= .exc C dx::List.replicate (N.length - 1) Slot.un
theorem QP {K:W.Frag} {F H:Hp} {N:List Str} {a C:Addr} {dx:Option Addr} (f:Same F H) (h:H a=some (.ext (ExcAt C dx a))):Env K F H F H (L2.start N [.ref a]) (ctxH N C dx) where
 ext:=Ext.refl f
 len:=by unfold L2.start ctxH;simp
 sl:=fun i=>by
  unfold L2.start ctxH
  cases i with
  | zero=>exact ⟨a,rfl,h⟩
  | succ i=>show SlotOk K H F H _ (slot (List.replicate _ Slot.un) i);rw [zQ];exact trivial
 inj:=fun i j a h _ _ _=>by
  unfold ctxH at h
  cases i with
  | zero=>cases h
  | succ i=>have h:isOwn (slot (List.replicate _ Slot.un) i)=true:=h;rw [zQ] at h;cases h
theorem xbK {ps:List Str} {st:Stmt} (A:At T x st) (B:ScB N ps G (defScope st)) (hb:∀f fd,Fun T.K x x st f fd->Binds T.K fd ps []) (hlen:ps.length=1)
  (body:∀{dx:Option Addr} (Y:Cy) (S:ScH Y T k N G) (C:Addr) (y:Str) (d:D),T.mg y=some (.ref C)->R y d->SsD Y (defBody st) (ctxH N C dx) (Ret d)):FnH T (k+1) x R:=by
 obtain ⟨f,fd,F,hm⟩:=A
 refine ⟨f,fd,ps,hm,F.kp,hb f fd F,?_⟩
 obtain ⟨oc,od,kV,doc,pm,an,cdv,ct,osl,rfl,lk,hcd⟩:=F.ex
 refine xaw lk hcd B.fs (fun vs H Q h=>?_) fun A outer s H vs Q hr h=>?_
 ·obtain ⟨_,_,_,_,_,rfl,_⟩:=h;exact hlen.symm
 ·obtain ⟨F0,a,C,y,d,rfl,f0,⟨dx,hH⟩,hC,hR,q⟩:=h
  have S:ScH ⟨cxH T.prog T.w T.K T.mg T.base N x (defScope st) f cdv A outer s H,F0,H⟩ T k N G:=
   ⟨⟨rfl,rfl,rfl,rfl,rfl,rfl,B.fs.nd,B.loc,B.gl⟩,fun _=>rfl,hr⟩
  refine ⟨_,body _ S C y d hC hR,F0,QP f0 hH,fun o ho=>?_⟩
  cases o with
  | rt e=>cases ho;exact fun v F' H' _ x r'=>q v F' H' x r'
  | nx c=>cases ho;exact fun σ F' H' _ E'=>q .non F' H' E'.ext .non
  | bk c=>exact ho.elim
  | ct c=>exact ho.elim
  | ro ds=>exact ho.elim
  | rs R=>exact ho.elim
theorem Env.excv {K:W.Frag} {F₀ H₀ F H:Hp} {σ:St} (E:Env K F₀ H₀ F H σ c) {i:Nat} {C:Addr} {dx:Option Addr} (h:slot c i= .exc C dx):∃a,σ[i]? =some (some (.ref a))/\H a=some (.ext (ExcAt C dx a)):=by
 have q:=E.sl i
 rw [h] at q
 exact q
def tExc (Y:Cy) (c:List Slot) (C:Addr) (dx:Option Addr):TE:=fun σ H Q=>∃F,EnvY Y F H σ c/\∀a,H a=some (.ext (ExcAt C dx a))->Q (.ref a) H
theorem Qd (S:Sn Y T N G) (i:Nat) {x:Str} {C:Addr} {dx:Option Addr} (hN:N[i]? =some x) (hs:slot c i= .exc C dx):PE Y.X (.Name x pos) (tExc Y c C dx):=by
 have hx:=S.loc x (mz hN)
 rw [<-S.n] at hN
 exact PE.imp (xT hN (hx.1.elim .inl fun h=> .inr (.inl h)) hx.2.1 hx.2.2) fun σ H Q ⟨F,E,q⟩=>
  let ⟨a,ea,r⟩:=E.excv hs
  ⟨.ref a,ea,q a r⟩
theorem qH (S:Sn Y T N G) (i:Nat) {x:Str} (hN:N[i]? =some x:=by rfl) (hs:slot c i= .val d:=by rfl):EvD Y (.Name x pos) c d:=by
 have hx:=S.loc x (mz hN)
 rw [<-S.n] at hN
 exact PE.imp (xT hN (hx.1.elim .inl fun h=> .inr (.inl h)) hx.2.1 hx.2.2) fun σ H Q ⟨F,E,q⟩=>
  let ⟨x,ex,r⟩:=E.val hs
  ⟨x,ex,q x F H (Ext.refl E.fh) r⟩
theorem qA (S:ScH Y T k N G) (i:Nat) {x:Str} {pos':Pos} (he:EvD Y e c d)
  (hr:SsD Y rest (put c i (.val d)) P) (hi:N[i]? =some x:=by rfl) (hlt:i<c.length:=by first | exact mC rfl | decide | omega) (hs:swapsWith e (some (.Name x pos')) pos.line Y.X.env=pure false:=by rfl):SsD Y (.Assign [.Name x pos'] e pos::rest) c P:=by
 have hx:=S.loc x (mz hi)
 have hN:=S.nd
 rw [<-S.n] at hi hN
 refine xF (PS.imp (qO hN hi hx.1 he hs (.inl (S.fn x))) fun D σ H ⟨F,E,m⟩=>⟨F,E,fun v F' H' e' r'=>?_⟩)
 exact m (.nx (put c i (.val d))) hr _ F' H' e'.ff ((E.grow e').set hlt r')
theorem Vr {C:Addr} {dx:Option Addr} {cv:Value} {cV:V} {v:Bool} (Z:ExcK T.K C) (eK:Y.X.K=T.K) (rv:RelV cV cv) (hcv:∀u,RelV cV u->u=cv) (e2:W.kitOne T.K (.ref C) cv=some v):
  CallR Y.X (.builtin "isinstance") (fun xs H Q=>∃a,xs=[.ref a,cV]/\H a=some (.ext (ExcAt C dx a))/\Q (.bl v) H):=by
 intro pins s σ H xs us Q I r h
 obtain ⟨a,rfl,hH,q⟩:=h
 obtain ⟨u,w',rfl,r1,r2⟩:=vals2 r
 cases (show u=Value.ref a from r1)
 cases hcv _ r2
 have ok:ObjOk Y.X.prog Y.X.w H s.heap a (.ext (ExcAt C dx a)):=I.hok a _ hH
 have Z':ExcK Y.X.K C:=by rw [eK];exact Z
 exact W.kia_one (jg Z') I.kIn ok.1 (by rw [eK];exact e2) (fun z=>nomatch z) fun tk=>⟨.bl v,H,I.tok tk,rfl,q⟩
theorem zJ (S:Sn Y T N G) (i gi gj:Nat) {z:Str} {C C':Addr} {v:Bool} {dx:Option Addr} {pn pz:Pos} (hs:slot c i= .exc C dx) (Z:ExcK T.K C) (hm2:T.mg y=some (.ref C')) (e2:W.kitOne T.K (.ref C) (.ref C')=some v) (hm:T.mg "isinstance" =none)
  (hi:N[i]? =some z:=by rfl) (hg:G[gi]? =some ("isinstance" :Str):=by rfl) (hg2:G[gj]? =some y:=by rfl)
  (hst:starEach [.Name z pz,.Name y pn] Y.X.env=(false,eval (.Name z pz) Y.X.env)::starEach [.Name y pn] Y.X.env:=by rfl):EvD Y (.Call (.Name "isinstance" p) [.Name z pz,.Name y pn] [] pos) c (.bl v):=by
 have gl:=S.gl _ (mz hg)
 have gl2:=S.gl _ (mz hg2)
 refine PE.imp (zt (Vr (dx:=dx) Z S.eK (cV:= .ref C') (cv:= .ref C') rfl (fun u h=>h) e2) gl.1 (by rw [S.eM];exact hm) zK (xQ (Qd S i hi hs) (xQ (ve (v:= .ref C') gl2.1 (by rw [S.eM];exact hm2) rfl gl2.2.1) yq) hst) gl.2.2 gl.2.1 hst rfl) fun σ H Q ⟨F,E,q⟩=>⟨F,E,fun a ha=>?_⟩
 exact ⟨a,rfl,ha,q _ F H (Ext.refl E.fh) (.bl v)⟩
theorem JP (S:Sn Y T N G) (i gi gj:Nat) {z:Str} {C:Addr} {ty:String} {v:Bool} {dx:Option Addr} {pn pz:Pos} (hs:slot c i= .exc C dx) (Z:ExcK T.K C) (hm2:T.mg y=none) (hv:bootBuiltins y=some (.type ty)) (e2:W.kitOne T.K (.ref C) (.type ty)=some v) (hm:T.mg "isinstance" =none)
  (hi:N[i]? =some z:=by rfl) (hg:G[gi]? =some ("isinstance" :Str):=by rfl) (hg2:G[gj]? =some y:=by rfl)
  (hst:starEach [.Name z pz,.Name y pn] Y.X.env=(false,eval (.Name z pz) Y.X.env)::starEach [.Name y pn] Y.X.env:=by rfl):EvD Y (.Call (.Name "isinstance" p) [.Name z pz,.Name y pn] [] pos) c (.bl v):=by
 have gl:=S.gl _ (mz hg)
 have gl2:=S.gl _ (mz hg2)
 refine PE.imp (zt (Vr (dx:=dx) Z S.eK (cV:= .ty ty) (cv:= .type ty) rfl (fun u h=>h) e2) gl.1 (by rw [S.eM];exact hm) zK (xQ (Qd S i hi hs) (xQ (Vh (v:= .ty ty) gl2.1 (by rw [S.eM];exact hm2) hv rfl gl2.2.2 gl2.2.1) yq) hst) gl.2.2 gl.2.1 hst rfl) fun σ H Q ⟨F,E,q⟩=>⟨F,E,fun a ha=>?_⟩
 exact ⟨a,rfl,ha,q _ F H (Ext.refl E.fh) (.bl v)⟩
theorem jJ (S:ScH Y T k N G) (i gi:Nat) {z:Str} {C:Addr} {dx:Option Addr} {pz:Pos} (Fn:FnH T j x R) (hj:j<=k) (hs:slot c i= .exc C dx) (hC:T.mg y=some (.ref C)) (hR:R y d) (hi:N[i]? =some z:=by rfl) (hg:G[gi]? =some x:=by rfl)
  (he:starEach [.Name z pz] Y.X.env=(false,eval (.Name z pz) Y.X.env)::starEach [] Y.X.env:=by rfl):EvD Y (.Call (.Name x p) [.Name z pz] [] pos) c d:=by
 obtain ⟨f,fd,ps,hm,hk,hb,F⟩:=Fn.ex
 have F':FnOkH Y.X.prog Y.X.w Y.X.K Y.X.mg Y.X.base j f fd ps (spH T R):=by rw [S.eP,S.eW,S.eK,S.eM,S.eB];exact F
 have gl:=S.gl x (mz hg)
 intro pins s σ H Q I ⟨F0,E,q⟩
 refine wpAny_Call_Name_kw (yz I gl.1 (by rw [S.eM];exact hm) ?_ gl.2.1)
 refine W.callWith_K (h₀:=Y.X.base) I.ok.mod.kin (by rw [S.eK];exact hk) (thn (xQ (Qd S.toSn i hi hs) yq he pos pins s σ H (fun vs H1=>∃a,vs=[.ref a]/\H1=H/\H a=some (.ext (ExcAt C dx a))) I ⟨F0,E,fun a ha=>⟨a,rfl,rfl,ha⟩⟩) fun us s1 ⟨vs,H1,I1,r,a,ev,eh,ha⟩=>⟨I1.kIn,?_⟩) he rfl
 subst ev eh
 have h:spH T R [.ref a] H1 Q E0:=⟨F0,a,C,y,d,rfl,E.fh,⟨dx,ha⟩,hC,hR,fun v F' H' ex r=>q v F' H' ex (by rw [S.eK];exact r)⟩
 have hl:us.length=ps.length:=by rw [<-r.length];exact F'.len _ _ _ h
 have hb':Binds Y.X.K fd ps []:=by rw [S.eK];exact hb
 have hb2:=hb' s1 us I1.kIn (by rw [List.append_nil];exact hl)
 rw [List.append_nil] at hb2
 refine wpAny_call (codeAny_mono (F'.run Y.X.A Y.X.stack s1 H1 ⟨us,[]⟩ us _ _ (S.room.mono hj) I1.env0 hb2 r h) fun r s' hq=>?_)
 cases r with
 | error e=>exact False.elim hq
 | ok fl=>
  cases fl with
  | ret u=>exact I1.after hq
  | next=>exact False.elim hq
  | brk=>exact False.elim hq
  | cont=>exact False.elim hq
end
theorem _root_.L2.Inv.track {X:Cx} {pins:List (Addr×Obj)} {σ:St} {H:Hp} {s:Shared} {e:Addr} {φ:Heap->Prop} (I:Inv X pins σ H s) (hn:H e=none) (h0:X.s₀.heap.get? e=none) (hl:e≠X.env.locals) (hc:∀x c,X.env.cells.lookup x=some c->c≠e)
  (hp:∀p∈X.pn++pins,p.1≠e) (hφ:ObjOk X.prog X.w (upd H e (.ext φ)) s.heap e (.ext φ)):Inv X pins σ (upd H e (.ext φ)) s:=by
 have ne:∀b u,H b=some u->upd H e (.ext φ) b=some u:=fun b u q=>by rw [xh (xo q hn)];exact q
 refine ⟨I.ok,I.os,I.bare,⟨I.base.keep,I.base.slot,fun b o q n hx=>?_,I.base.there,fun b xs q=>ne _ _ (I.base.tups b xs q),fun b o u q=>ne _ _ (I.base.frzs b o u q),fun b ps q=>?_⟩,I.loc,I.cell,?_,fun x c q=>?_,fun p hp'=>?_,fun b o q=>?_,I.len⟩
 ·rw [xh (fun z=>by rw [z,h0] at q;cases q)];exact I.base.free b o q n hx
 ·obtain ⟨m,q'⟩:=I.base.tbls b ps q;exact ⟨m,ne _ _ q'⟩
 ·rw [xh (Ne.symm hl)];exact I.free
 ·rw [xh (hc x c q)];exact I.freeC x c q
 ·obtain ⟨a1,a2,a3,a4,a5⟩:=I.pin p hp'
  exact ⟨a1,by rw [xh (hp p hp')];exact a2,a3,a4,a5⟩
 ·by_cases hb:b=e
  ·subst hb;rw [xm] at q;cases q;exact hφ
  ·rw [xh hb] at q
   exact (I.hok b o q).stay (fun _ _ _ z=>z) (fun c z=>ne _ _ z) fun c xs z=>ne _ _ z
theorem _root_.L2.Inv.unname {X:Cx} {pins:List (Addr×Obj)} {σ:St} {H:Hp} {s:Shared} {i:Nat} {n:Str} {pos:Pos} {M:Model} {A:Around} {E:Value->Shared->Prop} {Q:Unit->Shared->Prop} (I:Inv X pins σ H s) (hN:X.N.Nodup) (hi:X.N[i]? =some n) (hl:X.env.scope.names.lookup n=some .local)
  (h:∀s',Inv X pins (σ.set i none) H s'->Q () s'):wpAny M A (do bindName X.env n .none;unbindBehindTheSuite X.env n pos) Q E s:=by
 obtain ⟨m,hn,hv⟩:=id I.loc
 have hcls:(X.env.scope.kind== .class || (X.env.scope.kind== .module && X.env.locals !=X.env.globals))=false:=by rw [I.ok.kind];rfl
 refine wpAny_nameGoes_keeps hl hn hcls fun h' v hn' hs=>h _ ?_
 obtain ⟨oL,_,_,hoL,_⟩:=id hn
 have iσ:i<σ.length:=by rw [I.len];exact (List.getElem?_eq_some_iff.mp hi).1
 refine ⟨I.ok,I.os,I.bare,⟨fun b o e n hb hx=>?_,fun b o e n hb hx=>?_,I.base.free,fun b o e hx=>?_,I.base.tups,I.base.frzs,I.base.tbls⟩,⟨_,hn',fun j y v' e1 e2 e3=>?_⟩,fun y c e=>?_,I.free,I.freeC,fun p hp=>?_,fun b ob e=>?_,by simpa using I.len⟩
 ·exact (hs.2 b (Nat.ne_of_lt (mE (Heap.lt_size e) I.ok.above))).trans (I.base.keep b o e n hb hx)
 ·obtain ⟨sl,e1⟩:=I.base.slot b o e n hb hx
  exact ⟨sl,(hs.2 b (Nat.ne_of_lt (mE (Heap.lt_size e) I.ok.above))).trans e1⟩
 ·obtain ⟨o',e1⟩:=I.base.there b o e hx
  exact ⟨o',(hs.2 b (Nat.ne_of_lt (mE (Heap.lt_size e) I.ok.above))).trans e1⟩
 ·by_cases hj:j=i
  ·subst hj
   rw [List.getElem?_set_self iσ] at e2
   cases e2
  ·rw [mG (Ne.symm hj)] at e2
   obtain ⟨u',r',q⟩:=hv j y v' e1 e2 e3
   refine ⟨u',r',?_⟩
   rcases q with ⟨k,e⟩ | ⟨k,c,e,z⟩
   ·refine .inl ⟨k,?_⟩
    have:y≠n:=fun e=>hj (uI hN e1 (e▸hi))
    simp [this,e]
   ·exact .inr ⟨k,c,e,z.sameBut hs (I.cne y c e)⟩
 ·obtain ⟨w',z⟩:=I.cell y c e
  exact ⟨w',z.sameBut hs (I.cne y c e)⟩
 ·obtain ⟨e,n,ne,nf,d⟩:=I.pin p hp
  exact ⟨(hs.2 p.1 ne).trans e,n,ne,nf,d⟩
 ·refine (I.hok b ob e).stay (fun c w' hc q=>(hs.2 c ?_).trans q) (fun _ q=>q) fun _ _ q=>q
  rintro rfl
  rcases hc with rfl | hc
  ·rw [I.free] at e;cases e
  ·rw [I.free] at hc;cases hc
theorem Ext.track {F H:Hp} {e:Addr} {o:HO} (f:Same F H) (hn:H e=none):Ext F H F (upd H e o):=
 ⟨Same.refl F,fun b u q=>by rw [xh (xo (f _ _ q) hn)];exact f _ _ q,fun b u q=>by rw [xh (xo q hn)];exact q,fun _ _ z=>z⟩
theorem Env.setExc {K:W.Frag} {F₀ H₀ F H:Hp} {σ:St} {c:List Slot} (E:Env K F₀ H₀ F H σ c) {i:Nat} {a C:Addr} {dx:Option Addr} (hi:i<c.length) (r:H a=some (.ext (ExcAt C dx a))):Env K F₀ H₀ F H (σ.set i (some (.ref a))) (put c i (.exc C dx)) where
 ext:=E.ext
 len:=by rw [List.length_set,yb];exact E.len
 sl:=fun j=>by
  by_cases e:i=j
  ·subst e
   rw [xV _ _ _ hi,List.getElem?_set_self (by rw [E.len];exact hi)]
   exact ⟨a,rfl,r⟩
  ·rw [xt _ _ _ _ e,mG e]
   exact E.sl j
 inj:=fun j k a h1 h2 h3 h4=>by
  by_cases e:i=j
  ·subst e;rw [xV _ _ _ hi] at h1;cases h1
  ·by_cases e2:i=k
   ·subst e2;rw [xV _ _ _ hi] at h2;cases h2
   ·rw [xt _ _ _ _ e] at h1
    rw [xt _ _ _ _ e2] at h2
    rw [mG e] at h3
    rw [mG e2] at h4
    exact E.inj j k a h1 h2 h3 h4
theorem wH:∀(c:List Slot) (i:Nat),c.length<=i->slot c i= .un
 | [],_,_=>rfl
 | _::r,0,h=>by simp at h
 | _::r,i+1,h=>wH r i (by simpa using h)
theorem Yi (y:Slot):∀(c:List Slot) (i:Nat),c.length<=i->put c i y=c
 | [],_,_=>rfl
 | _::r,0,h=>by simp at h
 | x::r,i+1,h=>congrArg (x:: ·) (Yi y r i (by simpa using h))
theorem Env.unset {K:W.Frag} {F₀ H₀ F H:Hp} {σ:St} {c:List Slot} (E:Env K F₀ H₀ F H σ c) {i:Nat}:Env K F₀ H₀ F H (σ.set i none) (put c i .un) where
 ext:=E.ext
 len:=by rw [List.length_set,yb];exact E.len
 sl:=fun j=>by
  by_cases e:i=j
  ·subst e
   by_cases hi:i<c.length
   ·rw [xV _ _ _ hi];exact trivial
   ·rw [Yi _ _ _ (by omega),wH _ _ (by omega)];exact trivial
  ·rw [xt _ _ _ _ e,mG e]
   exact E.sl j
 inj:=fun j k a h1 h2 h3 h4=>by
  by_cases e:i=j
  ·subst e
   by_cases hi:i<c.length
   ·rw [xV _ _ _ hi] at h1;cases h1
   ·rw [Yi _ _ _ (by omega),wH _ _ (by omega)] at h1;cases h1
  ·by_cases e2:i=k
   ·subst e2
    by_cases hi:i<c.length
    ·rw [xV _ _ _ hi] at h2;cases h2
    ·rw [Yi _ _ _ (by omega),wH _ _ (by omega)] at h2;cases h2
   ·rw [xt _ _ _ _ e] at h1
    rw [xt _ _ _ _ e2] at h2
    rw [mG e] at h3
    rw [mG e2] at h4
    exact E.inj j k a h1 h2 h3 h4
abbrev _root_.L2.Cx.tried (X:Cx) (E:Value->Shared->Prop) (pins:List (Addr×Obj)):Cx:={ X with xe:=E,pn:=X.pn++pins }
abbrev _root_.L2.Cx.caught (X:Cx) (e:Value) (pins:List (Addr×Obj)):Cx:={ X with A:=X.A.mark (some e),calm:=false,xe:=fun _ _=>False,pn:=X.pn++pins }
section
variable {X:Cx} {pins pins':List (Addr×Obj)} {σ:St} {H:Hp} {s:Shared} {E:Value->Shared->Prop} {e:Value}
theorem _root_.L2.Inv.tried (I:Inv X pins σ H s):Inv (X.tried E pins) [] σ H s:=
 ⟨⟨I.ok.mod,I.ok.kind,I.ok.glob,I.ok.blt,I.ok.above,I.ok.inj,I.ok.has,I.ok.cab,I.ok.hd,I.ok.frames,I.ok.stk,I.ok.exf,I.ok.bs,I.ok.bsz,I.ok.noex,I.ok.exfs,I.ok.funs,I.ok.frf⟩,I.os,I.bare,I.base,I.loc,I.cell,I.free,I.freeC,fun p hp=>I.pin p (by simpa using hp),I.hok,I.len⟩
theorem _root_.L2.Inv.untried (I:Inv (X.tried E pins) pins' σ H s):Inv X pins σ H s:=
 ⟨⟨I.ok.mod,I.ok.kind,I.ok.glob,I.ok.blt,I.ok.above,I.ok.inj,I.ok.has,I.ok.cab,I.ok.hd,I.ok.frames,I.ok.stk,I.ok.exf,I.ok.bs,I.ok.bsz,I.ok.noex,I.ok.exfs,I.ok.funs,I.ok.frf⟩,I.os,I.bare,I.base,I.loc,I.cell,I.free,I.freeC,fun p hp=>I.pin p (List.mem_append_left _ hp),I.hok,I.len⟩
theorem _root_.L2.Inv.caught (I:Inv X pins σ H s) (hf:(X.A.mark (some e)).frames=some X.stack):Inv (X.caught e pins) [] σ H s:=
 ⟨⟨I.ok.mod,I.ok.kind,I.ok.glob,I.ok.blt,I.ok.above,I.ok.inj,I.ok.has,I.ok.cab,(fun z=>nomatch z),hf,I.ok.stk,I.ok.exf,I.ok.bs,I.ok.bsz,I.ok.noex,I.ok.exfs,I.ok.funs,I.ok.frf⟩,I.os,I.bare,I.base,I.loc,I.cell,I.free,I.freeC,fun p hp=>I.pin p (by simpa using hp),I.hok,I.len⟩
theorem _root_.L2.Inv.uncaught (I:Inv (X.caught e pins) pins' σ H s) (hc:X.calm=true->X.A.handled=none) (hf:X.A.frames=some X.stack):Inv X pins σ H s:=
 ⟨⟨I.ok.mod,I.ok.kind,I.ok.glob,I.ok.blt,I.ok.above,I.ok.inj,I.ok.has,I.ok.cab,hc,hf,I.ok.stk,I.ok.exf,I.ok.bs,I.ok.bsz,I.ok.noex,I.ok.exfs,I.ok.funs,I.ok.frf⟩,I.os,I.bare,I.base,I.loc,I.cell,I.free,I.freeC,fun p hp=>I.pin p (List.mem_append_left _ hp),I.hok,I.len⟩
end
section
variable {K:W.Frag} {F₀ H₀ F H F1 H1:Hp} {σ σ0:St} {c c0:List Slot}
theorem Env.into (E:Env K F₀ H₀ F H σ c):Env K F H₀ F H σ c:=⟨⟨Same.refl F,E.ext.fh,E.ext.hh,fun _ _ z=>z⟩,E.len,E.sl,E.inj⟩
theorem Ext.outof (a:Ext F₀ H₀ F H) (b:Ext F H₀ F1 H1):Ext F₀ H₀ F1 H1:=⟨a.ff.trans b.ff,b.fh,b.hh,fun c hc fc=>b.fr c hc (a.fr c hc fc)⟩
theorem Env.outof (E:Env K F₀ H₀ F H σ0 c0) (E':Env K F H₀ F1 H1 σ c):Env K F₀ H₀ F1 H1 σ c:=⟨E.ext.outof E'.ext,E'.len,E'.sl,E'.inj⟩
end
def Gone (Y:Cy) (rest:List Stmt) (i:Nat) (P:Out->Prop):Out->Prop
 | .nx c=>SsD Y rest (put c i .un) P
 | .bk c=>P (.bk (put c i .un))
 | .ct c=>P (.ct (put c i .un))
 | .rt d=>P (.rt d)
 | .ro _=>False
 | .rs _=>False
theorem Ul {Y:Cy} {T:Tx} {k:Nat} {N G:List Str} {c:List Slot} {pos px hpos:Pos} {x n:Str} {body suite:List Stmt} {b₀:Stmt} {rest:List Stmt} {P:Out->Prop} {Ct:Addr} {st:Stmt} (S:Sc Y T k N G) (Z:Fx Y st) (i gi:Nat) (raised:Str->Prop)
  (hlo:(defScope st).names.lookup n=some .local) (hx:T.mg x=some (.ref Ct)) (hmt:∀y C,raised y->T.mg y=some (.ref C)->W.exmOne T.K (.ref C) (.ref Ct)=some true)
  (hb:∀(Y':Cy) (S':Sc Y' T k N G),(∀y,raised y->RzN Y' T y c)->SsD Y' body c (Thn Y rest P))
  (hh:∀(Yh:Cy) (Sh:ScH Yh T k N G) (y:Str) (C:Addr),raised y->T.mg y=some (.ref C)->SsD Yh (b₀::suite) (put c i (.exc C none)) (Gone Y rest i P))
  (hi:N[i]? =some n:=by rfl) (hg:G[gi]? =some x:=by rfl) (hlt:i<c.length:=by first | exact mC rfl | decide | omega):
  SsD Y (.Try body [.ExceptHandler (some (.Name x px)) (some n) (b₀::suite) hpos] [] [] pos::rest) c P:=by
 refine xF fun pins s σ H D I ⟨F,E,m⟩=>wpAny_Try_except ?_
 have gl:=S.gl x (mz hg)
 have hl:Y.X.env.scope.names.lookup n=some .local:=by rw [Z.sc];exact hlo
 have hN:Y.X.N.Nodup:=by rw [S.n];exact S.nd
 have hiX:Y.X.N[i]? =some n:=by rw [S.n];exact hi
 have locn:=S.loc n (mz hi)
 have frk:∀e,(Y.X.A.mark (some e)).frames=some Y.X.stack:=fun e=>I.ok.frames
 generalize hxe:(fun (e:Value) (s₁:Shared)=>wpAny (model Y.X.prog Y.X.w) Y.X.A (noteFrame e Y.X.env) (fun _ s₂=>wpAny (model Y.X.prog Y.X.w) Y.X.A (setFlight e none) (fun _ s₃=>wpAny (model Y.X.prog Y.X.w) Y.X.A (handleBy e Y.X.env [.ExceptHandler (some (.Name x px)) (some n) (b₀::suite) hpos]) (SP Y.X pins D) Y.X.xe s₃) Y.X.xe s₂) Y.X.xe s₁)=xe'
 have hp':PassesOwn (model Y.X.prog Y.X.w) Y.X.A Y.X.env xe':=by subst hxe;exact PassesOwn.looking
 have S':Sc ⟨Y.X.tried xe' pins,F,Y.H0⟩ T k N G:=⟨⟨⟨S.eP,S.eW,S.eK,S.eM,S.eB,S.n,S.nd,S.loc,S.gl⟩,S.calm,S.room⟩,S.fn,hp'⟩
 have rz:∀y,raised y->RzN ⟨Y.X.tried xe' pins,F,Y.H0⟩ T y c:=by
  intro y hy C hC
  refine ⟨fun {pins' σ F0 H F' H' s s' e} I0 _ sm E0' L=>?_⟩
  have I:Inv Y.X pins σ H s:=I0.untried
  have E1:Env Y.X.K F Y.H0 F' H' σ c:=E0'
  obtain ⟨B,a0,fl,kp⟩:=L.fly
  subst hxe
  have stk:Y.X.stack=Y.X.env::Y.X.outer:=Z.stk.1
  have fl':Heap.FlyingW B (Y.X.env::Y.X.outer) e (.ref C) a0 s'.heap:=by rw [<-stk];exact fl
  refine wpAny_looks_onW (by rw [I.ok.frames,stk]) Z.stk.2 fl' fun h4 held up4=>?_
  refine wpAny_landsW held fun h5 fl5 up5=>?_
  obtain ⟨u5,k5,kp5⟩:=qZ L.un kp L.hok fl.2.2.1 L.fu fl5.1 (up4.trans up5)
  have I5:Inv Y.X pins σ H' { s' with heap:=h5 }:=I.call' (s':={ s' with heap:=h5 }) (ch:=[]) L.os u5 k5 L.bare (fun _ z=>nomatch z)
  obtain ⟨ob,hob,hobc⟩:=fl5.there
  have LT:W.Looks (model Y.X.prog Y.X.w) h5 (typeOf (.ref e)) (.ref C):=hobc▸(W.Looks.ld hob).andThen .now
  have I5m:Inv (Y.X.caught (.ref e) pins) [] σ H' { s' with heap:=h5 }:=I5.caught (frk _)
  refine wpAny_handleBy_cons (codeAny_handlers_test (yz (X:=Y.X.caught (.ref e) pins) I5m gl.1 (by show Y.X.mg x=_;rw [S.eM];exact hx) ?_ gl.2.1)) (by intro q;cases q)
  refine (W.exm_one (K:=Y.X.K) I5.kIn LT (by rw [S.eK];exact hmt y C hy hC)).here ?_
  refine codeAny_handlers_suite_as ?_
  refine PyProof.Rows.lands_againW fl5 fun h6 fl6 up6=>?_
  have fl5r:h5.FunFrames B Y.X.stack:=by rw [stk];exact fl5.2.2.1
  obtain ⟨u6,k6,kp6⟩:=qZ u5 kp5 k5 fl5r L.fu fl6.1 up6
  have I6:Inv Y.X pins σ H' { s' with heap:=h6 }:=I.call' (s':={ s' with heap:=h6 }) (ch:=[]) L.os u6 k6 L.bare (fun _ z=>nomatch z)
  have hn:H' e=none:=by
   cases q:H' e with
   | none=>rfl
   | some u=>
    obtain ⟨o,ho⟩:=(k6 e u q).there
    have:=kp6 e o ho (.inl (by rw [q];exact fun z=>nomatch z))
    rw [fl6.2.1] at this;cases this
  have hloc:e≠Y.X.env.locals:=fun z=>by
   obtain ⟨mm,⟨oL,_,_,hoL,_⟩,_⟩:=I.loc
   have:=L.new;rw [z,hoL] at this;cases this
  have hce:∀x c,Y.X.env.cells.lookup x=some c->c≠e:=fun x c q z=>by
   obtain ⟨v,o,ho,_⟩:=I.cell x c q
   have:=L.new;rw [<-z,ho] at this;cases this
  have hpe:∀p∈Y.X.pn++pins,p.1≠e:=fun p hp z=>by
   have q:=(I.pin p hp).1
   have:=L.new;rw [<-z,q] at this;cases this
  obtain ⟨oe,vs,hoe,hoc,hod,_⟩:=fl6.first
  have I7:Inv Y.X pins σ (upd H' e (.ext (ExcAt C none e))) { s' with heap:=h6 }:=
   I6.track hn (uJ I Z.ex L.new) hloc hce hpe ⟨⟨oe,vs,hoe,hoc,hod,fun d z=>nomatch z⟩,⟨oe,hoe⟩,fun h1 h2 ⟨o,vs,q1,q2,q3⟩ k=>⟨o,vs,k o q1,q2,q3⟩⟩
  have I7m:Inv (Y.X.caught (.ref e) pins) [] σ (upd H' e (.ext (ExcAt C none e))) { s' with heap:=h6 }:=I7.caught (frk _)
  refine zc (X:=Y.X.caught (.ref e) pins) (v:= .ref e) I7m hN hiX locn.1 rfl (fun s8 I8=>?_) (.inl (S.fn n))
  have E7:Env Y.X.K F Y.H0 F' (upd H' e (.ext (ExcAt C none e))) σ c:=E1.grow (Ext.track E1.fh hn)
  have E8:Env Y.X.K F Y.H0 F' (upd H' e (.ext (ExcAt C none e))) (σ.set i (some (.ref e))) (put c i (.exc C none)):=E7.setExc hlt xm
  have Sh:ScH ⟨Y.X.caught (.ref e) pins,F,Y.H0⟩ T k N G:=⟨⟨S.eP,S.eW,S.eK,S.eM,S.eB,S.n,S.nd,S.loc,S.gl⟩,S.fn,⟨S.room.dp,S.room.un⟩⟩
  have w:=hh _ Sh y C hy hC [] s8 _ _ { nx:=fun σ H=>∃c2 F2,Env Y.X.K F Y.H0 F2 H σ c2/\SsD Y rest (put c2 i .un) P,rt:=D.rt,bk:=fun σ H=>∃c2 F2,Env Y.X.K F Y.H0 F2 H σ c2/\P (.bk (put c2 i .un)),ct:=fun σ H=>∃c2 F2,Env Y.X.K F Y.H0 F2 H σ c2/\P (.ct (put c2 i .un)) } I8 ⟨F',E8,fun o ho=>?_⟩
  ·refine wpAny_mono w (fun f s9 hs=>?_) fun _ _ z=>False.elim z
   have back:∀{σ':St} {H':Hp},Inv (Y.X.caught (.ref e) pins) [] σ' H' s9->Inv Y.X pins σ' H' s9:=fun J=>J.uncaught I.ok.hd I.ok.frames
   cases f with
   | next=>
    obtain ⟨σ',H',J,c2,F2,E2,q⟩:=hs
    exact (back J).unname hN hiX hl fun s10 J10=>⟨_,_,J10,m (.nx (put c2 i .un)) q _ F2 H' E2.ext.ff (E.outof E2.unset)⟩
   | brk=>
    obtain ⟨σ',H',J,c2,F2,E2,q⟩:=hs
    exact (back J).unname hN hiX hl fun s10 J10=>⟨_,_,J10,m (.bk (put c2 i .un)) q _ F2 H' E2.ext.ff (E.outof E2.unset)⟩
   | cont=>
    obtain ⟨σ',H',J,c2,F2,E2,q⟩:=hs
    exact (back J).unname hN hiX hl fun s10 J10=>⟨_,_,J10,m (.ct (put c2 i .un)) q _ F2 H' E2.ext.ff (E.outof E2.unset)⟩
   | ret u=>
    obtain ⟨v,σ',H',J,r,q⟩:=hs
    exact (back J).unname hN hiX hl fun s10 J10=>⟨v,_,_,J10,r,q⟩
  ·cases o with
   | nx c2=>exact fun σ2 F2 H2 s2 E2=>⟨c2,F2,E2,ho⟩
   | bk c2=>exact fun σ2 F2 H2 s2 E2=>⟨c2,F2,E2,ho⟩
   | ct c2=>exact fun σ2 F2 H2 s2 E2=>⟨c2,F2,E2,ho⟩
   | rt d=>exact fun v F2 H2 s2 x r=>m (.rt d) ho v F2 H2 x.ff (E.ext.outof x) r
   | ro ds=>exact False.elim ho
   | rs R=>exact False.elim ho
 have w:=hb _ S' rz [] s σ H D I.tried ⟨F,E.into,fun o ho=>?_⟩
 ·refine wpAny_mono w (fun f s1 hs=>?_) fun e s1 z=>by subst hxe;exact z
  cases f with
  | next=>obtain ⟨σ',H',J,q⟩:=hs;exact wpAny_execs_nil ⟨σ',H',J.untried,q⟩
  | brk=>obtain ⟨σ',H',J,q⟩:=hs;exact ⟨σ',H',J.untried,q⟩
  | cont=>obtain ⟨σ',H',J,q⟩:=hs;exact ⟨σ',H',J.untried,q⟩
  | ret u=>obtain ⟨v,σ',H',J,r,q⟩:=hs;exact ⟨v,σ',H',J.untried,r,q⟩
 ·cases o with
  | nx c2=>exact fun σ2 F2 H2 s2 E2=>m (.nx c2) ho σ2 F2 H2 s2 (E.outof E2)
  | bk c2=>exact fun σ2 F2 H2 s2 E2=>m (.bk c2) ho σ2 F2 H2 s2 (E.outof E2)
  | ct c2=>exact fun σ2 F2 H2 s2 E2=>m (.ct c2) ho σ2 F2 H2 s2 (E.outof E2)
  | rt d=>exact fun v F2 H2 s2 x r=>m (.rt d) ho v F2 H2 s2 (E.ext.outof x) r
  | ro ds=>exact fun vs F2 H2 p s2 x r hp=>m (.ro ds) ho vs F2 H2 p s2 (E.ext.outof x) r hp
  | rs R=>exact fun v F2 H1 H2 s2 x r=>m (.rs R) ho v F2 H1 H2 s2 (E.ext.outof x) r
theorem qV (env:PySem.Env):∀(l:List (Str×NameKind)) (acc:List (Str×Addr)),(∀x∈l,x.2= .free->∃c,env.cells.lookup x.1=some c)->
  ∃cl,(forIn l acc (fun (x:Str×NameKind) (cs:List (Str×Addr))=>(if (x.2== .free)=true then do let a <-cellOf env x.1;pure (ForInStep.yield ((x.1,a)::cs)) else pure (ForInStep.yield cs):Sem (ForInStep (List (Str×Addr))))):Sem (List (Str×Addr)))=pure cl/\
   (∀y c,cl.lookup y=some c->acc.lookup y=some c∨(env.cells.lookup y=some c/\(y,NameKind.free)∈l))/\(∀y,(acc.lookup y).isSome=true∨(y,NameKind.free)∈l->∃c,cl.lookup y=some c)
 | [],acc,_=>⟨acc,rfl,fun y c h=> .inl h,fun y h=>by
   rcases h with h | h
   ·exact Option.isSome_iff_exists.mp h
   ·simp at h⟩
 | (n,kd)::r,acc,h=>by
  by_cases hk:kd= .free
  ·subst hk
   obtain ⟨a,ha⟩:=h (n,.free) List.mem_cons_self rfl
   obtain ⟨cl,e,h1,h2⟩:=qV env r ((n,a)::acc) fun x hx=>h x (mI _ hx)
   refine ⟨cl,?_,fun y c q=>?_,fun y q=>?_⟩
   ·rw [List.forIn_cons]
    have ec:cellOf env n=pure a:=by unfold cellOf;rw [ha]
    simp only [beq_self_eq_true,if_true,ec]
    exact e
   ·rcases h1 y c q with z | ⟨z1,z2⟩
    ·rw [List.lookup_cons] at z
     split at z
     ·rename_i b
      have:y=n:=by simpa using b
      subst this
      cases z
      exact .inr ⟨ha,List.mem_cons_self⟩
     ·exact .inl z
    ·exact .inr ⟨z1,mI _ z2⟩
   ·refine h2 y ?_
    rcases q with q | q
    ·left;rw [List.lookup_cons];split
     ·rfl
     ·exact q
    ·rcases List.mem_cons.mp q with z | z
     ·cases z;left;rw [List.lookup_cons,beq_self_eq_true];rfl
     ·exact .inr z
  ·obtain ⟨cl,e,h1,h2⟩:=qV env r acc fun x hx=>h x (mI _ hx)
   refine ⟨cl,?_,fun y c q=>?_,fun y q=>h2 y ?_⟩
   ·rw [List.forIn_cons]
    have:(kd==NameKind.free)=false:=by cases kd<;>first | rfl | exact absurd rfl hk
    simp only [this,Bool.false_eq_true,if_false]
    exact e
   ·rcases h1 y c q with z | ⟨z1,z2⟩
    ·exact .inl z
    ·exact .inr ⟨z1,mI _ z2⟩
   ·rcases q with q | q
    ·exact .inl q
    ·rcases List.mem_cons.mp q with z | z
     ·cases z;exact absurd rfl hk
     ·exact .inr z
theorem Xq (scope:Scope) (env:PySem.Env) (h:∀x∈scope.names,x.2= .free->∃c,env.cells.lookup x.1=some c):
  ∃cl,closureFor scope env=pure cl/\(∀y c,cl.lookup y=some c->env.cells.lookup y=some c/\(y,NameKind.free)∈scope.names)/\∀y,(y,NameKind.free)∈scope.names->∃c,cl.lookup y=some c:=by
 obtain ⟨cl,e,h1,h2⟩:=qV env scope.names [] h
 refine ⟨cl,?_,fun y c q=>?_,fun y q=>h2 y (.inr q)⟩
 ·have z:closureFor scope env=((forIn scope.names ([]:List (Str×Addr)) (fun (x:Str×NameKind) (cs:List (Str×Addr))=>(if (x.2== .free)=true then do let a <-cellOf env x.1;pure (ForInStep.yield ((x.1,a)::cs)) else pure (ForInStep.yield cs):Sem (ForInStep (List (Str×Addr))))):Sem (List (Str×Addr)))>>=fun r=>pure r):=rfl
  rw [z,e]
  rfl
 ·rcases h1 y c q with z | z
  ·cases z
  ·exact z
theorem YO {prog:Program} {w:World} {A:Around} {R:Result->Shared->Prop} {s:Shared} {elt target iter:Expr} {ifs:List Expr} {scope:Scope} {pos:Pos} {it acc:Value} {env:PySem.Env} (I:Nat->Shared->Prop)
  (turn:∀n s,I n s->wpAny (model prog w) A (pyNext it) (fun r s₁=>match r with
   | none=>R (.ok .next) s₁
   | some v=>wpAny (model prog w) A (letOwnedTupleGo target it v) (fun _ s₁'=>wpAny (model prog w) A (assign target env v) (fun _ s₂=>
     wpAny (model prog w) A (forIn ifs true fun c r=>if r=true then do let ok <-isTrue c env (eval c env);pure (ForInStep.yield ok) else pure (ForInStep.yield r)) (fun ok s₃=>
      if ok=true then wpAny (model prog w) A (eval elt env) (fun x s₄=>
       wpAny (model prog w) A (call (.builtin "list.append") [acc,x]) (fun _ s₅=>∃m,m<n/\I m s₅) (notedBy (model prog w) A env fun e s'=>R (.error e) s') s₄) (notedBy (model prog w) A env fun e s'=>R (.error e) s') s₃
      else ∃m,m<n/\I m s₃) (notedBy (model prog w) A env fun e s'=>R (.error e) s') s₂) (notedBy (model prog w) A env fun e s'=>R (.error e) s') s₁') (notedBy (model prog w) A env fun e s'=>R (.error e) s') s₁) (notedBy (model prog w) A env fun e s'=>R (.error e) s') s)
  (n:Nat) (h:I n s):
  codeAny (model prog w) A (.compLoop (.ListComp elt [⟨target,iter,ifs,0⟩] scope pos) 0 it acc env) R s:=by
 refine codeAny_loop rfl I (fun n s hI=>?_) n h
 show wpAny _ A ((compTurn (.ListComp elt [⟨target,iter,ifs,0⟩] scope pos) 0 it acc env).onRaise (fun x=>do noteFrame x env;theTreesLotGoes x)) _ _ s
 refine wpAny_noted ?_
 rw [compTurn_list]
 refine wpAny_bind (wpAny_standAt (wpAny_bind (wpAny_mono (turn n s hI) (fun r s₁ h₁=>?_) fun _ _ h'=>h')))
 cases r with
 | none=>exact wpAny_pure h₁
 | some v=>
  refine wpAny_bind (wpAny_mono h₁ (fun _ s₁' h₁'=>?_) fun _ _ h'=>h')
  refine wpAny_bind (wpAny_mono h₁' (fun _ s₂ h₂=>wpAny_bind (wpAny_mono h₂ (fun ok s₃ h₃=>?_) fun _ _ h'=>h')) fun _ _ h'=>h')
  cases ok with
  | false=>exact wpAny_pure ⟨rfl,h₃⟩
  | true=>
   exact wpAny_bind (wpAny_bind (wpAny_mono h₃ (fun x s₄ h₄=>wpAny_bind (wpAny_mono h₄ (fun _ s₅ h₅=>wpAny_pure (wpAny_pure ⟨rfl,h₅⟩)) fun _ _ h'=>h')) fun _ _ h'=>h'))
noncomputable def cxC (X:Cx) (N':List Str) (scope:Scope) (cl:List (Str×Addr)) (C:Addr) (s:Shared) (H:Hp) (ex:List Addr) (xe:Value->Shared->Prop):Cx:=
 { X with N:=N',s₀:=s,H₀:=H,env:=compEnvC scope cl C X.env,outer:=X.stack,ex:=ex,fn:=fun x=>(cl.lookup x).isNone,pn:=[],xe:=xe }
structure CmB (N tn fs:List Str) (ix:List Nat) (G:List Str) (scope osc:Scope):Prop where
 kd:scope.kind= .function
 okd:osc.kind= .function
 nocell:∀x∈scope.names,x.2≠ .cell
 once:∀x∈scope.names,x.2= .local->scope.names.lookup x.1=some .local
 fr:∀x∈scope.names,x.2= .free->osc.names.lookup x.1=some .cell
 htn:∀x∈tn,scope.names.lookup x=some .local/\(x==("__debug__" :Str))=false/\(x==("__classdict__" :Str))=false
 hfs:∀x∈fs,scope.names.lookup x=some .free/\(x==("__debug__" :Str))=false/\(x==("__classdict__" :Str))=false
 hnd:(tn++fs).Nodup
 hix:ix.map (fun i=>N[i]?)=fs.map some
 hgl:∀x∈G,scope.names.lookup x=some .globalImplicit/\(x==("__debug__" :Str))=false/\x≠ "__name__"
theorem relabel_of {scope:Scope} {env:PySem.Env} {x:Str}:∀{names:List (Str×NameKind)} {k:NameKind},names.lookup x=some k->
  (names.map fun (n,k)=>if (k==NameKind.free && env.scope.kind== .function && env.kindOf n==some .cell) then (n,NameKind.cell) else (n,k)).lookup x=some (if (k==NameKind.free && env.scope.kind== .function && env.kindOf x==some .cell)=true then .cell else k)
 | [],_,h=>by simp at h
 | (n,k')::r,k,h=>by
  have ih:= @relabel_of scope env x r k
  show List.lookup x ((if (k'==NameKind.free && env.scope.kind== .function && env.kindOf n==some .cell)=true then (n,NameKind.cell) else (n,k'))::_)=_
  cases hx:x==n with
  | true=>
   simp only [List.lookup_cons,hx] at h
   cases h
   have:x=n:=by simpa using hx
   subst this
   split
   ·rename_i hc;simp [List.lookup_cons,hc]
   ·rename_i hc;simp only [List.lookup_cons,hx,if_neg hc]
  | false=>
   simp only [List.lookup_cons,hx] at h
   by_cases hc:(k'==NameKind.free && env.scope.kind== .function && env.kindOf n==some .cell)=true
   ·rw [if_pos hc];simp only [List.lookup_cons,hx];exact ih h
   ·rw [if_neg hc];simp only [List.lookup_cons,hx];exact ih h
theorem relabel_back {scope:Scope} {env:PySem.Env} {x:Str}:∀{names:List (Str×NameKind)} {k:NameKind},
  (names.map fun (n,k)=>if (k==NameKind.free && env.scope.kind== .function && env.kindOf n==some .cell) then (n,NameKind.cell) else (n,k)).lookup x=some k->∃k',names.lookup x=some k'/\(x,k')∈names/\(k=k'∨k'= .free)
 | [],_,h=>by simp at h
 | (n,k')::r,k,h=>by
  have ih:= @relabel_back scope env x r k
  have h:List.lookup x ((if (k'==NameKind.free && env.scope.kind== .function && env.kindOf n==some .cell)=true then (n,NameKind.cell) else (n,k'))::(r.map fun (n,k)=>if (k==NameKind.free && env.scope.kind== .function && env.kindOf n==some .cell) then (n,NameKind.cell) else (n,k)))=some k:=h
  cases hx:x==n with
  | true=>
   have:x=n:=by simpa using hx
   subst this
   refine ⟨k',by simp [List.lookup_cons],List.mem_cons_self,?_⟩
   by_cases hc:(k'==NameKind.free && env.scope.kind== .function && env.kindOf x==some .cell)=true
   ·right
    simp only [Bool.and_eq_true] at hc
    have:=hc.1.1
    cases k'<;>first | rfl | exact absurd this (by decide)
   ·rw [mF hc] at h
    simp [List.lookup_cons] at h
    exact .inl h.symm
  | false=>
   have h':List.lookup x (r.map fun (n,k)=>if (k==NameKind.free && env.scope.kind== .function && env.kindOf n==some .cell) then (n,NameKind.cell) else (n,k))=some k:=by
    by_cases hc:(k'==NameKind.free && env.scope.kind== .function && env.kindOf n==some .cell)=true
    ·rw [if_pos hc] at h;simpa only [List.lookup_cons,hx] using h
    ·rw [if_neg hc] at h;simpa only [List.lookup_cons,hx] using h
   obtain ⟨k2,a,b,c⟩:=ih h'
   exact ⟨k2,by simp only [List.lookup_cons,hx];exact a,List.mem_cons_of_mem _ b,c⟩
theorem u7 {X:Cx} {N':List Str} {scope:Scope} {cl:List (Str×Addr)} {C:Addr} {s:Shared} {H:Hp} {ex:List Addr} {xe:Value->Shared->Prop} {x:Str} {k:NameKind} (h:scope.names.lookup x=some k):
  (cxC X N' scope cl C s H ex xe).env.scope.names.lookup x=some (if (k==NameKind.free && X.env.scope.kind== .function && X.env.kindOf x==some .cell)=true then .cell else k):=relabel_of (scope:=scope) h
section
variable {X:Cx} {pins:List (Addr×Obj)} {σ:St} {H2:Hp} {s2:Shared} {N tn fs G:List Str} {ix:List Nat} {scope osc:Scope} {cl:List (Str×Addr)} {fp:List Addr} {tnn:Nat->Heap->Prop} {J:It} {it D C:Addr} {tg:Expr} {h4:Heap} {m0:Str->Option Value} {xe:Value->Shared->Prop}
noncomputable def capt (n:Nat) (ix:List Nat) (σ:St):St:=List.replicate n none++ix.map fun i=>(σ[i]?).join
theorem jn (I2:Inv X pins σ H2 s2) (T:Turn X.prog X.w X.K tg J fp it tnn) (st2:tnn 0 s2.heap) (f2:∀b∈fp,FpOk X pins H2 b) (hsc:X.env.scope=osc) (hN:X.N=N) (B:CmB N tn fs ix G scope osc)
  (hcl1:∀y c,cl.lookup y=some c->X.env.cells.lookup y=some c/\(y,NameKind.free)∈scope.names) (hcl2:∀y,(y,NameKind.free)∈scope.names->∃c,cl.lookup y=some c)
  (k:∀b u,s2.heap.get? b=some u->h4.get? b=some u) (eD:D=s2.heap.objs.size) (hD:h4.get? D=some { cls:= .type "list",data:= .seq #[] }) (hns:h4.Ns C m0) (hC:s2.heap.objs.size<C) {t':Nat}:
  Inv (cxC X (tn++fs) scope cl C s2 H2 fp xe) [] (capt tn.length ix σ) (upd H2 D (.lst [])) { s2 with heap:=h4,toks:=t' }:=by
 have old:∀b u,s2.heap.get? b=some u->b≠C:=fun b u e z=>by
  have:=Heap.lt_size e;rw [z] at this;exact Nat.lt_irrefl _ (Nat.lt_trans this hC)
 have oldD:∀b u,s2.heap.get? b=some u->b≠D:=fun b u e z=>by
  have:=Heap.lt_size e;rw [z,eD] at this;exact Nat.lt_irrefl _ this
 have freeOf:∀x,((cxC X (tn++fs) scope cl C s2 H2 fp xe).env.kindOf x=some .cell∨(cxC X (tn++fs) scope cl C s2 H2 fp xe).env.kindOf x=some .free)->(x,NameKind.free)∈scope.names:=fun x hx=>by
  have:∃k,(cxC X (tn++fs) scope cl C s2 H2 fp xe).env.kindOf x=some k/\(k= .cell∨k= .free):=by
   rcases hx with h | h
   ·exact ⟨_,h,.inl rfl⟩
   ·exact ⟨_,h,.inr rfl⟩
  obtain ⟨k,hk,hc⟩:=this
  obtain ⟨k',e1,e2,e3⟩:=relabel_back (scope:=scope) (env:=X.env) (names:=scope.names) hk
  rcases e3 with rfl | rfl
  ·rcases hc with rfl | rfl
   ·exact absurd rfl (B.nocell _ e2)
   ·exact e2
  ·exact e2
 have hH:∀b,H2 b=none->b≠D->upd H2 D (.lst []) b=none:=fun b h1 h2=>by rw [xh h2];exact h1
 refine ⟨⟨I2.ok.mod,?_,I2.ok.glob,I2.ok.blt,Nat.le_of_lt hC,fun x y c h1 h2=>I2.ok.inj x y c (hcl1 x c h1).1 (hcl1 y c h2).1,fun x hx=>hcl2 x (freeOf x hx),fun x c h1 h2=>?_,I2.ok.hd,I2.ok.frames,.inl rfl,fun b hb=>⟨?_,fun x c e=>?_⟩,I2.bs,Nat.le_trans I2.ok.bsz I2.sz,fun b o e hb=>?_,fun b hb hs=>?_,I2.stack,I2.stkFree⟩,
  rfl,I2.bare,Un.laid k (by rw [eD];exact Nat.le_refl _) (I2.hok.fresh (by rw [eD];exact Nat.le_refl _)),⟨m0,hns,fun i x v e1 e2 e3=>?_⟩,fun x c e=>?_,?_,fun x c e=>?_,fun p hp=>absurd (show p∈([]:List (Addr×Obj)) from hp) (by simp),?_,?_⟩
 ·show scope.kind= .function;exact B.kd
 ·have h1:(cl.lookup x).isNone=true:=h1
  rw [show cl.lookup x=some c from h2] at h1;cases h1
 ·obtain ⟨o,e,_⟩:=T.obj 0 _ st2 b hb;exact old b o e
 ·exact (f2 b hb).2.2.2.2.1 x c (hcl1 x c e).1
 ·have hb:b∈fp:=hb
  rcases (f2 b hb).2.2.2.1 with z | z
  ·exact I2.ok.noex b o e z
  ·exact absurd (mE (Heap.lt_size (I2.ok.bs b o e).1) z) (Nat.lt_irrefl _)
 ·have hb:b∈fp:=hb
  rcases List.mem_cons.mp (I2.stkSub b hs) with z | z
  ·exact (f2 b hb).2.1 z
  ·exact (f2 b hb).2.2.1 z
 ·
  have hl:tn.length<=i:=by
   rcases Nat.lt_or_ge i tn.length with z | z
   ·unfold capt at e2
    rw [List.getElem?_append_left (by simpa using z),List.getElem?_replicate] at e2
    split at e2<;>cases e2
   ·exact z
  have e1':fs[i - tn.length]? =some x:=by
   have:(tn++fs)[i]? =some x:=e1
   rwa [List.getElem?_append_right hl] at this
  have e2':(ix.map fun i=>(σ[i]?).join)[i - tn.length]? =some (some v):=by
   unfold capt at e2
   rwa [List.getElem?_append_right (by simpa using hl),List.length_replicate] at e2
  rw [List.getElem?_map] at e2'
  cases qj:ix[i - tn.length]? with
  | none=>rw [qj] at e2';cases e2'
  | some j=>
   rw [qj] at e2'
   have e3':σ[j]? =some (some v):=by
    have:(σ[j]?).join=some v:=by simpa using e2'
    cases q:σ[j]? with
    | none=>rw [q] at this;cases this
    | some o=>rw [q] at this;have:o=some v:=this;rw [this]
   have e4:X.N[j]? =some x:=by
    have z:=congrArg (fun l=>l[i - tn.length]?) B.hix
    simp only [List.getElem?_map,qj,e1',Option.map_some] at z
    rw [hN];exact Option.some.inj z
   have hx:=B.hfs x (mz e1')
   have hmem:(x,NameKind.free)∈scope.names:=PySem.mem_of_lookup hx.1
   have hcell:X.env.kindOf x=some .cell:=by show X.env.scope.names.lookup x=_;rw [hsc];exact B.fr _ hmem rfl
   obtain ⟨mm,_,hv⟩:=I2.loc
   obtain ⟨u,ru,lu⟩:=hv j x v e4 e3' (.inr (.inl hcell))
   refine ⟨u,ru,.inr ⟨.inl ?_,?_⟩⟩
   ·show (cxC X (tn++fs) scope cl C s2 H2 fp xe).env.scope.names.lookup x=_
    rw [u7 hx.1]
    have hk:X.env.scope.kind= .function:=by rw [hsc];exact B.okd
    simp [hk,hcell]
   ·obtain ⟨c,hc⟩:=hcl2 x hmem
    refine ⟨c,hc,?_⟩
    rcases lu with ⟨z,_⟩ | ⟨_,c',h1,h2⟩
    ·rw [hcell] at z;cases z
    ·have:=(hcl1 x c hc).1
     rw [h1] at this;cases this
     obtain ⟨o,ho,hd⟩:=h2
     exact ⟨o,k _ _ ho,hd⟩
 ·obtain ⟨v,o,ho,hd⟩:=I2.cell x c (hcl1 x c e).1
  exact ⟨v,o,k _ _ ho,hd⟩
 ·refine hH C (I2.hok.fresh (Nat.le_of_lt hC)) ?_
  intro z;rw [z,eD] at hC;exact Nat.lt_irrefl _ hC
 ·obtain ⟨v,o,ho,hd⟩:=I2.cell x c (hcl1 x c e).1
  exact hH c (I2.freeC x c (hcl1 x c e).1) (oldD c o ho)
 ·exact I2.hok.laid (a:=D) (o:= .lst []) k (by rw [eD];exact mJ _) ⟨Nat.zero_le _,[],0,.nil,hD⟩
 ·show (capt tn.length ix σ).length=(tn++fs).length
  have:=congrArg List.length B.hix
  simp only [List.length_map] at this
  unfold capt
  simp [this]
end
def capS:Slot->Slot
 | .val d=> .val d
 | .thg t=> .bor t
 | .bor t=> .bor t
 | .dsk _ _ C p s _=> .bor (DskT C p s)
 | _=> .un
def TsD (Y:Cy):List Expr->List Slot->Bool->Prop
 | [],_,b=>b=true
 | [t],c,b=>TeD Y t c b
 | _,_,_=>False
theorem w6 {α:Type} (f:α->Slot):∀(l:List α) (i:Nat),slot (l.map f) i=(match l[i]? with | some x=>f x | none=> .un)
 | [],i=>by simp [slot]
 | x::r,0=>rfl
 | x::r,i+1=>by simpa [slot] using w6 f r i
theorem zF:∀(a b:List Slot) (i:Nat),i<a.length->slot (a++b) i=slot a i
 | [],_,_,h=>by simp at h
 | _::_,_,0,_=>rfl
 | _::r,b,i+1,h=>zF r b i (by simpa using h)
theorem zp:∀(a b:List Slot) (i:Nat),slot (a++b) (a.length+i)=slot b i
 | [],_,i=>by simp
 | _::r,b,i=>by
  have:=zp r b i
  simp only [List.length_cons,List.cons_append]
  rw [show r.length+1+i=(r.length+i)+1 by omega]
  exact this
theorem jN {K:W.Frag} {F₀ H₀ F H:Hp} {σ:St} {c:List Slot} {n:Nat} {ix:List Nat} {D:Addr} {o:HO} (E:Env K F₀ H₀ F H σ c) (hn:H D=none):
  Env K F H F (upd H D o) (capt n ix σ) (List.replicate n .un++ix.map fun i=>capS (slot c i)) where
 ext:=Ext.track E.fh hn
 len:=by unfold capt;simp
 sl:=fun j=>by
  unfold capt
  by_cases hj:j<n
  ·rw [zF _ _ _ (by simpa using hj),zQ];exact trivial
  ·have ej:j=(List.replicate n Slot.un).length+(j - n):=by simp;omega
   have e2:slot (List.replicate n .un++ix.map fun i=>capS (slot c i)) j=slot (ix.map fun i=>capS (slot c i)) (j - n):=by
    have:=zp (List.replicate n .un) (ix.map fun i=>capS (slot c i)) (j - n)
    rw [<-ej] at this;exact this
   rw [e2,w6,List.getElem?_append_right (by simp;omega),List.length_replicate,List.getElem?_map]
   cases q:ix[j - n]? with
   | none=>exact trivial
   | some i=>
    show SlotOk K H F (upd H D o) (some ((σ[i]?).join)) (capS (slot c i))
    have z:=E.sl i
    cases e:slot c i with
    | val d=>
     rw [e] at z
     obtain ⟨x,ex,r⟩:=z
     exact ⟨x,by rw [ex];rfl,r⟩
    | thg t=>
     rw [e] at z
     obtain ⟨a,o',ex,h1,_,_,r⟩:=z
     exact ⟨a,o',by rw [ex];rfl,h1,r.1⟩
    | dsk a l C p s past=>
     rw [e] at z
     obtain ⟨ex,dx,vs,x,y,h1,_,_,_,_,_,_,r1,r2,_⟩:=z
     exact ⟨a,_,by rw [ex];rfl,h1,dx,l,x,y,rfl,r1,r2⟩
    | bor t=>
     rw [e] at z
     obtain ⟨a,o',ex,h1,r⟩:=z
     exact ⟨a,o',by rw [ex];rfl,E.ext.hh _ _ h1,r⟩
    | _=>exact trivial
 inj:=fun i j a h _ _ _=>by
  exfalso
  have:isOwn (slot (List.replicate n .un++ix.map fun i=>capS (slot c i)) i)=false:=by
   by_cases hj:i<n
   ·rw [zF _ _ _ (by simpa using hj),zQ];rfl
   ·have ej:i=(List.replicate n Slot.un).length+(i - n):=by simp;omega
    have e2:slot (List.replicate n .un++ix.map fun i=>capS (slot c i)) i=slot (ix.map fun i=>capS (slot c i)) (i - n):=by
     have:=zp (List.replicate n .un) (ix.map fun i=>capS (slot c i)) (i - n)
     rw [<-ej] at this;exact this
    rw [e2,w6]
    split
    ·rename_i x _;cases slot c x<;>rfl
    ·rfl
  rw [this] at h;cases h
theorem Env.aside {K:W.Frag} {F₀ H₀ F H:Hp} {σ:St} {c:List Slot} {D:Addr} {vs ws:List V} (E:Env K F₀ H₀ F H σ c) (h0:H₀ D=none) (hF:F D=none) (hD:H D=some (.lst vs)) (hs:∀i a,isOwn (slot c i)=true->σ[i]? =some (some (.ref a))->a≠D):Env K F₀ H₀ F (upd H D (.lst ws)) σ c where
 ext:=⟨E.ext.ff,fun b u q=>by rw [xh (fun z=>by rw [z,hF] at q;cases q)];exact E.ext.fh _ _ q,fun b u q=>by rw [xh (fun z=>by rw [z,h0] at q;cases q)];exact E.ext.hh _ _ q,E.ext.fr⟩
 len:=E.len
 sl:=fun i=>by
  have z:=E.sl i
  cases e:slot c i with
  | un=>exact trivial
  | val d=>rw [e] at z;exact z
  | own ds=>
   rw [e] at z
   obtain ⟨a,vs',h1,h2,h3,h4,h5⟩:=z
   exact ⟨a,vs',h1,by rw [xh (hs i a (by rw [e];rfl) h1)];exact h2,h3,h4,h5⟩
  | dic ds=>
   rw [e] at z
   obtain ⟨a,vs',h1,h2,h3,h4,h5⟩:=z
   exact ⟨a,vs',h1,by rw [xh (hs i a (by rw [e];rfl) h1)];exact h2,h3,h4,h5⟩
  | thg t=>
   rw [e] at z
   obtain ⟨a,vs',h1,h2,h3,h4,h5⟩:=z
   exact ⟨a,vs',h1,by rw [xh (hs i a (by rw [e];rfl) h1)];exact h2,h3,h4,h5⟩
  | bor t=>rw [e] at z;exact z
  | fnv f=>rw [e] at z;exact z
  | dsk a l C p s past=>
   rw [e] at z
   exact ⟨z.1,z.2.upd hD Yy⟩
  | exc C dx=>
   rw [e] at z
   obtain ⟨a,h1,h2⟩:=z
   exact ⟨a,h1,by rw [xh (fun q=>by rw [q,hD] at h2;cases h2)];exact h2⟩
 inj:=E.inj
theorem ZU {Y:Cy} {ifs:List Expr} {c:List Slot} {b:Bool} {pins:List (Addr×Obj)} {s:Shared} {σ:St} {F H:Hp} (h:TsD Y ifs c b) (I:Inv Y.X pins σ H s) (E:EnvY Y F H σ c) {Q:Bool->Shared->Prop}
  (q:∀s' F' H',Ext F H F' H'->Inv Y.X pins σ H' s'->Q b s'):
  wpAny (model Y.X.prog Y.X.w) Y.X.A (forIn ifs true fun c r=>if r=true then do let ok <-isTrue c Y.X.env (eval c Y.X.env);pure (ForInStep.yield ok) else pure (ForInStep.yield r)) Q Y.X.xe s:=by
 match ifs,h with
 | [],h=>
  have h:b=true:=h
  subst h
  exact wpAny_tests_nil (q s F H (Ext.refl E.fh) I)
 | [t],h=>
  refine wpAny_tests_one ?_
  have w:=(show TeD Y t c b from h) pins s σ H (fun v H'=>v=b/\∃F',Ext F H F' H') I ⟨F,E,fun F' H' e=>⟨rfl,F',e⟩⟩
  refine wpAny_mono w (fun v s' hv=>?_) fun _ _ z=>z
  obtain ⟨H',I',rfl,F',e⟩:=hv
  exact q s' F' H' e I'
theorem Vj:∀{ts:List Slot},ts.all (fun s=> !isOwn s)=true->∀j,isOwn (slot ts j)=false
 | [],_,_=>rfl
 | x::r,h,0=>by simp at h;exact h.1
 | x::r,h,j+1=>Vj (ts:=r) (by simp at h ⊢;exact h.2) j
theorem UV {ts:List Slot} {ix:List Nat} {c:List Slot} (h:ts.all (fun s=> !isOwn s)=true) {j:Nat}:isOwn (slot (ts++ix.map fun i=>capS (slot c i)) j)=false:=by
 refine Vj ?_ j
 rw [List.all_append,h,Bool.true_and,List.all_map]
 rw [List.all_eq_true]
 intro i _
 show (!isOwn (capS (slot c i)))=true
 cases slot c i<;>rfl
theorem u9 {Y:Cy} {T:Tx} {k:Nat} {N G tn fs G':List Str} {ix:List Nat} {c:List Slot} {tg iter elt:Expr} {ifs:List Expr} {scope osc:Scope} {pos:Pos} {items:List D} (S:Se Y T k N G) (hsc:Y.X.env.scope=osc) (B:CmB N tn fs ix G' scope osc) (hi:ItD Y tg iter c items)
  (rs:List (Option D)) (stop:Nat) (hlen:rs.length=items.length) (hz:rs.length<=100000)
  (turn:∀(Y':Cy) (S':Se Y' T k (tn++fs) G'),(∀x∈tn,Y'.X.env.scope.names.lookup x=some .local)->(∀C,RzS Y C c->∀c',Rz Y' C c')->∀(m:Nat) (d:D) (r:Option D),items[m]? =some d->rs[m]? =some r->m<=stop->∀ts:List Slot,ts.length=tn.length->
   ∃ts':List Slot,ts'.length=tn.length/\ts'.all (fun s=> !isOwn s)=true/\TgD Y' tg d (ts++ix.map fun i=>capS (slot c i)) (ts'++ix.map fun i=>capS (slot c i))/\(if m=stop then TsD Y' ifs (ts'++ix.map fun i=>capS (slot c i)) true/\EvX Y' elt (ts'++ix.map fun i=>capS (slot c i)) else match r with
    | some e=>TsD Y' ifs (ts'++ix.map fun i=>capS (slot c i)) true/\EvD Y' elt (ts'++ix.map fun i=>capS (slot c i)) e
    | none=>TsD Y' ifs (ts'++ix.map fun i=>capS (slot c i)) false))
  (hs:∀x,foldedSetIterable iter Y.X.env x=pure x:=by intro _;rfl)
  {pins:List (Addr×Obj)} {s:Shared} {σ:St} {F H:Hp} (I:Inv Y.X pins σ H s) (E:EnvY Y F H σ c) {use:Option (Value->Sem Unit)} {Qv:Value->Shared->Prop} {cpos:Pos}
  (post:items.length<=stop->∀(D C:Addr) (s':Shared) (m:Str->Option Value) (F' H':Hp) (vs:List V),s'.heap.Ns C m->FpOk Y.X pins H' C->(∀h',Heap.SameBut C s'.heap h'->Inv Y.X pins σ H' { s' with heap:=h' })->Ext F H F' H'->H D=none->H' D=some (.lst vs)->F' D=none->Reps Y.X.K F' vs (rs.filterMap id)->
   compPost (model Y.X.prog Y.X.w) Y.X.A Y.X.xe use Qv (.ref D) C (.ok .next) s'):
  wpAny (model Y.X.prog Y.X.w) Y.X.A (comprehension (.ListComp elt [⟨tg,iter,ifs,0⟩] scope pos) scope Y.X.env cpos (newList []) (firstAsync [⟨tg,iter,ifs,0⟩]) (firstIter [⟨tg,iter,ifs,0⟩] Y.X.env) use) Qv Y.X.xe s:=by
 obtain ⟨cl,ecl,hcl1,hcl2⟩:=Xq scope Y.X.env fun x hx hf=>I.ok.has x.1 (.inl (by show Y.X.env.scope.names.lookup x.1=_;rw [hsc];exact B.fr x hx hf))
 refine wpAny_comprehension_free (g:=⟨tg,iter,ifs,0⟩) (gs:=[]) rfl hs ecl B.kd B.once ?_
 have h1:=hi pins s σ H (fun J H1=>∃F1,Ext F H F1 H1/\Yields Y.X.K F1 J items) I ⟨F,E,fun J F1 H1 e1 y=>⟨F1,e1,y⟩⟩
 refine thn h1 fun x s1 h1=>thn h1 fun itv s2 h2=>?_
 obtain ⟨it,fp,tnn,J,H2,rfl,I2,TT,st2,f2,F2,e2,yl⟩:=h2
 refine wpAny_newObj_type (wpAny_newFunctionEnv B.nocell (by intro y hy;simp at hy) (fun h4 hns hsb=>?_) B.kd)
 dsimp only at hns hsb ⊢
 generalize hH3:s2.heap.push { cls:= .type "list",dict:=none,data:= .seq ([]:List Value).toArray }=g3 at hns hsb ⊢
 have hC:g3.objs.size=s2.heap.objs.size+1:=by rw [<-hH3,Heap.size_push]
 have hD3:g3.get? s2.heap.objs.size=some { cls:= .type "list",dict:=none,data:= .seq ([]:List Value).toArray }:=by rw [<-hH3];exact Heap.get?_push_size _ rfl
 have kk:∀b u,s2.heap.get? b=some u->h4.get? b=some u:=fun b u e=>hsb.extBut b u (by rw [hC];exact Nat.ne_of_lt (Nat.lt_succ_of_lt (Heap.lt_size e))) (Heap.get?_push_of_some _ (hH3▸Heap.get?_push_of_some _ e))
 have hD:h4.get? s2.heap.objs.size=some { cls:= .type "list",data:= .seq #[] }:=hsb.extBut _ _ (by rw [hC];exact Nat.ne_of_lt (Nat.lt_succ_self _)) (Heap.get?_push_of_some _ hD3)
 have hCl:s2.heap.objs.size<g3.objs.size:=by rw [hC];exact Nat.lt_succ_self _
 generalize hDe:s2.heap.objs.size=D at hD hCl ⊢
 generalize g3.objs.size=C at hns hsb hCl ⊢
 have hDn:H2 D=none:=I2.hok.fresh (by rw [hDe];exact mJ _)
 generalize hxe:(notedBy (model Y.X.prog Y.X.w) Y.X.A (compEnvC scope cl C Y.X.env) fun e s'=>compPost (model Y.X.prog Y.X.w) Y.X.A Y.X.xe use Qv (.ref D) C (.error e) s')=xe
 have I4:=jn (xe:=xe) (t':=s2.toks+([]:List (Str×Value)).length) I2 TT st2 f2 hsc S.n B hcl1 hcl2 kk hDe.symm hD hns (by rw [hDe];exact hCl)
 generalize hXc:cxC Y.X (tn++fs) scope cl C s2 H2 fp xe=Xc at I4
 have xP:Xc.prog=Y.X.prog:=by rw [<-hXc];rfl
 have xW:Xc.w=Y.X.w:=by rw [<-hXc];rfl
 have xK:Xc.K=Y.X.K:=by rw [<-hXc];rfl
 have xA:Xc.A=Y.X.A:=by rw [<-hXc];rfl
 have xE:Xc.xe=xe:=by rw [<-hXc];rfl
 have xS:Xc.stack=Y.X.stack:=by rw [<-hXc];rfl
 have xenv:Xc.env=compEnvC scope cl C Y.X.env:=by rw [<-hXc];rfl
 have S':Se ⟨Xc,F2,H2⟩ T k (tn++fs) G':=by
  subst hXc
  refine ⟨⟨S.eP,S.eW,S.eK,S.eM,S.eB,rfl,B.hnd,fun x hx=>?_,fun x hx=>?_⟩,S.calm,S.room⟩
  ·rcases List.mem_append.mp hx with h | h
   ·have z:=B.htn x h
    exact ⟨.inl (lookup_relabel_local z.1),z.2⟩
   ·have z:=B.hfs x h
    refine ⟨.inr ?_,z.2⟩
    have zz:=u7 (X:=Y.X) (N':=tn++fs) (cl:=cl) (C:=C) (s:=s2) (H:=H2) (ex:=fp) (xe:=xe) z.1
    have hk:Y.X.env.scope.kind= .function:=by rw [hsc];exact B.okd
    have hcell:Y.X.env.kindOf x=some .cell:=by show Y.X.env.scope.names.lookup x=_;rw [hsc];exact B.fr _ (PySem.mem_of_lookup z.1) rfl
    rw [hk,hcell] at zz
    exact zz
  ·have z:=B.hgl x hx
   refine ⟨?_,z.2⟩
   have zz:=u7 (X:=Y.X) (N':=tn++fs) (cl:=cl) (C:=C) (s:=s2) (H:=H2) (ex:=fp) (xe:=xe) z.1
   exact zz
 have hloc:∀x∈tn,(⟨Xc,F2,H2⟩:Cy).X.env.scope.names.lookup x=some .local:=fun x hx=>by
  show Xc.env.scope.names.lookup x=_
  rw [xenv];exact lookup_relabel_local (B.htn x hx).1
 have E2:=E.grow e2
 have E4:Env Y.X.K F2 H2 F2 (upd H2 D (.lst [])) (capt tn.length ix σ) (List.replicate tn.length .un++ix.map fun i=>capS (slot c i)):=jN E2 hDn
 have nC:∀b o,s2.heap.get? b=some o->b≠C:=fun b o e z=>by
  have:=Heap.lt_size e;rw [z,hDe] at this;exact Nat.lt_irrefl _ (Nat.lt_trans this hCl)
 have back:∀{pins':List (Addr×Obj)} {σ':St} {H':Hp} {s':Shared},Inv Xc pins' σ' H' s'->∀h',Heap.SameBut C s'.heap h'->Inv Y.X pins σ H' { s' with heap:=h' }:=by
  intro pins' σ' H' s' I' h' hs'
  have b0:Un (frs Y.X.stack) fp H2 H' s2.heap s'.heap:=by have:=I'.base;rw [<-hXc] at this;exact this
  have hfC:H' C=none:=by have:=I'.free;rw [xenv] at this;exact this
  have un:Un (frs Y.X.stack) fp H2 H' s2.heap h':=⟨fun b o e n hb hx=>(hs'.2 b (nC b o e)).trans (b0.keep b o e n hb hx),fun b o e n hb hx=>by
    obtain ⟨sl,z⟩:=b0.slot b o e n hb hx
    exact ⟨sl,(hs'.2 b (nC b o e)).trans z⟩,b0.free,fun b o e hx=>by
    obtain ⟨o',z⟩:=b0.there b o e hx
    exact ⟨o',(hs'.2 b (nC b o e)).trans z⟩,b0.tups,b0.frzs,b0.tbls⟩
  have hok:HOk Y.X.prog Y.X.w H' h':=by
   have ok':HOk Y.X.prog Y.X.w H' s'.heap:=by rw [<-xP,<-xW];exact I'.hok
   intro b o e
   refine (ok' b o e).stay (fun c w' hc z=>(hs'.2 c ?_).trans z) (fun _ z=>z) fun _ _ z=>z
   rintro rfl
   rcases hc with rfl | hc
   ·rw [hfC] at e;cases e
   ·rw [hfC] at hc;cases hc
  have os:({ s' with heap:=h' }:Shared).os=s2.os:=by have:=I'.os;rw [<-hXc] at this;exact this
  exact I2.call' (s':={ s' with heap:=h' }) (ch:=fp) os un hok I'.bare fun b hb=>⟨(f2 b hb).2.2.2.1,(f2 b hb).2.1,(f2 b hb).2.2.2.2.1,(f2 b hb).2.2.2.2.2⟩
 have rz:∀C',RzS Y C' c->∀c',Rz ⟨Xc,F2,H2⟩ C' c':=fun C' Z c'=>⟨by
  intro pins' σ' F1 H1 F' H' s1 s' e I1 En1 sm En' L
  show Xc.xe (.ref e) s'
  rw [xE,<-hxe]
  have L:Lies Y.X.prog Y.X.w Y.X.stack H1 s1 e C' H' s':=by rw [<-xP,<-xW,<-xS];exact L
  have J1:Inv Y.X pins σ H1 s1:=back I1 s1.heap (Heap.SameBut.refl ..)
  have J2:Inv Y.X pins σ H' s':=J1.call' (ch:=[]) L.os L.un L.hok L.bare (fun _ z=>nomatch z)
  have Ic:Inv Xc pins' σ' H' s':=I1.call' (ch:=[]) L.os (by rw [xS];exact L.un) (by rw [xP,xW];exact L.hok) L.bare (fun _ z=>nomatch z)
  have hfC:H' C=none:=by have:=Ic.free;rw [xenv] at this;exact this
  obtain ⟨m,hn,_⟩:=id Ic.loc
  rw [xenv] at hn
  have hC0:Y.X.s₀.heap.get? C=none:=by
   cases q:Y.X.s₀.heap.get? C with
   | none=>rfl
   | some u=>
    obtain ⟨o',e'⟩:=I2.base.there C u q (by rw [Z.hx];simp)
    exact absurd rfl (nC _ _ e')
  obtain ⟨B',a0,fl,kp⟩:=L.fly
  have sb:(W.hideAll B' [C]).StaysIn B':=fun b o q=>W.of_hideAll _ q
  have hB:(W.hideAll B' [C]).get? C=none:=W.hideAll_none _ (.head _)
  obtain ⟨f1,f3,f4,f5⟩:=W.flyingW_base sb fl
  have LS:LiesS Y.X (W.hideAll B' [C]) .none e C' H' s':=⟨J2.os,J2.bare,by have:=J2.base;rw [Z.hx] at this;exact this,J2.hok,uJ J1 Z.hx L.new,J2.stkFree,J2.ok.frames,Z.hs,f1,f3,f4,⟨a0,f5⟩,fun b o q z=>W.hideAll_get _ (Qz J1 Z.hx Z.hs kp b o q z) fun hb=>by
   have hb:b=C:=by simpa using hb
   subst hb
   rcases z with z | z
   ·exact z hfC
   ·exact z.1 hC0⟩
  have hfr:C∉frs Y.X.stack:=fun hb=>by
   obtain ⟨_,o,ho,_⟩:=I2.stack.mem hb
   exact nC _ _ ho rfl
  refine LS.noted rfl fun h'' fl2 L2 up=>⟨m,up.ns hn,fun h3 hs3 cenv _=>?_⟩
  exact (L2.but hB hfr (up.ns hn) hs3).on fun h4 fl4 L4=>Z.fly L4 (E2.grow (show Env Y.X.K F2 H2 F' H' σ' c' by have z:Env Xc.K F2 H2 F' H' σ' c':=En';rw [xK] at z;exact z).ext)⟩
 have fin:items.length<=stop->∀{σ':St} {F' H':Hp} {s':Shared} {vs:List V},Inv Xc [] σ' H' s'->Ext F2 H2 F' H'->H' D=some (.lst vs)->F' D=none->Reps Y.X.K F' vs (rs.filterMap id)->
   compPost (model Y.X.prog Y.X.w) Y.X.A Y.X.xe use Qv (.ref D) C (.ok .next) s':=by
  intro hst σ' F' H' s' vs I' ex hv hf r
  obtain ⟨m,hn,_⟩:=id I'.loc
  rw [xenv] at hn
  have hfC:H' C=none:=by have:=I'.free;rw [xenv] at this;exact this
  have hD0:H D=none:=by
   cases z:H D with
   | none=>rfl
   | some u=>rw [e2.hh _ _ z] at hDn;cases hDn
  exact post hst D C s' m F' H' vs hn (I2.fpOk (by rw [hDe];exact Nat.le_of_lt hCl) hfC) (back I') (e2.trans ex) hD0 hv hf r
 have calm:Xc.calm=true:=S'.calm
 have cells:∀b∈fp,∀x c,Xc.env.cells.lookup x=some c->c≠b:=fun b hb x c e=>by
  rw [xenv] at e
  exact (f2 b hb).2.2.2.2.1 x c (hcl1 x c e).1
 have neC:∀b∈fp,b≠Xc.env.locals:=fun b hb=>by
  rw [xenv]
  obtain ⟨o,e,_⟩:=TT.obj 0 _ st2 b hb
  intro z
  have z:b=C:=z
  have:=Heap.lt_size e;rw [z,hDe] at this;exact Nat.lt_irrefl _ (Nat.lt_trans this hCl)
 have nfs:∀b∈fp,b∉Xc.fs:=fun b hb z=>by
  rw [<-hXc] at z
  rcases List.mem_cons.mp (I2.stkSub b z) with z | z
  ·exact (f2 b hb).2.1 z
  ·exact (f2 b hb).2.2.1 z
 have inex:∀b∈fp,b∈Xc.ex:=fun b hb=>by rw [<-hXc];exact hb
 have stat:∀{H':Hp},(∀b∈fp,H' b=none)->∀b∈fp,FpOk Xc [] H' b:=fun hn b hb=>⟨hn b hb,neC b hb,nfs b hb,.inl (inex b hb),cells b hb,fun p hp=>by rw [<-hXc] at hp;exact absurd (show p∈([]:List (Addr×Obj)) from hp) (by simp)⟩
 have TX:Turn Xc.prog Xc.w Xc.K tg J fp it tnn:=by rw [xP,xW,xK];exact TT
 have exE:(notedBy (model Xc.prog Xc.w) Xc.A Xc.env fun e s'=>compPost (model Xc.prog Xc.w) Xc.A Y.X.xe use Qv (.ref D) C (.error e) s')=Xc.xe:=by rw [xE,<-hxe,xP,xW,xA,xenv]
 have loop:∀s3:Shared,s3={ s2 with heap:=h4,toks:=s2.toks+([]:List (Str×Value)).length }->
   codeAny (model Y.X.prog Y.X.w) Y.X.A (.compLoop (.ListComp elt [⟨tg,iter,ifs,0⟩] scope pos) 0 (.ref it) (.ref D) (compEnvC scope cl C Y.X.env)) (compPost (model Y.X.prog Y.X.w) Y.X.A Y.X.xe use Qv (.ref D) C) s3:=by
  rintro s3 rfl
  rw [<-xP,<-xW,<-xA,<-xenv]
  refine YO (fun n s'=>∃(i:Nat) (σ':St) (F' H':Hp) (vs:List V) (ts:List Slot),n=items.length - i/\(i<=items.length/\i<=stop)/\Inv Xc [] σ' H' s'/\tnn i s'.heap/\(∀b∈fp,H' b=none)/\Env Y.X.K F2 H2 F' H' σ' (ts++ix.map fun i=>capS (slot c i))/\ts.length=tn.length/\
   H' D=some (.lst vs)/\F' D=none/\Reps Y.X.K F' vs ((rs.take i).filterMap id)) ?_ items.length ⟨0,_,F2,_,[],_,rfl,⟨Nat.zero_le _,Nat.zero_le _⟩,I4,TT.keep _ _ _ st2 fun b hb o e=>kk b o e,fun b hb=>?_,E4,by simp,xm,?_,.nil⟩
  ·rintro n s' ⟨i,σ',F',H',vs,ts,rfl,⟨hi',hst⟩,I',st',fr',E',hts,hv,hf,rp⟩
   rw [exE]
   have y:=yl i F' H' E'.ext.ff E'.fh
   by_cases hlt:i<items.length
   ·obtain ⟨d,hd⟩:∃d,items[i]? =some d:=⟨items[i],mD hlt⟩
    obtain ⟨r,hr⟩:∃r,rs[i]? =some r:=⟨rs[i]'(by rw [hlen];exact hlt),mD _⟩
    obtain ⟨go,yy⟩:=y.1 d hd
    obtain ⟨ts',hts',hown,tgd,body⟩:=turn ⟨Xc,F2,H2⟩ S' hloc rz i d r hd hr hst ts hts
    refine thn (TX.item Xc rfl rfl rfl calm i [] s' σ' H' _ I' (stat fr') st' go) fun rr s4 ⟨u,hr',h4'⟩=>?_
    subst hr'
    refine thn h4' fun _ s5 ⟨xv,H5,I5,r5,y5,st5,fr5⟩=>?_
    obtain ⟨F5,ex5,rep5⟩:=yy xv H5 y5
    have I5':=I5.pinned (stat fr5) (TT.obj _ _ st5)
    have E5:Env Y.X.K F2 H2 F5 H5 σ' (ts++ix.map fun i=>capS (slot c i)):=E'.grow ex5
    have tgr:=tgd _ s5 σ' H5 xv u (fun σ6 H6=>∃F6,Ext F5 H5 F6 H6/\Env Y.X.K F2 H2 F6 H6 σ6 (ts'++ix.map fun i=>capS (slot c i))) I5' r5 ⟨F5,by show Env Xc.K _ _ _ _ _ _;rw [xK];exact E5,by show Rep Xc.K _ _ _;rw [xK];exact rep5,fun σ6 F6 H6 ex6 E6=>⟨F6,ex6,by have z:Env Xc.K F2 H2 F6 H6 σ6 _:=E6;rw [xK] at z;exact z⟩⟩
    refine thn tgr fun _ s6 ⟨σ6,H6,I6,F6,ex6,E6⟩=>?_
    have ne:∀{Fa Ha Fb Hb:Hp} {ws:List V},Ext Fa Ha Fb Hb->Ha D=some (.lst ws)->Fa D=none->Hb D=some (.lst ws)/\Fb D=none:=fun ex h1 h2=>⟨ex.hh _ _ h1,ex.fr D (by rw [h1];exact fun z=>nomatch z) h2⟩
    obtain ⟨hv5,hf5⟩:=ne ex5 hv hf
    obtain ⟨hv6,hf6⟩:=ne ex6 hv5 hf5
    have rp6:=(rp.mono ex5.ff).mono ex6.ff
    have E6':EnvY ⟨Xc,F2,H2⟩ F6 H6 σ6 (ts'++ix.map fun i=>capS (slot c i)):=by show Env Xc.K _ _ _ _ _ _;rw [xK];exact E6
    have again:i≠stop->∀{s7:Shared} {σ7:St} {F7 H7:Hp} {ws:List V},Inv Xc ([]++pinsAt fp s5.heap) σ7 H7 s7->Env Y.X.K F2 H2 F7 H7 σ7 (ts'++ix.map fun i=>capS (slot c i))->H7 D=some (.lst ws)->F7 D=none->Reps Y.X.K F7 ws ((rs.take (i+1)).filterMap id)->
      ∃m,m<items.length - i/\∃(i:Nat) (σ':St) (F' H':Hp) (vs:List V) (ts:List Slot),m=items.length - i/\(i<=items.length/\i<=stop)/\Inv Xc [] σ' H' s7/\tnn i s7.heap/\(∀b∈fp,H' b=none)/\Env Y.X.K F2 H2 F' H' σ' (ts++ix.map fun i=>capS (slot c i))/\ts.length=tn.length/\H' D=some (.lst vs)/\F' D=none/\Reps Y.X.K F' vs ((rs.take i).filterMap id):=by
     intro his s7 σ7 F7 H7 ws I7 E7 h7 f7 r7
     refine ⟨items.length - (i+1),by omega,i+1,σ7,F7,H7,ws,ts',rfl,⟨hlt,by omega⟩,I7.unpinned,TT.keep _ _ _ st5 fun b hb o e=>(I7.pin (b,o) (List.mem_append_right _ (List.mem_append_right _ (zV hb e)))).1,fun b hb=>?_,E7,hts',h7,f7,r7⟩
     obtain ⟨o,e,dd⟩:=TT.obj _ _ st5 b hb
     exact (I7.pin (b,o) (List.mem_append_right _ (List.mem_append_right _ (zV hb e)))).2.1
    have tk:(rs.take (i+1)).filterMap id=(rs.take i).filterMap id++r.toList:=by
     rw [List.take_add_one,hr,List.filterMap_append]
     cases r<;>rfl
    by_cases his:i=stop
    ·rw [mH his] at body
     refine ZU (Y:=⟨Xc,F2,H2⟩) body.1 I6 E6' fun s7 F7 H7 ex7 I7=>?_
     rw [mH rfl]
     exact wpAny_mono (body.2 _ s7 σ6 H7 (fun _ _=>False) I7 ⟨F7,by show Env Xc.K _ _ _ _ _ _;rw [xK];exact E6.grow ex7⟩) (fun _ _ ⟨_,_,_,_,z⟩=>z.elim) fun _ _ z=>z
    rw [mF his] at body
    cases r with
    | none=>
     refine ZU (Y:=⟨Xc,F2,H2⟩) body I6 E6' fun s7 F7 H7 ex7 I7=>?_
     rw [mF Bool.false_ne_true]
     obtain ⟨hv7,hf7⟩:=ne ex7 hv6 hf6
     exact again his I7 (E6.grow ex7) hv7 hf7 (by rw [tk];simpa using rp6.mono ex7.ff)
    | some e=>
     refine ZU (Y:=⟨Xc,F2,H2⟩) body.1 I6 E6' fun s7 F7 H7 ex7 I7=>?_
     rw [mH rfl]
     obtain ⟨hv7,hf7⟩:=ne ex7 hv6 hf6
     have el:=body.2 _ s7 σ6 H7 (fun v H8=>∃F8,Ext F7 H7 F8 H8/\Rep Y.X.K F8 v e) I7 ⟨F7,by show Env Xc.K _ _ _ _ _ _;rw [xK];exact E6.grow ex7,fun v F8 H8 ex8 r8=>⟨F8,ex8,by have z:Rep Xc.K F8 v e:=r8;rw [xK] at z;exact z⟩⟩
     refine thn el fun u8 s8 ⟨v8,H8,I8,r8,F8,ex8,rep8⟩=>?_
     obtain ⟨hv8,hf8⟩:=ne ex8 hv7 hf7
     have rp8:=(rp6.mono ex7.ff).mono ex8.ff
     have E8:=(E6.grow ex7).grow ex8
     have ln:vs.length<sizeLine:=by
      rw [rp.length]
      have l1:((rs.take i).filterMap id).length<=(rs.take i).length:=List.length_filterMap_le _ _
      have l2:(rs.take i).length<=rs.length:=by simp;omega
      rw [sizeLine_eq];omega
     have ap:=(vY (X:=Xc)) _ s8 σ6 H8 (.ref D) [v8] (.ref D) [u8] (fun _ H9=>H9=upd H8 D (.lst (vs++ [v8]))) I8 rfl (.cons r8 .nil) ⟨D,vs,v8,rfl,rfl,hv8,ln,rfl⟩
     refine thn ap fun _ s9 ⟨v9,H9,I9,_,e9⟩=>?_
     subst e9
     refine again his (ws:=vs++ [v8]) I9 (E8.aside hDn hf8 hv8 fun j a hj ha=>?_) xm hf8 (by rw [tk];exact rp8.append (.cons rep8 .nil))
     rw [UV hown] at hj;cases hj
   ·have ei:i=items.length:=by omega
    subst ei
    refine thn (TX.done Xc rfl rfl rfl calm items.length [] s' σ' H' _ I' (stat fr') st' (y.2 (mJ _))) fun rr s4 ⟨hr',I4'⟩=>?_
    subst hr'
    show compPost (model Xc.prog Xc.w) Xc.A Y.X.xe use Qv (.ref D) C (.ok .next) s4
    rw [xP,xW,xA]
    exact fin hst I4' E'.ext hv hf (by rw [<-hlen,List.take_length] at rp;exact rp)
  ·rw [xh (fun z=>?_)]
   ·exact (f2 b hb).1
   ·obtain ⟨o,e,_⟩:=TT.obj 0 _ st2 b hb
    have:=Heap.lt_size e;rw [z,hDe] at this;exact Nat.lt_irrefl _ this
  ·cases z:F2 D with
   | none=>rfl
   | some u=>rw [e2.fh _ _ z] at hDn;cases hDn
 exact codeAny_compStart_list (loop _ rfl) (TT.self _ 0 _ _ _ (TT.keep _ _ _ st2 fun b hb o e=>kk b o e) (loop _ rfl))
theorem qU {Y:Cy} {T:Tx} {k:Nat} {N G tn fs G':List Str} {ix:List Nat} {c:List Slot} {tg iter elt:Expr} {ifs:List Expr} {scope osc:Scope} {pos:Pos} {items:List D} (S:Se Y T k N G) (hsc:Y.X.env.scope=osc) (B:CmB N tn fs ix G' scope osc) (hi:ItD Y tg iter c items)
  (rs:List (Option D)) (hlen:rs.length=items.length) (hz:rs.length<=100000)
  (turn:∀(Y':Cy) (S':Se Y' T k (tn++fs) G'),(∀x∈tn,Y'.X.env.scope.names.lookup x=some .local)->∀(m:Nat) (d:D) (r:Option D),items[m]? =some d->rs[m]? =some r->∀ts:List Slot,ts.length=tn.length->
   ∃ts':List Slot,ts'.length=tn.length/\ts'.all (fun s=> !isOwn s)=true/\TgD Y' tg d (ts++ix.map fun i=>capS (slot c i)) (ts'++ix.map fun i=>capS (slot c i))/\(match r with
    | some e=>TsD Y' ifs (ts'++ix.map fun i=>capS (slot c i)) true/\EvD Y' elt (ts'++ix.map fun i=>capS (slot c i)) e
    | none=>TsD Y' ifs (ts'++ix.map fun i=>capS (slot c i)) false))
  (hs:∀x,foldedSetIterable iter Y.X.env x=pure x:=by intro _;rfl)
  {pins:List (Addr×Obj)} {s:Shared} {σ:St} {F H:Hp} (I:Inv Y.X pins σ H s) (E:EnvY Y F H σ c) {use:Option (Value->Sem Unit)} {Qv:Value->Shared->Prop} {cpos:Pos}
  (post:∀(D C:Addr) (s':Shared) (m:Str->Option Value) (F' H':Hp) (vs:List V),s'.heap.Ns C m->FpOk Y.X pins H' C->(∀h',Heap.SameBut C s'.heap h'->Inv Y.X pins σ H' { s' with heap:=h' })->Ext F H F' H'->H D=none->H' D=some (.lst vs)->F' D=none->Reps Y.X.K F' vs (rs.filterMap id)->
   compPost (model Y.X.prog Y.X.w) Y.X.A Y.X.xe use Qv (.ref D) C (.ok .next) s'):
  wpAny (model Y.X.prog Y.X.w) Y.X.A (comprehension (.ListComp elt [⟨tg,iter,ifs,0⟩] scope pos) scope Y.X.env cpos (newList []) (firstAsync [⟨tg,iter,ifs,0⟩]) (firstIter [⟨tg,iter,ifs,0⟩] Y.X.env) use) Qv Y.X.xe s:=by
 refine u9 S hsc B hi rs items.length hlen hz (fun Y' S' h _ m d r hd hr _ ts hts=>?_) hs I E fun _=>post
 obtain ⟨ts',a,b,c,q⟩:=turn Y' S' h m d r hd hr ts hts
 refine ⟨ts',a,b,c,?_⟩
 rw [mF (Nat.ne_of_lt (List.getElem?_eq_some_iff.mp hd).1)]
 exact q
theorem XT {Y:Cy} {T:Tx} {k:Nat} {N G tn fs G':List Str} {ix:List Nat} {c:List Slot} {tg iter elt:Expr} {ifs:List Expr} {scope osc:Scope} {pos:Pos} {items:List D} (S:Se Y T k N G) (hsc:Y.X.env.scope=osc) (B:CmB N tn fs ix G' scope osc) (hi:ItD Y tg iter c items)
  (rs:List (Option D)) (hlen:rs.length=items.length) (hz:rs.length<=100000)
  (turn:∀(Y':Cy) (S':Se Y' T k (tn++fs) G'),(∀x∈tn,Y'.X.env.scope.names.lookup x=some .local)->∀(m:Nat) (d:D) (r:Option D),items[m]? =some d->rs[m]? =some r->∀ts:List Slot,ts.length=tn.length->
   ∃ts':List Slot,ts'.length=tn.length/\ts'.all (fun s=> !isOwn s)=true/\TgD Y' tg d (ts++ix.map fun i=>capS (slot c i)) (ts'++ix.map fun i=>capS (slot c i))/\(match r with
    | some e=>TsD Y' ifs (ts'++ix.map fun i=>capS (slot c i)) true/\EvD Y' elt (ts'++ix.map fun i=>capS (slot c i)) e
    | none=>TsD Y' ifs (ts'++ix.map fun i=>capS (slot c i)) false))
  (hs:∀x,foldedSetIterable iter Y.X.env x=pure x:=by intro _;rfl)
  {pins:List (Addr×Obj)} {s:Shared} {σ:St} {F H:Hp} (I:Inv Y.X pins σ H s) (E:EnvY Y F H σ c) {use:Option (Value->Sem Unit)} {Qv:Value->Shared->Prop} {cpos:Pos}
  (post:∀(D C:Addr) (s':Shared) (m:Str->Option Value) (F' H':Hp),s'.heap.Ns C m->FpOk Y.X pins H' C->(∀h',Heap.SameBut C s'.heap h'->Inv Y.X pins σ H' { s' with heap:=h' })->Ext F H F' H'->Rep Y.X.K F' (.ref D) (.lst (rs.filterMap id))->
   compPost (model Y.X.prog Y.X.w) Y.X.A Y.X.xe use Qv (.ref D) C (.ok .next) s'):
  wpAny (model Y.X.prog Y.X.w) Y.X.A (comprehension (.ListComp elt [⟨tg,iter,ifs,0⟩] scope pos) scope Y.X.env cpos (newList []) (firstAsync [⟨tg,iter,ifs,0⟩]) (firstIter [⟨tg,iter,ifs,0⟩] Y.X.env) use) Qv Y.X.xe s:=by
 refine qU S hsc B hi rs hlen hz turn hs I E fun D C s' m F' H' vs hn fp hI ex hD hv hf r=>?_
 have sm:Same F' (upd F' D (.lst vs)):=fun b u z=>by rw [xh (fun w=>by rw [w,hf] at z;cases z)];exact z
 have ex2:Ext F H (upd F' D (.lst vs)) H':=⟨ex.ff.trans sm,fun b u z=>by
   by_cases hb:b=D
   ·subst hb;rw [xm] at z;cases z;exact hv
   ·rw [xh hb] at z;exact ex.fh _ _ z,ex.hh,fun b h1 h2=>by
   rw [xh (fun w=>h1 (by rw [w];exact hD))];exact ex.fr b h1 h2⟩
 exact post D C s' m _ H' hn fp hI ex2 (.lst (SqL.of xm) (r.mono sm))
theorem YM {Y:Cy} {T:Tx} {k:Nat} {N G tn fs G':List Str} {ix:List Nat} {c:List Slot} {tg iter elt:Expr} {ifs:List Expr} {scope osc:Scope} {pos:Pos} {items:List D} (S:Se Y T k N G) (hsc:Y.X.env.scope=osc) (B:CmB N tn fs ix G' scope osc) (hi:ItD Y tg iter c items)
  (rs:List (Option D)) (hlen:rs.length=items.length) (hz:rs.length<=100000)
  (turn:∀(Y':Cy) (S':Se Y' T k (tn++fs) G'),(∀x∈tn,Y'.X.env.scope.names.lookup x=some .local)->∀(m:Nat) (d:D) (r:Option D),items[m]? =some d->rs[m]? =some r->∀ts:List Slot,ts.length=tn.length->
   ∃ts':List Slot,ts'.length=tn.length/\ts'.all (fun s=> !isOwn s)=true/\TgD Y' tg d (ts++ix.map fun i=>capS (slot c i)) (ts'++ix.map fun i=>capS (slot c i))/\(match r with
    | some e=>TsD Y' ifs (ts'++ix.map fun i=>capS (slot c i)) true/\EvD Y' elt (ts'++ix.map fun i=>capS (slot c i)) e
    | none=>TsD Y' ifs (ts'++ix.map fun i=>capS (slot c i)) false))
  (hs:∀x,foldedSetIterable iter Y.X.env x=pure x:=by intro _;rfl):EvD Y (.ListComp elt [⟨tg,iter,ifs,0⟩] scope pos) c (.lst (rs.filterMap id)):=by
 intro pins s σ H Q I ⟨F,E,q⟩
 rw [eval_ListComp]
 exact XT S hsc B hi rs hlen hz turn hs I E (use:=none) (Qv:=EP Y.X pins σ Q) fun D C s' m F' H' hn _ hI ex r=>⟨m,hn,fun h' hs'=>⟨.ref D,H',hI h' hs',rfl,q _ F' H' ex r⟩⟩
def rCatS (K:W.Frag):R2:=fun x y H Q=>∃l b xs zs,x= .ref l/\y= .ref b/\SqL K H l xs/\SqL K H b zs/\xs.length+zs.length<=sizeLine/\∀p,H p=none->Q (.ref p) (upd H p (.lst (xs++zs)))
theorem Vk {X:Cx}:OpR X (binaryOp .Add) (rCatS X.K):=by
 intro pins s σ H x y v u Q I rx ry h
 obtain ⟨l,b,xs,zs,rfl,rfl,hH,hB,hz,q⟩:=h
 cases rx
 cases ry
 obtain ⟨its,r,⟨⟨cls,dd,data,sl⟩,n,e,hc,hdd,hd⟩,z1⟩:=I.list hH
 obtain ⟨its2,r2,⟨⟨cls2,dd2,data2,sl2⟩,n2,e2,hc2,hdd2,hd2⟩,z2⟩:=I.list hB
 simp only at hc hd hc2 hd2
 subst hc hd hc2 hd2
 have l1:=r.length
 have l2:=r2.length
 refine concat_meets ⟨_,e,rfl⟩ ⟨_,e2,rfl⟩ noFill_list_add seq_list_add PySem.F.slot_list_add PySem.F.entry_list_add (PySem.F.args_list_add_2 _ _) (PyProof.Rows.list_addW l b its.toArray its2.toArray n n2 dd dd2 sl sl2 (by rw [List.size_toArray,List.size_toArray];omega)) ⟨e,e2,?_⟩
 have ea:its.toArray++its2.toArray=(its++its2).toArray:=by simp
 rw [ea]
 exact ⟨.ref _,_,I.lnew (t':=s.toks) (r.append r2) (by rw [List.length_append];omega),rfl,q _ I.fresh⟩
section
variable {Y:Cy} {T:Tx} {k:Nat} {N G:List Str} {c:List Slot} {a b e:Expr} {es:List Expr} {pos:Pos} {d d1 d2:D} {ds es' xs ys:List D} {P:Out->Prop} {rest:List Stmt}
theorem zk (ha:EvD Y a c (.lst xs)) (hb:EvD Y b c (.lst ys)) (hz:xs.length+ys.length<=1000000:=by first | exact of_decide_eq_true rfl | (simp;done)):EvD Y (.BinOp a .Add b pos) c (.lst (xs++ys)):=
 zg (t:=tC .non) (ta:=tC .non) (tb:=tC .non) (XC Vk ha hb) fun x y F H Q f rx ry q=>by
  obtain ⟨p1,vs,rfl,h1,r1⟩:=yL rx
  obtain ⟨p2,ws,rfl,h2,r2⟩:=yL ry
  exact ⟨p1,p2,vs,ws,rfl,rfl,f.seq h1,f.seq h2,by rw [r1.length,r2.length];exact xL hz,fun p hp=>q (.ref p) _ _ (Ext.new f hp (.lst (vs++ws))) (.lst (SqL.of xm) ((r1.append r2).mono (Ext.new f hp _).ff))⟩
def CstT (T:Tx) (x:Str) (l:List Int):Prop:=∃a,T.mg x=some (.ref a)/\∃(o:Obj) (its:Array Value) (n:Nat),T.K.lookup a=some o/\o.cls= .type "tuple" /\o.data= .seq its n/\its.size<=sizeLine/\Vals (l.map V.int) its.toList
theorem yJ (S:Sn Y T N G) (gi:Nat) {x:Str} {l:List Int} (h:CstT T x l) (hg:G[gi]? =some x:=by rfl):EvD Y (.Name x pos) c (.tup (l.map D.int)):=by
 obtain ⟨a,hm,o,its,n,h1,h2,h3,h4,h5⟩:=h
 have gl:=S.gl x (mz hg)
 refine PE.imp (ve (v:= .ref a) gl.1 (by rw [S.eM];exact hm) rfl gl.2.1) fun σ H Q ⟨F,E,q⟩=>q _ F H (Ext.refl E.fh) (.tup (.inr ⟨o,its,n,by rw [S.eK];exact h1,h2,h3,h4,h5⟩) (Reps.ints l))
end
theorem Xs:bootBuiltins "ValueError" =some (.type "ValueError"):=by decide+kernel
theorem FnX.toD {T:Tx} {k:Nat} {x:Str} {R:List D->Rs->Prop} {R':List D->D->Prop} (h:FnX T k x R) (i:∀ds d,R' ds d->R ds (.ok d)):FnD T k x R':=by
 obtain ⟨f,fd,ps,hm,hk,hb,F⟩:=h.ex
 have conv:∀{vs:List V} {H:Hp} {Q:VK} {E:XK},spD T.K R' vs H Q E->spX T R vs H Q E0:=fun {vs H Q E} ⟨F0,ds,d,f0,r,hR,q⟩=>⟨F0,ds,.ok d,f0,r,i ds d hR,q⟩
 refine ⟨f,fd,ps,hm,hk,hb,⟨fun vs H Q E z=>F.len vs H Q E0 (conv z),fun A outer s H args us vs Q E hr he hb hv hs=>?_⟩⟩
 refine codeAny_mono (F.run A outer s H args us vs Q E0 hr he hb hv (conv hs)) fun r s' hq=>?_
 cases r with
 | error e=>obtain ⟨_,_,_,_,_,z⟩:=hq;exact z.elim
 | ok fl=>cases fl<;>exact hq
structure FnXd (T:Tx) (k:Nat) (x:Str) (i:Int) (R:List D->Rs->Prop):Prop where
 ex:∃(f:Addr) (fd:FuncData) (ps:List Str) (tk:Tok),T.mg x=some (.ref f)/\W.keepIn T.K (.ref f)=true/\Binds T.K fd ps [.int i tk]/\FnOk T.prog T.w T.K T.mg T.base (CXE T.prog T.w) k f fd ps (spX T R)
theorem FnXd.toD {T:Tx} {k:Nat} {x:Str} {j:Int} {R:List D->Rs->Prop} {R':List D->D->Prop} (h:FnXd T k x j R) (i:∀ds d,R' ds d->R ds (.ok d)):FnDd T k x j R':=by
 obtain ⟨f,fd,ps,tk,hm,hk,hb,F⟩:=h.ex
 have conv:∀{vs:List V} {H:Hp} {Q:VK} {E:XK},spD T.K R' vs H Q E->spX T R vs H Q E0:=fun {vs H Q E} ⟨F0,ds,d,f0,r,hR,q⟩=>⟨F0,ds,.ok d,f0,r,i ds d hR,q⟩
 refine ⟨f,fd,ps,tk,hm,hk,hb,⟨fun vs H Q E z=>F.len vs H Q E0 (conv z),fun A outer s H args us vs Q E hr he hb hv hs=>?_⟩⟩
 refine codeAny_mono (F.run A outer s H args us vs Q E0 hr he hb hv (conv hs)) fun r s' hq=>?_
 cases r with
 | error e=>obtain ⟨_,_,_,_,_,z⟩:=hq;exact z.elim
 | ok fl=>cases fl<;>exact hq
theorem xbp {T:Tx} {k:Nat} {N G ps:List Str} {R:List D->Rs->Prop} {x:Str} {st:Stmt} {i:Int} (A:AtV T x st i) (B:ScB N ps G (defScope st))
  (hb:∀(Td:Addr) (kV doc pm:Value) (an:Option Addr) (cdv ct:Value) (tk:Tok) (o:Obj) (n:Nat),T.K.lookup Td=some o->o.data= .seq #[.int i tk] n->
   Binds T.K (W.fnOf x x (defArgs st) (defBody st) (defScope st) (.ref Td) kV doc pm an cdv ct) ps []/\Binds T.K (W.fnOf x x (defArgs st) (defBody st) (defScope st) (.ref Td) kV doc pm an cdv ct) ps [.int i tk]) (hlen:∀ds d,R ds d->ds.length=ps.length)
  (body:∀(Y:Cy) (S:Sc Y T k N G) (Z:Fx Y st) (ds:List D) (r:Rs),R ds r->(∀y,r= .ex y->∀c,RzN Y T y c/\RzMN Y T y c)->SsD Y (defBody st) (ctx0 N ds) (RetX r)):FnX T (k+1) x R/\FnXd T (k+1) x i R:=by
 obtain ⟨f,Td,oc,od,kV,doc,pm,an,cdv,ct,osl,tk,o,n,lk,lt,hs,hcd,kp,hm⟩:=A
 have hB:=hb Td kV doc pm an cdv ct tk o n lt hs
 have main:FnOk T.prog T.w T.K T.mg T.base (CXE T.prog T.w) (k+1) f (W.fnOf x x (defArgs st) (defBody st) (defScope st) (.ref Td) kV doc pm an cdv ct) ps (spX T R):=by
  refine XL lk hcd B.fs (fun vs H Q E h=>?_) fun A outer s H vs Q E hr h=>?_
  ·obtain ⟨F0,ds,d,_,r,hR,_⟩:=h
   rw [r.length];exact hlen ds d hR
  ·obtain ⟨F0,ds,r,f0,rs,hR,q⟩:=h
   have S:Sc ⟨cxOf (CXE T.prog T.w) T.prog T.w T.K T.mg T.base N x (defScope st) f cdv A outer s H E,F0,H⟩ T k N G:=
    ⟨⟨⟨rfl,rfl,rfl,rfl,rfl,rfl,B.fs.nd,B.loc,B.gl⟩,rfl,hr⟩,fun _=>rfl,PassesOwn.leaving⟩
   refine ⟨_,body _ S ⟨rfl,rfl,rfl,rfl⟩ ds r hR (fun y hy c=>?_),F0,qI f0 rs,fun o ho=>?_⟩
   ·subst hy
    have q:∀C F' H',T.mg y=some (.ref C)->Ext F0 H F' H'->E (.ref C) none H':=q
    exact ⟨fun C hC=>⟨fun I _ _ En L=>qt I rfl ⟨rfl,rfl⟩ L fun s' L=>⟨_,C,_,rfl,L,q C _ _ hC En.ext⟩⟩,fun C hC=>⟨fun I En M=>zX I rfl ⟨rfl,rfl⟩ M fun s' L=>⟨_,C,_,rfl,L,q C _ _ hC En.ext⟩⟩⟩
   ·cases r with
    | ex y=>exact False.elim ho
    | ok d=>
     have q:∀v F' H',Ext F0 H F' H'->Rep T.K F' v d->Q v H':=q
     cases o with
     | rt e=>cases ho;exact fun v F' H' _ x r'=>q v F' H' x r'
     | nx c=>cases ho;exact fun σ F' H' _ E'=>q .non F' H' E'.ext .non
     | bk c=>exact False.elim ho
     | ct c=>exact False.elim ho
     | ro ds=>exact False.elim ho
     | rs R=>exact False.elim ho
 exact ⟨⟨f,_,ps,hm,kp,hB.1,main⟩,⟨f,_,ps,tk,hm,kp,hB.2,main⟩⟩
end DL
namespace DL
open PySem PySem.Spec PyProof.Rows L2
section
variable {Y:Cy} {T:Tx} {k j:Nat} {N G:List Str} {c:List Slot} {e:Expr} {es:List Expr} {x y:Str} {pos p:Pos}
def Jn (J:List Slot->Prop) (P:Out->Prop):Out->Prop
 | .nx c=>J c
 | o=>P o
theorem KN {t:Expr} {sa rest:List Stmt} {v:Bool} {P:Out->Prop} (J:List Slot->Prop) (ht:TeD Y t c v) (ha:v=true->SsD Y sa c (Jn J P)) (hb:v=false->J c) (hr:∀c',J c'->SsD Y rest c' P):SsD Y (.If t sa [] pos::rest) c P:=by
 refine xp ht (fun h=>PSs.imp (ha h) fun D σ H ⟨F,E,m⟩=>⟨F,E,fun o ho=>m o ?_⟩) (fun h=>xn (hr c (hb h)))
 cases o with
 | nx c'=>exact hr c' ho
 | rt d=>exact ho
 | bk c'=>exact ho
 | ct c'=>exact ho
 | ro ds=>exact ho
 | rs R=>exact ho
end
end DL
namespace DL
open PySem L2
section
variable {Y:Cy} {T:Tx} {k j:Nat} {N G:List Str} {c c' c'':List Slot} {a b e tg:Expr} {es:List Expr} {pos p:Pos} {rest:List Stmt} {P:Out->Prop} {d d1 d2 d3:D} {ds:List D} {R:List D->D->Prop} {x:Str}
theorem Us (he:EvD Y e c d) (hg:TgD Y tg d c c') (hr:SsD Y rest c' P) (hs:swapsWithSole [tg] e pos.line Y.X.env=pure false:=by rfl) (hw:swappedStores [tg] e Y.X.env=pure none:=by rfl)
  (h1:(assignEach [tg] Y.X.env).map (·.2)=[assign tg Y.X.env]:=by rfl):SsD Y (.Assign [tg] e pos::rest) c P:=by
 refine xF (PS.imp (UO he hg hs hw h1) fun D σ H ⟨F,E,m⟩=>⟨F,E,fun v F' H' e' r'=>?_⟩)
 exact ⟨F',E.grow e',r',fun σ2 F2 H2 e2 E2=>m (.nx c') hr σ2 F2 H2 (e'.trans e2).ff E2⟩
end
section
variable {Y:Cy} {T:Tx} {k j:Nat} {N G:List Str} {c c' c'':List Slot} {a b e tg:Expr} {es:List Expr} {pos p:Pos} {rest:List Stmt} {P:Out->Prop} {d d1 d2 d3:D} {ds:List D} {R:List D->D->Prop} {x:Str}
def tGs (Y:Cy) (ds:List D) (c c':List Slot):TGs:=fun vs σ H Q=>∃F,EnvY Y F H σ c/\Reps Y.X.K F vs ds/\∀σ' F' H',Ext F H F' H'->EnvY Y F' H' σ' c'->Q σ' H'
def TgsD (Y:Cy) (es:List Expr) (ds:List D) (c c':List Slot):Prop:=PGs Y.X es (tGs Y ds c c')
theorem PGs.imp {X:Cx} {t t':TGs} (h:PGs X es t) (i:∀vs σ H Q,t' vs σ H Q->t vs σ H Q):PGs X es t':=fun pins s σ H vs us Q I r q=>h pins s σ H vs us Q I r (i _ _ _ _ q)
theorem Q0:TgsD Y [] [] c c:=PGs.imp Jc fun vs σ H Q ⟨F,E,r,q⟩=>by
 cases r
 exact ⟨rfl,q σ F H (Ext.refl E.fh) E⟩
theorem qa (h1:TgD Y e d c c') (h2:TgsD Y es ds c' c'') (hs:(assignEach (e::es) Y.X.env).map (·.2)=assign e Y.X.env::(assignEach es Y.X.env).map (·.2):=by rfl):TgsD Y (e::es) (d::ds) c c'':=
 PGs.imp (UQ h1 h2 hs) fun vs σ H Q ⟨F,E,r,q⟩=>by
  cases r with
  | cons r rr=>exact ⟨_,_,rfl,F,E,r,fun σ' F' H' x E'=>⟨F',E',rr.mono x.ff,fun σ2 F2 H2 x2 E2=>q σ2 F2 H2 (x.trans x2) E2⟩⟩
theorem Q1 (hc:Y.X.calm=true) {kt:Nat} (h:TgsD Y es ds c c') (hn:(assignEach es Y.X.env).length=ds.length:=by rfl) (hst:(assignEach es Y.X.env).findIdx? (·.1)=none:=by rfl):TgD Y (.Tuple es kt pos) (.tup ds) c c':=
 PG.imp (K0 hc h hn hst) fun v σ H Q ⟨F,E,r,q⟩=>by
  obtain ⟨a,vs,rfl,hp,rs⟩:=YB r
  exact ⟨a,vs,rfl,yj E.fh hp,rs.length,F,E,rs,q⟩
theorem kz {env:PySem.Env} {sc:Scope} {ts:List Expr} {v:Expr} {r:Sem (Option (List Str))} (h:env.scope=sc) (hs:∀env:PySem.Env,swappedStores ts v { env with scope:=sc }=r):swappedStores ts v env=r:=by
 subst h
 exact hs env
theorem KM (S:Sc Y T k N G) (i j:Nat) {x y:Str} {px py pt pt2:Pos} {kt k2:Nat} (ha:ArD Y [a,b] c [d1,d2]) (hx:Y.X.env.scope.names.lookup x=some .local) (hy:Y.X.env.scope.names.lookup y=some .local)
  (hw:swappedStores [.Tuple [.Name x px,.Name y py] kt pt] (.Tuple [a,b] k2 pt2) Y.X.env=pure (some [x,y])) (hr:SsD Y rest (put (put c i (.val d1)) j (.val d2)) P) (hij:i≠j:=by decide) (hi:N[i]? =some x:=by rfl) (hj:N[j]? =some y:=by rfl)
  (hlt:i<c.length:=by first | exact mC rfl | decide | omega) (hlt2:j<c.length:=by first | exact mC rfl | decide | omega)
  (hs:swapsWithSole [.Tuple [.Name x px,.Name y py] kt pt] (.Tuple [a,b] k2 pt2) pos.line Y.X.env=pure false:=by rfl):SsD Y (.Assign [.Tuple [.Name x px,.Name y py] kt pt] (.Tuple [a,b] k2 pt2) pos::rest) c P:=by
 have hN:=S.nd
 rw [<-S.n] at hi hj hN
 refine xF (PS.imp (KW S.calm hN hi hj hij hx hy ha hw hs) fun D σ H ⟨F,E,m⟩=>⟨F,E,fun vs F' H' e' r'=>?_⟩)
 obtain ⟨v1,v2,rfl,r1,r2⟩:=inv2 r'
 exact ⟨v1,v2,rfl,m (.nx _) hr _ F' H' e'.ff (((E.grow e').set hlt r1).set (by rw [yb];exact hlt2) r2)⟩
theorem jH {tn fs G':List Str} {ix:List Nat} {iter elt:Expr} {scope osc:Scope} {items:List D} (S:Se Y T k N G) (hsc:Y.X.env.scope=osc) (B:CmB N tn fs ix G' scope osc) (hi:ItD Y tg iter c items)
  (hlen:ds.length=items.length) (hz:ds.length<=100000)
  (turn:∀(Y':Cy) (S':Se Y' T k (tn++fs) G'),(∀x∈tn,Y'.X.env.scope.names.lookup x=some .local)->∀(m:Nat) (d r:D),items[m]? =some d->ds[m]? =some r->∀ts:List Slot,ts.length=tn.length->
   ∃ts':List Slot,ts'.length=tn.length/\ts'.all (fun s=> !isOwn s)=true/\TgD Y' tg d (ts++ix.map fun i=>capS (slot c i)) (ts'++ix.map fun i=>capS (slot c i))/\EvD Y' elt (ts'++ix.map fun i=>capS (slot c i)) r)
  (hs:∀x,foldedSetIterable iter Y.X.env x=pure x:=by intro _;rfl):EvD Y (.ListComp elt [⟨tg,iter,[],0⟩] scope pos) c (.lst ds):=by
 have h:=YM (pos:=pos) (ifs:=[]) (elt:=elt) S hsc B hi (ds.map some) (by rw [mB];exact hlen) (by rw [mB];exact hz) (fun Y' S' hl m d r hd hr ts hts=>by
  rw [List.getElem?_map] at hr
  cases hq:ds[m]? with
  | none=>rw [hq] at hr;cases hr
  | some q=>
   rw [hq] at hr
   cases hr
   obtain ⟨ts',h1,h2,h3,h4⟩:=turn Y' S' hl m d q hd hq ts hts
   exact ⟨ts',h1,h2,h3,rfl,h4⟩) hs
 have e:(ds.map some).filterMap id=ds:=by rw [List.filterMap_map];simp
 rw [e] at h
 exact h
theorem jE {xs ys:List D} (h:EvD Y e c (.lst xs)) (he:xs=ys):EvD Y e c (.lst ys):=he▸h
theorem KK {env:PySem.Env} {es':List Expr} {x1:Nat} {p1:Pos}:starEach (.Tuple es' x1 p1::es) env=(false,eval (.Tuple es' x1 p1) env)::starEach es env:=by rfl
theorem jY {es':List Expr} {x1:Nat} {p1:Pos} (ha:EvD Y (.Tuple es' x1 p1) c d) (hr:ArD Y es c ds):ArD Y (.Tuple es' x1 p1::es) c (d::ds):=xa ha hr KK
theorem ZC (val:Nat->Int):∀(l:List Int) (x:Int),(∀i,i<(x::l).length->val i=(x::l).getD i 0)->∀m,m<(x::l).length->val (argBest (fun i j=>decide (val i<val j)) m)=((x::l).take (m+1)).tail.foldl min x
 | l,x,h,0,_=>by rw [h _ (by simp [argBest])];rfl
 | l,x,h,m+1,hm=>by
  have ih:=ZC val l x h m (by omega)
  have hm':m<l.length:=by simpa using hm
  have e:((x::l).take (m+1+1)).tail=((x::l).take (m+1)).tail++ [l[m]]:=by
   show l.take (m+1)=l.take m++ [l[m]]
   rw [List.take_succ,mD hm']
   rfl
  have hv:val (m+1)=l[m]:=by rw [h _ hm];simp [hm']
  rw [e,List.foldl_append,<-ih]
  show val (if decide (val (m+1)<val (argBest _ m))=true then m+1 else argBest _ m)=min (val (argBest _ m)) l[m]
  rw [<-hv]
  split
  ·rename_i q;have:val (m+1)<val (argBest (fun i j=>decide (val i<val j)) m):=by simpa using q
   omega
  ·rename_i q;have:¬val (m+1)<val (argBest (fun i j=>decide (val i<val j)) m):=by simpa using q
   omega
theorem WR {X:Cx} (hh:X.A.handled=none):CallR X (.builtin "min") (fun xs H Q=>∃(p:Addr) (x:Int) (l:List Int),xs=[.ref p]/\SqL X.K H p ((x::l).map V.int)/\Q (.int (l.foldl min x)) H):=by
 intro pins s σ H xs us Q I r h
 obtain ⟨p,x,l,rfl,hp,q⟩:=h
 obtain ⟨u,rfl,ru⟩:=vals1 r
 cases (show u=Value.ref p from ru)
 obtain ⟨its,rv,pl,hz⟩:=I.list hp
 have hlt:p<s.heap.objs.size:=by obtain ⟨o,n,e,_⟩:=pl;exact Heap.lt_size e
 have hl:=rv.length
 have hval:∀i v,its.toArray[i]? =some v->∃t,v=Value.int ((x::l).getD i 0) t:=fun i v hv=>by
  have hv:its[i]? =some v:=by simpa using hv
  have hi:i<(x::l).length:=by
   have:=(List.getElem?_eq_some_iff.mp hv).1
   rw [<-hl,mB] at this;exact this
  obtain ⟨u',hu',r'⟩:=rv.get (i:=i) (x:= .int (x::l)[i]) (by rw [List.getElem?_map,mD hi];rfl)
  rw [hv] at hu'
  cases hu'
  obtain ⟨t,rfl⟩:=r'
  exact ⟨t,by rw [List.getD_eq_getElem?_getD,mD hi];rfl⟩
 have hn:its.toArray.size=(x::l).length:=by rw [List.size_toArray,<-hl,mB]
 refine call_min_walk (wpAny_pyIter_list pl.isList ?_)
 refine ⟨s.heap.objs.size,_,_,_,_,_,_,rfl,Walks.list (prog:=X.prog) (w:=X.w) (A:=X.A.in1) hh s.heap.objs.size p (Nat.ne_of_lt hlt) its.toArray,⟨⟨_,Heap.get?_push_size _ rfl,rfl,rfl⟩,pl.isList.push _⟩,fun b hb=>?_,by rw [hn];simp,CmpOf.ints_lt (fun i=>(x::l).getD i 0) hval,fun v h' tk hv hk=>?_⟩
 ·have hb':b=s.heap.objs.size∨b=p:=by simpa using hb
  have hz:(s.heap.push { cls:= .type "list_iterator",data:= .fields #[.ref p,.int 0 0] }).objs.size=s.heap.objs.size+1:=Heap.size_push ..
  show b<(s.heap.push _).objs.size
  rw [hz]
  rcases hb' with rfl | rfl
  ·exact Nat.lt_succ_self _
  ·exact Nat.lt_succ_of_lt hlt
 ·obtain ⟨t,rfl⟩:=hval _ v hv
  have e:=ZC (fun i=>(x::l).getD i 0) l x (fun _ _=>rfl) (its.toArray.size - 1) (by rw [hn];simp)
  have e2:((x::l).take (its.toArray.size - 1+1)).tail=l:=by rw [hn];simp
  rw [e2] at e
  refine ⟨.int _,H,I.kept (t':=tk) fun b o z=>?_,⟨t,rfl⟩,?_⟩
  ·refine hk b o ?_ (Heap.get?_push_of_some _ z)
   have:=Heap.lt_size z
   simp;exact Nat.ne_of_lt this
  ·have e':(x::l).getD (argBest (fun i j=>decide ((x::l).getD i 0<(x::l).getD j 0)) (its.toArray.size - 1)) 0=l.foldl min x:=e
   rw [e']
   exact q
theorem Y4 {K:W.Frag} {F:Hp}:∀{vs:List V} {l:List Int},Reps K F vs (l.map D.int)->vs=l.map V.int
 | _,[],r=>by cases r;rfl
 | _,b::bs,r=>by
  cases r with
  | cons h t=>rw [xw h,Y4 t];rfl
theorem JM (S:Se Y T k N G) (gi:Nat) {i:Int} {l:List Int} {p:Pos} (ha:ArD Y [e] c [.lst ((i::l).map D.int)]) (hm:T.mg "min" =none) (hg:G[gi]? =some ("min" :Str):=by rfl) (he:starEach [e] Y.X.env=(false,eval e Y.X.env)::starEach [] Y.X.env:=by rfl):EvD Y (.Call (.Name "min" p) [e] [] pos) c (.int (l.foldl min i)):=
 zM S gi (WR S.room.hd) hg hm jW ha (fun vs F H Q f r q=>by
  obtain ⟨v,rfl,rv⟩:=inv1 r
  obtain ⟨p,ws,rfl,hp,rs⟩:=yL rv
  have:=Y4 rs
  subst this
  exact ⟨p,i,l,rfl,f.seq hp,q _ F H (Ext.refl f) (.int _)⟩) he rfl
theorem WV {X:Cx} (hh:X.A.handled=none):CallR X (.builtin "all") (fun xs H Q=>∃(p:Addr) (bs:List Bool),xs=[.ref p]/\SqL X.K H p (bs.map V.bl)/\Q (.bl (bs.all id)) H):=by
 intro pins s σ H xs us Q I r h
 obtain ⟨p,bs,rfl,hp,q⟩:=h
 obtain ⟨u,rfl,ru⟩:=vals1 r
 cases (show u=Value.ref p from ru)
 obtain ⟨its,rv,pl,hz⟩:=I.list hp
 have hlt:p<s.heap.objs.size:=by obtain ⟨o,n,e,_⟩:=pl;exact Heap.lt_size e
 refine call_all_walk (wpAny_pyIter_list pl.isList ?_)
 refine ⟨s.heap.objs.size,_,_,_,_,_,fun i=>(bs[i]?).getD true,rfl,Walks.list (prog:=X.prog) (w:=X.w) (A:=X.A.in1) hh s.heap.objs.size p (Nat.ne_of_lt hlt) its.toArray,⟨⟨_,Heap.get?_push_size _ rfl,rfl,rfl⟩,pl.isList.push _⟩,fun i v s' Q' E' hv hq=>?_,fun h' tk hk=>?_⟩
 ·have hv:its[i]? =some v:=by simpa using hv
  have hl:=rv.length
  have hi:i<bs.length:=by
   have:=(List.getElem?_eq_some_iff.mp hv).1
   rw [<-hl,mB] at this;exact this
  obtain ⟨u',hu',r'⟩:=rv.get (i:=i) (x:= .bl bs[i]) (by simp [hi])
  rw [hv] at hu'
  cases hu'
  cases (show v=Value.bool bs[i] from r')
  have e:(bs[i]?).getD true=bs[i]:=by simp [hi]
  have hq:Q' ((bs[i]?).getD true) s':=hq
  rw [e] at hq
  exact wpAny_truthy_bool hq
 ·have e:((List.range its.toArray.size).all fun i=>(bs[i]?).getD true)=bs.all id:=by
   have hl:=rv.length
   rw [List.size_toArray,<-hl,mB]
   rw [Bool.eq_iff_iff,List.all_eq_true,List.all_eq_true]
   constructor
   ·intro z x hx
    obtain ⟨i,hi,rfl⟩:=List.getElem_of_mem hx
    have:=z i (by simpa using hi)
    simpa [hi] using this
   ·intro z i hi
    have hi:i<bs.length:=by simpa using hi
    have:=z bs[i] (List.getElem_mem hi)
    simpa [hi] using this
  rw [e]
  refine ⟨.bl _,H,I.kept (t':=tk) fun b o z=>?_,rfl,q⟩
  refine hk b o ?_ (Heap.get?_push_of_some _ z)
  have:=Heap.lt_size z
  simp;exact Nat.ne_of_lt this
theorem xaQ:bootBuiltins "all" =some (.builtin "all"):=by decide+kernel
theorem Q7 {K:W.Frag} {F:Hp}:∀{vs:List V} {bs:List Bool},Reps K F vs (bs.map D.bl)->vs=bs.map V.bl
 | _,[],r=>by cases r;rfl
 | _,b::bs,r=>by
  cases r with
  | cons h t=>rw [zH h,Q7 t];rfl
theorem JR (S:Se Y T k N G) (gi:Nat) {bs:List Bool} {p:Pos} (ha:ArD Y [e] c [.lst (bs.map D.bl)]) (hm:T.mg "all" =none) (hg:G[gi]? =some ("all" :Str):=by rfl) (he:starEach [e] Y.X.env=(false,eval e Y.X.env)::starEach [] Y.X.env:=by rfl):EvD Y (.Call (.Name "all" p) [e] [] pos) c (.bl (bs.all id)):=
 zM S gi (WV S.room.hd) hg hm xaQ ha (fun vs F H Q f r q=>by
  obtain ⟨v,rfl,rv⟩:=inv1 r
  obtain ⟨p,ws,rfl,hp,rs⟩:=yL rv
  have:=Q7 rs
  subst this
  exact ⟨p,bs,rfl,f.seq hp,q _ F H (Ext.refl f) (.bl _)⟩) he rfl
end
section
variable {K:W.Frag} {F₀ H₀ F H:Hp} {σ:St} {c:List Slot} {i:Nat} {a p:Addr} {vs:List V} {ds:List D}
theorem none_of {F H:Hp} {p:Addr} (s:Same F H) (h:H p=none):F p=none:=by
 cases q:F p with
 | none=>rfl
 | some o=>rw [s p o q] at h;cases h
theorem Env.own_new (E:Env K F₀ H₀ F H σ c) (hi:i<c.length) (hp:H p=none) (r:Reps K F vs ds):Env K F₀ H₀ F (upd H p (.lst vs)) (σ.set i (some (.ref p))) (put c i (.own ds)) where
 ext:=⟨E.ext.ff,fun b u q=>by rw [xh (xo (E.ext.fh b u q) hp)];exact E.ext.fh b u q,fun b u q=>by rw [xh (xo (E.ext.hh b u q) hp)];exact E.ext.hh b u q,E.ext.fr⟩
 len:=by rw [List.length_set,yb];exact E.len
 sl:=fun j=>by
  by_cases e:i=j
  ·subst e
   rw [xV _ _ _ hi,List.getElem?_set_self (by rw [E.len];exact hi)]
   exact ⟨p,vs,rfl,xm,none_of E.ext.fh hp,none_of E.ext.hh hp,r⟩
  ·rw [xt _ _ _ _ e,mG e]
   have q:=E.sl j
   generalize slot c j=s at q ⊢
   cases s with
   | un=>trivial
   | val d=>exact q
   | own ds'=>obtain ⟨b,ws,h,h1,h2,h3,r'⟩:=q;exact ⟨b,ws,h,by rw [xh (xo h1 hp)];exact h1,h2,h3,r'⟩
   | dic ds'=>obtain ⟨b,ws,h,h1,h2,h3,r'⟩:=q;exact ⟨b,ws,h,by rw [xh (xo h1 hp)];exact h1,h2,h3,r'⟩
   | thg ds'=>obtain ⟨b,ws,h,h1,h2,h3,r'⟩:=q;exact ⟨b,ws,h,by rw [xh (xo h1 hp)];exact h1,h2,h3,r'⟩
   | bor t=>exact q
   | dsk a l C p' s' past=>exact ⟨q.1,q.2.new hp⟩
   | fnv f=>exact q
   | exc C dx=>obtain ⟨b,h,h1⟩:=q;exact ⟨b,h,by rw [xh (xo h1 hp)];exact h1⟩
 inj:=by
  have key:∀k,i≠k->isOwn (slot c k)=true->σ[k]? =some (some (V.ref p))->False:=fun k hk h2 h4=>by
   have q:=E.sl k
   cases hs:slot c k with
   | own ds'=>
    rw [hs] at q
    obtain ⟨b,ws,h,h1,_⟩:=q
    rw [h4] at h
    cases h
    rw [hp] at h1
    cases h1
   | dic ds'=>
    rw [hs] at q
    obtain ⟨b,ws,h,h1,_⟩:=q
    rw [h4] at h
    cases h
    rw [hp] at h1
    cases h1
   | thg ds'=>
    rw [hs] at q
    obtain ⟨b,ws,h,h1,_⟩:=q
    rw [h4] at h
    cases h
    rw [hp] at h1
    cases h1
   | dsk a l C p' s' past=>
    rw [hs] at q
    obtain ⟨h,_,_,_,_,h1,_⟩:=q
    rw [h4] at h
    cases h
    rw [hp] at h1
    cases h1
   | bor t=>rw [hs] at h2;cases h2
   | fnv t=>rw [hs] at h2;cases h2
   | un=>rw [hs] at h2;cases h2
   | val d=>rw [hs] at h2;cases h2
   | exc C dx=>rw [hs] at h2;cases h2
  intro j k b h1 h2 h3 h4
  by_cases e:i=j
  ·subst e
   by_cases e2:i=k
   ·exact e2
   ·rw [List.getElem?_set_self (by rw [E.len];exact hi)] at h3
    cases h3
    rw [mG e2] at h4
    rw [xt _ _ _ _ e2] at h2
    exact (key k e2 h2 h4).elim
  ·by_cases e2:i=k
   ·subst e2
    rw [List.getElem?_set_self (by rw [E.len];exact hi)] at h4
    cases h4
    rw [mG e] at h3
    rw [xt _ _ _ _ e] at h1
    exact (key j e h1 h3).elim
   ·rw [xt _ _ _ _ e] at h1
    rw [xt _ _ _ _ e2] at h2
    rw [mG e] at h3
    rw [mG e2] at h4
    exact E.inj j k b h1 h2 h3 h4
theorem Env.own_at (E:Env K F₀ H₀ F H σ c) (hs:slot c i= .own ds):∃a vs,σ[i]? =some (some (.ref a))/\H a=some (.lst vs)/\F a=none/\H₀ a=none/\Reps K F vs ds:=by
 have q:=E.sl i
 rw [hs] at q
 exact q
theorem Qf:∀{c:List Slot} {i:Nat} {ds:List D},slot c i= .own ds->i<c.length
 | [],_,_,h=>by cases h
 | _::_,0,_,_=>by simp
 | _::r,i+1,_,h=>by simpa using Qf (c:=r) (i:=i) h
theorem Env.own_set (E:Env K F₀ H₀ F H σ c) {ds':List D} {vs' ws:List V} (hs:slot c i= .own ds) (hσ:σ[i]? =some (some (.ref a))) (h1:H a=some (.lst ws)) (h2:F a=none) (h3:H₀ a=none) (r:Reps K F vs' ds'):
  Env K F₀ H₀ F (upd H a (.lst vs')) σ (put c i (.own ds')) where
 ext:=⟨E.ext.ff,fun b u q=>by rw [xh (xo q h2)];exact E.ext.fh b u q,fun b u q=>by rw [xh (xo q h3)];exact E.ext.hh b u q,E.ext.fr⟩
 len:=by rw [yb];exact E.len
 sl:=fun j=>by
  by_cases e:i=j
  ·subst e
   rw [xV _ _ _ (Qf hs)]
   exact ⟨a,vs',hσ,xm,h2,h3,r⟩
  ·rw [xt _ _ _ _ e]
   have q:=E.sl j
   cases hj:slot c j with
   | un=>trivial
   | val d=>rw [hj] at q;exact q
   | own ds2=>
    rw [hj] at q
    obtain ⟨b,us,h,g1,g2,g3,r'⟩:=q
    have hb:b≠a:=fun z=>e (E.inj i j a (by rw [hs];rfl) (by rw [hj];rfl) hσ (by rw [<-z];exact h))
    exact ⟨b,us,h,by rw [xh hb];exact g1,g2,g3,r'⟩
   | dic ds2=>
    rw [hj] at q
    obtain ⟨b,us,h,g1,g2,g3,r'⟩:=q
    have hb:b≠a:=fun z=>e (E.inj i j a (by rw [hs];rfl) (by rw [hj];rfl) hσ (by rw [<-z];exact h))
    exact ⟨b,us,h,by rw [xh hb];exact g1,g2,g3,r'⟩
   | thg ds2=>
    rw [hj] at q
    obtain ⟨b,us,h,g1,g2,g3,r'⟩:=q
    have hb:b≠a:=fun z=>e (E.inj i j a (by rw [hs];rfl) (by rw [hj];rfl) hσ (by rw [<-z];exact h))
    exact ⟨b,us,h,by rw [xh hb];exact g1,g2,g3,r'⟩
   | bor t=>rw [hj] at q;exact q
   | fnv f=>rw [hj] at q;exact q
   | dsk a' l' C p' s' past=>
    rw [hj] at q
    exact ⟨q.1,q.2.upd h1 Yy⟩
   | exc C dx=>
    rw [hj] at q
    obtain ⟨b,h,g1⟩:=q
    have hb:b≠a:=fun z=>by rw [z,h1] at g1;cases g1
    exact ⟨b,h,by rw [xh hb];exact g1⟩
 inj:=fun j k b h1 h2 h3 h4=>by
  have own:∀l,isOwn (slot (put c i (.own ds')) l)=true->isOwn (slot c l)=true:=fun l hl=>by
   by_cases e:i=l
   ·subst e;rw [hs];rfl
   ·rw [xt _ _ _ _ e] at hl;exact hl
  exact E.inj j k b (own j h1) (own k h2) h3 h4
theorem Env.freeze (E:Env K F₀ H₀ F H σ c) (hs:slot c i= .own ds):∃F',Same F F'/\Env K F₀ H₀ F' H σ (put c i (.val (.lst ds))):=by
 obtain ⟨a,vs,hσ,h1,h2,h3,r⟩:=E.own_at hs
 have sm:Same F (upd F a (.lst vs)):=fun b u q=>by rw [xh (xo q h2)];exact q
 refine ⟨upd F a (.lst vs),sm,⟨E.ext.ff.trans sm,fun b u q=>?_,E.ext.hh,fun b hb fb=>?_⟩,by rw [yb];exact E.len,fun j=>?_,fun j k b q1 q2 q3 q4=>?_⟩
 ·by_cases e:b=a
  ·subst e;rw [xm] at q;cases q;exact h1
  ·rw [xh e] at q;exact E.ext.fh b u q
 ·by_cases e:b=a
  ·subst e;exact absurd h3 hb
  ·rw [xh e];exact E.ext.fr b hb fb
 ·by_cases e:i=j
  ·subst e
   rw [xV _ _ _ (Qf hs)]
   exact ⟨.ref a,hσ,.lst (SqL.of xm) (r.mono sm)⟩
  ·rw [xt _ _ _ _ e]
   have q:=E.sl j
   cases hj:slot c j with
   | un=>trivial
   | val d=>rw [hj] at q;obtain ⟨x,h,r'⟩:=q;exact ⟨x,h,r'.mono sm⟩
   | own ds2=>
    rw [hj] at q
    obtain ⟨b,us,h,g1,g2,g3,r'⟩:=q
    have hb:b≠a:=fun z=>e (E.inj i j a (by rw [hs];rfl) (by rw [hj];rfl) hσ (by rw [<-z];exact h))
    exact ⟨b,us,h,g1,by rw [xh hb];exact g2,g3,r'.mono sm⟩
   | dic ds2=>
    rw [hj] at q
    obtain ⟨b,us,h,g1,g2,g3,r'⟩:=q
    have hb:b≠a:=fun z=>e (E.inj i j a (by rw [hs];rfl) (by rw [hj];rfl) hσ (by rw [<-z];exact h))
    exact ⟨b,us,h,g1,by rw [xh hb];exact g2,g3,r'.mono sm⟩
   | thg ds2=>
    rw [hj] at q
    obtain ⟨b,us,h,g1,g2,g3,r'⟩:=q
    have hb:b≠a:=fun z=>e (E.inj i j a (by rw [hs];rfl) (by rw [hj];rfl) hσ (by rw [<-z];exact h))
    exact ⟨b,us,h,g1,by rw [xh hb];exact g2,g3,r'.mono sm⟩
   | bor t=>rw [hj] at q;obtain ⟨b,o,h,g1,r2⟩:=q;exact ⟨b,o,h,g1,r2.mono sm⟩
   | fnv f=>rw [hj] at q;exact q
   | dsk a' l' C p' s' past=>
    rw [hj] at q
    exact ⟨q.1,q.2.frz h1 Yy sm⟩
   | exc C dx=>rw [hj] at q;exact q
 ·have own:∀l,isOwn (slot (put c i (.val (.lst ds))) l)=true->isOwn (slot c l)=true:=fun l hl=>by
   by_cases e:i=l
   ·subst e;rw [hs];rfl
   ·rw [xt _ _ _ _ e] at hl;exact hl
  exact E.inj j k b (own j q1) (own k q2) q3 q4
end
section
variable {Y:Cy} {T:Tx} {k:Nat} {N G:List Str} {c:List Slot} {a b e:Expr} {es:List Expr} {pos p1 p2 p3:Pos} {rest:List Stmt} {P:Out->Prop} {d:D} {ds:List D} {x:Str}
def OwD (Y:Cy) (e:Expr) (c:List Slot) (ds:List D):Prop:=PE Y.X e fun σ H Q=>∃F,EnvY Y F H σ c/\∀vs F1 H1 p,Ext F H F1 H1->Reps Y.X.K F1 vs ds->H1 p=none->Q (.ref p) (upd H1 p (.lst vs))
theorem K9 (h:ArD Y es c ds) (hz:ds.length<=1000000:=by first | exact of_decide_eq_true rfl | (simp;done)):OwD Y (.List es p2) c ds:=
 PE.imp (Ym h) fun σ H Q ⟨F,E,q⟩=>⟨F,E,fun vs F1 H1 e1 r1=>⟨by rw [r1.length];exact xL hz,fun p hp=>q vs F1 H1 p e1 r1 hp⟩⟩
theorem Up (S:Sc Y T k N G) (i:Nat) {y:Str} {pos':Pos} (h:OwD Y e c ds) (hr:SsD Y rest (put c i (.own ds)) P) (hi:N[i]? =some y:=by rfl)
  (hlt:i<c.length:=by first | exact mC rfl | decide | omega) (hs:swapsWith e (some (.Name y pos')) pos.line Y.X.env=pure false:=by rfl):SsD Y (.Assign [.Name y pos'] e pos::rest) c P:=by
 have hx:=S.loc y (mz hi)
 have hN:=S.nd
 rw [<-S.n] at hi hN
 refine xF (PS.imp (qO hN hi hx.1 h hs (.inl (S.fn y))) fun D σ H ⟨F,E,m⟩=>⟨F,E,fun vs F1 H1 p e1 r1 hp=>?_⟩)
 exact m (.nx _) hr _ F1 _ e1.ff ((E.grow e1).own_new hlt hp r1)
theorem vP {sts:List Stmt} (i:Nat) (hs:slot c i= .own ds) (h:SsD Y sts (put c i (.val (.lst ds))) P):SsD Y sts c P:=
 PSs.imp h fun D σ H ⟨F,E,m⟩=>by
  obtain ⟨F',sm,E'⟩:=E.freeze hs
  exact ⟨F',E',fun o ho=>(m o ho).grow sm⟩
theorem Z0 (S:Sc Y T k N G) (i:Nat) (hs:slot c i= .own ds) (he:EvD Y e c d) (hr:SsD Y rest (put c i (.own (ds++ [d]))) P) (hz:ds.length<1000000) (hi:N[i]? =some x:=by rfl)
  (hbase:attributeBase (.Name x p1) "append" Y.X.env (eval (.Name x p1) Y.X.env)=eval (.Name x p1) Y.X.env:=by rfl) (hfew:((backTo p3 (starEach [e] Y.X.env)).all (fun x=> !x.1) && (backToKw p3 (keywordEach [] Y.X.env)).all (fun x=>x.1.isSome)
   && decide ([e].length+([]:List Keyword).length+(if ([]:List Keyword).isEmpty then 0 else 1)<30))=true:=by rfl) (hline:(p2.endLine==p3.line)=true:=by rfl) (hst:starEach [e] Y.X.env=(false,eval e Y.X.env)::starEach [] Y.X.env:=by rfl)
  (hsw:swapsWith (.Call (.Attribute (.Name x p1) "append" p2) [e] [] p3) none pos.line Y.X.env=pure false:=by rfl):
  SsD Y (.Expr (.Call (.Attribute (.Name x p1) "append" p2) [e] [] p3) pos::rest) c P:=by
 have hx:=S.loc x (mz hi)
 rw [<-S.n] at hi
 refine xF (PS.imp (vb (ut PySem.F.plainAttrs_list PySem.F.slot_list_append PySem.F.type_list_append vY (xT hi (hx.1.elim .inl fun h=> .inr (.inl h)) hx.2.1 hx.2.2) (xQ he yq hst) hbase hfew hline hst rfl) hsw) fun D σ H ⟨F,E,m⟩=>?_)
 obtain ⟨l,vs,hσ,h1,h2,h3,r⟩:=E.own_at hs
 refine ⟨.ref l,hσ,.inl ⟨rfl,vs,.inl (.inl h1)⟩,F,E,fun v F1 H1 e1 r1=>?_⟩
 have E1:=E.grow e1
 obtain ⟨l',vs',hσ',g1,g2,g3,r'⟩:=E1.own_at hs
 rw [hσ] at hσ'
 cases hσ'
 refine ⟨l,vs',v,rfl,rfl,g1,?_,?_⟩
 ·rw [r'.length];exact mE hz (xL (mJ _))
 ·exact m (.nx _) hr _ F1 _ e1.ff (E1.own_set hs hσ g1 g2 g3 (r'.append (.cons r1 .nil)))
theorem QM (S:Se Y T k N G) (i:Nat) {y:Str} {q1:Pos} {j:Int} (hs:slot c i= .own ds) (hb:EvD Y b c (.int j)) (h:atI ds j=some d) (hi:N[i]? =some y:=by rfl) (hp:PlainIx b:=by intro _ _;rfl):EvD Y (.Subscript (.Name y q1) b pos) c d:=by
 have hx:=S.loc y (mz hi)
 rw [<-S.n] at hi
 refine PE.imp (Vg Vo (xT hi (hx.1.elim .inl fun h=> .inr (.inl h)) hx.2.1 hx.2.2) hb hp) fun σ H Q ⟨F,E,q⟩=>?_
 obtain ⟨l,vs,hσ,h1,h2,h3,r⟩:=E.own_at hs
 refine ⟨.ref l,hσ,F,E,fun v F1 H1 e1 r1=>?_⟩
 have E1:=E.grow e1
 obtain ⟨l',vs',hσ',g1,g2,g3,r'⟩:=E1.own_at hs
 rw [hσ] at hσ'
 cases hσ'
 obtain ⟨w,hw,rw'⟩:=Xb r' h
 exact ⟨l,vs',j,w,rfl,xw r1,.inl (.inl g1),hw,q w F1 H1 e1 rw'⟩
theorem Y3 {K:W.Frag} {F:Hp} {v:V} {d:D} (q:Rep K F v d):∀{vs:List V} {ds:List D} (j:Nat),Reps K F vs ds->Reps K F (vs.set j v) (ds.set j d)
 | _,_,_,.nil=> .nil
 | _,_,0,.cons _ t=> .cons q t
 | _,_,j+1,.cons h t=> .cons h (Y3 q j t)
theorem kC (S:Sc Y T k N G) (i:Nat) {y:Str} {q1 q2:Pos} {j:Int} {n:Nat} (hs:slot c i= .own ds) (he:EvD Y e c d) (hb:EvD Y b c (.int j)) (hj:ixN ds.length j=some n) (hr:SsD Y rest (put c i (.own (ds.set n d))) P) (hi:N[i]? =some y:=by rfl)
  (ha:∀v,assign (.Subscript (.Name y q1) b q2) Y.X.env v=(do
   let ov <-holding [v] (eval (.Name y q1) Y.X.env)
   let iv <-holding [v,ov] (eval b Y.X.env)
   standAt q2
   holding [v,ov,iv] (setItem ov iv v)
   release [v,ov,iv] []):=by intro _;rfl)
  (hsw:swapsWithSole [.Subscript (.Name y q1) b q2] e pos.line Y.X.env=pure false:=by rfl) (hw:swappedStores [.Subscript (.Name y q1) b q2] e Y.X.env=pure none:=by rfl)
  (h1:(assignEach [.Subscript (.Name y q1) b q2] Y.X.env).map (·.2)=[assign (.Subscript (.Name y q1) b q2) Y.X.env]:=by rfl):SsD Y (.Assign [.Subscript (.Name y q1) b q2] e pos::rest) c P:=by
 have hx:=S.loc y (mz hi)
 rw [<-S.n] at hi
 refine xF (PS.imp (UO he (K1 (xT hi (hx.1.elim .inl fun h=> .inr (.inl h)) hx.2.1 hx.2.2) hb Ux ha) hsw hw h1) fun D σ H ⟨F,E,m⟩=>⟨F,E,fun v F1 H1 e1 r1=>?_⟩)
 have E1:=E.grow e1
 obtain ⟨l,vs,hσ,g1,g2,g3,r⟩:=E1.own_at hs
 refine ⟨.ref l,hσ,F1,E1,fun u F2 H2 e2 r2=>?_⟩
 have E2:=E1.grow e2
 obtain ⟨l',vs',hσ',k1,k2,k3,r'⟩:=E2.own_at hs
 rw [hσ] at hσ'
 cases hσ'
 refine ⟨l,vs',j,n,rfl,xw r2,k1,by rw [r'.length];exact hj,?_⟩
 exact m (.nx _) hr _ F2 _ (e1.trans e2).ff (E2.own_set hs hσ k1 k2 k3 (Y3 (r1.mono e2.ff) n r'))
end
end DL
namespace DJX
open PySem PySem.Spec PyProof.Rows
open Sem (wp)
theorem Z4:typeLookup (.type "list_reverseiterator") "__len__" =pure none:=by rw [typeLookup_type,builtinLookup_eq_fast];kernel_rfl
theorem UG:typeLookup (.type "list_reverseiterator") "__length_hint__" =pure (some (.builtin "list_reverseiterator.__length_hint__")):=by rw [typeLookup_type,builtinLookup_eq_fast];kernel_rfl
theorem UF:isSubtype (.type "list_reverseiterator") (.type "list_reverseiterator")=pure true:=by rw [isSubtype_type];kernel_rfl
section
variable {prog:Program} {w:World} {A:Around} {E:Value->Shared->Prop} {s:Shared}
theorem jq {it l:Addr} {i:Int} {Q:Bool->Shared->Prop} (hit:s.heap.IsRevIter it l i) (h:Q false s):wpAny (model prog w) A (Builtin.List.listLengthHint (.ref it)) Q E s:=by
 unfold Builtin.List.listLengthHint
 refine wpAny_bind (wpAny_specialOf hit.typeIs Z4 ?_)
 show wpAny _ A (specialOf (Value.ref it) (Str.ofString "__length_hint__")>>=_) _ _ _
 refine wpAny_bind (wpAny_specialOf hit.typeIs UG ?_)
 generalize hid:("list_reverseiterator.__length_hint__" :String)=id0
 wp_delta
 rw [show splitId id0=some ("list_reverseiterator","__length_hint__") from by subst hid;decide+kernel]
 subst hid
 refine wpAny_bind (wpAny_isInstance (T:= "list_reverseiterator") (b:=true) hit.typeIs UF ?_)
 refine wpAny_ite_split (fun q=>absurd q (by decide)) (fun _=>?_)
 refine wpAny_ite_split (fun _=>?_) (fun q=>absurd (by decide+kernel) q)
 refine wpAny_ite_split (fun q=>absurd q (by decide+kernel)) (fun _=>?_)
 exact wpAny_pure h
def RevOf (items:Array Value) (acc:Array Value):Prop:=ItemsOf (fun i v=>items[items.size - 1 - i]? =some v) acc items.size
theorem JF {R:Result->Shared->Prop} {it l S:Addr} {items:Array Value} {res:Value} {ep:Nat} (hh:A.handled=none) (hit:s.heap.IsRevIter it l ((items.size:Int) - 1)) (hl:s.heap.IsList l items) (nl:l≠it) (nS:S≠it) (nS2:S≠l)
  (hz:items.size<=1000000) (oS:s.heap.get? S=some { cls:= .type "list",data:= .seq #[] ep })
  (goal:∀h' tk acc c',(∀b o,b≠S->b≠it->s.heap.get? b=some o->h'.get? b=some o)->h'.get? S=some { cls:= .type "list",dict:=none,data:= .seq acc c',slots:= #[] }->RevOf items acc->R (.ok (.ret res)) { s with heap:=h',toks:=tk }):
  wpAny (model prog w) A.in1 (Builtin.List.listExtendWith (.ref S) (.ref it) res)
   (fun fin s'=>match fin with | .done f=>R (.ok f) s' | .again c'=>c'.quiet=true/\codeAny (model prog w) A c' R s') (fun e s'=>R (.error e) s') s:=by
 have V:=(Walks.listRev (prog:=prog) (w:=w) (A:=A.in1) hh it l nl items).toS
 unfold Builtin.List.listExtendWith
 refine wpAny_bind (wpAny_typeOf hit.typeIs ?_)
 have g1:Builtin.List.listSameRef (.ref S) (.ref it)=false:=by simp [Builtin.List.listSameRef,nS]
 have g2:(Value.type "list_reverseiterator" ==Value.type "list")=false:=by decide
 have g3:(Value.type "list_reverseiterator" ==Value.type "tuple")=false:=by decide
 simp only [g1,g2,g3,Bool.or_false,Bool.false_eq_true,if_false]
 refine wpAny_bind (wpAny_pyIter_revIter hit (wpAny_bind (wpAny_holding (jq hit ?_))))
 refine wpAny_ite_split (fun q=>absurd q (by decide+kernel)) (fun _=>?_)
 refine wpAny_pure ⟨plainId_quiet F.plain_extend_loop _,codeAny_extend_loopS V (by rw [sizeLine_eq];omega) S (by simp [nS,nS2]) res items.size 0 _ #[] ep rfl (Nat.zero_le _) ⟨Nat.zero_le _,by simpa using hit,hl⟩ oS (ItemsOf.nil _) fun s' acc c' hm oS' hacc=>?_⟩
 rw [Moved.eq_with hm]
 refine goal s'.heap s'.toks acc c' (fun b o h1 h2 e=>hm.heap b o (fun q=>?_) e) oS' hacc
 rcases List.mem_cons.mp q with q | q
 ·exact h1 q
 ·exact h2 (List.mem_singleton.mp q)
theorem YQ {R:Result->Shared->Prop} {it l:Addr} {items:Array Value} (hh:A.handled=none) (hit:s.heap.IsRevIter it l ((items.size:Int) - 1)) (hl:s.heap.IsList l items) (nl:l≠it) (hz:items.size<=1000000)
  (goal:∀h' tk acc c',(∀b o,b≠it->s.heap.get? b=some o->h'.get? b=some o)->h'.get? s.heap.objs.size=some { cls:= .type "list",dict:=none,data:= .seq acc c',slots:= #[] }->RevOf items acc->R (.ok (.ret (.ref s.heap.objs.size))) { s with heap:=h',toks:=tk }):
  codeAny (model prog w) A (.builtin "proto.collect" ⟨[.ref it],[]⟩) R s:=by
 have li:it<s.heap.objs.size:=by obtain ⟨o,e,_⟩:=id hit;exact Heap.lt_size e
 have ll:l<s.heap.objs.size:=by obtain ⟨o,e,_⟩:=id hl;exact Heap.lt_size e
 refine codeAny_builtin F.entry_proto_collect ?_
 rw [Around.under_plainId F.plain_proto_collect _]
 show wpAny _ A.in1 (newList []>>=fun l=>again (.builtin "list.__iadd__" ⟨[l,.ref it],[]⟩)) _ _ s
 refine wpAny_bind (wpAny_newObj_type ?_)
 refine wpAny_pure ⟨plainId_quiet F.plain_list_iadd _,codeAny_builtin F.entry_list_iadd ?_⟩
 rw [Around.under_plainId F.plain_list_iadd _]
 show wpAny _ A.in1 (Builtin.List.listExtendWith (.ref s.heap.objs.size) (.ref it) (.ref s.heap.objs.size)) _ _ _
 have oS:(s.heap.push { cls:= .type "list",data:= .seq ([]:List Value).toArray }).get? s.heap.objs.size=some { cls:= .type "list",data:= .seq #[] 0 }:=Heap.get?_push_size _ rfl
 refine JF (R:=R) (s:={ s with heap:=s.heap.push { cls:= .type "list",data:= .seq ([]:List Value).toArray } }) (A:=A) hh (hit.at fun o e=>Heap.get?_push_of_some _ e) (hl.push _) nl (Ne.symm (Nat.ne_of_lt li)) (Ne.symm (Nat.ne_of_lt ll)) hz oS fun h' tk acc c' k oS' r=>?_
 exact goal h' tk acc c' (fun b o h1 e=>k b o (Nat.ne_of_lt (Heap.lt_size e)) h1 (Heap.get?_push_of_some _ e)) oS' r
theorem ZB {Q:List Value->Shared->Prop} {it l:Addr} {items:Array Value} (hh:A.handled=none) (hit:s.heap.IsRevIter it l ((items.size:Int) - 1)) (hl:s.heap.IsList l items) (nl:l≠it) (hz:items.size<=1000000)
  (goal:∀h' tk acc,(∀b o,b≠it->s.heap.get? b=some o->h'.get? b=some o)->RevOf items acc->Q acc.toList { s with heap:=h',toks:=tk }):
  wpAny (model prog w) A (collect (.ref it)) Q E s:=by
 unfold collect
 refine wpAny_bind (wpAny_runValue (YQ hh hit hl nl hz fun h' tk acc c' k oS' r=>?_))
 show wpAny _ A (load s.heap.objs.size>>=_) _ _ _
 refine wpAny_bind (wpAny_load oS' ?_)
 exact wpAny_pure (goal h' tk acc k r)
theorem join_rev {Q:Value->Shared->Prop} {it l:Addr} {x:Str} {t:Tok} {ls:List (Str×Tok)} (hh:A.handled=none) (hit:s.heap.IsRevIter it l (((strValues ls).toArray.size:Int) - 1)) (hl:s.heap.IsList l (strValues ls).toArray) (nl:l≠it) (hz:(strValues ls).toArray.size<=1000000)
  (hok:JoinOk x (ls.reverse.map (·.1))=true) (goal:∀h' tk tk2,(∀b o,b≠it->s.heap.get? b=some o->h'.get? b=some o)->Q (.str (Txt.join x (ls.reverse.map (·.1))) tk2) { s with heap:=h',toks:=tk }):
  wpAny (model prog w) A (call (.builtin "str.join") [.str x t,.ref it]) Q E s:=by
 refine wpAny_call (codeAny_call_builtin F.slot_str_join.plain F.entry_str_join (F.slot_str_join.check _ _ _ _ _ _ _ _ (typeIs_str _ _ _) (F.args_str_join_2 _ _) ?_))
 rw [join_tree_other]
 refine wpAny_bind (wpAny_typeOf hit.typeIs ?_)
 show wpAny _ A.in1 ((pyIter (.ref it)).tryCatch _>>=fun it=>collect it>>=fun items=>joinTail x items) _ _ s
 refine wpAny_bind (wpAny_tryCatch (wpAny_pyIter_revIter hit ?_))
 refine wpAny_bind (ZB (A:=A.in1) hh hit hl nl hz fun h' tk acc k r=>?_)
 have e:acc.toList=strValues ls.reverse:=by
  apply List.ext_getElem?
  intro i
  have e1:strValues ls.reverse=(strValues ls).reverse:=by unfold strValues;rw [List.map_reverse]
  have sz:acc.toList.length=(strValues ls).length:=by have:=r.1;simpa using this
  by_cases hi:i<acc.toList.length
  ·have q:=r.2 i acc.toList[i] (by rw [<-Array.getElem?_toList];exact mD hi)
   rw [e1,List.getElem?_reverse (by omega),mD hi]
   have q:(strValues ls)[(strValues ls).length - 1 - i]? =some acc.toList[i]:=by simpa using q
   exact q.symm
  ·rw [List.getElem?_eq_none (by omega),e1,List.getElem?_eq_none (by rw [List.length_reverse];omega)]
 rw [e]
 unfold JoinOk at hok
 rw [Bool.not_eq_true'] at hok
 have g:∀l2:List (Str×Tok),Builtin.Str.tooLong ((l2.map (·.1)).toArray.foldl (· + ·.length+x.length) 0)=false->Gives (joinTail x (strValues l2)) (joinMade x l2):=fun l2 hok=>by
  have g0:=gives_joinTail x l2 hok
  cases l2 with
  | nil=>exact g0
  | cons p r=>cases r with
   | nil=>exact g0
   | cons q r'=>exact g0
 exact g ls.reverse hok prog w A (wants Q E) _ (post_join ls.reverse ⟨joinFit_length hok,fun t' k2=>goal h' k2 t' k⟩)
end
end DJX
namespace DL
open PySem L2
section
variable {Y:Cy} {T:Tx} {k:Nat} {N G:List Str} {c:List Slot} {e o:Expr} {pos apos p1 p2 p3:Pos} {d:D}
theorem wY {K:W.Frag} {F:Hp}:∀{vs:List V} {xs:List Str},Reps K F vs (xs.map D.str)->vs=xs.map V.str
 | _,[],.nil=>rfl
 | _,x::xs,.cons h t=>by rw [wY t,xN h];rfl
theorem qL:∀{xs:List Str} {its:List Value},Vals (xs.map V.str) its->∃ls:List (Str×Tok),strValues ls=its/\ls.map (·.1)=xs
 | [],_,.nil=>⟨[],rfl,rfl⟩
 | x::xs,_,.cons h t=>by
  obtain ⟨ls,h1,h2⟩:=qL t
  obtain ⟨tk,e⟩:=h
  exact ⟨(x,tk)::ls,by rw [<-h1,e];rfl,by rw [<-h2];rfl⟩
theorem Zx (S:Se Y T k N G) (gj:Nat) {sep:Str} {xs:List Str} (ho:EvD Y o c (.str sep)) (ha:EvD Y e c (.lst (xs.map D.str))) (hz:xs.length<=1000000) (hok:JoinOk sep xs.reverse=true) (hm2:T.mg "reversed" =none) (hg2:G[gj]? =some ("reversed" :Str):=by rfl)
  (hbase:attributeBase o "join" Y.X.env (eval o Y.X.env)=eval o Y.X.env:=by rfl) (hfew:((backTo pos (starEach [.Call (.Name "reversed" p2) [e] [] p3] Y.X.env)).all (fun x=> !x.1) && (backToKw pos (keywordEach [] Y.X.env)).all (fun x=>x.1.isSome)
   && decide ([Expr.Call (.Name "reversed" p2) [e] [] p3].length+([]:List Keyword).length+(if ([]:List Keyword).isEmpty then 0 else 1)<30))=true:=by rfl) (hline:(apos.endLine==pos.line)=true:=by rfl)
  (he1:starEach [.Call (.Name "reversed" p2) [e] [] p3] Y.X.env=(false,eval (.Call (.Name "reversed" p2) [e] [] p3) Y.X.env)::starEach [] Y.X.env:=by rfl) (he2:starEach [e] Y.X.env=(false,eval e Y.X.env)::starEach [] Y.X.env:=by rfl):
  EvD Y (.Call (.Attribute o "join" apos) [.Call (.Name "reversed" p2) [e] [] p3] [] pos) c (.str (Txt.join sep xs.reverse)):=by
 intro pins s σ H Q I ⟨F,E,q⟩
 have g2:=(S.gl _ (mz hg2)).1
 refine wpAny_Call_method_late hbase hfew hline rfl (thn (ho pins s σ H (fun v H1=>∃F1,Ext F H F1 H1/\Rep Y.X.K F1 v (.str sep)) I ⟨F,E,fun v F1 H1 e1 r1=>⟨F1,e1,r1⟩⟩) fun v0 s0 ⟨x0,H0,I0,r0,F0,e0,rv0⟩=>?_)
 cases xN rv0
 obtain ⟨t0,rfl⟩:=r0
 refine ⟨"str","str.join",PySem.F.plainAttrs_str,PySem.F.slot_str_join,PySem.F.type_str_join,typeIs_str s0 sep t0,fun a z=>(by cases z),?_⟩
 rw [he1]
 refine Calls.callWith_builtin rfl (Calls.evalArgs_plain ?_)
 show wpAny _ _ (spliced ((false,eval (.Call (.Name "reversed" p2) [e] [] p3) Y.X.env)::backTo pos (starEach [] Y.X.env))) _ _ s0
 refine Calls.spliced_cons ?_
 have E0:=E.grow e0
 refine PyProof.Rows.Call_ (vZ I0 g2 (by rw [S.eM];exact hm2) PyProof.Rows.boot_reversed (PyProof.Rows.callWith_type1 (thn ((xa ha xc he2:ArD Y [e] c [.lst (xs.map D.str)]) p3 pins s0 σ H0 (fun vs H1=>∃F1,Ext F0 H0 F1 H1/\Reps Y.X.K F1 vs [.lst (xs.map D.str)]) I0 ⟨F0,E0,fun vs F1 H1 e1 r1=>⟨F1,e1,r1⟩⟩) fun us s1 ⟨vs,H1,I1,r1,F1,e1,rs⟩=>?_) he2 rfl))
 obtain ⟨v,rfl,rv⟩:=inv1 rs
 obtain ⟨u,rfl,ru⟩:=vals1 r1
 obtain ⟨l,ws,rfl,hp,rw'⟩:=yL rv
 cases (show u=Value.ref l from ru)
 obtain ⟨its,r',pl,hz2⟩:=I1.list (e1.fh.seq hp)
 have hlt:l<s1.heap.objs.size:=by obtain ⟨o,n,z,_⟩:=pl;exact Heap.lt_size z
 have ew:=wY rw'
 subst ew
 obtain ⟨ls,el,ex⟩:=qL r'
 subst el
 have ez:xs.length=ls.length:=by rw [<-ex,mB]
 refine call_reversed_list pl.isList ?_
 refine Calls.spliced_nil ?_
 refine DJX.join_rev (s:={ s1 with heap:=s1.heap.push (revObj l (((strValues ls).toArray.size:Int) - 1)) }) (ls:=ls) (S.room.hd) ⟨_,Heap.get?_push_size _ rfl,rfl,rfl⟩ (pl.isList.push _) (Nat.ne_of_lt hlt) (by rw [List.size_toArray];unfold strValues;rw [mB];omega) (by rw [List.map_reverse,ex];exact hok) fun h' tk tk2 kp=>?_
 have up:∀b o,s1.heap.get? b=some o->h'.get? b=some o:=fun b o z=>kp b o (Nat.ne_of_lt (Heap.lt_size z)) (Heap.get?_push_of_some _ z)
 rw [List.map_reverse,ex]
 exact ⟨.str _,H1,I1.kept (t':=tk) up,⟨tk2,rfl⟩,q _ F1 H1 (e0.trans e1) (.str _)⟩
end
section
variable {Y:Cy} {T:Tx} {k:Nat} {N G:List Str} {c:List Slot} {tg iter elt:Expr} {ifs:List Expr} {pos p1 p2:Pos} {rest:List Stmt} {P:Out->Prop} {ds items:List D} {x:Str} {tn fs G':List Str} {ix:List Nat} {scope osc:Scope}
theorem q8 {env:PySem.Env} {sc:Scope} {v:Expr} {t:Option Expr} {n:Nat} {r:Sem Bool} (h:env.scope=sc) (hs:∀env:PySem.Env,swapsWith v t n { env with scope:=sc }=r):swapsWith v t n env=r:=by
 subst h
 exact hs env
theorem kE (S:Sc Y T k N G) (i:Nat) (hsc:Y.X.env.scope=osc) (B:CmB N tn fs ix G' scope osc) (hi:ItD Y tg iter c items)
  (rs:List (Option D)) (hlen:rs.length=items.length) (hz:rs.length<=100000)
  (turn:∀(Y':Cy) (S':Se Y' T k (tn++fs) G'),(∀x∈tn,Y'.X.env.scope.names.lookup x=some .local)->∀(m:Nat) (d:D) (r:Option D),items[m]? =some d->rs[m]? =some r->∀ts:List Slot,ts.length=tn.length->
   ∃ts':List Slot,ts'.length=tn.length/\ts'.all (fun s=> !isOwn s)=true/\TgD Y' tg d (ts++ix.map fun i=>capS (slot c i)) (ts'++ix.map fun i=>capS (slot c i))/\(match r with
    | some e=>TsD Y' ifs (ts'++ix.map fun i=>capS (slot c i)) true/\EvD Y' elt (ts'++ix.map fun i=>capS (slot c i)) e
    | none=>TsD Y' ifs (ts'++ix.map fun i=>capS (slot c i)) false))
  (hw:swapsWith (.ListComp elt [⟨tg,iter,ifs,0⟩] scope p2) (some (.Name x p1)) pos.line Y.X.env=pure true)
  (hr:SsD Y rest (put c i (.val (.lst (rs.filterMap id)))) P)
  (hs:∀x,foldedSetIterable iter Y.X.env x=pure x:=by intro _;rfl) (hix:N[i]? =some x:=by rfl) (hlt:i<c.length:=by first | exact mC rfl | decide | omega):
  SsD Y (.Assign [.Name x p1] (.ListComp elt [⟨tg,iter,ifs,0⟩] scope p2) pos::rest) c P:=by
 have hx:=S.loc x (mz hix)
 have hN:=S.nd
 rw [<-S.n] at hix hN
 refine xF fun pins s σ H D I ⟨F,E,m⟩=>?_
 rw [exec_Assign_Name_used _ _ _ _ hw]
 refine wpAny_bind (wpAny_standAt (wpAny_bind ?_))
 rw [arm_evalThenUse_ListComp]
 refine wpAny_bind (wpAny_mono (XT (pos:=p2) S.toSe hsc B hi rs hlen hz turn hs I E (use:=some (assign (.Name x p1) Y.X.env)) (Qv:=fun _ s3=>SP Y.X pins D .next s3) (fun D' C s' mm F' H' hn fp hI ex r=>?_)) (fun _ s3 q=>wpAny_pure (wpAny_pure q)) fun _ _ q=>q)
 have I1:Inv Y.X pins σ H' s':=hI s'.heap (Heap.SameBut.refl ..)
 obtain ⟨o,es,ep,ho,r'⟩:=id hn
 have I2:Inv Y.X (pins++ [(C,o)]) σ H' s':=I1.pins_of fun q hq=>by
  rcases List.mem_append.mp hq with hq | hq
  ·have:=I1.pin q (List.mem_append_right _ hq)
   exact this
  ·have:q=(C,o):=by simpa using hq
   subst this
   exact ⟨ho,fp.1,fp.2.1,fp.2.2.1,fun v z=>by rw [r'.1] at z;cases z⟩
 show wpAny _ _ (do standAt p1;bindName Y.X.env x (.ref D')) _ _ s'
 refine wpAny_bind (wpAny_standAt (wpAny_bindName (zc I2 hN hix hx.1 (show RelV (.ref D') (.ref D') from rfl) (fun s2 I3=>?_) (.inl (S.fn x)))))
 have hp:=I3.pin (C,o) (by simp)
 refine ⟨mm,⟨o,es,ep,hp.1,r'⟩,fun h' hs'=>?_⟩
 have I3':Inv Y.X pins (σ.set i (some (.ref D'))) H' s2:=I3.pins_of fun q hq=>I3.pin q (List.mem_append_right _ (List.mem_append_left _ hq))
 have I4:Inv Y.X pins (σ.set i (some (.ref D'))) H' { s2 with heap:=h' }:=I3'.turned (it:=C) (t':=s2.toks) (fun b o hb e=>(hs'.2 b hb).trans e) fp.1 fp.2.1 fp.2.2.2.1 fp.2.2.2.2.1 fp.2.2.2.2.2
 exact ⟨_,H',I4,m (.nx _) hr _ F' H' ex.ff ((E.grow ex).set hlt r)⟩
theorem Uo (S:Sc Y T k N G) (i:Nat) (hsc:Y.X.env.scope=osc) (B:CmB N tn fs ix G' scope osc) (hi:ItD Y tg iter c items)
  (hlen:ds.length=items.length) (hz:ds.length<=100000)
  (turn:∀(Y':Cy) (S':Se Y' T k (tn++fs) G'),(∀x∈tn,Y'.X.env.scope.names.lookup x=some .local)->∀(m:Nat) (d r:D),items[m]? =some d->ds[m]? =some r->∀ts:List Slot,ts.length=tn.length->
   ∃ts':List Slot,ts'.length=tn.length/\ts'.all (fun s=> !isOwn s)=true/\TgD Y' tg d (ts++ix.map fun i=>capS (slot c i)) (ts'++ix.map fun i=>capS (slot c i))/\EvD Y' elt (ts'++ix.map fun i=>capS (slot c i)) r)
  (hw:swapsWith (.ListComp elt [⟨tg,iter,[],0⟩] scope p2) (some (.Name x p1)) pos.line Y.X.env=pure true)
  (hr:SsD Y rest (put c i (.val (.lst ds))) P)
  (hs:∀x,foldedSetIterable iter Y.X.env x=pure x:=by intro _;rfl) (hix:N[i]? =some x:=by rfl) (hlt:i<c.length:=by first | exact mC rfl | decide | omega):
  SsD Y (.Assign [.Name x p1] (.ListComp elt [⟨tg,iter,[],0⟩] scope p2) pos::rest) c P:=by
 have e:(ds.map some).filterMap id=ds:=by rw [List.filterMap_map];simp
 refine kE S i hsc B hi (ds.map some) (by rw [mB];exact hlen) (by rw [mB];exact hz) (fun Y' S' hl m d r hd hr ts hts=>?_) hw (by rw [e];exact hr) hs hix hlt
 rw [List.getElem?_map] at hr
 cases hq:ds[m]? with
 | none=>rw [hq] at hr;cases hr
 | some q=>
  rw [hq] at hr
  cases hr
  obtain ⟨ts',h1,h2,h3,h4⟩:=turn Y' S' hl m d q hd hq ts hts
  exact ⟨ts',h1,h2,h3,rfl,h4⟩
theorem VX {y:Str} (S:Sc Y T k N G) (hsc:Y.X.env.scope=osc) (B:CmB N tn fs ix G' scope osc) (hi:ItD Y tg iter c items) (stop:Nat)
  (hlen:ds.length=items.length) (hz:ds.length<=100000) (hst:stop<items.length) (hzs:RzSN Y T y c)
  (turn:∀(Y':Cy) (S':Se Y' T k (tn++fs) G'),(∀x∈tn,Y'.X.env.scope.names.lookup x=some .local)->∀(m:Nat) (d r:D),items[m]? =some d->ds[m]? =some r->m<=stop->∀ts:List Slot,ts.length=tn.length->
   ∃ts':List Slot,ts'.length=tn.length/\ts'.all (fun s=> !isOwn s)=true/\TgD Y' tg d (ts++ix.map fun i=>capS (slot c i)) (ts'++ix.map fun i=>capS (slot c i))/\(m≠stop->EvD Y' elt (ts'++ix.map fun i=>capS (slot c i)) r)/\(m=stop->RzN Y' T y (ts'++ix.map fun i=>capS (slot c i))->EvX Y' elt (ts'++ix.map fun i=>capS (slot c i))))
  (hw:swapsWith (.ListComp elt [⟨tg,iter,[],0⟩] scope p2) (some (.Name x p1)) pos.line Y.X.env=pure true)
  (hs:∀x,foldedSetIterable iter Y.X.env x=pure x:=by intro _;rfl):
  SsD Y (.Assign [.Name x p1] (.ListComp elt [⟨tg,iter,[],0⟩] scope p2) pos::rest) c P:=by
 refine xF fun pins s σ H D I ⟨F,E,m⟩=>?_
 rw [exec_Assign_Name_used _ _ _ _ hw]
 refine wpAny_bind (wpAny_standAt (wpAny_bind ?_))
 rw [arm_evalThenUse_ListComp]
 refine wpAny_bind (wpAny_mono (u9 (pos:=p2) S.toSe hsc B hi (ds.map some) stop (by rw [mB];exact hlen) (by rw [mB];exact hz) (fun Y' S' hl rz m d r hd hr hm ts hts=>?_) hs I E (use:=some (assign (.Name x p1) Y.X.env)) (Qv:=fun _ _=>False) (fun h=>absurd h (by omega))) (fun _ _ q=>q.elim) fun _ _ q=>q)
 rw [List.getElem?_map] at hr
 cases hq:ds[m]? with
 | none=>rw [hq] at hr;cases hr
 | some q=>
  rw [hq] at hr
  cases hr
  obtain ⟨ts',h1,h2,h3,h4,h5⟩:=turn Y' S' hl m d q hd hq hm ts hts
  refine ⟨ts',h1,h2,h3,?_⟩
  by_cases e:m=stop
  ·rw [mH e]
   exact ⟨rfl,h5 e fun C hC=>rz C (hzs C hC) _⟩
  ·rw [mF e]
   exact ⟨rfl,h4 e⟩
end
section
variable {Y:Cy} {T:Tx} {k:Nat} {N G:List Str} {c:List Slot} {tg iter elt:Expr} {ifs:List Expr} {pos p1 p2:Pos} {rest:List Stmt} {P:Out->Prop} {ds items:List D} {x:Str} {tn fs G':List Str} {ix:List Nat} {scope osc:Scope}
theorem kI (S:Sc Y T k N G) (i:Nat) (hsc:Y.X.env.scope=osc) (B:CmB N tn fs ix G' scope osc) (hi:ItD Y tg iter c items)
  (rs:List (Option D)) (hlen:rs.length=items.length) (hz:rs.length<=100000)
  (turn:∀(Y':Cy) (S':Se Y' T k (tn++fs) G'),(∀x∈tn,Y'.X.env.scope.names.lookup x=some .local)->∀(m:Nat) (d:D) (r:Option D),items[m]? =some d->rs[m]? =some r->∀ts:List Slot,ts.length=tn.length->
   ∃ts':List Slot,ts'.length=tn.length/\ts'.all (fun s=> !isOwn s)=true/\TgD Y' tg d (ts++ix.map fun i=>capS (slot c i)) (ts'++ix.map fun i=>capS (slot c i))/\(match r with
    | some e=>TsD Y' ifs (ts'++ix.map fun i=>capS (slot c i)) true/\EvD Y' elt (ts'++ix.map fun i=>capS (slot c i)) e
    | none=>TsD Y' ifs (ts'++ix.map fun i=>capS (slot c i)) false))
  (hw:swapsWith (.ListComp elt [⟨tg,iter,ifs,0⟩] scope p2) (some (.Name x p1)) pos.line Y.X.env=pure true)
  (hr:SsD Y rest (put c i (.own (rs.filterMap id))) P)
  (hs:∀x,foldedSetIterable iter Y.X.env x=pure x:=by intro _;rfl) (hix:N[i]? =some x:=by rfl) (hlt:i<c.length:=by first | exact mC rfl | decide | omega):
  SsD Y (.Assign [.Name x p1] (.ListComp elt [⟨tg,iter,ifs,0⟩] scope p2) pos::rest) c P:=by
 have hx:=S.loc x (mz hix)
 have hN:=S.nd
 rw [<-S.n] at hix hN
 refine xF fun pins s σ H D I ⟨F,E,m⟩=>?_
 rw [exec_Assign_Name_used _ _ _ _ hw]
 refine wpAny_bind (wpAny_standAt (wpAny_bind ?_))
 rw [arm_evalThenUse_ListComp]
 refine wpAny_bind (wpAny_mono (qU (pos:=p2) S.toSe hsc B hi rs hlen hz turn hs I E (use:=some (assign (.Name x p1) Y.X.env)) (Qv:=fun _ s3=>SP Y.X pins D .next s3) (fun D' C s' mm F' H' vs hn fp hI ex hD hv hf r=>?_)) (fun _ s3 q=>wpAny_pure (wpAny_pure q)) fun _ _ q=>q)
 have I1:Inv Y.X pins σ H' s':=hI s'.heap (Heap.SameBut.refl ..)
 obtain ⟨o,es,ep,ho,r'⟩:=id hn
 have I2:Inv Y.X (pins++ [(C,o)]) σ H' s':=I1.pins_of fun q hq=>by
  rcases List.mem_append.mp hq with hq | hq
  ·have:=I1.pin q (List.mem_append_right _ hq)
   exact this
  ·have:q=(C,o):=by simpa using hq
   subst this
   exact ⟨ho,fp.1,fp.2.1,fp.2.2.1,fun v z=>by rw [r'.1] at z;cases z⟩
 show wpAny _ _ (do standAt p1;bindName Y.X.env x (.ref D')) _ _ s'
 refine wpAny_bind (wpAny_standAt (wpAny_bindName (zc I2 hN hix hx.1 (show RelV (.ref D') (.ref D') from rfl) (fun s2 I3=>?_) (.inl (S.fn x)))))
 have hp:=I3.pin (C,o) (by simp)
 refine ⟨mm,⟨o,es,ep,hp.1,r'⟩,fun h' hs'=>?_⟩
 have I3':Inv Y.X pins (σ.set i (some (.ref D'))) H' s2:=I3.pins_of fun q hq=>I3.pin q (List.mem_append_right _ (List.mem_append_left _ hq))
 have I4:Inv Y.X pins (σ.set i (some (.ref D'))) H' { s2 with heap:=h' }:=I3'.turned (it:=C) (t':=s2.toks) (fun b o hb e=>(hs'.2 b hb).trans e) fp.1 fp.2.1 fp.2.2.2.1 fp.2.2.2.2.1 fp.2.2.2.2.2
 have eH:upd (fun b=>if b=D' then none else H' b) D' (.lst vs)=H':=by
  funext b
  by_cases hb:b=D'
  ·subst hb;rw [xm,hv]
  ·rw [xh hb,mF hb]
 have ex':Ext F H F' (fun b=>if b=D' then none else H' b):=⟨ex.ff,fun b u z=>by
   have hb:b≠D':=fun w=>by rw [w,hf] at z;cases z
   show (if b=D' then none else H' b)=some u
   rw [mF hb];exact ex.fh _ _ z,fun b u z=>by
   have hb:b≠D':=fun w=>by rw [w,hD] at z;cases z
   show (if b=D' then none else H' b)=some u
   rw [mF hb];exact ex.hh _ _ z,ex.fr⟩
 exact ⟨_,H',I4,m (.nx _) hr _ F' H' ex'.ff (by have q:=(E.grow ex').own_new hlt (mH rfl) r;rw [eH] at q;exact q)⟩
end
section
variable {Y:Cy} {T:Tx} {k:Nat} {N G:List Str} {c:List Slot} {e:Expr} {pos:Pos}
theorem Vy (S:Se Y T k N G) (gi i:Nat) {y:Str} {p q1:Pos} {ds:List D} (hs:slot c i= .own ds) (hm:T.mg "len" =none) (hg:G[gi]? =some ("len" :Str):=by rfl) (hi:N[i]? =some y:=by rfl)
  (he:starEach [.Name y q1] Y.X.env=(false,eval (.Name y q1) Y.X.env)::starEach [] Y.X.env:=by rfl) (hpl:(backTo pos (starEach [] Y.X.env)).any (·.1)=false:=by rfl):EvD Y (.Call (.Name "len" p) [.Name y q1] [] pos) c (.int (ds.length:Int)):=by
 have hx:=S.loc y (mz hi)
 have gl:=S.gl "len" (List.mem_of_getElem? hg)
 rw [<-S.n] at hi
 refine PE.imp (zt vI gl.1 (by rw [S.eM];exact hm) YR (xQ (xT (pos:=q1) hi (hx.1.elim .inl fun h=> .inr (.inl h)) hx.2.1 hx.2.2) yq he) gl.2.2 gl.2.1 he hpl) fun σ H Q ⟨F,E,q⟩=>?_
 obtain ⟨l,vs,hσ,h1,h2,h3,r⟩:=E.own_at hs
 exact ⟨.ref l,hσ,.ref l,vs.length,rfl,.inl ⟨vs,.inl (.inl h1),rfl⟩,by rw [r.length];exact q _ F H (Ext.refl E.fh) (.int _)⟩
end
end DL
namespace DBX
open PySem PySem.Spec PyProof.Rows
open Sem (wp)
section
variable {prog:Program} {w:World} {A:Around} {E:Value->Shared->Prop} {s:Shared}
def RevOf (items:Array Value) (acc:Array Value):Prop:=ItemsOf (fun i v=>items[items.size - 1 - i]? =some v) acc items.size
end
end DBX
namespace DL
open PySem L2
section
variable {Y:Cy} {T:Tx} {k:Nat} {N G:List Str} {c:List Slot} {e a b b' tg:Expr} {pos p1 p2 p3:Pos} {d:D} {ds:List D} {P:Out->Prop} {rest:List Stmt} {x:Str}
theorem XA {K:W.Frag} {F:Hp}:∀{vs:List V} {ds:List D},Reps K F vs ds->Reps K F vs.dropLast ds.dropLast
 | _,_,.nil=> .nil
 | _,_,.cons _ .nil=> .nil
 | _,_,.cons h (.cons h2 t)=> .cons h (XA (.cons h2 t))
theorem Jg {xs ys:List D} (ha:EvD Y a c (.lst xs)) (hb:EvD Y b c (.lst ys)) (hz:xs.length+ys.length<=1000000):OwD Y (.BinOp a .Add b pos) c (xs++ys):=
 PE.imp (XC Vk ha hb) fun σ H Q ⟨F,E,q⟩=>⟨F,E,fun x F1 H1 e1 r1=>⟨F1,E.grow e1,fun y F2 H2 e2 r2=>by
  obtain ⟨l,vs,rfl,hl,rl⟩:=yL (r1.mono e2.ff)
  obtain ⟨b,ws,rfl,hb',rb⟩:=yL r2
  refine ⟨l,b,vs,ws,rfl,rfl,e2.fh.seq hl,e2.fh.seq hb',?_,fun p hp=>q _ F2 H2 p (e1.trans e2) (rl.append rb) hp⟩
  rw [rl.length,rb.length]
  exact xL hz⟩⟩
end
section
variable {Y:Cy} {T:Tx} {k:Nat} {N G:List Str} {c:List Slot} {a b:Expr} {pos:Pos} {d:D} {ds:List D}
theorem wm:∀ds:List D,toPys ds=ds.map toPy
 | []=>rfl
 | x::xs=>by rw [toPys,wm xs];rfl
def rInL (K:W.Frag) (d:D) (ds:List D) (v:Bool):R2:=fun x y H Q=>∃F,Same F H/\Rep K F x d/\Rep K F y (.lst ds)/\Q (.bl v) H
theorem xad {X:Cx} (hu:X.A.units+70<cLine) (h1:SeqAt.shaped (toPy d)=true) (h2:SeqAt.shaped (toPy (.lst ds))=true):OpR X (compareOp .In) (rInL X.K d ds (ds.any fun y=>eqD y d)):=by
 intro pins s σ H x y v u Q I rx ry ⟨F,f,r1,r2,q⟩
 obtain ⟨as,ra⟩:=zr I f r1 rx
 obtain ⟨bs,rb⟩:=zr I f r2 ry
 have e:(toPys ds).any (fun y=>PyData.eqv y (toPy d))=ds.any fun y=>eqD y d:=by
  rw [wm,List.any_map]
  rfl
 have c1:=SeqAt.canLay_of_shaped h1
 have c2:PyData.canLayAll0 (toPys ds)=true:=SeqAt.canLay_of_shaped h2
 have d1:=SeqAt.depth_of_shaped h1
 have:min (PyData.depthAll (toPys ds)) (toPy d).depth<=(toPy d).depth:=Nat.min_le_right _ _
 refine SeqAt.in_list_reads (xs:=toPys ds) rb ra c2 c1 (by omega) ⟨.bl _,H,I,rfl,?_⟩
 rw [e]
 exact q
theorem KH (S:Se Y T k N G) (ha:EvD Y a c d) (hb:EvD Y b c (.lst ds)) (h1:SeqAt.shaped (toPy d)=true) (h2:SeqAt.shaped (toPy (.lst ds))=true) (hm:behindInMarks .In b=false:=by rfl):TeD Y (.Compare a [.In] [b] pos) c (ds.any fun y=>eqD y d):=
 qb (xad (by have:=S.room.un;omega) h1 h2) hm ha hb fun x y F H Q f rx ry q=>⟨F,f,rx,ry,q F H (Ext.refl f)⟩
end
section
variable {Y:Cy} {T:Tx} {k j:Nat} {N G ps:List Str} {c:List Slot} {e e1 e2 e3:Expr} {es:List Expr} {pos p:Pos} {d:D} {ds l l1 l2:List D} {R:List D->(W.Frag->Hp->Hp->V->Hp->Prop)->Prop} {r:W.Frag->Hp->Hp->V->Hp->Prop} {x qual:Str} {P:Out->Prop} {rest:List Stmt}
def wo (H:Hp) (a:Addr):Hp:=fun z=>if z=a then none else H z
theorem Kh (H:Hp) (a:Addr):wo H a a=none:=mH rfl
theorem qX {H:Hp} {a z:Addr} (h:z≠a):wo H a z=H z:=mF h
end
end DL
namespace STB
open PySem
def aa:Nat->Nat
 | 0=>0
 | n+1=>5*aa n+1
def wk (M i:Nat):Nat->Nat
 | 0=>i
 | n+1=>(5*wk M i n+1)%M
def lp (mask i q:Nat):Nat->Nat×Nat
 | 0=>(i,q)
 | n+1=>SetTable.leap mask (lp mask i q n).1 (lp mask i q n).2
def pr (t:SetTable) (h:Int):Nat->SetTable.Probe
 | 0=>t.probeStart h
 | n+1=>t.advance (pr t h n)
end STB
namespace DL
open PySem L2
abbrev Row3:=(Int×Int×Int)×Addr×Value
section
variable {K:W.Frag} {F₀ H₀ F H:Hp} {σ:St} {c:List Slot} {i:Nat} {a p:Addr} {t t':Thing} {ks ks':List (Int×Int×Int)} {o o':HO}
theorem Env.bor_at (E:Env K F₀ H₀ F H σ c) (hs:slot c i= .bor t):∃a o,σ[i]? =some (some (.ref a))/\H a=some o/\ThgOk t K F a o:=by
 have q:=E.sl i
 rw [hs] at q
 obtain ⟨a,o,h1,h2,h3⟩:=q
 exact ⟨a,o,h1,E.ext.hh _ _ h2,h3⟩
end
def KeepD (e:Addr) (dx:Option Addr) (h:Heap):Prop:=∃o,h.get? e=some o/\o.dict=dx
def Gent (e:Addr) (dx:Option Addr) {α:Type} (t:Sem α):Prop:=∀(M:Model) (Γ:Ctx) (Q:α->Pos->Shared->Prop) (E:Value->Pos->Shared->Prop) (p:Pos) (s:Shared),KeepD e dx s.heap->
 Sem.wp M Γ t Q E p s->Sem.wp M Γ t (fun a p' s'=>Q a p' s'/\KeepD e dx s'.heap) (fun v p' s'=>E v p' s'/\KeepD e dx s'.heap) p s
section
variable {e:Addr} {dx:Option Addr} {α β:Type}
theorem xH {a:α}:Gent e dx (Pure.pure a:Sem α):=fun M Γ Q E p s k h=>⟨h,k⟩
theorem y8 {what:String}:Gent e dx (unsupported what:Sem α):=fun M Γ Q E p s k h=>by
 rw [show (unsupported what:Sem α)=Sem.unsupported what from rfl,Sem.wp_unsupported] at h
 exact h.elim
theorem xx {m:Sem α} {f:α->Sem β} (hm:Gent e dx m) (hf:∀a,Gent e dx (f a)):Gent e dx (m>>=f):=fun M Γ Q E p s k h=>by
 rw [Sem.wp_bind'] at h ⊢
 refine Sem.wp_mono M Γ m (fun a p' s' z=>?_) (fun v p' s' z=>z) p s (hm M Γ _ _ p s k h)
 exact hf a M Γ _ _ p' s' z.2 z.1
theorem v5 {a:Addr} {part:Option Value}:Gent e dx (loadPart a part):=fun M Γ Q E p s k h=>by
 rw [show loadPart a part=Sem.load a part .pure from rfl,Sem.wp_load] at h ⊢
 obtain ⟨o,ho,q⟩:=h
 exact ⟨o,ho,q,k⟩
theorem Zq {a:Addr} {part:Option Value} {f:Obj->Obj} (hf:∀o,(f o).dict=o.dict) (hz:∀o,o.isFreed=false->(f o).isFreed=false):Gent e dx (updatePart a part f):=fun M Γ Q E p s k h=>by
 rw [show updatePart a part f=Sem.update a part f .pure from rfl,Sem.wp_update] at h ⊢
 refine ⟨h.1,h.2,?_⟩
 obtain ⟨o,ho,hd⟩:=k
 by_cases q:e=a
 ·subst q
  exact ⟨f o,Heap.get?_update_self _ ho (hz o (Heap.get?_some_iff.mp ho).2),(hf o).trans hd⟩
 ·exact ⟨o,(Heap.get?_update_other _ _ (Ne.symm q)).trans ho,hd⟩
theorem uS {o:Obj}:Gent e dx (alloc o):=fun M Γ Q E p s k h=>by
 rw [show alloc o=Sem.alloc o .pure from rfl,Sem.wp_alloc] at h ⊢
 obtain ⟨u,hu,hd⟩:=k
 exact ⟨h,u,Heap.get?_push_of_some _ hu,hd⟩
theorem qS:Gent e dx stack:=fun M Γ Q E p s k h=>by
 rw [show stack=Sem.stack .pure from rfl,Sem.wp_stack] at h ⊢
 exact ⟨h,k⟩
theorem Xo {v:Value}:Gent e dx (fieldsOf v):=by
 unfold fieldsOf
 split
 ·exact xx (v5 (part:=none)) fun o=>by split<;>first | exact xH | exact y8
 ·exact y8
theorem z0 {v:Value} {i:Nat}:Gent e dx (field v i):=by
 unfold field
 exact xx Xo fun vs=>by split<;>first | exact xH | exact y8
theorem zI {v x:Value} {i:Nat}:Gent e dx (setField v i x):=by
 unfold setField updateField
 split
 ·refine xx (v5 (part:=none)) fun o=>?_
  split
  ·split
   ·exact Zq (part:=none) (fun o=>by obtain ⟨a,b,c,d⟩:=o;cases c<;>rfl) fun o ho=>by obtain ⟨a,b,c,d⟩:=o;cases c<;>first | rfl | exact ho
   ·exact y8
  ·exact y8
 ·exact y8
theorem uP {v:Value} {f:Option Addr}:Gent e dx (setFlight v f):=by
 unfold setFlight
 exact xx z0 fun tb=>by split<;>first | exact zI | exact xH
theorem uQ:∀l:List PySem.Env,Gent e dx (readyFrames l)
 | []=>xH
 | env::outer=>by
  unfold readyFrames
  split
  ·refine xx (v5 (part:=none)) fun o=>?_
   split
   ·exact xH
   ·refine xx ?_ fun im=>xx ?_ fun back=>xx (Zq (part:=none) (fun o=>rfl) fun o ho=>by obtain ⟨a,b,c,d⟩:=o;cases c<;>first | rfl | exact ho) fun _=>uQ outer
    ·unfold behindIsImport
     split
     ·exact xH
     ·split
      ·exact xH
      ·exact xx z0 fun _=>xH
    ·unfold keptBack
     split
     ·split
      ·exact xH
      ·unfold underTheClaimsCaller
       exact xx (xx qS fun _=>xH) fun _=>xH
     ·exact xH
  ·exact y8
theorem YE {env:PySem.Env}:Gent e dx (frameOf env):=by
 unfold frameOf frameEnvs
 refine xx (xx qS fun _=>xH) fun l=>xx ?_ fun r=>by split<;>first | exact xH | exact y8
 generalize (l.dropWhile fun x=>x.frame !=env.frame)=l'
 unfold frameObject
 split
 ·exact xH
 ·exact xx (uQ _) fun _=>xH
theorem QE {f:Addr} {b:Bool}:Gent e dx (entryPlaceOf f b):=by
 unfold entryPlaceOf
 exact xx qS fun acts=>by split<;>exact xH
theorem QF {a b c d f:Value} {l:List Value}:Gent e dx (EntryCells.newEntry a b c d f l):=by
 unfold EntryCells.newEntry newFields newObj newObjAsIs
 dsimp only
 generalize (if l.isEmpty=true then List.replicate 6 Value.none else l)=l'
 split
 ·exact xx y8 fun _=>xx uS fun _=>xH
 ·exact xx uS fun _=>xH
theorem uR {v:Value} {env:PySem.Env}:Gent e dx (noteFrame v env):=by
 unfold noteFrame
 split
 ·refine xx z0 fun head=>?_
  have tl:Gent e dx (do setField v 1 (<-EntryCells.newEntry head (<-frameOf env) .none (rawInt ‹Addr›) .none (<-entryPlaceOf ‹Addr› (head != .none)))):=
   xx YE fun _=>xx QE fun _=>xx QF fun _=>zI
  split
  ·refine xx z0 fun x=>?_
   split
   ·exact xH
   ·exact xx zI fun _=>tl
  ·exact tl
 ·exact y8
theorem vy {v:Value} {env:PySem.Env}:Gent e dx (leaving env v):=by
 unfold leaving
 exact xx uR fun _=>uP
theorem QV {M:Model} {A:Around} {t:Sem α} {Q:α->Shared->Prop} {E:Value->Shared->Prop} {s:Shared} (g:Gent e dx t) (k:KeepD e dx s.heap) (h:wpAny M A t Q E s):
  wpAny M A t (fun a s'=>Q a s'/\KeepD e dx s'.heap) (fun v s'=>E v s'/\KeepD e dx s'.heap) s:=fun Γ p hΓ=>g M Γ _ _ p s k (h Γ p hΓ)
end
end DL
namespace DL
open PySem PySem.W PySem.Calls PyProof.Rows Builtin Builtin.ObjectAttr
noncomputable abbrev VEs:List Value:=[.type "ValueError",.type "Exception",.type "BaseException",.type "object"]
noncomputable def farIn (K:W.Frag) (C:Addr):Bool:=match K.lookup C with
 | some ⟨.type "type",_,.cls cd,sl⟩=>(match cd.mro,sl.toList with
  | .ref C'::bm,[_,_,_,_,some (.builtin n),_]=>C'==C && (n== "ValueError.__new__" && (!cd.hasDel && (tailIn K VEs bm && cd.hasDict)))
  | _,_=>false)
 | _=>false
theorem qG {K:W.Frag} {h:Heap} {C:Addr} (X:K.In h) (q:farIn K C=true):
  ∃bm N nm qn bs sn sub ab col dd k0 k1 k2 k3 k5,h.get? C=some (excClassObj nm qn C N bs bm true sn sub ab col dd k0 k1 k2 k3 k5 "ValueError.__new__")/\OwnTail h VEs bm:=by
 unfold farIn at q
 split at q
 ·rename_i dd cd sl ho
  split at q
  ·rename_i C' bm k0 k1 k2 k3 n k5 hm hs
   simp only [Bool.and_eq_true,beq_iff_eq,Bool.not_eq_true'] at q
   obtain ⟨rfl,rfl,hdel,ht,hdc⟩:=q
   obtain ⟨nm,bs,mro,ns,qn,hd,sn,sub,ab,col,del⟩:=cd
   dsimp only at hm hdel hdc
   subst hm hdel hdc
   obtain ⟨l⟩:=sl
   simp only at hs
   subst hs
   exact ⟨bm,ns,nm,qn,bs,sn,sub,ab,col,dd,k0,k1,k2,k3,k5,X _ _ ho,tail_of_in X ht⟩
  ·cases q
 ·cases q
noncomputable def exo (C:Addr) (dx:Option Addr) (t:Addr):Obj:={ cls:= .ref C,dict:=dx,data:= .fields #[.ref t,.none,.none,.none,.bool false,.none] }
structure FarK (K:W.Frag) (C D fI:Addr):Prop where
 fa:farIn K C=true
 init:findIn K (.ref C) "__init__" =some (some (.ref fI))
 fn:typeIn K (.ref fI)=some (.type "function")
 sa:findIn K (.ref C) "__setattr__" =some (some (.builtin "object.__setattr__"))
 nf:findIn K (.ref C) "far" =some none
 rd:readsIn K D (.type "type")=true
 fi:findCls K (.ref D) (.type "type") "__init__" =some (.val (.builtin "ValueError.__init__"))
 sg:specialIn K (.ref D) "__getattribute__" =some (some (.builtin "type.__getattribute__"))
section
variable {prog:Program} {w:World} {A:Around} {E:Value->Shared->Prop} {K:W.Frag} {C D fI e t0:Addr} {h:Heap} {g:Array GenState} {d:Drawn} {t:Nat} {os:OsState}
theorem jU {v:Value} {Q:Value->Shared->Prop} (X:K.In h) (Z:FarK K C D fI)
  (hq:∀h' e t',(∀b o,h.get? b=some o->h'.get? b=some o)->h.get? e=none->h'.get? e=some (exo C none t')->
   wpAny (model prog w) (A.under (.builtin "type.__call__" ⟨[.ref C,v],[]⟩)) (call (.ref fI) [.ref e,v]) (fun r s'=>r= .none/\Q (.ref e) s') E ⟨h',g,d,t,os⟩):
  wpAny (model prog w) A (call (.ref C) [v]) Q E ⟨h,g,d,t,os⟩:=by
 obtain ⟨bm,N,nm,qn,bs,sn,sub,ab,col,dd,k0,k1,k2,k3,k5,hC,T⟩:=qG X Z.fa
 have F:=PySem.F.excBase_ValueError
 have f1:=tc_lookup
 have f2:=tc_bind (.ref C)
 have ty:(⟨h,g,d,t,os⟩:Shared).TypeIs (.ref C) "type" :=⟨_,hC,rfl⟩
 refine wpAny_call (codeAny_of_tree (show wpAny _ _ (callAny (.ref C) _) _ _ _ from ?_))
 repeat (any_goals (first | assumption | with_reducible refine wpAny_loadPart_at hC ?_ | wp_step))
 refine ⟨rfl,codeAny_call_builtin_at (Code.quiet_builtin _ (by decide+kernel)) entry_typeCall (wpAny_check_type_call_sub hC ?_)⟩
 repeat (first | with_reducible refine wpAny_loadPart_at hC ?_ | with_reducible refine wpAny_madeBy_exc hC ?_ | wp_step)
 refine codeAny_call_builtin_code (Code.quiet_builtin _ F.quiet) (wpAny_check_new_subT F T hC (codeAny_exc_new_subT F T hC ?_ (show ([v]:List Value).length<=sizeLine by rw [sizeLine_eq];simp)))
 show wpAny _ _ _ _ _ ⟨(h.push { cls:= .type "tuple",data:= .seq [v].toArray }).push { cls:= .ref C,data:= .fields #[.ref h.objs.size,.none,.none,.none,.bool false,.none] },g,d,t,os⟩
 generalize hh:(h.push { cls:= .type "tuple",data:= .seq [v].toArray }).push { cls:= .ref C,data:= .fields #[.ref h.objs.size,.none,.none,.none,.bool false,.none] }=h1
 have kp:∀b o,h.get? b=some o->h1.get? b=some o:=fun b o q=>by rw [<-hh];exact Heap.get?_push_of_some _ (Heap.get?_push_of_some _ q)
 have he:h1.get? (h.objs.size+1)=some { cls:= .ref C,data:= .fields #[.ref h.objs.size,.none,.none,.none,.bool false,.none] }:=by
  rw [<-hh]
  have z:=Heap.get?_push_size (h.push { cls:= .type "tuple",data:= .seq [v].toArray }) (o:=exo C none h.objs.size) rfl
  rwa [Heap.size_push] at z
 have hC1:=kp _ _ hC
 have X1:K.In h1:=fun a o q=>kp _ _ (X a o q)
 have hcC:(Value.ref C::bm).contains (.ref C)=true:=by simp
 unfold isInstance
 repeat (first | with_reducible refine wpAny_loadPart_at he ?_ | (with_reducible refine wpAny_isSubtype_exc hC1 ?_;rw [hcC]) | wp_step)
 show wpAny _ _ (typeLookup (.ref C) _) _ _ _
 refine (looks_findIn (M:=model prog w) X1 Z.init).at ?_
 refine wpAny_holding (wpAny_bind ((bind_fn (M:=model prog w) X1 (.ref (h.objs.size+1)) Z.fn).at ?_))
 refine wpAny_bind (wpAny_mono (hq h1 (h.objs.size+1) h.objs.size kp (Heap.get?_none_of_le (Nat.le_succ _)) he) (fun r s' hr=>?_) fun _ _ z=>z)
 obtain ⟨rfl,z⟩:=hr
 wp_walk
 exact z
end
section
variable {prog:Program} {w:World} {A:Around} {E:Value->Shared->Prop} {K:W.Frag} {C D fI e t0:Addr} {h:Heap} {g:Array GenState} {d:Drawn} {t:Nat} {os:OsState}
theorem jo {v:Value} {R:Result->Shared->Prop} (X:K.In h) (Z:FarK K C D fI) (he:h.get? e=some (exo C none t0))
  (hq:∀h' t',(∀b o,b≠e->h.get? b=some o->h'.get? b=some o)->h'.get? e=some (exo C none t')->R (.ok (.ret .none)) ⟨h',g,d,t,os⟩):
  codeAny (model prog w) A (.call (.builtin "ValueError.__init__") ⟨[.ref e,v],[]⟩) R ⟨h,g,d,t,os⟩:=by
 obtain ⟨bm,N,nm,qn,bs,sn,sub,ab,col,dd,k0,k1,k2,k3,k5,hC,T⟩:=qG X Z.fa
 have F:=PySem.F.excBase_ValueError
 refine codeAny_call_builtin F.init.plain F.initEntry (wpAny_check_init_subT F T hC he rfl ?_)
 have he1:h.get? e=some { cls:= .ref C,data:= .fields #[.ref t0,.none,.none,.none,.bool false,.none] }:=he
 have he2:=Heap.get?_push_of_some { cls:= .type "tuple",data:= .seq [v].toArray } he1
 wp_walk
 refine hq _ h.objs.size (fun b o hb q=>?_) ?_
 ·rw [Heap.get?_update_other _ _ (Ne.symm hb)]
  exact Heap.get?_push_of_some _ q
 ·rw [Heap.get?_update_self _ he2 rfl]
  rfl
theorem kQ {v:Value} {Q:Unit->Shared->Prop} (X:K.In h) (Z:FarK K C D fI) (he:h.get? e=some (exo C none t0))
  (hq:∀h' dx tk,dx≠e->h.get? dx=none->(∀b o,b≠e->h.get? b=some o->h'.get? b=some o)->h'.get? e=some (exo C (some dx) t0)->h'.Ns1 dx (fun y=>if y= "far" then some v else none)->Q () ⟨h',g,d,tk,os⟩):
  wpAny (model prog w) A (setAttr (.ref e) "far" v) Q E ⟨h,g,d,t,os⟩:=by
 obtain ⟨bm,N,nm,qn,bs,sn,sub,ab,col,dd,k0,k1,k2,k3,k5,hC,T⟩:=qG X Z.fa
 have SF:=PySem.F.store_ValueError
 have L0:Looks (model prog w) h (typeOf (.ref e)) (.ref C):=(Looks.ld he).andThen .now
 have L1:=looks_findIn (M:=model prog w) X Z.sa
 have L2:=looks_findIn (M:=model prog w) X Z.nf
 have pass:∀l,OwnTail h VEs l->refuseLoop (.ref e) "__setattr__" l=pure ():=fun l q=>by
  induction q with
  | base=>exact SF.passes (.ref e)
  | own _ _ _ _ ih=>rw [refuseLoop_ref];exact ih
 have ob:(Value.ref C::bm).contains (.type "object")=true:=by rw [List.contains_cons,T.hasType (b:=true) (by decide),Bool.or_true]
 have LI:Looks (model prog w) h (isInstance (.ref e) (.type "object")) true:=L0.andThen fun A' Q' E' s' k q=>by
  obtain ⟨h',g',d',t',os'⟩:=s'
  refine wpAny_isSubtype_exc (k _ _ hC) ?_
  rw [ob]
  exact q
 unfold setAttr callSpecial? specialOf
 refine wpAny_bind (wpAny_mkText (wpAny_bind (wpAny_bind (wpAny_bind (L0.at (L1.at ?_))))))
 refine wpAny_holding ?_
 dsimp only
 rw [SF.slot.bind (.ref e)]
 refine wpAny_bind (wpAny_pure (wpAny_bind (wpAny_call ?_)))
 refine codeAny_call_builtin SF.slot.plain SF.entry (@check_slot (model prog w) _ _ ⟨h,g,d,t+1,os⟩ "object.__setattr__" "object" "__setattr__" (.ref e) [.str "far" t,v] [] _ SF.kind SF.split LI (SF.args (.ref e) (.str "far" t) v) ?_)
 show wpAny _ _ (Builtin.«object.__setattr__» ⟨[.ref e,.str "far" t,v],[]⟩) _ _ _
 rw [osa_eq,refuse_eq]
 refine wpAny_bind (wpAny_bind (L0.at (wpAny_bind (wpAny_mroOf_exc hC ?_))))
 rw [refuseLoop_ref,pass _ T]
 refine wpAny_pure (wpAny_bind (L0.at (wpAny_bind (L2.at (wpAny_bind (wpAny_pure ?_))))))
 show wpAny _ _ (storeInOwnDict (.ref e) (.ref C) (.str "far" t) "far" v false) _ _ _
 have he1:h.get? e=some { cls:= .ref C,data:= .fields #[.ref t0,.none,.none,.none,.bool false,.none] }:=he
 unfold storeInOwnDict ownStreamTells ownDictForStores instanceDict
 refine wpAny_bind (wpAny_pure ?_)
 have ncls:(Value.ref C==Value.type "module")=false:=rfl
 rw [ncls,mF (by decide)]
 refine wpAny_bind (wpAny_bind (wpAny_loadPart he1 ?_))
 dsimp only
 have LC:Looks (model prog w) h (classData C) _:=(Looks.ld (part:=none) hC).andThen .now
 refine wpAny_bind (LC.at ?_)
 dsimp only
 rw [mF (by decide)]
 rw [mF (show ¬(!true || !typeHasDict (Value.ref C))=true from fun z=>nomatch z)]
 have he2:(h.push { cls:= .type "dict",data:= .dict #[] }).get? e=some { cls:= .ref C,data:= .fields #[.ref t0,.none,.none,.none,.bool false,.none] }:=Heap.get?_push_of_some _ he1
 have xs:e≠h.objs.size:=Nat.ne_of_lt (Heap.lt_size he1)
 refine wpAny_bind (wpAny_alloc' (wpAny_bind (wpAny_update' he2 ?_)))
 refine wpAny_pure ?_
 generalize hh:((h.push { cls:= .type "dict",data:= .dict #[] }).update e fun o=>{ cls:=o.cls,dict:=some h.objs.size,data:=o.data,slots:=o.slots })=h1
 have hx1:h1.get? e=some (exo C (some h.objs.size) t0):=by
  rw [<-hh]
  exact Heap.get?_update_self _ he2 rfl
 have hd1:h1.get? h.objs.size=some { cls:= .type "dict",data:= .dict #[] }:=by
  rw [<-hh]
  exact (Heap.get?_update_ne _ _ _ _ xs.symm).trans (Heap.get?_push_at rfl rfl)
 have hn1:h1.Ns h.objs.size (fun _=>none):=⟨_,#[],_,hd1,rfl,fun q hq=>absurd hq (by simp),fun _=>rfl⟩
 show wpAny _ _ (storeInDict h.objs.size (.str "far" t) "far" v) _ _ _
 unfold storeInDict newKeyGuard
 refine wpAny_bind (wpAny_pure (wpAny_bind (wpAny_nsSet1 (Heap.Ns1.of_empty hn1) fun h2 hn2 hs=>?_)))
 obtain ⟨oD,esD,epD,hoD,hdD,hcD⟩:=hn2.count (Within.cons "far" v Within.nil)
 have few:esD.size<=sizeLine+1:=Nat.le_trans hcD (by rw [List.length_cons,List.length_nil,sizeLine_eq];omega)
 refine wpAny_bind (wpAny_lookBehind hoD (by rw [hdD];exact pastItsLine_dict few) ?_)
 refine wpAny_pure (wpAny_pure (wpAny_pure ?_))
 exact hq h2 h.objs.size _ xs.symm (Heap.get?_none_of_le (mJ _)) (fun b o hb q=>(hs.2 b (Nat.ne_of_lt (Heap.lt_size q))).trans (by rw [<-hh];exact (Heap.get?_update_other _ _ (Ne.symm hb)).trans (Heap.get?_push_of_some _ q))) ((hs.2 e xs).trans hx1) hn2
end
end DL
namespace DL
open PySem L2
def ExO (C:Addr) (dx:Option Addr) (e:Addr) (h:Heap):Prop:=∃t,h.get? e=some (exo C dx t)
theorem QJ {P:Program} {w:World} {H:Hp} {h:Heap} {C e t:Addr} {dx:Option Addr} (q:h.get? e=some (exo C dx t)):ObjOk P w H h e (.ext (ExO C dx e)):=
 ⟨⟨t,q⟩,⟨_,q⟩,fun h1 h2 ⟨t',z⟩ k=>⟨t',k _ z⟩⟩
abbrev farF (n:Int):List (Str×V):=[("far",.int n)]
noncomputable def upX (H:Hp) (C e dx:Addr) (n:Int):Hp:=upd (upd H e (.ext (ExO C (some dx) e))) dx (.xd (farF n))
theorem Kk {H:Hp} {C e dx:Addr} {n:Int}:upX H C e dx n dx=some (.xd (farF n)):=xm
theorem Kj {H:Hp} {C e dx:Addr} {n:Int} (h:e≠dx):upX H C e dx n e=some (.ext (ExO C (some dx) e)):=(xh h).trans xm
theorem QX {H:Hp} {C e dx b:Addr} {n:Int} (h:b≠e) (h':b≠dx):upX H C e dx n b=H b:=(xh h').trans (xh h)
theorem _root_.L2.Inv.far {X:Cx} {pins:List (Addr×Obj)} {σ:St} {H:Hp} {s:Shared} {h':Heap} {t':Nat} {e dx C t:Addr} {φ:Heap->Prop} {n:Int} {u:Value} (I:Inv X pins σ H s) (hH:H e=some (.ext φ)) (hne:dx≠e) (hdx:s.heap.get? dx=none)
  (k:∀b o,b≠e->s.heap.get? b=some o->h'.get? b=some o) (he:h'.get? e=some (exo C (some dx) t)) (hn:h'.Ns1 dx (fun y=>if y= "far" then some u else none)) (hu:RelV (.int n) u):Inv X pins σ (upX H C e dx n) { s with heap:=h',toks:=t' }:=by
 have Hd:H dx=none:=by
  cases q:H dx with
  | none=>rfl
  | some o=>obtain ⟨ob,z⟩:=(I.hok dx o q).there;rw [hdx] at z;cases z
 have two:∀b,b≠e->b≠dx->upX H C e dx n b=H b:=fun b h1 h2=>QX h1 h2
 have nn:∀b o,H b=some o->(∀φ,o≠ .ext φ)->upX H C e dx n b=some o:=fun b o q z=>by
  rw [two b (fun w=>by rw [w,hH] at q;cases q;exact z _ rfl) (fun w=>by rw [w,Hd] at q;cases q)];exact q
 refine I.un ⟨fun b o q z _ _=>k b o (fun w=>by rw [w,hH] at z;cases z) q,fun b o q z _ _=>⟨o.slots,k b o (fun w=>by rw [w,hH] at z;cases z) q⟩,fun b o q z _=>?_,fun b o q _=>?_,fun b xs q=>nn b _ q (fun _ w=>nomatch w),fun b o xs q=>nn b _ q (fun _ w=>nomatch w),fun b ps q=>⟨#[],by rw [nn b _ q (fun _ w=>nomatch w)];simp⟩⟩ fun b o q=>?_
 ·rw [two b (fun w=>by rw [w,hH] at z;cases z) (fun w=>by rw [w,hdx] at q;cases q)];exact z
 ·by_cases w:b=e
  ·exact ⟨_,by rw [w];exact he⟩
  ·exact ⟨o,k b o w q⟩
 ·by_cases w:b=dx
  ·subst w
   rw [Kk] at q
   cases q
   refine ⟨_,hn,fun f=>?_⟩
   by_cases w:f= "far"
   ·subst w;exact hu
   ·have:List.lookup f (farF n)=none:=by simp [List.lookup,beq_false_of_ne w]
    rw [this,mF w]
    trivial
  ·by_cases w2:b=e
   ·subst w2
    rw [Kj w] at q
    cases q
    exact QJ he
   ·rw [QX w2 w] at q
    refine (I.hok b o q).stay (fun c v hc z=>k c v ?_ z) (fun c z=>nn c _ z (fun _ w=>nomatch w)) fun c xs z=>nn c _ z (fun _ w=>nomatch w)
    rcases hc with z | z
    ·rw [z];exact w2
    ·rintro rfl;rw [hH] at z;cases z
section
variable {Y:Cy} {T:Tx} {k:Nat} {N G:List Str} {c:List Slot} {js:Expr} {z:Str} {x y sf:Str} {p1 p2 p3 p5 p6:Pos} {C D fI:Addr}
theorem Je (S:Sn Y T N G) (i gi:Nat) (Z:FarK T.K C D fI) (hm:T.mg y=some (.ref D)) (hj:EvD Y js c (.str z)) {pl:Sem Bool} (hi:N[i]? =some sf:=by rfl) (hg:G[gi]? =some y:=by rfl)
  (he:eval (.Call (.Attribute (.Name y p1) "__init__" p2) [.Name sf p3,js] [] p5) Y.X.env=(do
   let ov <-eval (.Name y p1) Y.X.env
   standAt p2.atName
   let (f,first) <-holding [ov] (getMethod ov "__init__" pl)
   callWith p5 f first (backTo p5 (starEach [.Name sf p3,js] Y.X.env)) (backToKw p5 (keywordEach [] Y.X.env))):=by rfl)
  (h1:starEach [.Name sf p3,js] Y.X.env=(false,eval (.Name sf p3) Y.X.env)::starEach [js] Y.X.env:=by rfl) (h2:starEach [js] Y.X.env=(false,eval js Y.X.env)::starEach [] Y.X.env:=by rfl) (hpl:(backTo p5 (starEach [js] Y.X.env)).any (·.1)=false:=by rfl):
  PE Y.X (.Call (.Attribute (.Name y p1) "__init__" p2) [.Name sf p3,js] [] p5) (fun σ H Q=>∃F e,EnvY Y F H σ c/\σ[i]? =some (some (.ref e))/\H e=some (.ext (ExO C none e))/\∀F' H',Ext F H F' H'->Q .non H'):=by
 intro pins s σ H Q I ⟨F,e,E,hσ,hH,q⟩
 have gl:=S.gl y (mz hg)
 have hx:=S.loc sf (mz hi)
 have Z':FarK Y.X.K C D fI:=by rw [S.eK];exact Z
 rw [<-S.n] at hi
 refine W.methodCall_KW (yz I gl.1 (by rw [S.eM];exact hm) ?_ gl.2.1) he
 refine W.method_cls I.kIn Z'.sg (W.cls_value I.kIn Z'.rd Z'.fi rfl ?_)
 have I1:=I.tok (s.toks+1)
 have pa:=xQ (xT hi (hx.1.elim .inl fun h=> .inr (.inl h)) hx.2.1 hx.2.2) (xQ hj yq h2) h1
 have hA:=pa p5 pins _ σ H (fun vs H1=>∃u F1,vs=[.ref e,u]/\Ext F H F1 H1) I1 ⟨.ref e,hσ,F,E,fun v F1 H1 x1 r1=>⟨v,F1,rfl,x1⟩⟩
 rw [h1] at hA ⊢
 refine Calls.callWith_builtin (by show (false || (backTo p5 (starEach [js] Y.X.env)).any (·.1))=false;rw [hpl]<;>rfl) (Calls.evalArgs_plain ?_)
 refine thn hA fun us s2 ⟨vs,H2,I2,r2,u,F1,ev,x1⟩=>?_
 subst ev
 obtain ⟨ue,uz,rfl,r1,r3⟩:=vals2 r2
 cases (show ue=Value.ref e from r1)
 have h2e:H2 e=some (.ext (ExO C none e)):=x1.hh _ _ hH
 obtain ⟨⟨t0,ht⟩,_⟩:=(show ObjOk Y.X.prog Y.X.w H2 s2.heap e (.ext (ExO C none e)) from I2.hok e _ h2e)
 obtain ⟨hp,g,d,tk,os⟩:=s2
 refine wpAny_call (jo I2.kIn Z' ht fun h' t' kp ht'=>?_)
 have e1:upd H2 e (.ext (ExO C none e))=H2:=by
  funext b
  by_cases w:b=e
  ·subst w;rw [xm,h2e]
  ·rw [xh w]
 have I3:=I2.write (x:=e) (e:=e) (o:= .ext (ExO C none e)) (t':=tk) (by rw [h2e];exact True.intro) (.inl rfl) kp ⟨_,ht'⟩ (QJ ht')
 rw [e1] at I3
 exact ⟨.non,H2,I3,rfl,q F1 H2 x1⟩
end
end DL
namespace DL
open PySem L2 PySem.W PyProof.Rows
section
variable {M:Model} {A:Around} {E:Value->Shared->Prop} {K:W.Frag} {C:Addr} {env:PySem.Env} {s:Shared}
theorem V7 {x:Sem Value} {Q:Flow->Shared->Prop} (fa:farIn K C=true) (hh:A.handled=none)
  (h:wpAny M A x (fun v s₁=>∃e dx t,v= .ref e/\K.In s₁.heap/\s₁.heap.get? e=some (exo C dx t)/\E (.ref e) s₁) E s):wpAny M A (raiseStmt env (some x) none) Q E s:=by
 unfold raiseStmt
 refine wpAny_bind (wpAny_mono h (fun v s₁ h₁=>?_) fun _ _ x=>x)
 obtain ⟨e,dx,t,rfl,X,he,hE⟩:=h₁
 obtain ⟨bm,N,nm,qn,bs,sn,sub,ab,col,dd,k0,k1,k2,k3,k5,hC,T⟩:=qG X fa
 have hcB:(Value.ref C::bm).contains (.type "BaseException")=true:=by rw [List.contains_cons,T.hasType (b:=true) (by decide),Bool.or_true]
 have he:s₁.heap.get? e=some { cls:= .ref C,dict:=dx,data:= .fields #[.ref t,.none,.none,.none,.bool false,.none] }:=he
 obtain ⟨hp,g,d,tk,os⟩:=s₁
 repeat (first | with_reducible refine wpAny_loadPart_at he ?_ | with_reducible refine wpAny_loadPart_at hC ?_ | (with_reducible refine wpAny_isSubtype_exc hC ?_;rw [hcB]) | wp_step)
 exact wpAny_raiseNew_none hh hE
end
end DL
namespace DL
open PySem L2
structure LiesD (P:Program) (w:World) (outer:List PySem.Env) (H:Hp) (s:Shared) (a C dx:Addr) (H':Hp) (s':Shared):Prop extends Lies P w outer H s a C H' s' where
 dict:KeepD a (some dx) s'.heap
def CXF (P:Program) (w:World):CXT:=fun outer H s E e s'=>∃a C dx H',e= .ref a/\LiesD P w outer H s a C dx H' s'/\E (.ref C) (some dx) H'
theorem Ws {X:Cx} {pins:List (Addr×Obj)} {σ:St} {H H':Hp} {s s':Shared} {e C dx:Addr} {Q:Unit->Shared->Prop} {E:Value->Shared->Prop} (I:Inv X pins σ H s) (hx:X.ex=[]) (hs:X.stack=X.env::X.outer/\X.env.frame=some X.env.locals)
  (L:LiesD X.prog X.w X.stack H s e C dx H' s') (hQ:∀s',LiesD X.prog X.w X.outer X.H₀ X.s₀ e C dx H' s'->Q () s'):wpAny (model X.prog X.w) X.A (leaving X.env (.ref e)) Q E s':=
 wpAny_mono (QV vy L.dict (qt (E:=E) (Q:=fun _ s'=>Lies X.prog X.w X.outer X.H₀ X.s₀ e C H' s') I hx hs L.toLies fun s' L'=>L')) (fun _ s' q=>hQ s' ⟨q.1,q.2⟩) fun _ _ q=>q.1
theorem jm {X:Cx} {pins:List (Addr×Obj)} {σ:St} {H:Hp} {s:Shared} {e:Addr} {φ:Heap->Prop} (I:Inv X pins σ H s) (h0:X.s₀.heap.get? e=none) (hH:H e=some (.ext φ)):Inv X pins σ (wo H e) s:=by
 have ne:∀b u,H b=some u->(∀φ,u≠ .ext φ)->wo H e b=some u:=fun b u q z=>by rw [qX (fun w=>by rw [w,hH] at q;cases q;exact z _ rfl)];exact q
 refine ⟨I.ok,I.os,I.bare,⟨I.base.keep,I.base.slot,fun b o q n hx=>?_,I.base.there,fun b xs q=>ne _ _ (I.base.tups b xs q) (fun _ z=>nomatch z),fun b o u q=>ne _ _ (I.base.frzs b o u q) (fun _ z=>nomatch z),fun b ps q=>?_⟩,I.loc,I.cell,?_,fun x c q=>?_,fun p hp'=>?_,fun b o q=>?_,I.len⟩
 ·rw [qX (fun z=>by rw [z,h0] at q;cases q)];exact I.base.free b o q n hx
 ·obtain ⟨m,q'⟩:=I.base.tbls b ps q;exact ⟨m,ne _ _ q' (fun _ z=>nomatch z)⟩
 ·rw [qX (fun z=>by have:=I.free;rw [z,hH] at this;cases this)];exact I.free
 ·rw [qX (fun z=>by have:=I.freeC x c q;rw [z,hH] at this;cases this)];exact I.freeC x c q
 ·obtain ⟨a1,a2,a3,a4,a5⟩:=I.pin p hp'
  exact ⟨a1,by rw [qX (fun z=>by rw [z,hH] at a2;cases a2)];exact a2,a3,a4,a5⟩
 ·have hb:b≠e:=fun z=>by rw [z,Kh] at q;cases q
  rw [qX hb] at q
  exact (I.hok b o q).stay (fun _ _ _ z=>z) (fun c z=>ne _ _ z (fun _ z=>nomatch z)) fun c xs z=>ne _ _ z (fun _ z=>nomatch z)
theorem Wt {X:Cx} {pins:List (Addr×Obj)} {σ:St} {H:Hp} {s:Shared} {e C dx t:Addr} {Q:Unit->Shared->Prop} {E:Value->Shared->Prop} (I:Inv X pins σ H s) (hx:X.ex=[]) (hs:X.stack=X.env::X.outer/\X.env.frame=some X.env.locals)
  (h0:X.s₀.heap.get? e=none) (hH:H e=none) (hL:e≠X.env.locals) (he:s.heap.get? e=some (exo C (some dx) t)) (hQ:∀s',LiesD X.prog X.w X.outer X.H₀ X.s₀ e C dx H s'->Q () s'):wpAny (model X.prog X.w) X.A (leaving X.env (.ref e)) Q E s:=by
 have hin:∀env∈X.stack,∀b,env.frame=some b->b∈e::frs X.stack:=fun env he b hb=> .tail _ (List.mem_filterMap.mpr ⟨env,he,hb⟩)
 have fr:=W.funFrames_hide (as:=e::frs X.stack) I.stack hin
 have fro:s.heap.FunFrames (W.hideAll s.heap (e::frs X.stack)) X.outer:=by have:=fr;rw [hs.1] at this;rw [hs.1];exact this.2.2
 have ub:Un (frs X.outer) [] X.H₀ H X.s₀.heap s.heap:=by have:=I.base;rw [hx] at this;exact this
 have fu:∀b∈frs X.outer,H b=none:=fun b hb=>I.stkFree b (by rw [hs.1];unfold frs;rw [List.filterMap_cons,hs.2];exact .tail _ hb)
 have kq:Kpt (W.hideAll s.heap (e::frs X.stack)) X.outer H X.s₀.heap s.heap:=fun b o q z=>by
  refine W.hideAll_get _ q fun hb=>?_
  rcases List.mem_cons.mp hb with rfl | hb
  ·rcases z with z | z
   ·exact z hH
   ·exact z.1 h0
  ·rcases z with z | ⟨z1,z2⟩
   ·exact z (I.stkFree b hb)
   ·rw [hs.1] at hb
    unfold frs at hb
    rw [List.filterMap_cons,hs.2] at hb
    rcases List.mem_cons.mp hb with rfl | hb
    ·cases w:X.s₀.heap.get? X.env.locals with
     | none=>exact z1 w
     | some u=>exact absurd (mE (Heap.lt_size w) I.ok.above) (Nat.lt_irrefl _)
    ·exact z2 hb
 have fresh:(W.hideAll s.heap (e::frs X.stack)).get? e=none:=W.hideAll_none _ (.head _)
 have w:=wpAny_leaving_firstW (M:=model X.prog X.w) (A:=X.A) (E:=E) (s:=s) (base:=W.hideAll s.heap (e::frs X.stack)) (env:=X.env) (outer:=X.outer) (L:=X.env.locals) (e:=e) (a0:= .ref t) (Q:=fun _ s'=>Lies X.prog X.w X.outer X.H₀ X.s₀ e C H s') (by rw [I.ok.frames,hs.1]) (by rw [<-hs.1];exact fr) hs.2 he (fun b o q=>W.of_hideAll _ q) fresh rfl rfl rfl fun h' hL'=>?_
 ·exact wpAny_mono (QV vy ⟨_,he,rfl⟩ w) (fun _ s' q=>hQ s' ⟨q.1,q.2⟩) fun _ _ q=>q.1
 ·obtain ⟨k1,⟨_,_,k2⟩,k3,k4⟩:=hL'
  obtain ⟨u2,h2,kp2⟩:=qZ ub kq I.hok fro fu k1 k4
  exact ⟨I.os,I.bare,u2,h2,h0,fu,_,_,⟨k1,fresh,k2,k3⟩,kp2⟩
def spI (C:Addr) (m:Nat):Sp:=fun vs H Q _=>∃F e n,vs=[.ref e,.int n]/\n.natAbs<=m/\Same F H/\H e=some (.ext (ExO C none e))/\∀F1 H1 dx,Ext F H F1 H1->dx≠e->H1 dx=none->Q .non (upX H1 C e dx n)
def tFar (Y:Cy) (c:List Slot) (C:Addr) (n:Int):TS:=fun D σ H=>∃F e,EnvY Y F H σ c/\σ[0]? =some (some (.ref e))/\H e=some (.ext (ExO C none e))/\∀F1 H1 dx,Ext F H F1 H1->dx≠e->H1 dx=none->D.nx σ (upX H1 C e dx n)
section
variable {Y:Cy} {T:Tx} {k j:Nat} {N G ps:List Str} {c:List Slot} {js a e:Expr} {es:List Expr} {z:Str} {x y cl sf fr qual:Str} {pos p p1 p2 p3 p5 p6 q1 q2 q3 q4 cpos:Pos} {C D fI:Addr} {n:Int} {d:DL.D} {ds:List DL.D} {P:Out->Prop} {rest:List Stmt} {R:List DL.D->DL.Rs->Prop}
theorem k7 (S:Sc Y T k N G) (gi:Nat) (Z:FarK T.K C D fI) (hm:T.mg y=some (.ref D)) (hj:EvD Y js c (.str z)) (hv:slot c 1= .val (.int n)) {pl:Sem Bool} (hi:N[0]? =some sf:=by rfl) (hi1:N[1]? =some fr:=by rfl) (hg:G[gi]? =some y:=by rfl)
  (he:eval (.Call (.Attribute (.Name y p1) "__init__" p2) [.Name sf p3,js] [] p5) Y.X.env=(do
   let ov <-eval (.Name y p1) Y.X.env
   standAt p2.atName
   let (f,first) <-holding [ov] (getMethod ov "__init__" pl)
   callWith p5 f first (backTo p5 (starEach [.Name sf p3,js] Y.X.env)) (backToKw p5 (keywordEach [] Y.X.env))):=by rfl)
  (h1:starEach [.Name sf p3,js] Y.X.env=(false,eval (.Name sf p3) Y.X.env)::starEach [js] Y.X.env:=by rfl) (h2:starEach [js] Y.X.env=(false,eval js Y.X.env)::starEach [] Y.X.env:=by rfl) (hpl:(backTo p5 (starEach [js] Y.X.env)).any (·.1)=false:=by rfl)
  (hs1:swapsWith (.Call (.Attribute (.Name y p1) "__init__" p2) [.Name sf p3,js] [] p5) none p6.line Y.X.env=pure false:=by rfl) (hs2:swapsWith (.Name fr q3) (some (.Attribute (.Name sf q1) "far" q2)) q4.line Y.X.env=pure false:=by rfl):
  PSs Y.X [.Expr (.Call (.Attribute (.Name y p1) "__init__" p2) [.Name sf p3,js] [] p5) p6,.Assign [.Attribute (.Name sf q1) "far" q2] (.Name fr q3) q4] (tFar Y c C n):=by
 have st1:=vb (Je (p1:=p1) (p2:=p2) (p3:=p3) (p5:=p5) S.toSn 0 gi Z hm hj (pl:=pl) hi hg he h1 h2 hpl) hs1
 have st2:PS Y.X (.Assign [.Attribute (.Name sf q1) "far" q2] (.Name fr q3) q4) (tFar Y c C n):=by
  intro pins s σ H D' I ⟨F,e,E,hσ,hH,q⟩
  have hx:=S.loc sf (mz hi)
  have hx1:=S.loc fr (mz hi1)
  have hi':=hi
  have hi1':=hi1
  rw [<-S.n] at hi' hi1'
  have Z':FarK Y.X.K C D fI:=by rw [S.eK];exact Z
  obtain ⟨v,ev,rv⟩:=E.val hv
  cases rv
  refine plainObj_wpAny_Assign_Attribute (thn (xT hi1' (hx1.1.elim .inl fun h=> .inr (.inl h)) hx1.2.1 hx1.2.2 pins s σ H (fun v H1=>v= .int n/\H1=H) I ⟨_,ev,rfl,rfl⟩) fun u s1 ⟨w1,H1,I1,ry,ew,eh⟩=>thn (xT hi' (hx.1.elim .inl fun h=> .inr (.inl h)) hx.2.1 hx.2.2 pins s1 σ H1 (fun v H2=>v= .ref e/\H2=H1) I1 ⟨_,hσ,rfl,rfl⟩) fun ov s2 ⟨w2,H2,I2,rx,ew2,eh2⟩=>?_) hs2
  subst ew eh ew2 eh2
  cases (show ov=Value.ref e from rx)
  obtain ⟨⟨t0,ht⟩,_⟩:=(show ObjOk Y.X.prog Y.X.w H2 s2.heap e (.ext (ExO C none e)) from I2.hok e _ hH)
  obtain ⟨hp,g,dr,tk,os⟩:=s2
  refine kQ I2.kIn Z' ht fun h' dx tk' hne hdx kp ht' hn=>?_
  have Hd:H2 dx=none:=by
   cases w:H2 dx with
   | none=>rfl
   | some o=>obtain ⟨ob,w2⟩:=(I2.hok dx o w).there;rw [hdx] at w2;cases w2
  exact ⟨σ,_,I2.far (t':=tk') hH hne hdx kp ht' hn ry,q F H2 dx (Ext.refl E.fh) hne Hd⟩
 refine PSs.imp (va st1 (Va st2)) fun D' σ H ⟨F,e,E,hσ,hH,q⟩=>⟨F,e,E,hσ,hH,fun F1 H1 x1=>⟨F1,e,E.grow x1,hσ,x1.hh _ _ hH,fun F2 H2 dx x2=>q F2 H2 dx (x1.trans x2)⟩⟩
theorem Jz {m:Nat} {fd:FuncData} {st:Stmt} (F:Fun T.K x qual st fI fd) (B:ScB [sf,fr] [sf,fr] G (defScope st))
  (body:∀(Y:Cy) (S:Sc Y T k [sf,fr] G) (n:Int),n.natAbs<=m->PSs Y.X (defBody st) (tFar Y [.un,.val (.int n)] C n)):FnOk T.prog T.w T.K T.mg T.base CX0 (k+1) fI fd [sf,fr] (spI C m):=by
 refine F.ok B.fs (fun vs H Q E h=>?_) fun cdv A outer s H vs Q E hr h=>?_
 ·obtain ⟨F0,e,n,rfl,_⟩:=h;rfl
 ·obtain ⟨F0,e,n,rfl,hn,f0,hH,q⟩:=h
  have S:Sc ⟨(cxOf CX0 T.prog T.w T.K T.mg T.base [sf,fr] qual (defScope st) fI cdv A outer s H E).nox,F0,H⟩ T k [sf,fr] G:=
   ⟨⟨⟨rfl,rfl,rfl,rfl,rfl,rfl,B.fs.nd,B.loc,B.gl⟩,rfl,hr⟩,fun _=>rfl,PassesOwn.never⟩
  refine ⟨_,body _ S n hn,F0,e,⟨Ext.refl f0,rfl,fun i=>?_,fun i j a h1 _ _ _=>?_⟩,rfl,hH,fun F1 H1 dx x1 hne hd=>q F1 H1 dx x1 hne hd⟩
  ·cases i with
   | zero=>exact trivial
   | succ i=>
    cases i with
    | zero=>exact ⟨_,rfl,.int n⟩
    | succ i=>show SlotOk T.K H F0 H _ (slot [] i);exact trivial
  ·cases i with
   | zero=>cases h1
   | succ i=>
    cases i with
    | zero=>cases h1
    | succ i=>cases h1
end
inductive Rf where
 | ok (d:D) | far (n:Int)
def spZ (T:Tx) (cl:Str) (R:List D->Rf->Prop):Sp:=fun vs H Q E=>∃F ds r,Same F H/\Reps T.K F vs ds/\R ds r/\(match r with
 | .ok d=>∀v F' H',Ext F H F' H'->Rep T.K F' v d->Q v H'
 | .far n=>∀C dx F' H',T.mg cl=some (.ref C)->Ext F H F' H'->F' dx=some (.xd (farF n))->E (.ref C) (some dx) H')
structure FnZ (T:Tx) (k:Nat) (x cl:Str) (R:List D->Rf->Prop):Prop where
 ex:∃(f:Addr) (fd:FuncData) (ps:List Str),T.mg x=some (.ref f)/\W.keepIn T.K (.ref f)=true/\Binds T.K fd ps []/\FnOk T.prog T.w T.K T.mg T.base (CXF T.prog T.w) k f fd ps (spZ T cl R)
structure RzD (Y:Cy) (C:Addr) (n:Int) (c:List Slot):Prop where
 fly:∀{pins:List (Addr×Obj)} {σ:St} {F H F' H':Hp} {s s':Shared} {e dx:Addr},Inv Y.X pins σ H s->EnvY Y F H σ c->Ext F H F' H'->LiesD Y.X.prog Y.X.w Y.X.stack H s e C dx H' s'->F' dx=some (.xd (farF n))->Y.X.xe (.ref e) s'
structure RzDM (Y:Cy) (C:Addr) (n:Int) (c:List Slot):Prop where
 made:∀{pins:List (Addr×Obj)} {σ:St} {F H:Hp} {s:Shared} {e dx t:Addr},Inv Y.X pins σ H s->EnvY Y F H σ c->F dx=some (.xd (farF n))->Y.X.s₀.heap.get? e=none->H e=none->e≠Y.X.env.locals->s.heap.get? e=some (exo C (some dx) t)->Y.X.xe (.ref e) s
def RzDN (Y:Cy) (T:Tx) (cl:Str) (n:Int) (c:List Slot):Prop:=∀C,T.mg cl=some (.ref C)->RzD Y C n c
def RzDMN (Y:Cy) (T:Tx) (cl:Str) (n:Int) (c:List Slot):Prop:=∀C,T.mg cl=some (.ref C)->RzDM Y C n c
def RetZ:Rf->Out->Prop
 | .ok d=>Ret d
 | .far _=>fun _=>False
section
variable {Y:Cy} {T:Tx} {k j:Nat} {N G ps:List Str} {c:List Slot} {e:Expr} {es:List Expr} {pos p cpos:Pos} {d:D} {ds:List D} {R:List D->Rf->Prop} {x qual cl:Str} {P:Out->Prop} {rest:List Stmt} {n:Int}
theorem xbH {st:Stmt} (A:At T x st) (B:ScB N ps G (defScope st)) (hb:∀f fd,Fun T.K x x st f fd->Binds T.K fd ps []) (hlen:∀ds d,R ds d->ds.length=ps.length)
  (body:∀(Y:Cy) (S:Sc Y T k N G) (Z:Fx Y st) (ds:List D) (r:Rf),R ds r->(∀n,r= .far n->∀c,RzDN Y T cl n c/\RzDMN Y T cl n c)->SsD Y (defBody st) (ctx0 N ds) (RetZ r)):FnZ T (k+1) x cl R:=by
 obtain ⟨f,fd,F,hm⟩:=A
 refine ⟨f,fd,ps,hm,F.kp,hb f fd F,?_⟩
 obtain ⟨oc,od,kV,doc,pm,an,cdv,ct,osl,rfl,lk,hcd⟩:=F.ex
 refine XL lk hcd B.fs (fun vs H Q E h=>?_) fun A outer s H vs Q E hr h=>?_
 ·obtain ⟨F0,ds,d,_,r,hR,_⟩:=h
  rw [r.length];exact hlen ds d hR
 ·obtain ⟨F0,ds,r,f0,rs,hR,q⟩:=h
  have S:Sc ⟨cxOf (CXF T.prog T.w) T.prog T.w T.K T.mg T.base N x (defScope st) f cdv A outer s H E,F0,H⟩ T k N G:=
   ⟨⟨⟨rfl,rfl,rfl,rfl,rfl,rfl,B.fs.nd,B.loc,B.gl⟩,rfl,hr⟩,fun _=>rfl,PassesOwn.leaving⟩
  refine ⟨_,body _ S ⟨rfl,rfl,rfl,rfl⟩ ds r hR (fun n hn c=>?_),F0,qI f0 rs,fun o ho=>?_⟩
  ·subst hn
   have q:∀C dx F' H',T.mg cl=some (.ref C)->Ext F0 H F' H'->F' dx=some (.xd (farF n))->E (.ref C) (some dx) H':=q
   exact ⟨fun C hC=>⟨fun I En ex L hF=>Ws I rfl ⟨rfl,rfl⟩ L fun s' L=>⟨_,C,_,_,rfl,L,q C _ _ _ hC (En.ext.trans ex) hF⟩⟩,
    fun C hC=>⟨fun I En hF h0 hH hL he=>Wt I rfl ⟨rfl,rfl⟩ h0 hH hL he fun s' L=>⟨_,C,_,_,rfl,L,q C _ _ _ hC En.ext hF⟩⟩⟩
  ·cases r with
   | far n=>exact False.elim ho
   | ok d=>
    have q:∀v F' H',Ext F0 H F' H'->Rep T.K F' v d->Q v H':=q
    cases o with
    | rt e=>cases ho;exact fun v F' H' _ x r'=>q v F' H' x r'
    | nx c=>cases ho;exact fun σ F' H' _ E'=>q .non F' H' E'.ext .non
    | bk c=>exact False.elim ho
    | ct c=>exact False.elim ho
    | ro ds=>exact False.elim ho
    | rs R=>exact False.elim ho
theorem VY {C D' fI:Addr} {m:Nat} {fd:FuncData} {ps':List Str} (S:Sc Y T k N G) (gi:Nat) (hex:Y.X.ex=[]) (Z:FarK T.K C D' fI) (hm:T.mg cl=some (.ref C)) (hk:W.keepIn T.K (.ref C)=true) (FI:FnOk T.prog T.w T.K T.mg T.base CX0 j fI fd ps' (spI C m)) (hj:j+1<=k) (hb:Binds T.K fd ps' [])
  (ha:EvD Y e c (.int n)) (hn:n.natAbs<=m) (hz:RzDMN Y T cl n c) (hg:G[gi]? =some cl:=by rfl)
  (he:starEach [e] Y.X.env=(false,eval e Y.X.env)::starEach [] Y.X.env:=by rfl):SsD Y (.Raise (some (.Call (.Name cl p) [e] [] cpos)) none pos::rest) c P:=by
 have gl:=S.gl cl (mz hg)
 refine xF fun pins s σ H D I ⟨F,E,_⟩=>?_
 have Z':FarK Y.X.K C D' fI:=by rw [S.eK];exact Z
 have FI':FnOk Y.X.prog Y.X.w Y.X.K Y.X.mg Y.X.base CX0 j fI fd ps' (spI C m):=by rw [S.eP,S.eW,S.eK,S.eM,S.eB];exact FI
 have hb':Binds Y.X.K fd ps' []:=by rw [S.eK];exact hb
 rw [arm_exec_Raise]
 refine wpAny_bind (wpAny_standAt (V7 (K:=Y.X.K) Z'.fa S.room.hd (wpAny_bind (wpAny_mono (?_:wpAny _ _ (eval (.Call (.Name cl p) [e] [] cpos) Y.X.env) _ _ _) (fun v s₃ h₃=>wpAny_bind (wpAny_standAt (wpAny_pure h₃))) fun _ _ x=>x))))
 refine wpAny_Call_Name_kw (yz I gl.1 (by rw [S.eM];exact hm) ?_ gl.2.1)
 have ar:PA Y.X [e] _:=xQ ha yq he
 refine W.callWith_K (h₀:=Y.X.base) I.ok.mod.kin (by rw [S.eK];exact hk) (thn (ar cpos pins s σ H (fun vs H1=>∃F1,Ext F H F1 H1/\vs=[.int n]) I ⟨F,E,fun v F1 H1 e1 r1=>by cases r1;exact ⟨F1,e1,rfl⟩⟩) fun us s1 ⟨vs,H1,I1,r,F1,e1,ev⟩=>⟨I1.kIn,?_⟩) he rfl
 subst ev
 obtain ⟨u,rfl,ru⟩:∃u,us=[u]/\RelV (.int n) u:=by
  cases r with
  | cons r1 r2=>cases r2;exact ⟨_,rfl,r1⟩
 obtain ⟨hp,g,dr,tk,os⟩:=s1
 refine jU I1.kIn Z' fun h' a t' kp hnew hat=>?_
 have Ha:H1 a=none:=by
  cases w:H1 a with
  | none=>rfl
  | some o=>obtain ⟨ob,w2⟩:=(I1.hok a o w).there;rw [hnew] at w2;cases w2
 have a0:Y.X.s₀.heap.get? a=none:=uJ I1 hex hnew
 have aL:a≠Y.X.env.locals:=fun w=>by
  obtain ⟨mm,⟨oL,_,_,hoL,_⟩,_⟩:=I1.loc
  rw [<-w,hnew] at hoL;cases hoL
 have I2:=(I1.kept (h':=h') (t':=tk) kp).track (e:=a) (φ:=ExO C none a) Ha a0 aL (fun y c' w z=>by
  obtain ⟨v,o,ho,_⟩:=I1.cell y c' w
  rw [z,hnew] at ho;cases ho) (fun q hq z=>by
  have w:=(I1.pin q hq).1
  rw [z,hnew] at w;cases w) (QJ hat)
 have f1:Same F1 (upd H1 a (.ext (ExO C none a))):=fun b u w=>by rw [xh (fun z=>by rw [z] at w;rw [e1.fh _ _ w] at Ha;cases Ha)];exact e1.fh _ _ w
 have Fa:F1 a=none:=none_of e1.fh Ha
 have h:spI C m [.ref a,.int n] (upd H1 a (.ext (ExO C none a))) (fun v H'=>v= .non/\∃F2 H2 dx,H'=upX H2 C a dx n/\Ext F1 (upd H1 a (.ext (ExO C none a))) F2 H2/\dx≠a/\H2 dx=none) E0:=
  ⟨F1,a,n,rfl,hn,f1,xm,fun F2 H2 dx x2 hne hd=>⟨rfl,F2,H2,dx,rfl,x2,hne,hd⟩⟩
 have r2:Vals [.ref a,.int n] [Value.ref a,u]:= .cons rfl (.cons ru .nil)
 have hb2:=hb' ⟨h',g,dr,tk,os⟩ [Value.ref a,u] I2.kIn (by rw [List.append_nil];exact (r2.length.symm.trans (FI'.len _ _ _ _ h)))
 rw [List.append_nil] at hb2
 refine wpAny_call (codeAny_mono (FI'.run _ Y.X.stack _ _ ⟨[Value.ref a,u],[]⟩ [Value.ref a,u] _ _ E0 ((S.room.mono hj).make C [u] []) (I2.env0.make C [u] []) hb2 r2 h) fun r s' hq=>?_)
 cases r with
 | error e=>exact False.elim hq
 | ok fl=>
  cases fl with
  | next=>exact False.elim hq
  | brk=>exact False.elim hq
  | cont=>exact False.elim hq
  | ret w=>
   obtain ⟨v,H',I3,rv,ev,F2,H2,dx,eh,x2,hne,hd⟩:=I2.after hq
   subst ev eh
   cases (show w=Value.none from rv)
   have ae:upX H2 C a dx n a=some (.ext (ExO C (some dx) a)):=Kj (Ne.symm hne)
   obtain ⟨⟨t2,ht⟩,_⟩:=(show ObjOk Y.X.prog Y.X.w (upX H2 C a dx n) s'.heap a (.ext (ExO C (some dx) a)) from I3.hok a _ ae)
   have F2a:F2 a=none:=x2.fr a (by rw [xm];exact fun z=>nomatch z) Fa
   have up:∀b,b≠a->upd H1 a (.ext (ExO C none a)) b=H1 b:=fun b w=>xh w
   have nb:∀b,H1 b≠none->b≠a:=fun b w z=>w (by rw [z];exact Ha)
   have nd:∀b,H1 b≠none->b≠dx:=fun b w z=>by
    cases q:H1 b with
    | none=>exact w q
    | some u=>have:=x2.hh b u ((up b (nb b w)).trans q);rw [z,hd] at this;cases this
   have X3:Ext F1 H1 (upd F2 dx (.xd (farF n))) (wo (upX H2 C a dx n) a):=⟨fun b u w=>by
     have w2:=x2.ff b u w
     rw [xh (fun z=>by rw [z] at w2;rw [x2.fh _ _ w2] at hd;cases hd)]
     exact w2,fun b u w=>by
     by_cases z:b=dx
     ·subst z
      rw [xm] at w
      rw [qX hne,Kk]
      exact w
     ·rw [xh z] at w
      have zb:b≠a:=fun q=>by rw [q,F2a] at w;cases w
      rw [qX zb,QX zb z]
      exact x2.fh b u w,fun b u w=>by
     have w1:H1 b≠none:=by rw [w];exact fun z=>nomatch z
     rw [qX (nb b w1),QX (nb b w1) (nd b w1)]
     exact x2.hh b u ((up b (nb b w1)).trans w),fun b w q=>by
     rw [xh (nd b w)]
     exact x2.fr b (by rw [up b (nb b w)];exact w) q⟩
   have I4:=jm I3 a0 ae
   refine ⟨rfl,a,some dx,t2,rfl,I3.kIn,ht,?_⟩
   exact (hz C hm).made I4 ((E.grow e1).grow X3) xm a0 (Kh _ _) aL ht
end
end DL
namespace DL
open PySem L2 PySem.W PyProof.Rows
noncomputable def farKb (K:W.Frag) (C D fI:Addr):Bool:=farIn K C && (findIn K (.ref C) "__init__" ==some (some (.ref fI)) && (typeIn K (.ref fI)==some (.type "function") && (findIn K (.ref C) "__setattr__" ==some (some (.builtin "object.__setattr__")) &&
 (findIn K (.ref C) "far" ==some none && (readsIn K D (.type "type") && ((match findCls K (.ref D) (.type "type") "__init__" with | some (.val v)=>v== .builtin "ValueError.__init__" | _=>false) && specialIn K (.ref D) "__getattribute__" ==some (some (.builtin "type.__getattribute__"))))))))
theorem JE {K:W.Frag} {C D fI:Addr} (h:farKb K C D fI=true):FarK K C D fI:=by
 unfold farKb at h
 simp only [Bool.and_eq_true,beq_iff_eq] at h
 obtain ⟨a,b,c,d,e,f,g,i⟩:=h
 refine ⟨a,b,c,d,e,f,?_,i⟩
 split at g
 ·rename_i v hv
  rw [hv,beq_iff_eq.mp g]
 ·cases g
def mth (s:Stmt) (i:Nat):Stmt:=match s with
 | .ClassDef _ _ _ b _ _ _ _ _ _ _=>b.getD i (.Pass ⟨0,0,0,0⟩)
 | s=>s
end DL
namespace DL
open PySem L2
section
variable {Y:Cy} {T:Tx} {k j:Nat} {N G ps:List Str} {c:List Slot} {e a b:Expr} {es:List Expr} {pos p cpos:Pos} {d d1 d2:D} {ds:List D} {x y cl:Str} {P:Out->Prop} {rest:List Stmt} {n:Int}
theorem JI {x1} (h:ArX Y es c):EvX Y (.Tuple es x1 pos) c:=PE.imp (Qc h) fun σ H Q ⟨F,E⟩=>⟨F,E⟩
def TupK (K:W.Frag) (a:Addr) (vs:List V):Prop:=∃(o:Obj) (its:Array Value) (n:Nat),K.lookup a=some o/\o.cls= .type "tuple" /\o.data= .seq its n/\its.size<=sizeLine/\Vals vs its.toList
def CstP (T:Tx) (x:Str) (i j l:Int):Prop:=∃a b,T.mg x=some (.ref a)/\TupK T.K a [.int i,.ref b]/\TupK T.K b [.int j,.int l]
theorem wQ (S:Sn Y T N G) (gi:Nat) {i j l:Int} (h:CstP T x i j l) (hg:G[gi]? =some x:=by rfl):EvD Y (.Name x pos) c (.tup [.int i,.tup [.int j,.int l]]):=by
 obtain ⟨a,b,hm,h1,h2⟩:=h
 have gl:=S.gl x (mz hg)
 refine PE.imp (ve (v:= .ref a) gl.1 (by rw [S.eM];exact hm) rfl gl.2.1) fun σ H Q ⟨F,E,q⟩=>q _ F H (Ext.refl E.fh) (.tup (.inr (by rw [S.eK];exact h1)) (.cons (.int i) (.cons (.tup (.inr (by rw [S.eK];exact h2)) (.cons (.int j) (.cons (.int l) .nil))) .nil)))
end
def tx (l:List Nat):Str:=⟨l.toArray⟩
theorem xr (l:List Nat):(tx l).cps.toList=l:=by simp [tx]
theorem yX (x:Str):tx x.cps.toList=x:=by cases x;simp [tx]
theorem yN (l:List Nat):(tx l).length=l.length:=by simp [tx,Str.length]
theorem xJ (x:Str):x.length=x.cps.toList.length:=by simp [Str.length]
section
variable {Y:Cy} {T:Tx} {k:Nat} {N G:List Str} {c:List Slot} {a b e:Expr} {es:List Expr} {pos p2:Pos} {d d1 d2:D} {ds:List D} {x y:Str} {P:Out->Prop} {rest:List Stmt}
theorem yv (ha:EvD Y a c (.str x)) (hb:EvD Y b c (.str y)):TeD Y (.Compare a [.Eq] [b] pos) c (x==y):=
 qb U0 (nomark _) ha hb fun u v F H Q f rx ry q=>by
  rw [xN rx,xN ry]
  refine ⟨rfl,?_⟩
  rw [wS]
  exact q F H (Ext.refl f)
theorem ZW (ha:EvD Y a c (.str x)) (hb:EvD Y b c (.str y)):TeD Y (.Compare a [.NotEq] [b] pos) c (!(x==y)):=
 qb UY (nomark _) ha hb fun u v F H Q f rx ry q=>by
  rw [xN rx,xN ry]
  refine ⟨rfl,?_⟩
  rw [wS]
  exact q F H (Ext.refl f)
theorem xaC {i:Int} {cd:Nat} (ha:EvD Y a c (.str x)) (hb:EvD Y b c (.int i)) (h:atI x.cps.toList i=some cd) (hz:x.length<=1000000) (hs:PlainIx b:=by intro _ _;rfl):EvD Y (.Subscript a b pos) c (.str ⟨#[cd]⟩):=
 zg (t:=tC .non) (ta:=tC .non) (tb:=tC .non) (Vg xap ha hb hs) fun u v F H Q f rx ry q=>
  ⟨x,i,cd,xN rx,xw ry,xL hz,h,q _ F H (Ext.refl f) (.str _)⟩
theorem xC (ha:EvD Y a c (.str x)) (hb:EvD Y b c (.str y)) (hz:x.length+y.length<=1000000):EvD Y (.BinOp a .Add b pos) c (.str (x++y)):=
 zg (t:=tC .non) (ta:=tC .non) (tb:=tC .non) (XC Qg ha hb) fun u v F H Q f rx ry q=>
  ⟨x,y,xN rx,xN ry,xL hz,q _ F H (Ext.refl f) (.str _)⟩
theorem xq (x y:Str):(x++y).cps.toList=x.cps.toList++y.cps.toList:=by
 show (x.cps++y.cps).toList=_
 simp
theorem xaD {cd:Nat} (ha:EvD Y a c (.str ⟨#[cd]⟩)) (hb:EvD Y b c (.str y)) (hm:behindInMarks .In b=false:=by rfl):EvD Y (.Compare a [.In] [b] pos) c (.bl (decide (cd∈y.cps.toList))):=
 zg (t:=tC .non) (ta:=tC .non) (tb:=tC .non) (vf Wb ha hb hm) fun u v F H Q f rx ry q=>by
  refine ⟨_,_,xN rx,xN ry,?_⟩
  rw [StrLaws.found_one]
  exact q _ F H (Ext.refl f) (.bl _)
theorem yA (S:Se Y T k N G) (gi:Nat) {i:Int} {p:Pos} (ha:ArD Y [e] c [.int i]) (hz:i.natAbs.log2<1920) (hm:T.mg "str" =none) (hg:G[gi]? =some ("str" :Str):=by rfl) (he:starEach [e] Y.X.env=(false,eval e Y.X.env)::starEach [] Y.X.env:=by rfl):EvD Y (.Call (.Name "str" p) [e] [] pos) c (.str (toString i)):=
 wd S gi vH hg hm QQ ha (fun vs F H Q f r q=>by
  obtain ⟨v,rfl,rv⟩:=inv1 r
  exact ⟨i,by rw [xw rv],hz,q _ F H (Ext.refl f) (.str _)⟩) he rfl
theorem Xr {X:Cx}:CallR X (.type "int") (fun xs H Q=>∃x n,xs=[.str x]/\PySem.intText? x=some n/\x.length<=640/\Q (.int n) H):=by
 intro pins s σ H xs us Q I r h
 obtain ⟨x,n,rfl,h1,h2,q⟩:=h
 obtain ⟨u,rfl,t,rfl⟩:=vals1 r
 exact W.KIN.call_text h1 h2 ⟨.int n,H,I.tok _,⟨_,rfl⟩,q⟩
theorem YL (S:Se Y T k N G) (gi:Nat) {i:Int} {p:Pos} (ha:ArD Y [e] c [.str x]) (h1:PySem.intText? x=some i) (h2:x.length<=640) (hm:T.mg "int" =none) (hg:G[gi]? =some ("int" :Str):=by rfl) (he:starEach [e] Y.X.env=(false,eval e Y.X.env)::starEach [] Y.X.env:=by rfl):EvD Y (.Call (.Name "int" p) [e] [] pos) c (.int i):=
 wd S gi Xr hg hm qw ha (fun vs F H Q f r q=>by
  obtain ⟨v,rfl,rv⟩:=inv1 r
  exact ⟨x,i,by rw [xN rv],h1,h2,q _ F H (Ext.refl f) (.int _)⟩) he rfl
theorem qT {i:Int} (h:EvD Y e c (.int i)) (hz:i.natAbs.log2<1920):EvD Y (.FormattedValue e (-1) none pos) c (.str (toString i)):=by
 intro pins s σ H Q I ⟨F,E,q⟩
 refine wpAny_FormattedValue_plain (thn (h pins s σ H (fun v H1=>v= .int i/\∃F1,Ext F H F1 H1) I ⟨F,E,fun v F1 H1 e1 r1=>⟨xw r1,F1,e1⟩⟩) fun u s1 ⟨v,H1,I1,r1,ev,F1,e1⟩=>?_)
 subst ev
 obtain ⟨t,rfl⟩:=r1
 exact wpAny_formatField_int hz ⟨.str _,H1,I1.tok _,⟨_,rfl⟩,q _ F1 H1 e1 (.str _)⟩
theorem QG (h:EvD Y e c (.str x)) (hz:x.length<=1000000):EvD Y (.FormattedValue e (-1) none pos) c (.str x):=by
 intro pins s σ H Q I ⟨F,E,q⟩
 refine wpAny_FormattedValue_plain (thn (h pins s σ H (fun v H1=>v= .str x/\∃F1,Ext F H F1 H1) I ⟨F,E,fun v F1 H1 e1 r1=>⟨xN r1,F1,e1⟩⟩) fun u s1 ⟨v,H1,I1,r1,ev,F1,e1⟩=>?_)
 subst ev
 obtain ⟨t,rfl⟩:=r1
 exact wpAny_formatField_str ⟨.str _,H1,I1,⟨_,rfl⟩,q _ F1 H1 e1 (.str _)⟩ ⟨.str _,H1,I1.tok _,⟨_,rfl⟩,q _ F1 H1 e1 (.str _)⟩ (xL hz)
theorem QH (h:EvD Y e c (.str x)) (hz:x.length<=10000) (hc:∀q∈x.cps.toList,q<16^8):EvD Y (.FormattedValue e 114 none pos) c (.str (reprText x)):=by
 have hl:=StrLaws.reprText_len x hc
 have hz2:(reprText x).length<=sizeLine:=xL (by omega)
 intro pins s σ H Q I ⟨F,E,q⟩
 refine wpAny_FormattedValue_repr (thn (h pins s σ H (fun v H1=>v= .str x/\∃F1,Ext F H F1 H1) I ⟨F,E,fun v F1 H1 e1 r1=>⟨xN r1,F1,e1⟩⟩) fun u s1 ⟨v,H1,I1,r1,ev,F1,e1⟩=>?_)
 subst ev
 obtain ⟨t,rfl⟩:=r1
 refine wpAny_pyReprObj_gives (typeIs_str s1 x t) PySem.F.slot_str_repr PySem.F.entry_str_repr (PySem.F.args_str_repr_1 _) (gives_str_repr x t) ?_ rfl hz2
 have I2:=I1.tok (s1.toks+1)
 exact wpAny_formatField_str ⟨.str _,H1,I2,⟨_,rfl⟩,q _ F1 H1 e1 (.str _)⟩ ⟨.str _,H1,I2.tok _,⟨_,rfl⟩,q _ F1 H1 e1 (.str _)⟩ hz2
def JsD (Y:Cy) (es:List Expr) (c:List Slot) (acc z:Str):Prop:=∀(pins:List (Addr×Obj)) (s:Shared) (σ:St) (F H:Hp) (Q:Str->Shared->Prop),Inv Y.X pins σ H s->EnvY Y F H σ c->
 (∀s' F' H',Ext F H F' H'->Inv Y.X pins σ H' s'->Q z s')->Joins (model Y.X.prog Y.X.w) Y.X.A Y.X.xe (evalEach es Y.X.env) acc Q s
theorem v4 {acc:Str}:JsD Y [] c acc acc:=fun pins s σ F H Q I E q=>q s F H (Ext.refl E.fh) I
theorem yi {acc z:Str} (h:EvD Y e c (.str x)) (hz:(acc++x).length<=1000000) (hr:JsD Y es c (acc++x) z) (he:evalEach (e::es) Y.X.env=eval e Y.X.env::evalEach es Y.X.env:=by rfl):JsD Y (e::es) c acc z:=by
 intro pins s σ F H Q I E q
 rw [he]
 refine thn (h pins s σ H (fun v H1=>v= .str x/\∃F1,Ext F H F1 H1) I ⟨F,E,fun v F1 H1 e1 r1=>⟨xN r1,F1,e1⟩⟩) fun u s1 ⟨v,H1,I1,r1,ev,F1,e1⟩=>?_
 subst ev
 obtain ⟨t,rfl⟩:=r1
 exact ⟨x,t,rfl,xL hz,hr pins s1 σ F1 H1 Q I1 (E.grow e1) fun s' F' H' e' I'=>q s' F' H' (e1.trans e') I'⟩
theorem XO {z:Str} {e1 e2:Expr} (h:JsD Y (e1::e2::es) c Str.empty z) (hz:z.length<=1000000):EvD Y (.JoinedStr (e1::e2::es) pos) c (.str z):=by
 intro pins s σ H Q I ⟨F,E,q⟩
 exact wpAny_JoinedStr (h pins s σ F H _ I E fun s' F' H' e' I'=>⟨xL hz,.str z,H',I'.tok _,⟨_,rfl⟩,q _ F' H' e' (.str _)⟩)
end
end DL
namespace DL
open PySem L2
open Builtin Builtin.Str
noncomputable def idx (c:Nat):List Nat->List Nat
 | []=>[]
 | a::r=>if a=c then 0::(idx c r).map (· +1) else (idx c r).map (· +1)
theorem qQ (c:Nat):∀l:List Nat,(List.range l.length).filter (fun i=>decide (l[i]? =some c))=idx c l
 | []=>rfl
 | a::r=>by
  have ih:=qQ c r
  rw [List.length_cons,List.range_succ_eq_map,List.filter_cons]
  have e:(List.map Nat.succ (List.range r.length)).filter (fun i=>decide ((a::r)[i]? =some c))=(idx c r).map (· +1):=by
   rw [List.filter_map,<-ih]
   congr 1
  rw [e,show idx c (a::r)=if a=c then 0::(idx c r).map (· +1) else (idx c r).map (· +1) from rfl]
  by_cases h:a=c
  ·simp [h]
  ·simp [h]
theorem Yw (s sub:Str) (hi limit:Nat):∀(m a:Nat) (arr:Array Nat) (free:Nat),free<=a->sub.length=1->
  (forIn (List.range' a m) (arr,free) (StrLaws.occBody s sub hi limit)).run.fst.toList=arr.toList++((List.range' a m).filter (fun i=>decide (i+1<=hi) && subAt s sub i)).take (limit - arr.size)
 | 0,a,arr,free,_,_=>by simp
 | m+1,a,arr,free,hf,h1=>by
  rw [List.range'_succ,List.forIn_cons]
  by_cases hc:((arr.size<limit/\free<=a)/\a+sub.length<=hi)/\subAt s sub a=true
  ·have eb:StrLaws.occBody s sub hi limit a (arr,free)=pure (ForInStep.yield (arr.push a,a+sub.length)):=by unfold StrLaws.occBody;rw [mH hc]
   rw [eb]
   have ih:=Yw s sub hi limit m (a+1) (arr.push a) (a+sub.length) (by omega) h1
   refine ih.trans ?_
   have hp:(decide (a+1<=hi) && subAt s sub a)=true:=by rw [h1] at hc;simp [hc.1.2,hc.2]
   rw [List.filter_cons,if_pos hp,show limit - arr.size=(limit - (arr.push a).size)+1 by simp;omega]
   simp
  ·have eb:StrLaws.occBody s sub hi limit a (arr,free)=pure (ForInStep.yield (arr,free)):=by unfold StrLaws.occBody;rw [mF hc]
   rw [eb]
   have ih:=Yw s sub hi limit m (a+1) arr free (by omega) h1
   refine ih.trans ?_
   by_cases hl:arr.size<limit
   ·have hp:¬(decide (a+1<=hi) && subAt s sub a)=true:=by
     intro z
     simp only [Bool.and_eq_true,decide_eq_true_eq] at z
     exact hc ⟨⟨⟨hl,hf⟩,by rw [h1];exact z.1⟩,z.2⟩
    rw [List.filter_cons,mF hp]
   ·rw [show limit - arr.size=0 by omega];simp
theorem Xx (x:Str) (c i:Nat):(decide (i+1<=x.length) && subAt x ⟨#[c]⟩ i)=decide (x.cps.toList[i]? =some c):=by
 unfold subAt
 have hl:(⟨#[c]⟩:Str).length=1:=rfl
 rw [hl]
 by_cases h:i+1<=x.length
 ·have hi:i<x.cps.size:=h
  have e:x.cps.extract i (i+1)= #[x.cps[i]]:=by
   apply Array.ext
   ·simp;omega
   ·intro j h1 h2
    have:j=0:=by simp at h2;omega
    subst this
    simp
  rw [e]
  have e2:x.cps.toList[i]? =some x.cps[i]:=by simp [hi]
  rw [e2]
  simp only [h,decide_true,Bool.true_and]
  by_cases z:x.cps[i]=c
  ·simp [z]
  ·simp [z]
 ·have:x.cps.toList[i]? =none:=by
   rw [List.getElem?_eq_none_iff];simp [Str.length] at h ⊢;omega
  rw [this]
  simp [h]
theorem Vm (x:Str) (c limit:Nat):occurrences x ⟨#[c]⟩ 0 x.length limit=(idx c x.cps.toList).take limit:=by
 rw [StrLaws.occ_eq,Yw _ _ _ _ _ _ _ _ (mJ 0) rfl]
 have e:(List.range' 0 (x.length+1 - 0)).filter (fun i=>decide (i+1<=x.length) && subAt x ⟨#[c]⟩ i)=idx c x.cps.toList:=by
  rw [<-qQ]
  have e1:List.range' 0 (x.length+1 - 0)=List.range x.cps.toList.length++ [x.length]:=by
   rw [<-xJ,List.range_eq_range',Nat.sub_zero,List.range'_1_concat];simp
  rw [e1,List.filter_append]
  have e2:([x.length].filter fun i=>decide (i+1<=x.length) && subAt x ⟨#[c]⟩ i)=[]:=by
   simp
   intro h
   omega
  rw [e2,List.append_nil]
  congr 1
  funext i
  exact Xx x c i
 rw [e]
 simp
theorem YA (c:Nat):∀l:List Nat,idx c l=[]↔c∉l
 | []=>by simp [idx]
 | a::r=>by
  unfold idx
  have ih:=YA c r
  by_cases h:a=c
  ·simp [h]
  ·have h':¬c=a:=fun z=>h z.symm
   simp [h,h',ih]
noncomputable def splitL (c:Nat):List Nat->List (List Nat)
 | []=>[[]]
 | a::r=>if a=c then []::splitL c r else match splitL c r with
  | h::t=>(a::h)::t
  | []=>[[a]]
theorem Xy (c:Nat):∀l,splitL c l≠[]
 | []=>by simp [splitL]
 | a::r=>by
  unfold splitL
  split
  ·simp
  ·split<;>simp
def zs (ks:List Nat) (n:Nat):List (Nat×Nat):=(0::ks.map (· +1)).zip (ks++ [n])
def subL (l:List Nat) (p:Nat×Nat):List Nat:=(l.drop p.1).take (p.2 - p.1)
theorem vK (f:Nat->Nat):∀(a b:List Nat),(a.map f).zip (b.map f)=(a.zip b).map fun p=>(f p.1,f p.2)
 | [],_=>rfl
 | _::_,[]=>rfl
 | x::a,y::b=>by simp [vK f a b]
theorem Xw (a:Nat) (r:List Nat) (p:Nat×Nat):subL (a::r) (p.1+1,p.2+1)=subL r p:=by
 unfold subL
 simp
theorem YY (c:Nat):∀l:List Nat,(zs (idx c l) l.length).map (subL l)=splitL c l
 | []=>by simp [zs,idx,splitL,subL]
 | a::r=>by
  have ih:=YY c r
  unfold idx splitL
  by_cases ha:a=c
  ·rw [mH ha,mH ha,<-ih]
   unfold zs
   have e1:(0::(0::(idx c r).map (· +1)).map (· +1))=0::((0::(idx c r).map (· +1)).map (· +1)):=rfl
   have e2:(0::(idx c r).map (· +1))++ [(a::r).length]=0::((idx c r++ [r.length]).map (· +1)):=by simp
   rw [e1,e2,List.zip_cons_cons,vK,List.map_cons,List.map_map]
   congr 1
   exact List.map_congr_left fun p _=>Xw a r p
  ·rw [mF ha,mF ha]
   unfold zs at ih ⊢
   cases q:idx c r with
   | nil=>
    rw [q] at ih
    simp [subL] at ih ⊢
    rw [<-ih]
   | cons k ks=>
    rw [q] at ih
    have e2:((k::ks).map (· +1)++ [(a::r).length])=(k+1)::((ks++ [r.length]).map (· +1)):=by simp
    have e3:(((k::ks).map (· +1)).map (· +1))=((k::ks).map (· +1)).map (· +1):=rfl
    rw [e2,List.zip_cons_cons,vK,List.map_cons,List.map_map]
    have ih':splitL c r=subL r (0,k)::(((k::ks).map (· +1)).zip (ks++ [r.length])).map (subL r):=by rw [<-ih];rfl
    rw [ih']
    have e4:subL (a::r) (0,k+1)=a::subL r (0,k):=by simp [subL]
    rw [e4]
    congr 1
    exact List.map_congr_left fun p _=>Xw a r p
theorem vM (x:Str) (i j:Nat):strSub x i j=tx (subL x.cps.toList (i,j)):=by
 unfold strSub tx subL
 congr 1
 apply Array.ext'
 simp [Array.toList_extract,List.extract_eq_drop_take]
theorem Y6 (x:Str) (c:Nat):partsBetween x (idx c x.cps.toList) 1=(splitL c x.cps.toList).map tx:=by
 rw [<-YY]
 unfold partsBetween zs
 rw [List.map_map]
 have e:x.length=x.cps.toList.length:=xJ x
 simp only [e]
 congr 1
 funext p
 exact vM x p.1 p.2
def mtS1 (g:Str->Str->V->Prop):V->List V->Hp->VK->Prop:=fun x vs H Q=>∃a b v,x= .str a/\vs=[.str b]/\g a b v/\Q v H
theorem Wm {X:Cx}:MtR X "str.startswith" (mtS1 fun a b v=>v= .bl (decide (0+b.length<=a.length) && subAt a b 0)):=by
 intro pins s σ H x xs v us Q I rx r h
 obtain ⟨a,b,w',rfl,rfl,rfl,q⟩:=h
 obtain ⟨t,rfl⟩:=rx
 obtain ⟨u,rfl,t',rfl⟩:=vals1 r
 exact call_gives PySem.F.slot_str_startswith (typeIs_str s a t) PySem.F.entry_str_startswith (PySem.F.args_str_startswith_2 _ _) (gives_str_startswith a b t t') ⟨.bl _,H,I,rfl,q⟩
noncomputable def partL (c:Nat) (l:List Nat):List Nat×List Nat×List Nat:=match idx c l with
 | []=>(l,[],[])
 | i::_=>(l.take i,[c],l.drop (i+1))
theorem Yz {X:Cx} {c:Nat}:MtR X "str.partition" (fun x vs H Q=>∃a,x= .str a/\vs=[.str ⟨#[c]⟩]/\a.length<=sizeLine/\∀p,H p=none->Q (.ref p) (upd H p (.tup [.str (tx (partL c a.cps.toList).1),.str (tx (partL c a.cps.toList).2.1),.str (tx (partL c a.cps.toList).2.2)]))):=by
 intro pins s σ H x xs v us Q I rx r h
 obtain ⟨a,rfl,rfl,hz,q⟩:=h
 obtain ⟨t,rfl⟩:=rx
 obtain ⟨u,rfl,t',rfl⟩:=vals1 r
 refine call_meets PySem.F.slot_str_partition (typeIs_str s a t) PySem.F.entry_str_partition (PySem.F.args_str_partition_2 _ _) (meets_str_partition a ⟨#[c]⟩ t t' rfl hz) ?_
 rw [Vm]
 have q':=q s.heap.objs.size I.fresh
 unfold partL at q'
 cases e:idx c a.cps.toList with
 | nil=>
  rw [e] at q'
  simp only [List.take_nil]
  rw [yX] at q'
  refine ⟨.ref _,_,I.laid (t':=s.toks+1) (a:=s.heap.objs.size) (o:= .tup _) (fun b o z=>Heap.get?_push_of_some _ z) (mJ _) ?_,rfl,q'⟩
  exact ⟨mC rfl,_,.cons ⟨_,rfl⟩ (.cons ⟨_,rfl⟩ (.cons ⟨_,rfl⟩ .nil)),_,Heap.get?_push_size _ rfl,rfl,_,rfl⟩
 | cons i rest=>
  rw [e] at q'
  simp only [List.take_succ_cons,List.take_zero]
  refine ⟨.ref _,_,I.laid (t':=s.toks+1+1) (a:=s.heap.objs.size) (o:= .tup _) (fun b o z=>Heap.get?_push_of_some _ z) (mJ _) ?_,rfl,q'⟩
  have e1:strSub a 0 i=tx (a.cps.toList.take i):=by rw [vM];simp [subL]
  have e2:strSub a (i+(⟨#[c]⟩:Str).length) a.length=tx (a.cps.toList.drop (i+1)):=by
   rw [vM]
   show tx ((a.cps.toList.drop (i+1)).take (a.length - (i+1)))=_
   rw [List.take_of_length_le (by simp [Str.length])]
  exact ⟨mC rfl,_,.cons ⟨_,by rw [<-e1]⟩ (.cons ⟨_,rfl⟩ (.cons ⟨_,by rw [<-e2]⟩ .nil)),_,Heap.get?_push_size _ rfl,rfl,_,rfl⟩
theorem vL:∀(k:Nat) (l:List Str),Vals (l.map V.str) (strsFrom k l)
 | _,[]=> .nil
 | k,x::r=> .cons ⟨k,rfl⟩ (vL (k+1) r)
theorem zE (c:Nat):∀l:List Nat,(splitL c l).length<=l.length+1
 | []=>by simp [splitL]
 | a::r=>by
  have ih:=zE c r
  unfold splitL
  split
  ·simp;exact ih
  ·split
   ·rename_i h t e;rw [e] at ih;simp at ih ⊢;omega
   ·simp
theorem qd (c:Nat):∀l:List Nat,c∉l->splitL c l=[l]
 | [],_=>rfl
 | a::r,h=>by
  simp only [List.mem_cons,not_or] at h
  unfold splitL
  rw [mF (fun z=>h.1 z.symm),qd c r h.2]
theorem YW (x:Str):1<=Builtin.Str.strKind x:=by
 unfold Builtin.Str.strKind
 split
 ·exact mJ _
 ·split<;>omega
theorem U7 {X:Cx} {c:Nat} (hc:c<256):MtR X "str.split" (fun x vs H Q=>∃a,x= .str a/\vs=[.str ⟨#[c]⟩]/\a.length+1<=sizeLine/\∀p,H p=none->Q (.ref p) (upd H p (.lst ((splitL c a.cps.toList).map fun l=> .str (tx l))))):=by
 intro pins s σ H x xs v us Q I rx r h
 obtain ⟨a,rfl,rfl,hz,q⟩:=h
 obtain ⟨t,rfl⟩:=rx
 obtain ⟨u,rfl,t',rfl⟩:=vals1 r
 have q':=q s.heap.objs.size I.fresh
 obtain ⟨raising,tree⟩:=split_sep_tree a ⟨#[c]⟩ t t'
 have one:idx c a.cps.toList=[]->EP X pins σ Q (.ref s.heap.objs.size) { s with heap:=s.heap.push { cls:= .type "list",data:= .seq [.str a t].toArray } }:=fun e=>by
  rw [qd c _ ((YA c _).mp e)] at q'
  refine ⟨.ref _,_,I.laid (t':=s.toks) (a:=s.heap.objs.size) (o:= .lst _) (fun b o z=>Heap.get?_push_of_some _ z) (mJ _) ?_,rfl,q'⟩
  exact ⟨mC rfl,[.str a t],0,.cons ⟨_,by rw [yX]⟩ .nil,Heap.get?_push_size _ rfl⟩
 have occ:occurrences a ⟨#[c]⟩ 0 a.length (a.length+1)=idx c a.cps.toList:=by
  rw [Vm,List.take_of_length_le]
  have:=congrArg List.length (qQ c a.cps.toList)
  rw [<-this]
  refine Nat.le_trans (List.length_filter_le _ _) ?_
  simp [Str.length]
 by_cases e:idx c a.cps.toList=[]
 ·refine wpAny_call (codeAny_call_builtin PySem.F.slot_str_split.plain PySem.F.entry_str_split (PySem.F.slot_str_split.check _ _ _ _ _ _ _ _ (typeIs_str s a t) (PySem.F.args_str_split_2 _ _) ?_))
  rw [tree]
  by_cases h1:(decide (a.length<(⟨#[c]⟩:Str).length) || decide (Builtin.Str.strKind a<Builtin.Str.strKind ⟨#[c]⟩))=true
  ·rw [mH h1]
   exact wpAny_bind (wpAny_rule (wpAny_bind (wpAny_newObj_type (wpAny_pure (one e)))))
  ·rw [mF h1,mF (show ¬((⟨#[c]⟩:Str).length==0)=true from Bool.false_ne_true),occ,e]
   exact wpAny_bind (wpAny_rule (wpAny_bind (wpAny_newObj_type (wpAny_pure (one e)))))
 ·have hne:a.cps.toList≠[]:=fun z=>e (by rw [z];rfl)
  have h1:(decide (a.length<(⟨#[c]⟩:Str).length) || decide (Builtin.Str.strKind a<Builtin.Str.strKind ⟨#[c]⟩))=false:=by
   have k1:Builtin.Str.strKind (⟨#[c]⟩:Str)=1:=by unfold Builtin.Str.strKind;simp [hc]
   have k2:=YW a
   have k3:1<=a.length:=by
    rw [xJ]
    cases q:a.cps.toList with
    | nil=>exact absurd q hne
    | cons _ _=>simp
   have k4:(⟨#[c]⟩:Str).length=1:=rfl
   rw [k1,k4]
   simp;omega
  have hp:partsBetween a (idx c a.cps.toList) (⟨#[c]⟩:Str).length=(splitL c a.cps.toList).map tx:=Y6 a c
  have hn:((splitL c a.cps.toList).map tx).length<=sizeLine:=by
   rw [mB]
   have:=zE c a.cps.toList
   rw [<-xJ] at this
   omega
  refine call_meets PySem.F.slot_str_split (typeIs_str s a t) PySem.F.entry_str_split (PySem.F.args_str_split_2 _ _) (meets_str_split_sep a ⟨#[c]⟩ t t' h1 rfl (by rw [occ];simpa using e) (by omega) (by rw [occ,hp];exact hn)) ?_
  rw [occ,hp]
  refine ⟨.ref _,_,I.laid (a:=s.heap.objs.size) (o:= .lst _) (fun b o z=>Heap.get?_push_of_some _ z) (mJ _) ?_,rfl,q'⟩
  refine ⟨by rw [mB] at hn ⊢;exact hn,strsFrom s.toks ((splitL c a.cps.toList).map tx),0,?_,Heap.get?_push_size _ rfl⟩
  have:=vL s.toks ((splitL c a.cps.toList).map tx)
  rw [List.map_map] at this
  exact this
def Its (x:Str):It:=⟨fun i _=>i<x.cps.size,fun i H v H'=>H'=H/\∃q,x.cps.toList[i]? =some q/\v= .str ⟨#[q]⟩,fun i _=>x.cps.size<=i⟩
theorem Uc {P:Program} {w:World} {K:W.Frag} {tg:Expr} (it:Addr) (x:Str) (t:Tok) {ty:String} (hty:ty= "str_ascii_iterator" ∨ty= "str_iterator"):Turn P w K tg (Its x) [it] it (fun i h=>h.IsStrIter it ty x t i) where
 mem:=by simp
 obj:=fun i h st b hb=>by
  have e:b=it:=by simpa using hb
  subst e
  obtain ⟨o,e,c,d⟩:=st
  exact ⟨o,e,fun v z=>by rw [d] at z;cases z⟩
 keep:=fun i h h' st k=>by
  obtain ⟨o,e,c,d⟩:=st
  exact ⟨o,k it (by simp) o e,c,d⟩
 item:=by
  intro X hP hw hK hc i pins s σ H E I hf st hg
  subst hP hw hK
  obtain ⟨f0,f1,f2,f3,f4,f5⟩:=hf it (by simp)
  have hi:i<x.cps.size:=hg
  have hx:x.cps[i]? =some x.cps[i]:=by simp [hi]
  have hx2:x.cps.toList[i]? =some x.cps[i]:=by simp [hi]
  have go:∀h',h'.IsStrIter it ty x t (i+1)->Heap.SameBut it s.heap h'->∃u,(some (Value.str ⟨#[x.cps[i]]⟩ s.toks))=some u/\wpAny (model X.prog X.w) X.A (letOwnedTupleGo tg (.ref it) u) (fun _ s2=>∃v H',Inv X pins σ H' s2/\RelV v u/\(Its x).yld i H v H'/\s2.heap.IsStrIter it ty x t (i+1)/\∀b∈[it],H' b=none) E { s with heap:=h',toks:=s.toks+1 }:=fun h' st' sb=>by
   have I1:Inv X pins σ H { s with heap:=h',toks:=s.toks+1 }:=I.turned (t':=s.toks+1) (fun b o hb e=>(sb.2 b hb).trans e) f0 f1 f3 f4 f5
   obtain ⟨o,e,c,d⟩:=id st'
   refine ⟨_,rfl,Vs (s:={ s with heap:=h',toks:=s.toks+1 }) e c d (by rcases hty with rfl | rfl<;>decide) ⟨.str _,H,I1,⟨_,rfl⟩,⟨rfl,_,hx2,rfl⟩,st',fun b hb=>(hf b hb).1⟩⟩
  rcases hty with rfl | rfl
  ·exact wpAny_pyNext_ascii_item st hx go
  ·exact wpAny_pyNext_wide_item st hx go
 done:=by
  intro X hP hw hK hc i pins s σ H E I hf st hg
  subst hP hw hK
  obtain ⟨f0,f1,f2,f3,f4,f5⟩:=hf it (by simp)
  have hi:x.cps.size<=i:=hg
  have hx:x.cps[i]? =none:=by simp [hi]
  rcases hty with rfl | rfl
  ·exact wpAny_pyNext_ascii_end (I.ok.hd hc) st hx fun h' eb=>⟨rfl,I.turned (t':=s.toks) (fun b o hb e=>eb b o hb e) f0 f1 f3 f4 f5⟩
  ·exact wpAny_pyNext_wide_end (I.ok.hd hc) st hx fun h' eb=>⟨rfl,I.turned (t':=s.toks) (fun b o hb e=>eb b o hb e) f0 f1 f3 f4 f5⟩
 self:=fun _ _ _ _ _ st h=>by
  rcases hty with rfl | rfl
  ·exact wpAny_pyIter_striter_ascii st h
  ·exact wpAny_pyIter_striter_wide st h
section
variable {Y:Cy} {T:Tx} {k:Nat} {N G:List Str} {c:List Slot} {a b e tg:Expr} {es:List Expr} {pos p2 apos:Pos} {d:D} {ds:List D} {x y:Str}
noncomputable def signs (x:Str):List D:=x.cps.toList.map fun q=> .str ⟨#[q]⟩
theorem xar (h:EvD Y e c (.str x)):ItD Y tg e c (signs x):=by
 intro pins s σ H R I ⟨F,E,q⟩
 refine thn (h pins s σ H (fun v H1=>v= .str x/\∃F1,Ext F H F1 H1) I ⟨F,E,fun v F1 H1 e1 r1=>⟨xN r1,F1,e1⟩⟩) fun u s1 ⟨v,H1,I1,r1,ev,F1,e1⟩=>?_
 subst ev
 obtain ⟨t,rfl⟩:=r1
 have yl:Yields Y.X.K F1 (Its x) (signs x):=fun i F2 H2 s1 s2=>⟨fun d hd=>by
   unfold signs at hd
   rw [List.getElem?_map] at hd
   cases q:x.cps.toList[i]? with
   | none=>rw [q] at hd;cases hd
   | some z=>
    rw [q] at hd
    cases hd
    have hi:i<x.cps.size:=by have:=(List.getElem?_eq_some_iff.mp q).1;simpa using this
    refine ⟨hi,fun v H' y=>?_⟩
    obtain ⟨rfl,z',hz,rfl⟩:=y
    rw [q] at hz;cases hz
    exact ⟨F2,Ext.refl s2,.str _⟩,fun hl=>by
    unfold signs at hl
    show x.cps.size<=i
    simpa using hl⟩
 have fin:∀ty,ty= "str_ascii_iterator" ∨ty= "str_iterator" ->PIE Y.X pins σ tg R (.ref s1.heap.objs.size) { s1 with heap:=s1.heap.push { cls:= .type ty,data:= .fields #[.str x t,.int 0 0] } }:=fun ty hty=>
  ⟨_,[s1.heap.objs.size],_,_,H1,rfl,I1.kept (t':=s1.toks) fun b o e=>Heap.get?_push_of_some _ e,Uc _ x t hty,⟨_,Heap.get?_push_size _ rfl,rfl,rfl⟩,fun b hb=>by
   have e:b=s1.heap.objs.size:=by simpa using hb
   subst e
   exact I1.fpOk (mJ _) (I1.hok.fresh (mJ _)),q _ F1 H1 e1 yl⟩
 cases ha:x.cps.all (· <128)
 ·exact wpAny_pyIter_wide ha (fin _ (.inr rfl))
 ·exact wpAny_pyIter_ascii ha (fin _ (.inl rfl))
def cutL (l:List Nat) (lo hi:Option Int):List Nat:=(l.drop (HT.sIx l.length 0 lo)).take (HT.sIx l.length l.length hi - HT.sIx l.length 0 lo)
def clipI (n:Nat) (o:Option Int) (d:Int):Int:=match o with
 | none=>d
 | some i=>max 0 (min (if i<0 then i+(n:Int) else i) (n:Int))
theorem VF (n:Nat) (o:Option Int) (d:Nat):clipI n o (d:Int)=((HT.sIx n d o:Nat):Int):=by
 cases o with
 | none=>rfl
 | some i=>
  show max 0 (min (if i<0 then i+(n:Int) else i) (n:Int))=(((if i<0 then (i+(n:Int)).toNat else min i.toNat n):Nat):Int)
  split<;>omega
theorem w8 (a b:Nat):sliceRange (a:Int) (b:Int) 1=(List.range (b - a)).map fun (k:Nat)=>((a:Int)+1*(k:Int)).toNat:=by
 unfold sliceRange
 simp only [show (1:Int)>0 by decide,if_true]
 congr 2
 split<;>omega
theorem Z1 (lo hi:Option Int) (n:Nat):strSliceIndices lo hi 1 n=sliceRange (clipI n lo 0) (clipI n hi n) 1:=by
 cases lo<;>cases hi<;>simp [strSliceIndices,clipI]
theorem wD (l:List Nat) (s m:Nat) (h:s+m<=l.length):((List.range m).map fun (k:Nat)=>((s:Int)+1*(k:Int)).toNat).filterMap (l[·]?)=(l.drop s).take m:=by
 rw [List.filterMap_map]
 apply List.ext_getElem?
 intro i
 have e:(fun (k:Nat)=>l[((s:Int)+1*(k:Int)).toNat]?)=fun k=>l[s+k]? :=by
  funext k;congr 1;omega
 have e':((fun x=>l[x]?)∘fun (k:Nat)=>((s:Int)+1*(k:Int)).toNat)=fun k=>l[s+k]? :=e
 rw [e']
 have gen:∀m,s+m<=l.length->(List.range m).filterMap (fun k=>l[s+k]?)=(l.drop s).take m:=by
  intro m
  induction m with
  | zero=>intro _;simp
  | succ m ih=>
   intro hm
   rw [List.range_succ,List.filterMap_append,ih (by omega)]
   have hl:s+m<l.length:=by omega
   have e1:l[s+m]? =some l[s+m]:=mD hl
   rw [List.take_add_one,List.getElem?_drop]
   simp [e1]
 rw [gen m h]
theorem Uu (x:Str) (lo hi:Option Int):((strSliceIndices lo hi 1 x.length).filterMap (x.cps[·]?))=cutL x.cps.toList lo hi/\(strSliceIndices lo hi 1 x.length).length=(cutL x.cps.toList lo hi).length:=by
 have hn:x.cps.toList.length=x.length:=(xJ x).symm
 have h1:HT.sIx x.length 0 lo<=x.length:=HT.sIx_le _ _ (Nat.zero_le _) _
 have h2:HT.sIx x.length x.length hi<=x.length:=HT.sIx_le _ _ (mJ _) _
 have e:strSliceIndices lo hi 1 x.length=(List.range (HT.sIx x.length x.length hi - HT.sIx x.length 0 lo)).map fun (k:Nat)=>(((HT.sIx x.length 0 lo:Nat):Int)+1*(k:Int)).toNat:=by
  have c1:=VF x.length lo 0
  have c2:=VF x.length hi x.length
  rw [Z1,show (0:Int)=((0:Nat):Int) from rfl,c1,c2,w8]
 rw [e]
 have e2:(fun k:Nat=>x.cps[k]?)=fun k:Nat=>x.cps.toList[k]? :=by funext k;simp
 refine ⟨?_,?_⟩
 ·show List.filterMap (fun k:Nat=>x.cps[k]?) _=_
  rw [e2,wD _ _ _ (by rw [hn];omega)]
  unfold cutL
  rw [hn]
 ·unfold cutL
  rw [hn,mB,List.length_range,List.length_take,List.length_drop,hn]
  omega
theorem WQ (l:List Nat) (lo hi:Option Int) (h:(cutL l lo hi).length=l.length):cutL l lo hi=l:=by
 unfold cutL at h ⊢
 have h1:HT.sIx l.length 0 lo<=l.length:=HT.sIx_le _ _ (Nat.zero_le _) _
 rw [List.length_take,List.length_drop] at h
 by_cases h0:HT.sIx l.length 0 lo=0
 ·rw [h0] at h ⊢
  rw [List.drop_zero,List.take_of_length_le (by omega)]
 ·have:l.length=0:=by omega
  rw [List.length_eq_zero_iff] at this
  subst this
  simp
def partOf:Option Int->Tok->Option (Int×Tok)
 | none,_=>none
 | some i,t=>some (i,t)
theorem Vi {v:Value} {o:Option Int} (h:IsPart v o):∃t,v=partValue (partOf o t)/\(partOf o t).map (·.1)=o:=by
 cases h with
 | none=>exact ⟨0,rfl,rfl⟩
 | int i t=>exact ⟨t,rfl,rfl⟩
theorem KP {X:Cx}:SlR X (fun x lo hi H Q=>∃z,x= .str z/\z.length<=sizeLine/\Q (.str (tx (cutL z.cps.toList lo hi))) H):=by
 intro pins s σ H x v vl vu lo hi sl Q I rx hs pl pu h
 obtain ⟨z,rfl,hz,q⟩:=h
 obtain ⟨t,rfl⟩:=rx
 obtain ⟨t1,e1,m1⟩:=Vi pl
 obtain ⟨t2,e2,m2⟩:=Vi pu
 refine ⟨"str",_,PySem.F.slot_str_getitem.lookup,typeIs_str s z t,?_⟩
 refine wpAny_getItem_str_slice (l:=partOf lo t1) (u:=partOf hi t2) (st:=none) (by subst e1 e2;exact hs) rfl ?_
 have sp:slicePicked z (partOf lo t1) (partOf hi t2) none=strSliceIndices lo hi 1 z.length:=by unfold slicePicked;rw [m1,m2];rfl
 have st:=Uu z lo hi
 unfold sliceMade
 rw [sp]
 by_cases hc:((Option.map (fun x:Int×Tok=>x.1) none).getD 1==1 && (strSliceIndices lo hi 1 z.length).length==z.length)=true
 ·rw [mH hc]
  have hl:(strSliceIndices lo hi 1 z.length).length=z.length:=by simpa using hc
  have ew:cutL z.cps.toList lo hi=z.cps.toList:=WQ _ _ _ (by rw [<-st.2,hl,xJ])
  rw [ew,yX] at q
  exact ⟨.str z,H,I,⟨t,rfl⟩,q⟩
 ·rw [mF hc,st.1]
  refine ⟨?_,.str _,H,I.tok _,⟨_,rfl⟩,q⟩
  show (tx (cutL z.cps.toList lo hi)).length<=sizeLine
  rw [yN]
  unfold cutL
  rw [List.length_take,List.length_drop]
  have:=xJ z
  omega
theorem xbG {e:Expr} {i:Int} (h:EvD Y e c (.int i)):PO Y.X (some e) (fun σ H Q=>∃F,EnvY Y F H σ c/\∀F' H',Ext F H F' H'->Q (some i) H'):=by
 have:=k9 h
 intro pins s σ H Q I ⟨F,E,q⟩
 exact this pins s σ H Q I ⟨F,E,fun v F1 H1 e1 r1=>⟨i,xw r1,q F1 H1 e1⟩⟩
theorem XN {i:Int} (ha:EvD Y a c (.str x)) (hb:EvD Y b c (.int i)) (hz:x.length<=1000000):EvD Y (.Subscript a (.Slice (some b) none none p2) pos) c (.str (tx (cutL x.cps.toList (some i) none))):=
 PE.imp (UR KP ha (xbG hb) Ja) fun σ H Q ⟨F,E,q⟩=>⟨F,E,fun v F1 H1 e1 r1=>⟨F1,E.grow e1,fun F2 H2 e2=>⟨x,xN r1,xL hz,q _ F2 H2 (e1.trans e2) (.str _)⟩⟩⟩
theorem jT (l:List Nat) (n:Nat):cutL l (some (n:Int)) none=l.drop n:=by
 unfold cutL
 rw [HT.sIx_nat,HT.sIx_none]
 by_cases h:n<=l.length
 ·rw [Nat.min_eq_left h,List.take_of_length_le (by simp)]
 ·rw [Nat.min_eq_right (by omega)]
  simp
  omega
theorem xaS {id:String} {name:Str} {r:V->List V->Hp->VK->Prop} (slot:PySem.Slot "str" name id) (hty:typeOf (.builtin id)=pure (.type "method_descriptor")) (hm:MtR Y.X id r) (ho:EvD Y a c (.str x)) (ha:EvD Y b c (.str y))
  (hr:∀F H Q,Same F H->(∀v F' H',Ext F H F' H'->Rep Y.X.K F' v d->Q v H')->r (.str x) [.str y] H Q)
  (hbase:attributeBase a name Y.X.env (eval a Y.X.env)=eval a Y.X.env:=by rfl) (hfew:((backTo pos (starEach [b] Y.X.env)).all (fun x=> !x.1) && (backToKw pos (keywordEach [] Y.X.env)).all (fun x=>x.1.isSome)
   && decide ([b].length+([]:List Keyword).length+(if ([]:List Keyword).isEmpty then 0 else 1)<30))=true:=by rfl) (hline:(apos.endLine==pos.line)=true:=by rfl) (hs:starEach [b] Y.X.env=(false,eval b Y.X.env)::starEach [] Y.X.env:=by rfl):
  EvD Y (.Call (.Attribute a name apos) [b] [] pos) c d:=
 PE.imp (ut PySem.F.plainAttrs_str slot hty hm ho (xQ ha yq hs) hbase hfew hline hs rfl) fun σ H Q ⟨F,E,q⟩=>⟨F,E,fun v F1 H1 e1 r1=>by
  cases xN r1
  exact ⟨rfl,F1,E.grow e1,fun w F2 H2 e2 r2=>by
   cases xN r2
   exact hr F2 H2 Q e2.fh fun v' F3 H3 e3 r3=>q v' F3 H3 (e1.trans (e2.trans e3)) r3⟩⟩
theorem WG {cd:Nat} (ho:EvD Y a c (.str x)) (ha:EvD Y b c (.str ⟨#[cd]⟩)) (hbase:attributeBase a "startswith" Y.X.env (eval a Y.X.env)=eval a Y.X.env:=by rfl) (hfew:((backTo pos (starEach [b] Y.X.env)).all (fun x=> !x.1) && (backToKw pos (keywordEach [] Y.X.env)).all (fun x=>x.1.isSome)
   && decide ([b].length+([]:List Keyword).length+(if ([]:List Keyword).isEmpty then 0 else 1)<30))=true:=by rfl) (hline:(apos.endLine==pos.line)=true:=by rfl) (hs:starEach [b] Y.X.env=(false,eval b Y.X.env)::starEach [] Y.X.env:=by rfl):
  EvD Y (.Call (.Attribute a "startswith" apos) [b] [] pos) c (.bl (decide (x.cps.toList[0]? =some cd))):=
 xaS PySem.F.slot_str_startswith PySem.F.type_str_startswith Wm ho ha (fun F H Q f q=>⟨_,_,_,rfl,rfl,rfl,by
  have e:(decide (0+(⟨#[cd]⟩:Str).length<=x.length) && subAt x ⟨#[cd]⟩ 0)=decide (x.cps.toList[0]? =some cd):=Xx x cd 0
  rw [e]
  exact q _ F H (Ext.refl f) (.bl _)⟩) hbase hfew hline hs
theorem Vx {cd:Nat} (ho:EvD Y a c (.str x)) (ha:EvD Y b c (.str ⟨#[cd]⟩)) (hz:x.length<=1000000) (hbase:attributeBase a "partition" Y.X.env (eval a Y.X.env)=eval a Y.X.env:=by rfl) (hfew:((backTo pos (starEach [b] Y.X.env)).all (fun x=> !x.1) && (backToKw pos (keywordEach [] Y.X.env)).all (fun x=>x.1.isSome)
   && decide ([b].length+([]:List Keyword).length+(if ([]:List Keyword).isEmpty then 0 else 1)<30))=true:=by rfl) (hline:(apos.endLine==pos.line)=true:=by rfl) (hs:starEach [b] Y.X.env=(false,eval b Y.X.env)::starEach [] Y.X.env:=by rfl):
  EvD Y (.Call (.Attribute a "partition" apos) [b] [] pos) c (.tup [.str (tx (partL cd x.cps.toList).1),.str (tx (partL cd x.cps.toList).2.1),.str (tx (partL cd x.cps.toList).2.2)]):=
 xaS PySem.F.slot_str_partition PySem.F.type_str_partition (Yz (c:=cd)) ho ha (fun F H Q f q=>⟨x,rfl,rfl,xL hz,fun p hp=>q (.ref p) _ _ (Ext.new f hp _) (.tup (SqT.of xm) (.cons (.str _) (.cons (.str _) (.cons (.str _) .nil))))⟩) hbase hfew hline hs
theorem Xz {K:W.Frag} {F:Hp}:∀l:List (List Nat),Reps K F (l.map fun q=>V.str (tx q)) (l.map fun q=>D.str (tx q))
 | []=> .nil
 | _::r=> .cons (.str _) (Xz r)
theorem jz {cd:Nat} (ho:EvD Y a c (.str x)) (ha:EvD Y b c (.str ⟨#[cd]⟩)) (hz:x.length+1<=1000000) (hcd:cd<256:=by decide) (hbase:attributeBase a "split" Y.X.env (eval a Y.X.env)=eval a Y.X.env:=by rfl) (hfew:((backTo pos (starEach [b] Y.X.env)).all (fun x=> !x.1) && (backToKw pos (keywordEach [] Y.X.env)).all (fun x=>x.1.isSome)
   && decide ([b].length+([]:List Keyword).length+(if ([]:List Keyword).isEmpty then 0 else 1)<30))=true:=by rfl) (hline:(apos.endLine==pos.line)=true:=by rfl) (hs:starEach [b] Y.X.env=(false,eval b Y.X.env)::starEach [] Y.X.env:=by rfl):
  EvD Y (.Call (.Attribute a "split" apos) [b] [] pos) c (.lst ((splitL cd x.cps.toList).map fun q=> .str (tx q))):=
 xaS PySem.F.slot_str_split PySem.F.type_str_split (U7 hcd) ho ha (fun F H Q f q=>⟨x,rfl,rfl,xL hz,fun p hp=>q (.ref p) _ _ (Ext.new f hp _) (.lst (SqL.of xm) (Xz _))⟩) hbase hfew hline hs
def CstS (T:Tx) (x:Str) (z:Str):Prop:=∃t,T.mg x=some (.str z t)
def CstI (T:Tx) (x:Str) (i:Int):Prop:=∃t,T.mg x=some (.int i t)
theorem wP (S:Sn Y T N G) (gi:Nat) {x z:Str} (h:CstS T x z) (hg:G[gi]? =some x:=by rfl):EvD Y (.Name x pos) c (.str z):=by
 obtain ⟨t,hm⟩:=h
 have gl:=S.gl x (mz hg)
 exact PE.imp (ve (v:= .str z) gl.1 (by rw [S.eM];exact hm) ⟨t,rfl⟩ gl.2.1) fun σ H Q ⟨F,E,q⟩=>q _ F H (Ext.refl E.fh) (.str z)
theorem yt (S:Sn Y T N G) (gi:Nat) {x:Str} {i:Int} (h:CstI T x i) (hg:G[gi]? =some x:=by rfl):EvD Y (.Name x pos) c (.int i):=by
 obtain ⟨t,hm⟩:=h
 have gl:=S.gl x (mz hg)
 exact PE.imp (ve (v:= .int i) gl.1 (by rw [S.eM];exact hm) ⟨t,rfl⟩ gl.2.1) fun σ H Q ⟨F,E,q⟩=>q _ F H (Ext.refl E.fh) (.int i)
end
theorem xah {n:Int} {cd:Nat} (h0:2<=n) (h1:n<=100000):(⟨(List.replicate n.toNat (⟨#[cd]⟩:Str).cps).foldl (· ++ ·) #[]⟩:Str)=tx (List.replicate n.toNat cd):=by
 have gen:∀(m:Nat) (acc:Array Nat),(List.replicate m (#[cd]:Array Nat)).foldl (· ++ ·) acc=acc++(List.replicate m cd).toArray:=by
  intro m
  induction m with
  | zero=>intro acc;simp
  | succ m ih=>
   intro acc
   rw [List.replicate_succ,List.foldl_cons,ih,List.replicate_succ]
   apply Array.ext'
   simp
 unfold tx
 congr 1
 rw [show (⟨#[cd]⟩:Str).cps= #[cd] from rfl,gen]
 simp
theorem Ji {X:Cx}:OpR X (binaryOp .Mult) (fun x y H Q=>∃(n:Int) (cd:Nat),x= .str ⟨#[cd]⟩/\y= .int n/\2<=n/\n<=100000/\Q (.str (tx (List.replicate n.toNat cd))) H):=by
 intro pins s σ H x y ux uy Q I rx ry h
 obtain ⟨n,cd,rfl,rfl,h0,h1,q⟩:=h
 obtain ⟨t,rfl⟩:=rx
 obtain ⟨u,rfl⟩:=ry
 have hn:¬n<1:=by omega
 have hl:(⟨#[cd]⟩:Str).length=1:=rfl
 have h2:(n==1 || (⟨#[cd]⟩:Str).length==0)=false:=by
  rw [hl]
  simp
  omega
 have hsz:n.toNat<=sizeLine:=xL (by omega)
 refine PySem.P.mul_str ?_ ?_ ?_ ?_
 ·simp;omega
 ·intro _ _
  rw [hl]
  have:(1:Int)<=(2^63 - 1) / n:=by
   rw [Int.le_ediv_iff_mul_le (by omega)]
   omega
  intro z
  have z':(1:Int)>(2^63 - 1) / n:=z
  omega
 ·intro _ _
  rw [hl]
  unfold Builtin.Str.tooLong
  simp
  simpa using hsz
 ·rw [mF hn,h2,xah h0 h1]
  simp only [Bool.false_eq_true,if_false]
  refine ⟨?_,.str _,H,I.tok _,⟨_,rfl⟩,q⟩
  rw [yN]
  simpa using hsz
section
variable {Y:Cy} {T:Tx} {k:Nat} {N G:List Str} {c:List Slot} {a b e tg:Expr} {es:List Expr} {pos p2 apos:Pos} {d:D} {ds:List D} {x y:Str}
theorem YK {cd:Nat} {n:Int} (ha:EvD Y a c (.str ⟨#[cd]⟩)) (hb:EvD Y b c (.int n)) (h0:2<=n) (h1:n<=100000):EvD Y (.BinOp a .Mult b pos) c (.str (tx (List.replicate n.toNat cd))):=
 zg (t:=tC .non) (ta:=tC .non) (tb:=tC .non) (XC Ji ha hb) fun u v F H Q f rx ry q=>
  ⟨n,cd,xN rx,xw ry,h0,h1,q _ F H (Ext.refl f) (.str _)⟩
inductive JsP (Y:Cy) (c:List Slot):List Expr->Prop
 | nil:JsP Y c []
 | cons {e:Expr} {es:List Expr} {x:Str} (h:EvD Y e c (.str x)) (hx:x.length<=100000) (r:JsP Y c es) (he:evalEach (e::es) Y.X.env=eval e Y.X.env::evalEach es Y.X.env:=by rfl):JsP Y c (e::es)
theorem JsP.run {es:List Expr} (h:JsP Y c es):∀acc:Str,acc.length+100000*es.length<=1000000->∃z,JsD Y es c acc z/\z.length<=1000000:=by
 induction h with
 | nil=>intro acc ha;exact ⟨acc,v4,by simpa using ha⟩
 | cons h hx r he ih=>
  rename_i e es x
  intro acc ha
  have e1:(acc++x).length=acc.length+x.length:=PySem.Str.length_append acc x
  rw [List.length_cons] at ha
  obtain ⟨z,hz,hl⟩:=ih (acc++x) (by omega)
  exact ⟨z,yi h (by omega) hz he,hl⟩
theorem xaB {e1 e2:Expr} (h:JsP Y c (e1::e2::es)) (hn:es.length<=8:=by exact mC rfl):∃z,EvD Y (.JoinedStr (e1::e2::es) pos) c (.str z):=by
 obtain ⟨z,hz,hl⟩:=h.run Str.empty (by rw [show (Str.empty).length=0 from rfl,List.length_cons,List.length_cons];omega)
 exact ⟨z,XO hz hl⟩
end
section
variable {Y:Cy} {T:Tx} {k:Nat} {N G:List Str} {c:List Slot} {a b e tg:Expr} {es:List Expr} {pos p p2 cpos jp:Pos} {d:D} {ds xs ys:List D} {x y:Str} {rest:List Stmt} {P:Out->Prop}
theorem vO {e1 e2:Expr} (S:Sc Y T k N G) (gi:Nat) (hC:ClsX T x) (h:JsP Y c (e1::e2::es)) (hz:RzMN Y T x c) (hn:es.length<=8:=by exact mC rfl) (hg:G[gi]? =some x:=by rfl) (hpl:(backTo cpos (starEach [] Y.X.env)).any (·.1)=false:=by rfl):
  SsD Y (.Raise (some (.Call (.Name x p) [.JoinedStr (e1::e2::es) jp] [] cpos)) none pos::rest) c P:=by
 obtain ⟨z,q⟩:=xaB (pos:=jp) h hn
 exact yD S gi hC (xa q xc) hz (hg:=hg) (hpl:=hpl)
theorem xbq (h:EvD Y e c (.lst xs)) (he:xs=ys):EvD Y e c (.lst ys):=he▸h
theorem xaA (h:EvD Y e c (.str x)) (he:x=y):EvD Y e c (.str y):=he▸h
theorem len_str (h:x.length<=1000000):lenD (.str x)=some x.length:=mH h
theorem Uv {i:Nat} (h:(signs x)[i]? =some d):∃q,x.cps.toList[i]? =some q/\d= .str ⟨#[q]⟩:=by
 unfold signs at h
 rw [List.getElem?_map] at h
 cases q:x.cps.toList[i]? with
 | none=>rw [q] at h;cases h
 | some z=>rw [q] at h;cases h;exact ⟨z,rfl,rfl⟩
theorem VZ:(signs x).length=x.cps.toList.length:=by simp [signs]
end
def NoStar:Expr->Prop
 | .Starred .. =>False
 | _=>True
theorem yZ {e:Expr} {es:List Expr} {env:PySem.Env} (h:NoStar e):starEach (e::es) env=(false,eval e env)::starEach es env:=by
 cases e<;>first | rfl | exact h.elim
theorem yh {Y:Cy} {c:List Slot} {e:Expr} {es:List Expr} {d:D} {ds:List D} (ha:EvD Y e c d) (hr:ArD Y es c ds) (h:NoStar e:=by trivial):ArD Y (e::es) c (d::ds):=xa ha hr (yZ h)
noncomputable def lits:List Expr->Option (List Str)
 | []=>some []
 | .Constant (.str x) _ _::es=>(lits es).map (x:: ·)
 | _=>none
theorem wT {Y:Cy} {c:List Slot}:∀{es:List Expr} {xs:List Str},lits es=some xs->ArD Y es c (xs.map D.str)
 | [],xs,h=>by cases h;exact xc
 | .Constant (.str x) j pos::es,xs,h=>by
  have h':(lits es).map (x:: ·)=some xs:=h
  cases q:lits es with
  | none=>rw [q] at h';cases h'
  | some ys=>
   rw [q] at h'
   cases h'
   exact xa xk (wT q) (yZ True.intro)
end DL
set_option maxHeartbeats 4000000
namespace R
open PySem L2 DL
noncomputable def digs:List Nat:=[48,49,50,51,52,53,54,55,56,57]
theorem Zl (q:Nat):q∈digs↔48<=q/\q<=57:=by
 unfold digs
 simp only [List.mem_cons,List.not_mem_nil,or_false]
 omega
noncomputable def okFig (l:List Nat) (m:Nat):Bool:= !l.isEmpty && (decide (l.length<=m) && (!(decide (l[0]? =some 48) && decide (1<l.length)) && l.all fun q=>decide (q∈digs)))
def dv (l:List Nat):Nat:=l.foldl (fun n q=>n*10+(q - 48)) 0
def figs (l:List Nat) (m:Nat):Option Nat:=if okFig l m=true then some (dv l) else none
noncomputable def sgn (l:List Nat) (m:Nat):Option Int:=if l[0]? =some 45 then (match figs (l.drop 1) m with
  | some n=>if n=0 then none else some (-(n:Int))
  | none=>none) else (match figs l m with
  | some n=>some (n:Int)
  | none=>none)
noncomputable def frac (l:List Nat):Option (Int×Int):=match sgn (partL 47 l).1 60 with
 | none=>none
 | some t=>if (partL 47 l).2.1=[] then some (t,1) else match figs (partL 47 l).2.2 60 with
  | none=>none
  | some b=>if (b:Int)<2∨Int.gcd t b≠1 then none else some (t,(b:Int))
theorem zP (x y:Str):(x==y)=decide (x.cps.toList=y.cps.toList):=by
 by_cases h:x=y
 ·subst h;simp
 ·have h2:¬x.cps.toList=y.cps.toList:=fun z=>h (by rw [<-yX x,<-yX y,z])
  rw [decide_eq_false h2]
  exact beq_eq_false_iff_ne.mpr h
theorem zu {l:List Nat} {m:Nat} (h:okFig l m=true):l≠[]/\l.length<=m/\∀q∈l,48<=q/\q<=57:=by
 unfold okFig at h
 simp only [Bool.and_eq_true,decide_eq_true_eq,List.all_eq_true,Bool.not_eq_true'] at h
 refine ⟨fun z=>?_,h.2.1,fun q hq=>(Zl q).mp (h.2.2.2 q hq)⟩
 rw [z] at h
 exact absurd h.1 (by decide)
def nd (n:Nat):List Nat:=(Nat.toDigits 10 n).map Char.toNat
def wr (i:Int):List Nat:=if i<0 then 45::nd i.natAbs else nd i.natAbs
theorem Ky (i:Int):(Str.ofString (toString i)).cps.toList=wr i:=by
 unfold wr
 cases i with
 | ofNat n=>
  have h:¬(Int.ofNat n<0):=Int.not_lt.mpr (Int.natCast_nonneg n)
  rw [mF h]
  exact W.KIN.signs_num n
 | negSucc n=>
  have h:Int.negSucc n<0:=Int.negSucc_lt_zero n
  rw [mH h,PyProof.Rows.signs_ofString]
  show (("-" ++Nat.repr (n+1):String)).toList.map Char.toNat=45::nd (n+1)
  unfold nd
  rw [String.toList_append,List.map_append,Nat.toList_repr]
  rfl
theorem xag (n:Nat):dv (nd n)=n:=W.KIN.val_back n
theorem uL (n:Nat):∀q∈nd n,48<=q/\q<=57:=by
 intro q hq
 obtain ⟨ch,hch,e⟩:=List.mem_map.mp hq
 have r:=PyProof.Rows.digit_range (Nat.isDigit_of_mem_toDigits (by decide) (by decide) hch)
 rw [<-e]
 exact r
theorem qs {n:Nat} (h:n<10):nd n=[n+48]:=by
 unfold nd
 rw [Nat.toDigits_of_lt_base h]
 rcases (show n=0∨n=1∨n=2∨n=3∨n=4∨n=5∨n=6∨n=7∨n=8∨n=9 by omega) with rfl | rfl | rfl | rfl | rfl | rfl | rfl | rfl | rfl | rfl<;>rfl
theorem Vn {n:Nat} (h:10<=n):nd n=nd (n / 10)++ [n%10+48]:=by
 have hm:n%10<10:=Nat.mod_lt n (by decide)
 have t:Nat.toDigits 10 (n / 10)++Nat.toDigits 10 (n%10)=Nat.toDigits 10 (10*(n / 10)+n%10):=Nat.toDigits_append_toDigits (by decide) (by omega) hm
 rw [Nat.div_add_mod] at t
 have e:=qs hm
 unfold nd at e ⊢
 rw [<-t,List.map_append,e]
theorem uK:∀(k n:Nat),n<10^(k+1)->1<=(nd n).length/\(nd n).length<=k+1:=by
 intro k
 induction k with
 | zero=>intro n h;rw [qs (by simpa using h)];simp
 | succ k ih=>
  intro n h
  by_cases hn:n<10
  ·rw [qs hn];simp
  ·rw [Vn (by omega)]
   have:=ih (n / 10) (by rw [Nat.div_lt_iff_lt_mul (by decide)];rw [Nat.pow_succ] at h;exact h)
   simp;omega
theorem Jo:∀n:Nat,0<n->∃a r,nd n=a::r/\a≠48:=by
 intro n
 induction n using Nat.strongRecOn with
 | _ n ih=>
  intro h0
  by_cases hn:n<10
  ·rw [qs hn];exact ⟨_,_,rfl,by omega⟩
  ·obtain ⟨a,r,e,ha⟩:=ih (n / 10) (by omega) (by omega)
   rw [Vn (by omega),e]
   exact ⟨a,_,rfl,ha⟩
theorem xbb {n m:Nat} (h:n<10^(m+1)):okFig (nd n) (m+1)=true:=by
 have hl:=uK m n h
 unfold okFig
 simp only [Bool.and_eq_true,decide_eq_true_eq,List.all_eq_true,Bool.not_eq_true']
 refine ⟨?_,hl.2,?_,fun q hq=>(Zl q).mpr (uL n q hq)⟩
 ·cases q:nd n with
  | nil=>rw [q] at hl;simp at hl
  | cons _ _=>rfl
 ·by_cases h0:n=0
  ·subst h0;rw [qs (by decide)];rfl
  ·obtain ⟨a,r,e,ha⟩:=Jo n (by omega)
   rw [e];simp [ha]
theorem YG {n m:Nat} (h:n<10^(m+1)):figs (nd n) (m+1)=some n:=by unfold figs;rw [mH (xbb h),xag]
theorem XG {n c:Nat} (h:c<48∨57<c):c∉nd n:=fun z=>by have:=uL n c z;omega
theorem Ye {i:Int} {m:Nat} (h:i.natAbs<10^(m+1)):sgn (wr i) (m+1)=some i:=by
 unfold wr sgn
 by_cases hi:i<0
 ·rw [mH hi,mH (by rfl)]
  have e:(45::nd i.natAbs).drop 1=nd i.natAbs:=rfl
  rw [e,YG h]
  have:i.natAbs≠0:=by omega
  simp only [if_neg this]
  congr 1;omega
 ·rw [mF hi,mF,YG h]
  ·simp;omega
  ·intro z
   have:45∈nd i.natAbs:=mz z
   exact XG (.inl (by decide)) this
theorem Kg {i:Int}:47∉wr i:=by
 unfold wr
 split
 ·intro z
  rcases List.mem_cons.mp z with h | h
  ·cases h
  ·exact XG (.inl (by decide)) h
 ·exact XG (.inl (by decide))
theorem YD {c:Nat}:∀{l r:List Nat},c∉l->idx c (l++c::r)=l.length::(idx c r).map (· +(l.length+1))
 | [],r,_=>by
  rw [List.nil_append,show idx c (c::r)=if c=c then 0::(idx c r).map (· +1) else (idx c r).map (· +1) from rfl,mH rfl]
  simp
 | a::l,r,h=>by
  simp only [List.mem_cons,not_or] at h
  have ih:=YD (r:=r) h.2
  rw [List.cons_append,show idx c (a::(l++c::r))=if a=c then 0::(idx c (l++c::r)).map (· +1) else (idx c (l++c::r)).map (· +1) from rfl,mF (fun z=>h.1 z.symm),ih]
  simp
  intro x _
  omega
theorem QI {i:Int} (h:i.natAbs<10^60):frac (wr i)=some (i,1):=by
 unfold frac partL
 rw [(YA 47 _).mpr Kg]
 simp only [Ye (m:=59) h,if_true]
theorem ju {i:Int} {b:Nat} (h:i.natAbs<10^60) (hb:b<10^60) (h2:2<=b) (hg:Int.gcd i b=1):frac (wr i++47::nd b)=some (i,(b:Int)):=by
 unfold frac partL
 rw [YD Kg]
 simp only [List.take_left,Ye (m:=59) h]
 rw [if_neg (by simp)]
 have e:(wr i++47::nd b).drop ((wr i).length+1)=nd b:=by
  rw [<-List.drop_drop,List.drop_left];rfl
 rw [e,YG (m:=59) hb]
 simp only
 rw [mF]
 intro z
 rcases z with z | z
 ·omega
 ·exact z hg
theorem yM {i:Int} {k:Nat} (h:i.natAbs<10^(k+1)):(wr i).length<=k+2:=by
 have:=uK k i.natAbs h
 unfold wr
 split<;>simp<;>omega
theorem ZQ (i:Int):∀q∈wr i,q<128:=by
 intro q hq
 unfold wr at hq
 split at hq
 ·rcases List.mem_cons.mp hq with rfl | h
  ·decide
  ·have:=uL _ q h;omega
 ·have:=uL _ q hq;omega
def Tl (l:List Nat):Prop:=l.length<=3000/\∀q∈l,q<128
theorem Tl.sub {l r:List Nat} (h:Tl l) (s:r.Sublist l):Tl r:=⟨Nat.le_trans s.length_le h.1,fun q hq=>h.2 q (s.subset hq)⟩
theorem Tl.len {x:Str} (h:Tl x.cps.toList):x.length<=3000:=by rw [xJ];exact h.1
theorem Tl.tx {l:List Nat} (h:Tl l):Tl (tx l).cps.toList:=by rw [xr];exact h
theorem Tl.part {l:List Nat} (h:Tl l) (c:Nat):Tl (partL c l).1/\Tl (partL c l).2.2:=by
 unfold partL
 cases idx c l with
 | nil=>exact ⟨h,by simp [Tl]⟩
 | cons i t=>exact ⟨h.sub (List.take_sublist _ _),h.sub (List.drop_sublist _ _)⟩
theorem okf1 {x:Str} {m:Nat} (h:(x==("" :Str) || decide ((m:Int)<(x.length:Int)))=true):okFig x.cps.toList m=false:=by
 rw [zP,xJ] at h
 unfold okFig
 have e0:("" :Str).cps.toList=[]:=by rfl
 rw [e0] at h
 rcases Bool.or_eq_true_iff.mp h with h | h
 ·have:x.cps.toList=[]:=by simpa using h
  rw [this];rfl
 ·have:m<x.cps.toList.length:=by simpa using h
  rw [decide_eq_false (show ¬x.cps.toList.length<=m by omega)]
  simp
theorem okf2 {x:Str} {m:Nat} (h:(x==("" :Str) || decide ((m:Int)<(x.length:Int)))=false):∃a r,x.cps.toList=a::r/\x.cps.toList.length<=m:=by
 rw [zP,xJ] at h
 have e0:("" :Str).cps.toList=[]:=by rfl
 rw [e0] at h
 obtain ⟨h1,h2⟩:=Bool.or_eq_false_iff.mp h
 have h1:¬x.cps.toList=[]:=by simpa using h1
 have h2:x.cps.toList.length<=m:=by simpa using h2
 cases q:x.cps.toList with
 | nil=>exact absurd q h1
 | cons a r=>exact ⟨a,r,rfl,by rw [<-q];exact h2⟩
theorem okf3 {x:Str} {a:Nat} {r:List Nat} (hx:x.cps.toList=a::r):(((⟨#[a]⟩:Str)==("0" :Str)) && !(x==("0" :Str)))=(decide (x.cps.toList[0]? =some 48) && decide (1<x.cps.toList.length)):=by
 rw [zP,zP]
 have e0:("0" :Str).cps.toList=[48]:=by rfl
 rw [e0,hx]
 by_cases h:a=48
 ·subst h
  cases r<;>simp
 ·simp [h]
def rsO {α:Type} (o:Option α) (f:α->D) (y:Str):Rs:=match o with
 | some a=> .ok (f a)
 | none=> .ex y
theorem uX {x:Str} {m n:Nat} (hm:m<=600) (h:figs x.cps.toList m=some n):PySem.intText? x=some (n:Int):=by
 unfold figs at h
 split at h
 ·rename_i k
  cases h
  have o:=zu k
  exact PySem.intText_digits o.2.2 o.1 (by rw [xJ];omega)
 ·cases h
theorem Kx:∀(l:List Nat),(∀q∈l,48<=q/\q<=57)->∀a:Nat,l.foldl (fun n q=>n*10+(q - 48)) a<(a+1)*10^l.length
 | [],_,a=>by simp
 | q::r,h,a=>by
  have hq:=h q (by simp)
  have ih:=Kx r (fun z hz=>h z (mI _ hz)) (a*10+(q - 48))
  rw [List.foldl_cons,List.length_cons,Nat.pow_succ,Nat.mul_comm (10^r.length) 10,<-Nat.mul_assoc]
  refine mE ih (Nat.mul_le_mul_right _ ?_)
  omega
theorem YH {l:List Nat} {m n:Nat} (h:figs l m=some n):n<10^m:=by
 unfold figs at h
 split at h
 ·rename_i k
  cases h
  have o:=zu k
  have:=Kx l o.2.2 0
  rw [Nat.zero_add,Nat.one_mul] at this
  exact mE this (Nat.pow_le_pow_right (by decide) o.2.1)
 ·cases h
theorem Uw {l:List Nat} {m:Nat} {t:Int} (h:sgn l m=some t):t.natAbs<10^m:=by
 unfold sgn at h
 split at h
 ·split at h
  ·rename_i n q
   split at h
   ·cases h
   ·cases h
    have:=YH q
    omega
  ·cases h
 ·split at h
  ·rename_i n q
   cases h
   have:=YH q
   omega
  ·cases h
theorem X6 {i:Int} {c:Nat} (h1:c≠45) (h2:c<48∨57<c):c∉wr i:=by
 unfold wr
 split
 ·intro z
  rcases List.mem_cons.mp z with h | h
  ·exact h1 h
  ·exact XG h2 h
 ·exact XG h2
theorem Y7 {c:Nat} {l r:List Nat} (h:c∉l):partL c (l++c::r)=(l,[c],r):=by
 unfold partL
 rw [YD h]
 simp only [List.take_left]
 rw [<-List.drop_drop,List.drop_left]
 rfl
end R
namespace DL
open PySem L2
def bits (a:Int):Nat:=Builtin.Int.intBits a
theorem JX (a:Int):a.natAbs<2^bits a:=intBits_le_iff.mp (mJ _)
theorem JY {n:Nat} {a:Int} (h:Bd n a):bits a<=n:=YT h
theorem Wq {X:Cx}:MtR X "int.bit_length" (fun x xs H Q=>∃i,x= .int i/\xs=[]/\Q (.int ((bits i:Nat):Int)) H):=by
 intro pins s σ H x xs v us Q I rx r h
 obtain ⟨i,rfl,rfl,q⟩:=h
 obtain ⟨t,rfl⟩:=rx
 cases r
 exact call_gives PySem.F.slot_int_bit_length (typeIs_int s i t) PySem.F.entry_int_bit_length (PySem.F.args_int_bit_length_1 _) (PySem.AutoIntG2.int_bit_length_int_0 i t) ⟨.int _,H,I.tok _,⟨_,rfl⟩,q⟩
section
variable {Y:Cy} {c:List Slot} {a:Expr} {pos apos:Pos}
theorem WM {i:Int} (ho:EvD Y a c (.int i)) (hbase:attributeBase a "bit_length" Y.X.env (eval a Y.X.env)=eval a Y.X.env:=by rfl) (hline:(apos.endLine==pos.line)=true:=by rfl):EvD Y (.Call (.Attribute a "bit_length" apos) [] [] pos) c (.int ((bits i:Nat):Int)):=
 PE.imp (Qe PySem.F.plainAttrs_int PySem.F.slot_int_bit_length PySem.F.type_int_bit_length Wq ho hbase hline) fun σ H Q ⟨F,E,q⟩=>⟨F,E,fun v F1 H1 e1 r1=>by
  cases xw r1
  exact ⟨rfl,i,rfl,rfl,q _ F1 H1 e1 (.int _)⟩⟩
end
section
variable {Y:Cy} {T:Tx} {k:Nat} {N G:List Str} {c:List Slot} {a b:Expr} {pos apos:Pos} {d:D} {ds:List D}
noncomputable def eqT93:Value->Bool
 | .bool a=>a==true
 | _=>false
theorem X8:∀{bs:List Bool} {its:List Value},Vals (bs.map V.bl) its->its=bs.map Value.bool
 | [],_,.nil=>rfl
 | b::bs,_,.cons r rs=>by rw [X8 rs];rw [show _=Value.bool b from r];rfl
theorem vT {K:W.Frag} {F:Hp}:∀{bs:List Bool} {vs:List V},Reps K F vs (bs.map D.bl)->vs=bs.map V.bl
 | [],_,.nil=>rfl
 | b::bs,_,.cons r rs=>by rw [vT rs,zH r];rfl
theorem ZA:∀bs:List Bool,(bs.map Value.bool).countP eqT93=bs.count true
 | []=>rfl
 | b::bs=>by
  have:=ZA bs
  cases b
  ·simpa [eqT93] using this
  ·simp [eqT93,this]
theorem Wp {X:Cx}:MtR X "list.count" (fun x vs H Q=>∃(p:Addr) (bs:List Bool),x= .ref p/\vs=[.bl true]/\SqL X.K H p (bs.map V.bl)/\Q (.int (bs.count true:Nat)) H):=by
 intro pins s σ H x xs v us Q I rx r h
 obtain ⟨p,bs,rfl,rfl,hq,q⟩:=h
 cases rx
 obtain ⟨u,rfl,hu⟩:=vals1 r
 cases (show u=Value.bool true from hu)
 obtain ⟨its,r',pl,hz⟩:=I.list hq
 have e:=X8 r'
 subst e
 obtain ⟨o,ho,hc,n,hd⟩:=pl.isList
 obtain ⟨oc,od,odt,osl⟩:=o
 have hc:oc= .type "list" :=hc
 have hd:odt= .seq (bs.map Value.bool).toArray n:=hd
 subst hc
 subst hd
 refine call_meets PySem.F.slot_list_count ⟨_,ho,rfl⟩ PySem.F.entry_list_count (PySem.F.args_list_count_2 _ _)
  (SeqAt.list_countAt p (bs.map Value.bool).toArray n od osl (.bool true) eqT93) ⟨ho,?_,?_⟩
 ·intro y hy
  obtain ⟨b,_,rfl⟩:=List.mem_map.mp (show y∈bs.map Value.bool by simpa using hy)
  exact SeqAt.EqAt.bool_bool _ _
 ·have e:(bs.map Value.bool).toArray.toList.countP eqT93=bs.count true:=by simpa using ZA bs
  rw [e]
  exact ⟨.int _,H,I.tok _,⟨_,rfl⟩,q⟩
theorem Wo {X:Cx}:MtR X "list.index" (fun x vs H Q=>∃(p:Addr) (bs:List Bool) (j:Nat),x= .ref p/\vs=[.bl true]/\SqL X.K H p (bs.map V.bl)/\bs[j]? =some true/\(∀m,m<j->bs[m]?≠some true)/\Q (.int (j:Nat)) H):=by
 intro pins s σ H x xs v us Q I rx r h
 obtain ⟨p,bs,j,rfl,rfl,hq,hj,hno,q⟩:=h
 cases rx
 obtain ⟨u,rfl,hu⟩:=vals1 r
 cases (show u=Value.bool true from hu)
 obtain ⟨its,r',pl,hz⟩:=I.list hq
 have e:=X8 r'
 subst e
 obtain ⟨o,ho,hc,n,hd⟩:=pl.isList
 obtain ⟨oc,od,odt,osl⟩:=o
 have hc:oc= .type "list" :=hc
 have hd:odt= .seq (bs.map Value.bool).toArray n:=hd
 subst hc
 subst hd
 rw [sizeLine_eq] at hz
 have jl:j<bs.length:=(List.getElem?_eq_some_iff.mp hj).1
 have hz:bs.length<=16777216:=by simpa using hz
 refine call_meets PySem.F.slot_list_index ⟨_,ho,rfl⟩ PySem.F.entry_list_index (PySem.F.args_list_index_2 _ _)
  (SeqAt.list_indexAt p (bs.map Value.bool).toArray n od osl (.bool true) eqT93 j (by simpa using jl) (by omega) ?_ ?_) ⟨ho,?_,⟨.int _,H,I.tok _,⟨_,rfl⟩,q⟩⟩
 ·have hj':=(List.getElem?_eq_some_iff.mp hj).2
  simp [eqT93,hj']
 ·intro m hm hlt
  have hm':m<bs.length:=by simpa using hm
  have:=hno m hlt
  rw [mD hm'] at this
  cases hb:bs[m] with
  | true=>rw [hb] at this;exact absurd rfl this
  | false=>simp [eqT93,hb]
 ·intro y hy
  obtain ⟨b,_,rfl⟩:=List.mem_map.mp (show y∈bs.map Value.bool by simpa using hy)
  exact SeqAt.EqAt.bool_bool _ _
theorem WJ {bs:List Bool} (ho:EvD Y a c (.lst (bs.map D.bl))) (ha:EvD Y b c (.bl true))
  (hbase:attributeBase a "count" Y.X.env (eval a Y.X.env)=eval a Y.X.env:=by rfl) (hfew:((backTo pos (starEach [b] Y.X.env)).all (fun x=> !x.1) && (backToKw pos (keywordEach [] Y.X.env)).all (fun x=>x.1.isSome)
   && decide ([b].length+([]:List Keyword).length+(if ([]:List Keyword).isEmpty then 0 else 1)<30))=true:=by rfl) (hline:(apos.endLine==pos.line)=true:=by rfl) (hs:starEach [b] Y.X.env=(false,eval b Y.X.env)::starEach [] Y.X.env:=by rfl):
  EvD Y (.Call (.Attribute a "count" apos) [b] [] pos) c (.int ((bs.count true:Nat):Int)):=
 PE.imp (ut PySem.F.plainAttrs_list PySem.F.slot_list_count PySem.F.type_list_count Wp ho (xQ ha yq hs) hbase hfew hline hs rfl) fun σ H Q ⟨F,E,q⟩=>⟨F,E,fun v F1 H1 e1 r1=>by
  obtain ⟨p,vs,rfl,hp,rs⟩:=yL r1
  refine ⟨.inl ⟨rfl,vs,e1.fh.seq hp⟩,F1,E.grow e1,fun w F2 H2 e2 r2=>?_⟩
  cases zH r2
  have e:=vT rs
  subst e
  exact ⟨p,bs,rfl,rfl,e2.fh.seq (e2.ff.seq hp),q _ F2 H2 (e1.trans e2) (.int _)⟩⟩
theorem WI {bs:List Bool} {j:Nat} (ho:EvD Y a c (.lst (bs.map D.bl))) (ha:EvD Y b c (.bl true)) (hj:bs[j]? =some true) (hno:∀m,m<j->bs[m]?≠some true)
  (hbase:attributeBase a "index" Y.X.env (eval a Y.X.env)=eval a Y.X.env:=by rfl) (hfew:((backTo pos (starEach [b] Y.X.env)).all (fun x=> !x.1) && (backToKw pos (keywordEach [] Y.X.env)).all (fun x=>x.1.isSome)
   && decide ([b].length+([]:List Keyword).length+(if ([]:List Keyword).isEmpty then 0 else 1)<30))=true:=by rfl) (hline:(apos.endLine==pos.line)=true:=by rfl) (hs:starEach [b] Y.X.env=(false,eval b Y.X.env)::starEach [] Y.X.env:=by rfl):
  EvD Y (.Call (.Attribute a "index" apos) [b] [] pos) c (.int ((j:Nat):Int)):=
 PE.imp (ut PySem.F.plainAttrs_list PySem.F.slot_list_index PySem.F.type_list_index Wo ho (xQ ha yq hs) hbase hfew hline hs rfl) fun σ H Q ⟨F,E,q⟩=>⟨F,E,fun v F1 H1 e1 r1=>by
  obtain ⟨p,vs,rfl,hp,rs⟩:=yL r1
  refine ⟨.inl ⟨rfl,vs,e1.fh.seq hp⟩,F1,E.grow e1,fun w F2 H2 e2 r2=>?_⟩
  cases zH r2
  have e:=vT rs
  subst e
  exact ⟨p,bs,j,rfl,rfl,e2.fh.seq (e2.ff.seq hp),hj,hno,q _ F2 H2 (e1.trans e2) (.int _)⟩⟩
end
end DL
namespace DL
open PySem L2 PySem.Builtin PySem.Builtin.Str
def wordsS (a:Str):List Str:=if (spaceWords a (a.length+1)==[(0,a.length)])=true then [a] else wordsOf a
theorem Wn {X:Cx}:MtR X "str.split" (fun x vs H Q=>∃a,x= .str a/\vs=[]/\a.length<=sizeLine/\(spaceWords a (a.length+1)).length<=sizeLine/\∀p,H p=none->Q (.ref p) (upd H p (.lst ((wordsS a).map V.str)))):=by
 intro pins s σ H x xs v us Q I rx r h
 obtain ⟨a,rfl,rfl,hz,hn,q⟩:=h
 obtain ⟨t,rfl⟩:=rx
 cases r
 have q':=q s.heap.objs.size I.fresh
 refine call_meets PySem.F.slot_str_split (typeIs_str s a t) PySem.F.entry_str_split (PySem.F.args_str_split_1 _) (meets_str_split_space a t hz hn) ?_
 unfold wordsS at q'
 by_cases e:(spaceWords a (a.length+1)==[(0,a.length)])=true
 ·rw [mH e] at q' ⊢
  refine ⟨.ref _,_,I.laid (t':=s.toks) (a:=s.heap.objs.size) (o:= .lst _) (fun b o z=>Heap.get?_push_of_some _ z) (mJ _) ?_,rfl,q'⟩
  exact ⟨mC rfl,[.str a t],0,.cons ⟨_,rfl⟩ .nil,Heap.get?_push_size _ rfl⟩
 ·rw [mF e] at q' ⊢
  refine ⟨.ref _,_,I.laid (a:=s.heap.objs.size) (o:= .lst _) (fun b o z=>Heap.get?_push_of_some _ z) (mJ _) ?_,rfl,q'⟩
  refine ⟨by rw [mB];unfold wordsOf;rw [mB];exact hn,strsFrom s.toks (wordsOf a),0,vL s.toks (wordsOf a),Heap.get?_push_size _ rfl⟩
section
variable {Y:Cy} {T:Tx} {k:Nat} {N G:List Str} {c:List Slot} {a b:Expr} {pos apos:Pos} {x:Str}
theorem ui {K:W.Frag} {F:Hp}:∀ws:List Str,Reps K F (ws.map V.str) (ws.map D.str)
 | []=> .nil
 | w::r=> .cons (.str w) (ui r)
theorem WH (ho:EvD Y a c (.str x)) (hz:x.length<=1000000) (hn:(spaceWords x (x.length+1)).length<=1000000) (hbase:attributeBase a "split" Y.X.env (eval a Y.X.env)=eval a Y.X.env:=by rfl) (hline:(apos.endLine==pos.line)=true:=by rfl):
  EvD Y (.Call (.Attribute a "split" apos) [] [] pos) c (.lst ((wordsS x).map D.str)):=
 PE.imp (Qe PySem.F.plainAttrs_str PySem.F.slot_str_split PySem.F.type_str_split Wn ho hbase hline) fun σ H Q ⟨F,E,q⟩=>⟨F,E,fun v F1 H1 e1 r1=>by
  cases xN r1
  exact ⟨rfl,x,rfl,rfl,xL hz,xL hn,fun p hp=>q (.ref p) _ _ (e1.trans (Ext.new e1.fh hp _)) (.lst (SqL.of xm) (ui _))⟩⟩
end
end DL
namespace DL
open PySem L2
def isDsk:Slot->Bool
 | .dsk _ _ _ _ _ _=>true
 | _=>false
def rmD (H:Hp) (a l:Addr):Hp:=fun b=>if b=a∨b=l then none else H b
section
variable {K:W.Frag} {F₀ H₀ F H F' H':Hp} {σ:St} {c:List Slot} {i:Nat} {a l C b:Addr} {p s p' s':D} {past past':List D} {o:HO}
theorem zq (h:H b=some o) (ha:b≠a) (hl:b≠l):rmD H a l b=some o:=by
 unfold rmD
 rw [mF (fun z=>z.elim ha hl)]
 exact h
theorem qN (h:rmD H a l b=some o):b≠a/\b≠l/\H b=some o:=by
 unfold rmD at h
 by_cases e:b=a∨b=l
 ·rw [mH e] at h;cases h
 ·rw [mF e] at h
  exact ⟨fun z=>e (.inl z),fun z=>e (.inr z),h⟩
theorem UE:rmD H a l a=none:=by unfold rmD;rw [mH (.inl rfl)]
theorem xa7:rmD H a l l=none:=by unfold rmD;rw [mH (.inr rfl)]
theorem Jp {dx:Option Addr} {vs:List V} (h:∃h,LstAt l vs h) (e:HO.ext (LstAt l vs)=HO.ext (ExcAt C dx l)):False:=by
 obtain ⟨h,t⟩:=h
 have e2:LstAt l vs=ExcAt C dx l:=by injection e
 have t2:ExcAt C dx l h:=by rw [<-e2];exact t
 obtain ⟨_,its,n,_,g1⟩:=t
 obtain ⟨o,ws,g2,_,g3,_⟩:=t2
 rw [g1] at g2
 cases g2
 cases g3
theorem jQ:∀{c:List Slot} {i:Nat},slot c i= .dsk a l C p s past->i<c.length
 | [],_,h=>by cases h
 | _::_,0,_=>by simp
 | _::r,i+1,h=>by simpa using jQ (c:=r) (i:=i) h
theorem Env.dsk_at (E:Env K F₀ H₀ F H σ c) (hs:slot c i= .dsk a l C p s past):σ[i]? =some (some (.ref a))/\DskOk K H₀ F H a l C p s past:=by
 have q:=E.sl i
 rw [hs] at q
 exact q
theorem Env.dsk_to (E:Env K F₀ H₀ F H σ c) (hs:slot c i= .dsk a l C p s past) (hno:∀j,j≠i->isDsk (slot c j)=false) (x:Ext F (rmD H a l) F' (rmD H' a l)) (hd:DskOk K H₀ F' H' a l C p' s' past'):
  Env K F₀ H₀ F' H' σ (put c i (.dsk a l C p' s' past')):=by
 obtain ⟨hσ,dx,vs,u,v,ha,hl,hw,fa,fl,h0a,h0l,_⟩:=E.dsk_at hs
 have hv:∀b o,H b=some o->b≠a->b≠l->H' b=some o:=fun b o h na nl=>(qN (x.hh b o (zq h na nl))).2.2
 have fn:∀b o,H b=some o->b≠a->b≠l->F b=none->F' b=none:=fun b o h na nl hf=>x.fr b (by rw [zq h na nl];exact fun z=>nomatch z) hf
 have ap:∀b o,H b=some o->NotDsk b o->b≠a/\b≠l:=fun b o h n=>⟨fun z=>(by subst z;rw [ha] at h;cases h;exact n.1 _ _ _ rfl),fun z=>(by subst z;rw [hl] at h;cases h;exact n.2 _ rfl)⟩
 refine ⟨⟨E.ext.ff.trans x.ff,fun b o q=>(qN (x.fh b o q)).2.2,fun b o q=>?_,fun b hb fb=>?_⟩,by rw [yb];exact E.len,fun j=>?_,fun j k b h1 h2 h3 h4=>?_⟩
 ·exact hv b o (E.ext.hh b o q) (fun z=>by rw [z,h0a] at q;cases q) (fun z=>by rw [z,h0l] at q;cases q)
 ·cases q:H₀ b with
  | none=>exact absurd q hb
  | some o=>exact fn b o (E.ext.hh b o q) (fun z=>by rw [z,h0a] at q;cases q) (fun z=>by rw [z,h0l] at q;cases q) (E.ext.fr b hb fb)
 ·by_cases e:i=j
  ·subst e
   rw [xV _ _ _ (jQ hs)]
   exact ⟨hσ,hd⟩
  ·rw [xt _ _ _ _ e]
   have q:=E.sl j
   cases hj:slot c j with
   | un=>trivial
   | val d=>rw [hj] at q;obtain ⟨y,h,r⟩:=q;exact ⟨y,h,r.mono x.ff⟩
   | own ds=>
    rw [hj] at q
    obtain ⟨b,us,h,g1,g2,g3,r⟩:=q
    have ⟨n1,n2⟩:=ap b _ g1 Yy
    exact ⟨b,us,h,hv b _ g1 n1 n2,fn b _ g1 n1 n2 g2,g3,r.mono x.ff⟩
   | dic ds=>
    rw [hj] at q
    obtain ⟨b,us,h,g1,g2,g3,r⟩:=q
    have ⟨n1,n2⟩:=ap b _ g1 xbc
    exact ⟨b,us,h,hv b _ g1 n1 n2,fn b _ g1 n1 n2 g2,g3,r.mono x.ff⟩
   | thg t=>
    rw [hj] at q
    obtain ⟨b,us,h,g1,g2,g3,r⟩:=q
    have ⟨n1,n2⟩:=ap b _ g1 r.2
    exact ⟨b,us,h,hv b _ g1 n1 n2,fn b _ g1 n1 n2 g2,g3,r.mono x.ff⟩
   | bor t=>rw [hj] at q;obtain ⟨b,o,h,g1,r⟩:=q;exact ⟨b,o,h,g1,r.mono x.ff⟩
   | fnv f=>rw [hj] at q;exact q
   | dsk a' l' C' p' s' past'=>have:=hno j (Ne.symm e);rw [hj] at this;cases this
   | exc C dx=>
    rw [hj] at q
    obtain ⟨b,h,g1⟩:=q
    refine ⟨b,h,hv b _ g1 (fun z=>by subst z;rw [ha] at g1;cases g1) (fun z=>?_)⟩
    subst z
    rw [hl] at g1
    exact Jp hw (by injection g1)
 ·have own:∀m,isOwn (slot (put c i (.dsk a l C p' s' past')) m)=true->isOwn (slot c m)=true:=fun m hm=>by
   by_cases e:i=m
   ·subst e;rw [hs];rfl
   ·rw [xt _ _ _ _ e] at hm;exact hm
  exact E.inj j k b (own j h1) (own k h2) h3 h4
end
section
variable {X:Cx} {pins:List (Addr×Obj)} {σ:St} {H:Hp} {s:Shared} {l:Addr} {vs:List V} {e:Expr} {t:TE}
theorem _root_.L2.Inv.unl (I:Inv X pins σ H s) (h:H l=some (.ext (LstAt l vs))):Inv X pins σ (upd H l (.lst vs)) s:=by
 obtain ⟨hl,⟨o,ho⟩,_⟩:=I.hok l _ h
 exact I.write (h':=s.heap) (t':=s.toks) (by rw [h];trivial) (.inl rfl) (fun _ _ _ q=>q) ⟨o,ho⟩ hl
theorem _root_.L2.Inv.lstx (I:Inv X pins σ H s) (h:H l=some (.lst vs)):Inv X pins σ (upd H l (.ext (LstAt l vs))) s/\LstAt l vs s.heap:=by
 have hl:LstAt l vs s.heap:=I.hok l _ h
 have ho:∃o,s.heap.get? l=some o:=by obtain ⟨_,its,n,_,e⟩:=hl;exact ⟨_,e⟩
 refine ⟨I.write (h':=s.heap) (t':=s.toks) (by rw [h];trivial) (.inl rfl) (fun _ _ _ q=>q) ho ⟨hl,ho,fun h1 h2 g k=>?_⟩,hl⟩
 obtain ⟨h0,its,n,g1,g2⟩:=g
 exact ⟨h0,its,n,g1,k _ g2⟩
theorem PE.unl (h:PE X e t):PE X e (fun σ H Q=>∃l vs,H l=some (.ext (LstAt l vs))/\t σ (upd H l (.lst vs)) (fun v H'=>∃vs',H' l=some (.lst vs')/\((∃h,LstAt l vs' h)->Q v (upd H' l (.ext (LstAt l vs')))))):=by
 intro pins s σ H Q I ⟨l,vs,hl,q⟩
 refine thn (h pins s σ _ _ (I.unl hl) q) fun u s1 ⟨v,H',I',rv,vs',h',q'⟩=>?_
 have J:=I'.lstx h'
 exact ⟨v,_,J.1,rv,q' ⟨_,J.2⟩⟩
end
structure DskK (K:W.Frag) (C:Addr):Prop where
 cl:Cls K C
 np:NoAttr K C "prime"
 ns:NoAttr K C "spot"
 ne:NoAttr K C "earlier"
noncomputable def dskKb (K:W.Frag) (C:Addr):Bool:=W.plainGet K C Str.empty && (W.hasDictIn K C && (W.plainOver K C && (W.findIn K (.ref C) "__setattr__" ==some (some (.builtin "object.__setattr__")) && (W.findIn K (.ref C) "prime" ==some none && (W.findIn K (.ref C) "spot" ==some none && W.findIn K (.ref C) "earlier" ==some none)))))
theorem JU {K:W.Frag} {C:Addr} (h:dskKb K C=true):DskK K C:=by
 unfold dskKb at h
 simp only [Bool.and_eq_true,beq_iff_eq] at h
 obtain ⟨a,b,c,d,e,f,g⟩:=h
 exact ⟨⟨a,b,c,d⟩,e,f,g⟩
inductive RsM where
 | ok (d s:D) (past:List D) | ex (x:Str)
def spM (T:Tx) (R:D->D->List D->List D->RsM->Prop):Sp:=fun vs H Q E=>∃F a l C p s past ws ds r,vs= .ref a::ws/\Same F H/\Reps T.K F ws ds/\T.mg "Desk" =some (.ref C)/\DskOk T.K (rmD H a l) F H a l C p s past/\R p s past ds r/\(match r with
 | .ok d s' past'=>∀v F' H',Ext F (rmD H a l) F' (rmD H' a l)->DskOk T.K (rmD H a l) F' H' a l C p s' past'->Rep T.K F' v d->Q v H'
 | .ex x=>∀C' F' H',T.mg x=some (.ref C')->Ext F (rmD H a l) F' (rmD H' a l)->DskOk T.K (rmD H a l) F' H' a l C p s past->E (.ref C') none H')
structure FnS (T:Tx) (k:Nat) (x:Str) (R:D->D->List D->List D->RsM->Prop):Prop where
 ex:∃(f:Addr) (fd:FuncData) (ps:List Str),T.mg x=some (.ref f)/\W.keepIn T.K (.ref f)=true/\Binds T.K fd ps []/\FnOk T.prog T.w T.K T.mg T.base (CXE T.prog T.w) k f fd ps (spM T R)
structure FnMt (T:Tx) (k:Nat) (m:Str) (R:D->D->List D->List D->RsM->Prop):Prop where
 ex:∃(C f:Addr) (fd:FuncData) (ps:List Str),T.mg "Desk" =some (.ref C)/\Cls T.K C/\Meth T.K C m f/\Binds T.K fd ps []/\FnOk T.prog T.w T.K T.mg T.base (CXE T.prog T.w) k f fd ps (spM T R)
noncomputable def ctxM (N:List Str) (a l C:Addr) (p s:D) (past ds:List D):List Slot:= .dsk a l C p s past::(ds.map Slot.val++List.replicate (N.length - (ds.length+1)) Slot.un)
def outM (Y:Cy) (a l C:Addr) (p s:D) (past:List D) (d:D):Out:= .rs fun K F H1 v H=>H=H1/\DskOk K Y.H0 F H a l C p s past/\Rep K F v d
def RetM (Y:Cy) (a l C:Addr) (p:D):RsM->Out->Prop
 | .ok d s past=>fun o=>o=outM Y a l C p s past d
 | .ex _=>fun _=>False
section
variable {K:W.Frag} {F₀ H₀ F H F' H' H2:Hp} {a l C:Addr} {p s:D} {past:List D}
theorem DskOk.base (h:DskOk K H₀ F H a l C p s past) (ha:H2 a=none) (hl:H2 l=none):DskOk K H2 F H a l C p s past:=by
 obtain ⟨dx,vs,x,y,h1,h2,h3,h4,h5,h6,h7,r⟩:=h
 exact ⟨dx,vs,x,y,h1,h2,h3,h4,h5,ha,hl,r⟩
theorem DskOk.fa (h:DskOk K H₀ F H a l C p s past):F a=none/\F l=none/\H₀ a=none/\H₀ l=none:=by
 obtain ⟨dx,vs,x,y,h1,h2,h3,h4,h5,h6,h7,r⟩:=h
 exact ⟨h4,h5,h6,h7⟩
theorem Ext.rm1 (x:Ext F (rmD H a l) F' H') (ha:F' a=none) (hl:F' l=none):Ext F (rmD H a l) F' (rmD H' a l) where
 ff:=x.ff
 fh:=fun b o q=>zq (x.fh b o q) (fun z=>by rw [z,ha] at q;cases q) (fun z=>by rw [z,hl] at q;cases q)
 hh:=fun b o q=>by
  obtain ⟨h1,h2,_⟩:=qN q
  exact zq (x.hh b o q) h1 h2
 fr:=x.fr
theorem JW {n:Nat} (hd:DskOk K (rmD H a l) F H a l C p s past) {vs:List V} {ds:List D} (r:Reps K F vs ds):∀i,SlotOk K (rmD H a l) F H ((some (V.ref a)::(vs.map some++List.replicate n none))[i]?) (slot (.dsk a l C p s past::(ds.map Slot.val++List.replicate n Slot.un)) i)
 | 0=>⟨rfl,hd⟩
 | i+1=>by
  have q:=wZ (K:=K) (F:=F) (H0:=rmD H a l) (H:=H) (n:=n) r i
  exact q
theorem QO {N:List Str} {vs:List V} {ds:List D} (f:Same F H) (r:Reps K F vs ds) (hd:DskOk K (rmD H a l) F H a l C p s past):Env K F (rmD H a l) F H (L2.start N (.ref a::vs)) (ctxM N a l C p s past ds) where
 ext:=⟨Same.refl F,f,fun b o q=>(qN q).2.2,fun _ _ z=>z⟩
 len:=by
  unfold L2.start ctxM
  simp [r.length]
 sl:=fun i=>by
  unfold L2.start ctxM
  rw [List.length_cons,r.length]
  exact JW hd r i
 inj:=fun i j b h1 h2 _ _=>by
  have key:∀i,isOwn (slot (ctxM N a l C p s past ds) i)=true->i=0:=fun i h=>by
   cases i with
   | zero=>rfl
   | succ i=>
    exfalso
    have h:isOwn (slot (ds.map Slot.val++List.replicate (N.length - (ds.length+1)) Slot.un) i)=true:=h
    rw [vN] at h
    cases h
  rw [key i h1,key j h2]
end
section
variable {Y:Cy} {T:Tx} {k j:Nat} {N G ps:List Str} {c c' c'':List Slot} {e a b:Expr} {es:List Expr} {pos p:Pos} {d d1 d2:D} {ds:List D} {R:D->D->List D->List D->RsM->Prop} {x qual y m:Str} {P:Out->Prop} {rest:List Stmt}
theorem jv {st:Stmt} {f:Addr} {fd:FuncData} (F:Fun T.K x qual st f fd) (B:ScB N ps G (defScope st)) (hlen:∀p s past ds r,R p s past ds r->ds.length+1=ps.length)
  (body:∀(Y:Cy) (S:Sc Y T k N G) (Z:Fx Y st) (a l C:Addr) (p s:D) (past ds:List D) (r:RsM),T.mg "Desk" =some (.ref C)->R p s past ds r->(∀y,r= .ex y->∀c,slot c 0= .dsk a l C p s past->(RzN Y T y c/\RzMN Y T y c)/\RzSN Y T y c)->SsD Y (defBody st) (ctxM N a l C p s past ds) (RetM Y a l C p r)):
  FnOk T.prog T.w T.K T.mg T.base (CXE T.prog T.w) (k+1) f fd ps (spM T R):=by
 obtain ⟨oc,od,kV,doc,pm,an,cdv,ct,osl,rfl,lk,hcd⟩:=F.ex
 refine XL lk hcd B.fs (fun vs H Q E h=>?_) fun A outer s H vs Q E hr h=>?_
 ·obtain ⟨F0,a,l,C,p,s,past,ws,ds,r,rfl,_,rs,_,_,hR,_⟩:=h
  rw [List.length_cons,rs.length];exact hlen _ _ _ _ _ hR
 ·obtain ⟨F0,a,l,C,p,s0,past,ws,ds,r,rfl,f0,rs,hC,hd,hR,q⟩:=h
  have S:Sc ⟨cxOf (CXE T.prog T.w) T.prog T.w T.K T.mg T.base N qual (defScope st) f cdv A outer s H E,F0,rmD H a l⟩ T k N G:=
   ⟨⟨⟨rfl,rfl,rfl,rfl,rfl,rfl,B.fs.nd,B.loc,B.gl⟩,rfl,hr⟩,fun _=>rfl,PassesOwn.leaving⟩
  refine ⟨_,body _ S ⟨rfl,rfl,rfl,rfl⟩ a l C p s0 past ds r hC hR (fun y hy c hc=>?_),F0,QO f0 rs hd,fun o ho=>?_⟩
  ·subst hy
   have q:∀C' F' H',T.mg y=some (.ref C')->Ext F0 (rmD H a l) F' (rmD H' a l)->DskOk T.K (rmD H a l) F' H' a l C p s0 past->E (.ref C') none H':=q
   refine ⟨⟨fun C' hC'=>⟨fun I _ _ En L=>qt I rfl ⟨rfl,rfl⟩ L fun s' L=>⟨_,C',_,rfl,L,q C' _ _ hC' (Ext.rm1 En.ext (En.dsk_at hc).2.fa.1 (En.dsk_at hc).2.fa.2.1) (En.dsk_at hc).2⟩⟩,
    fun C' hC'=>⟨fun I En M=>zX I rfl ⟨rfl,rfl⟩ M fun s' L=>⟨_,C',_,rfl,L,q C' _ _ hC' (Ext.rm1 En.ext (En.dsk_at hc).2.fa.1 (En.dsk_at hc).2.fa.2.1) (En.dsk_at hc).2⟩⟩⟩,fun C' hC'=>⟨rfl,⟨rfl,rfl⟩,fun L En=>L.leave fun s' L=>⟨_,C',_,rfl,L,q C' _ _ hC' (Ext.rm1 En.ext (En.dsk_at hc).2.fa.1 (En.dsk_at hc).2.fa.2.1) (En.dsk_at hc).2⟩⟩⟩
  ·cases r with
   | ex y=>exact False.elim ho
   | ok d s' past'=>
    cases ho
    rintro v F' H1 H2 _ ex ⟨rfl,hk,r'⟩
    exact q v F' H2 (Ext.rm1 ex hk.fa.1 hk.fa.2.1) hk r'
theorem Zw {st:Stmt} {f:Addr} {fd:FuncData} (F:Fun T.K x qual st f fd) (B:ScB N ps G (defScope st)) (hlen:∀p s past ds r,R p s past ds r->ds.length+1=ps.length)
  (body:∀(Y:Cy) (S:Sc Y T k N G) (Z:Fx Y st) (a l C:Addr) (p s:D) (past ds:List D) (r:RsM),T.mg "Desk" =some (.ref C)->R p s past ds r->(∀y,r= .ex y->∀c,slot c 0= .dsk a l C p s past->RzN Y T y c/\RzMN Y T y c)->SsD Y (defBody st) (ctxM N a l C p s past ds) (RetM Y a l C p r)):
  FnOk T.prog T.w T.K T.mg T.base (CXE T.prog T.w) (k+1) f fd ps (spM T R):=
 jv F B hlen fun Y S Z a l C p s past ds r hC hR hz=>body Y S Z a l C p s past ds r hC hR fun y hy c hc=>(hz y hy c hc).1
theorem xbI {st:Stmt} (A:At T x st) (B:ScB N ps G (defScope st)) (hb:∀f fd,Fun T.K x x st f fd->Binds T.K fd ps []) (hlen:∀p s past ds r,R p s past ds r->ds.length+1=ps.length)
  (body:∀(Y:Cy) (S:Sc Y T k N G) (Z:Fx Y st) (a l C:Addr) (p s:D) (past ds:List D) (r:RsM),T.mg "Desk" =some (.ref C)->R p s past ds r->(∀y,r= .ex y->∀c,slot c 0= .dsk a l C p s past->RzN Y T y c/\RzMN Y T y c)->SsD Y (defBody st) (ctxM N a l C p s past ds) (RetM Y a l C p r)):FnS T (k+1) x R:=
 let ⟨f,fd,F,hm⟩:=A
 ⟨f,fd,ps,hm,F.kp,hb f fd F,Zw F B hlen body⟩
def tE (Y:Cy) (c c':List Slot) (d:D):TE:=fun σ H Q=>∃F,EnvY Y F H σ c/\∀v F' H',Same F F'->EnvY Y F' H' σ c'->Rep Y.X.K F' v d->Q v H'
def EvS (Y:Cy) (e:Expr) (c:List Slot) (d:D) (c':List Slot):Prop:=PE Y.X e (tE Y c c' d)
def tTS (Y:Cy) (c c':List Slot) (b:Bool):TT:=fun σ H Q=>∃F,EnvY Y F H σ c/\∀F' H',Same F F'->EnvY Y F' H' σ c'->Q b H'
def TeS (Y:Cy) (e:Expr) (c:List Slot) (b:Bool) (c':List Slot):Prop:=PT Y.X e (tTS Y c c' b)
theorem v7 (h:EvD Y e c d):EvS Y e c d c:=PE.imp h fun σ H Q ⟨F,E,q⟩=>⟨F,E,fun v F' H' x r=>q v F' H' x.ff (E.grow x) r⟩
theorem Q2 {op:CmpOp} {r:R2} {v:Bool} (ho:OpR Y.X (compareOp op) r) (hm:behindInMarks op b=false) (ha:EvS Y a c d1 c') (hb:EvD Y b c' d2)
  (hr:∀x y F H Q,Same F H->Rep Y.X.K F x d1->Rep Y.X.K F y d2->(∀F' H',Ext F H F' H'->Q (.bl v) H')->r x y H Q):TeS Y (.Compare a [op] [b] pos) c v c':=
 PT.imp (Yj ho ha hb hm) fun σ H Q ⟨F,E,q⟩=>⟨F,E,fun x F1 H1 s1 E1 r1=>⟨F1,E1,fun y F2 H2 e2 r2=>
  hr x y F2 H2 _ e2.fh (r1.mono e2.ff) r2 fun F3 H3 e3=>⟨v,rfl,q F3 H3 (s1.trans (e2.ff.trans e3.ff)) ((E1.grow e2).grow e3)⟩⟩⟩
theorem Ya (S:Se Y T k N G) (ha:EvS Y a c d1 c') (hb:EvD Y b c' d2) (h1:SeqAt.shaped (toPy d1)=true:=by rfl) (h2:SeqAt.shaped (toPy d2)=true:=by rfl):TeS Y (.Compare a [.NotEq] [b] pos) c (!eqD d1 d2) c':=
 Q2 (UX S.room.units h1 h2) (nomark _) ha hb fun x y F H Q f rx ry q=>⟨F,f,rx,ry,q F H (Ext.refl f)⟩
theorem JH (S:Se Y T k N G) (ha:EvS Y a c d1 c') (hb:EvD Y b c' d2) (h1:SeqAt.shaped (toPy d1)=true:=by rfl) (h2:SeqAt.shaped (toPy d2)=true:=by rfl):EvS Y (.Compare a [.Eq] [b] pos) c (.bl (eqD d1 d2)) c':=
 PE.imp (vf (Yo S.room.units h1 h2) ha hb (nomark _)) fun σ H Q ⟨F,E,q⟩=>⟨F,E,fun x F1 H1 s1 E1 r1=>⟨F1,E1,fun y F2 H2 e2 r2=>
  ⟨F2,e2.fh,r1.mono e2.ff,r2,q _ F2 H2 (s1.trans e2.ff) (E1.grow e2) (.bl _)⟩⟩⟩
theorem KD {w:Bool} (ha:TeS Y a c false c') (hb:PW Y.X (.BoolOp .Or (b::es) pos) (tTS Y c' c'' w)):PW Y.X (.BoolOp .Or (a::b::es) pos) (tTS Y c c'' w):=by
 intro whole pins s σ H Q I h
 refine UJ ha hb whole pins s σ H Q I ?_
 obtain ⟨F,E,q⟩:=h
 exact ⟨F,E,fun F1 H1 s1 E1=>L2.iteF ⟨F1,E1,fun F2 H2 s2 E2=>q F2 H2 (s1.trans s2) E2⟩⟩
theorem kx {v:Bool} (ha:TeS Y a c v c'):PW Y.X (.BoolOp .Or [a] pos) (tTS Y c c' v):=UI ha
theorem ZY {t:Expr} {sa sb:List Stmt} {v:Bool} (ht:TeS Y t c v c') (ha:v=true->SsD Y sa c' (Thn Y rest P)) (hb:v=false->SsD Y sb c' (Thn Y rest P)):SsD Y (.If t sa sb pos::rest) c P:=by
 refine xF ?_
 cases v with
 | true=>exact PS.imp (Vb ht (ha rfl) (qC (sts:=sb))) fun D σ H ⟨F,E,m⟩=>⟨F,E,fun F1 H1 s1 E1=>L2.iteT ⟨F1,E1,fun o ho=>(m o ho).grow s1⟩⟩
 | false=>exact PS.imp (Vb ht (qC (sts:=sa)) (hb rfl)) fun D σ H ⟨F,E,m⟩=>⟨F,E,fun F1 H1 s1 E1=>L2.iteF ⟨F1,E1,fun o ho=>(m o ho).grow s1⟩⟩
theorem kB (S:Sc Y T k N G) (i:Nat) {x:Str} {pos':Pos} (he:EvS Y e c d c')
  (hr:SsD Y rest (put c' i (.val d)) P) (hi:N[i]? =some x:=by rfl) (hlt:i<c'.length:=by first | exact mC rfl | decide | omega) (hs:swapsWith e (some (.Name x pos')) pos.line Y.X.env=pure false:=by rfl):SsD Y (.Assign [.Name x pos'] e pos::rest) c P:=by
 have hx:=S.loc x (mz hi)
 have hN:=S.nd
 rw [<-S.n] at hi hN
 refine xF (PS.imp (qO hN hi hx.1 he hs (.inl (S.fn x))) fun D σ H ⟨F,E,m⟩=>⟨F,E,fun v F' H' s' E' r'=>?_⟩)
 exact m (.nx (put c' i (.val d))) hr _ F' H' s' (E'.set hlt r')
theorem kF (h:EvS Y e c d c') (hp:P (.rt d)):SsD Y (.Return (some e) pos::rest) c P:=
 xF (PS.imp (Yl h) fun D σ H ⟨F,E,m⟩=>⟨F,E,fun v F' H' s' E' r=>m (.rt d) hp v F' H' s' E'.ext r⟩)
theorem y6 {ad l C:Addr} {pr s:D} {past:List D} {i:Nat} (h:EvS Y e c d c') (hs:slot c' i= .dsk ad l C pr s past) (hp:P (outM Y ad l C pr s past d)):SsD Y (.Return (some e) pos::rest) c P:=
 xF (PS.imp (Yl h) fun D σ H ⟨F,E,m⟩=>⟨F,E,fun v F' H' s' E' r=>m (outM Y ad l C pr s past d) hp v F' H' H' s' E'.ext ⟨rfl,(E'.dsk_at hs).2,r⟩⟩)
theorem z7 {ad l C:Addr} {pr s:D} {past:List D} {i:Nat} {F1 H1:Hp} {σ:St} {vs:List V} {r:RsM} {Q:VK} {E:XK} (S:Sn Y T N G) (E1:EnvY Y F1 H1 σ c) (hs:slot c i= .dsk ad l C pr s past) (hC:T.mg "Desk" =some (.ref C)) (rs:Reps Y.X.K F1 vs ds) (hR:R pr s past ds r)
  (q:match r with
   | .ok d s' past'=>∀v F' H',Ext F1 (rmD H1 ad l) F' (rmD H' ad l)->DskOk Y.X.K Y.H0 F' H' ad l C pr s' past'->Rep Y.X.K F' v d->Q v H'
   | .ex x=>∀C' F' H',T.mg x=some (.ref C')->Ext F1 (rmD H1 ad l) F' (rmD H' ad l)->DskOk Y.X.K Y.H0 F' H' ad l C pr s past->E (.ref C') none H'):spM T R (.ref ad::vs) H1 Q E:=by
 have hd:=(E1.dsk_at hs).2
 refine ⟨F1,ad,l,C,pr,s,past,vs,ds,r,rfl,E1.fh,by rw [<-S.eK];exact rs,hC,by rw [<-S.eK];exact hd.base UE xa7,hR,?_⟩
 cases r with
 | ok d s' past'=>exact fun v F' H' x k r=>q v F' H' x (by rw [S.eK];exact k.base hd.fa.2.2.1 hd.fa.2.2.2) (by rw [S.eK];exact r)
 | ex z=>exact fun C' F' H' hm x k=>q C' F' H' hm x (by rw [S.eK];exact k.base hd.fa.2.2.1 hd.fa.2.2.2)
theorem uY {ad l C:Addr} {pr s s':D} {past past':List D} {q1:Pos} {z:Str} (S:Se Y T k N G) (gi i:Nat) (Fn:FnS T j x R) (hj:j<=k) (hs:slot c i= .dsk ad l C pr s past) (hno:∀j,j≠i->isDsk (slot c j)=false) (hC:T.mg "Desk" =some (.ref C)) (ha:ArD Y es c ds) (hR:R pr s past ds (.ok d s' past')) (hg:G[gi]? =some x:=by rfl) (hi:N[i]? =some z:=by rfl)
  (he:starEach (.Name z q1::es) Y.X.env=(false,eval (.Name z q1) Y.X.env)::starEach es Y.X.env:=by rfl) (hpl:(backTo pos (starEach es Y.X.env)).any (·.1)=false:=by rfl):EvS Y (.Call (.Name x p) (.Name z q1::es) [] pos) c d (put c i (.dsk ad l C pr s' past')):=by
 obtain ⟨f,fd,ps,hm,hk,hb,F⟩:=Fn.ex
 have F':FnOk Y.X.prog Y.X.w Y.X.K Y.X.mg Y.X.base (CXE Y.X.prog Y.X.w) j f fd ps (spM T R):=by rw [S.eP,S.eW,S.eK,S.eM,S.eB];exact F
 have gl:=S.gl x (mz hg)
 have hx:=S.loc z (mz hi)
 rw [<-S.n] at hi
 refine PE.imp (wK (E:=E0) F' (S.room.mono hj) gl.1 (by rw [S.eM];exact hm) (by rw [S.eK];exact hk) (by rw [S.eK];exact hb) .nil (fun _ _ _ _ _ _ _ ⟨_,_,_,_,_,z⟩=>z.elim) (xQ (xT hi (hx.1.elim .inl fun h=> .inr (.inl h)) hx.2.1 hx.2.2) ha he) gl.2.1 he hpl) fun σ H Q ⟨F,E,q⟩=>⟨.ref ad,(E.dsk_at hs).1,F,E,fun vs F1 H1 e1 r1=>?_⟩
 have E1:=E.grow e1
 show spM T R (.ref ad::vs++ []) H1 Q E0
 rw [List.append_nil]
 exact z7 (r:= .ok d s' past') S.toSn E1 hs hC r1 hR fun v F2 H2 x2 k2 r2=>q v F2 H2 (e1.ff.trans x2.ff) (E1.dsk_to hs hno x2 k2) r2
theorem vB {ad l C:Addr} {pr s s':D} {past past':List D} {q1 apos:Pos} {z:Str} {pl:Sem Bool} (S:Se Y T k N G) (i:Nat) (Fn:FnMt T j m R) (hj:j<=k) (hs:slot c i= .dsk ad l C pr s past) (hno:∀j,j≠i->isDsk (slot c j)=false) (hC:T.mg "Desk" =some (.ref C)) (hl0:∀x y l,(dskF x y l).lookup m=none) (ha:ArD Y (e::es) c ds) (hR:R pr s past ds (.ok d s' past')) (hi:N[i]? =some z:=by rfl)
  (hst:starEach (e::es) Y.X.env=(false,eval e Y.X.env)::starEach es Y.X.env:=by rfl) (hpl:(backTo pos (starEach es Y.X.env)).any (·.1)=false:=by rfl)
  (ht:eval (.Call (.Attribute (.Name z q1) m apos) (e::es) [] pos) Y.X.env=(do
   let ov <-eval (.Name z q1) Y.X.env
   standAt apos.atName
   let (f,first) <-holding [ov] (getMethod ov m pl)
   callWith pos f first (backTo pos (starEach (e::es) Y.X.env)) (backToKw pos (keywordEach [] Y.X.env))):=by rfl):EvS Y (.Call (.Attribute (.Name z q1) m apos) (e::es) [] pos) c d (put c i (.dsk ad l C pr s' past')):=by
 obtain ⟨C2,f,fd,ps,hm,hc,hmt,hb,F⟩:=Fn.ex
 rw [hC] at hm
 cases hm
 have F':FnOk Y.X.prog Y.X.w Y.X.K Y.X.mg Y.X.base (CXE Y.X.prog Y.X.w) j f fd ps (spM T R):=by rw [S.eP,S.eW,S.eK,S.eM,S.eB];exact F
 have hx:=S.loc z (mz hi)
 rw [<-S.n] at hi
 refine PE.imp (Vf (E:=E0) (pl:=pl) (xT hi (hx.1.elim .inl fun h=> .inr (.inl h)) hx.2.1 hx.2.2) (by rw [S.eK];exact hc) (by rw [S.eK];exact hmt) F' (S.room.mono hj) (by rw [S.eK];exact hb) .nil (fun _ _ _ _ _ _ _ ⟨_,_,_,_,_,z⟩=>z.elim) ha hst hpl ht) fun σ H Q ⟨F,E,q⟩=>?_
 obtain ⟨hσ,dx,vs0,u,w,h1,_⟩:=E.dsk_at hs
 refine ⟨.ref ad,hσ,ad,dx,_,rfl,h1,hl0 _ _ _,F,E,fun vs F1 H1 e1 r1=>?_⟩
 have E1:=E.grow e1
 show spM T R (.ref ad::(vs++ [])) H1 Q E0
 rw [List.append_nil]
 exact z7 (r:= .ok d s' past') S.toSn E1 hs hC r1 hR fun v F2 H2 x2 k2 r2=>q v F2 H2 (e1.ff.trans x2.ff) (E1.dsk_to hs hno x2 k2) r2
theorem wa {ad l C:Addr} {pr s s':D} {past past':List D} {q1 apos:Pos} {z:Str} {pl:Sem Bool} (S:Se Y T k N G) (i:Nat) (Fn:FnMt T j m R) (hj:j<=k) (hs:slot c i= .dsk ad l C pr s past) (hno:∀j,j≠i->isDsk (slot c j)=false) (hC:T.mg "Desk" =some (.ref C)) (hl0:∀x y l,(dskF x y l).lookup m=none) (hR:R pr s past [] (.ok d s' past')) (hi:N[i]? =some z:=by rfl)
  (ht:eval (.Call (.Attribute (.Name z q1) m apos) [] [] pos) Y.X.env=(do
   let ov <-eval (.Name z q1) Y.X.env
   standAt apos.atName
   let (f,first) <-holding [ov] (getMethod ov m pl)
   callWith pos f first (backTo pos (starEach [] Y.X.env)) (backToKw pos (keywordEach [] Y.X.env))):=by rfl):EvS Y (.Call (.Attribute (.Name z q1) m apos) [] [] pos) c d (put c i (.dsk ad l C pr s' past')):=by
 obtain ⟨C2,f,fd,ps,hm,hc,hmt,hb,F⟩:=Fn.ex
 rw [hC] at hm
 cases hm
 have F':FnOk Y.X.prog Y.X.w Y.X.K Y.X.mg Y.X.base (CXE Y.X.prog Y.X.w) j f fd ps (spM T R):=by rw [S.eP,S.eW,S.eK,S.eM,S.eB];exact F
 have hx:=S.loc z (mz hi)
 rw [<-S.n] at hi
 refine PE.imp (US (E:=E0) (pl:=pl) (xT hi (hx.1.elim .inl fun h=> .inr (.inl h)) hx.2.1 hx.2.2) (by rw [S.eK];exact hc) (by rw [S.eK];exact hmt) F' (S.room.mono hj) (by rw [S.eK];exact hb) .nil (fun _ _ _ _ _ _ _ ⟨_,_,_,_,_,z⟩=>z.elim) ht) fun σ H Q ⟨F,E,q⟩=>?_
 obtain ⟨hσ,dx,vs0,u,w,h1,_⟩:=E.dsk_at hs
 refine ⟨.ref ad,hσ,ad,dx,_,rfl,h1,hl0 _ _ _,?_⟩
 exact z7 (r:= .ok d s' past') S.toSn E hs hC .nil hR fun v F2 H2 x2 k2 r2=>q v F2 H2 x2.ff (E.dsk_to hs hno x2 k2) r2
end
section
variable {Y:Cy} {T:Tx} {k j:Nat} {N G ps:List Str} {c c' c'':List Slot} {e a b:Expr} {es:List Expr} {pos p:Pos} {d d1 d2:D} {ds:List D} {R:D->D->List D->List D->RsM->Prop} {x qual y m:Str} {P:Out->Prop} {rest:List Stmt} {ad l C:Addr} {pr s s':D} {past past':List D} {i:Nat}
theorem UB {pins:List (Addr×Obj)} {σ:St} {F1 H1:Hp} {s1:Shared} {us:List Value} {vs:List V} {f:Addr} {fd:FuncData} {Q:Value->Shared->Prop} (S:Se Y T k N G) (F':FnOk Y.X.prog Y.X.w Y.X.K Y.X.mg Y.X.base (CXE Y.X.prog Y.X.w) j f fd ps (spM T R)) (hj:j<=k) (hb:Binds Y.X.K fd ps [])
  (I1:Inv Y.X pins σ H1 s1) (E1:EnvY Y F1 H1 σ c) (r:Vals (.ref ad::vs) us) (rs:Reps Y.X.K F1 vs ds) (hs:slot c i= .dsk ad l C pr s past) (hno:∀j,j≠i->isDsk (slot c j)=false) (hC:T.mg "Desk" =some (.ref C)) (hR:R pr s past ds (.ex y)) (hz:RzN Y T y c):wpAny (model Y.X.prog Y.X.w) Y.X.A (call (.ref f) us) Q Y.X.xe s1:=by
 have h:spM T R (.ref ad::vs) H1 (fun _ _=>False) (fun cls _ H'=>∃C' F',cls= .ref C'/\T.mg y=some (.ref C')/\Ext F1 (rmD H1 ad l) F' (rmD H' ad l)/\DskOk Y.X.K Y.H0 F' H' ad l C pr s past):=
  z7 (r:= .ex y) S.toSn E1 hs hC rs hR fun C' F' H' hm x k=>⟨C',F',rfl,hm,x,k⟩
 have hl:us.length=ps.length:=by rw [<-r.length];exact F'.len _ _ _ _ h
 have hb2:=hb s1 us I1.kIn (by rw [List.append_nil];exact hl)
 rw [List.append_nil] at hb2
 refine wpAny_call (codeAny_mono (F'.run Y.X.A Y.X.stack s1 H1 ⟨us,[]⟩ us _ _ _ (S.room.mono hj) I1.env0 hb2 r h) fun r s' hq=>?_)
 cases r with
 | error e=>
  obtain ⟨a,C',H',rfl,L,C2,F2,z,hC',x,k⟩:=hq
  cases z
  have E2:=E1.dsk_to hs hno x k
  rw [<-hs,um] at E2
  exact (hz C' hC').fly I1 E1 x.ff E2 L
 | ok fl=>
  cases fl with
  | ret u=>obtain ⟨_,_,_,_,_,_,_,z⟩:=hq;exact z.elim
  | next=>exact False.elim hq
  | brk=>exact False.elim hq
  | cont=>exact False.elim hq
theorem jy {q1 apos:Pos} {z:Str} {pl:Sem Bool} (S:Se Y T k N G) (i:Nat) (Fn:FnMt T j m R) (hj:j<=k) (hs:slot c i= .dsk ad l C pr s past) (hno:∀j,j≠i->isDsk (slot c j)=false) (hC:T.mg "Desk" =some (.ref C)) (hl0:∀x y l,(dskF x y l).lookup m=none) (ha:ArD Y (e::es) c ds) (hR:R pr s past ds (.ex y)) (hz:RzN Y T y c) (hi:N[i]? =some z:=by rfl)
  (hst:starEach (e::es) Y.X.env=(false,eval e Y.X.env)::starEach es Y.X.env:=by rfl) (hpl:(backTo pos (starEach es Y.X.env)).any (·.1)=false:=by rfl)
  (ht:eval (.Call (.Attribute (.Name z q1) m apos) (e::es) [] pos) Y.X.env=(do
   let ov <-eval (.Name z q1) Y.X.env
   standAt apos.atName
   let (f,first) <-holding [ov] (getMethod ov m pl)
   callWith pos f first (backTo pos (starEach (e::es) Y.X.env)) (backToKw pos (keywordEach [] Y.X.env))):=by rfl):EvX Y (.Call (.Attribute (.Name z q1) m apos) (e::es) [] pos) c:=by
 obtain ⟨C2,f,fd,ps,hm,hc,hmt,hb,F⟩:=Fn.ex
 rw [hC] at hm
 cases hm
 have F':FnOk Y.X.prog Y.X.w Y.X.K Y.X.mg Y.X.base (CXE Y.X.prog Y.X.w) j f fd ps (spM T R):=by rw [S.eP,S.eW,S.eK,S.eM,S.eB];exact F
 have hx:=S.loc z (mz hi)
 rw [<-S.n] at hi
 intro pins s0 σ H Q I ⟨F0,E⟩
 obtain ⟨hσ,dx,vs0,u,w,h1,_⟩:=E.dsk_at hs
 refine wv (te:=tVar i) (xT hi (hx.1.elim .inl fun h=> .inr (.inl h)) hx.2.1 hx.2.2) I ⟨.ref ad,hσ,ad,C,dx,_,f,rfl,h1,by rw [S.eK];exact hc,by rw [S.eK];exact hmt,hl0 _ _ _,fun s1 I1=>?_⟩ ht
 refine W.callWith_K (first:=[.ref ad]) (h₀:=Y.X.base) I1.ok.mod.kin (by rw [S.eK];exact hmt.kp) (thn (ha pos pins s1 σ H (fun vs H1=>∃F1,Ext F0 H F1 H1/\Reps Y.X.K F1 vs ds) I1 ⟨F0,E,fun vs F1 H1 e1 r1=>⟨F1,e1,r1⟩⟩) fun us s2 ⟨vs,H2,I2,r,F1,e1,rs⟩=>⟨I2.kIn,?_⟩) hst hpl
 exact UB S F' hj (by rw [S.eK];exact hb) I2 (E.grow e1) (.cons rfl r) rs hs hno hC hR hz
theorem WF {q1 apos:Pos} {z:Str} {pl:Sem Bool} (S:Se Y T k N G) (i:Nat) (Fn:FnMt T j m R) (hj:j<=k) (hs:slot c i= .dsk ad l C pr s past) (hno:∀j,j≠i->isDsk (slot c j)=false) (hC:T.mg "Desk" =some (.ref C)) (hl0:∀x y l,(dskF x y l).lookup m=none) (hR:R pr s past [] (.ex y)) (hz:RzN Y T y c) (hi:N[i]? =some z:=by rfl)
  (ht:eval (.Call (.Attribute (.Name z q1) m apos) [] [] pos) Y.X.env=(do
   let ov <-eval (.Name z q1) Y.X.env
   standAt apos.atName
   let (f,first) <-holding [ov] (getMethod ov m pl)
   callWith pos f first (backTo pos (starEach [] Y.X.env)) (backToKw pos (keywordEach [] Y.X.env))):=by rfl):EvX Y (.Call (.Attribute (.Name z q1) m apos) [] [] pos) c:=by
 obtain ⟨C2,f,fd,ps,hm,hc,hmt,hb,F⟩:=Fn.ex
 rw [hC] at hm
 cases hm
 have F':FnOk Y.X.prog Y.X.w Y.X.K Y.X.mg Y.X.base (CXE Y.X.prog Y.X.w) j f fd ps (spM T R):=by rw [S.eP,S.eW,S.eK,S.eM,S.eB];exact F
 have hx:=S.loc z (mz hi)
 rw [<-S.n] at hi
 intro pins s0 σ H Q I ⟨F0,E⟩
 obtain ⟨hσ,dx,vs0,u,w,h1,_⟩:=E.dsk_at hs
 refine wv (te:=tVar i) (xT hi (hx.1.elim .inl fun h=> .inr (.inl h)) hx.2.1 hx.2.2) I ⟨.ref ad,hσ,ad,C,dx,_,f,rfl,h1,by rw [S.eK];exact hc,by rw [S.eK];exact hmt,hl0 _ _ _,fun s1 I1=>?_⟩ ht
 refine W.callWith_K0 (first:=[.ref ad]) I1.kIn (by rw [S.eK];exact hmt.kp) ?_
 exact UB S F' hj (by rw [S.eK];exact hb) I1 E (.cons rfl .nil) .nil hs hno hC hR hz
theorem Ku {x y:V} {l:Addr}:(dskF x y l).lookup ("prime" :Str)=some x:=by rfl
theorem Kt {x y:V} {l:Addr}:(dskF x y l).lookup ("spot" :Str)=some y:=by rfl
theorem Vv {x y:V} {l:Addr}:(dskF x y l).lookup ("earlier" :Str)=some (V.ref l):=by rfl
theorem Kn {x y z:V} {l:Addr}:putF "spot" z (dskF x y l)=dskF x z l:=by rfl
theorem yF {z:Str} {q1:Pos} (S:Sn Y T N G) (i:Nat) (hs:slot c i= .dsk ad l C pr s past) (Z:DskK T.K C) (hi:N[i]? =some z:=by rfl) (hb:attributeBase (.Name z q1) "prime" Y.X.env (eval (.Name z q1) Y.X.env)=eval (.Name z q1) Y.X.env:=by rfl):EvD Y (.Attribute (.Name z q1) "prime" pos) c pr:=by
 have hx:=S.loc z (mz hi)
 rw [<-S.n] at hi
 refine PE.imp (qf (xT hi (hx.1.elim .inl fun h=> .inr (.inl h)) hx.2.1 hx.2.2) hb) fun σ H Q ⟨F,E,q⟩=>?_
 obtain ⟨hσ,dx,vs,u,w,h1,h2,h3,h4,h5,h6,h7,r1,r2,r3⟩:=E.dsk_at hs
 exact ⟨.ref ad,hσ,ad,C,dx,_,u,rfl,h1,by rw [S.eK];exact Z.cl,by rw [S.eK];exact Z.np,Ku,q u F H (Ext.refl E.fh) r1⟩
theorem yk {z:Str} {q1:Pos} (S:Sn Y T N G) (i:Nat) (hs:slot c i= .dsk ad l C pr s past) (Z:DskK T.K C) (hi:N[i]? =some z:=by rfl) (hb:attributeBase (.Name z q1) "spot" Y.X.env (eval (.Name z q1) Y.X.env)=eval (.Name z q1) Y.X.env:=by rfl):EvD Y (.Attribute (.Name z q1) "spot" pos) c s:=by
 have hx:=S.loc z (mz hi)
 rw [<-S.n] at hi
 refine PE.imp (qf (xT hi (hx.1.elim .inl fun h=> .inr (.inl h)) hx.2.1 hx.2.2) hb) fun σ H Q ⟨F,E,q⟩=>?_
 obtain ⟨hσ,dx,vs,u,w,h1,h2,h3,h4,h5,h6,h7,r1,r2,r3⟩:=E.dsk_at hs
 exact ⟨.ref ad,hσ,ad,C,dx,_,w,rfl,h1,by rw [S.eK];exact Z.cl,by rw [S.eK];exact Z.ns,Kt,q w F H (Ext.refl E.fh) r2⟩
theorem wb {z:Str} {q1:Pos} (S:Sn Y T N G) (i:Nat) (hs:slot c i= .bor (DskT C pr s)) (Z:DskK T.K C) (hi:N[i]? =some z:=by rfl) (hb:attributeBase (.Name z q1) "prime" Y.X.env (eval (.Name z q1) Y.X.env)=eval (.Name z q1) Y.X.env:=by rfl):EvD Y (.Attribute (.Name z q1) "prime" pos) c pr:=by
 have hx:=S.loc z (mz hi)
 rw [<-S.n] at hi
 refine PE.imp (qf (xT hi (hx.1.elim .inl fun h=> .inr (.inl h)) hx.2.1 hx.2.2) hb) fun σ H Q ⟨F,E,q⟩=>?_
 obtain ⟨a,o,hσ,h1,dx,l,u,w,rfl,r1,r2⟩:=E.bor_at hs
 exact ⟨.ref a,hσ,a,C,dx,_,u,rfl,h1,by rw [S.eK];exact Z.cl,by rw [S.eK];exact Z.np,Ku,q u F H (Ext.refl E.fh) r1⟩
theorem Env.dsk_w {K:W.Frag} {F₀ H₀ F H H3:Hp} {σ:St} {dx:Addr} {vs:List V} {u w:V} {p':D} (E:Env K F₀ H₀ F H σ c) (hs:slot c i= .dsk ad l C pr s past) (hno:∀j,j≠i->isDsk (slot c j)=false) (h3:∀b,b≠ad->b≠l->H3 b=H b) (ha:H3 ad=some (.ins C dx (dskF u w l))) (hl:H3 l=some (.ext (LstAt l vs))) (hw:∃h,LstAt l vs h)
  (r1:Rep K F u p') (r2:Rep K F w s') (r3:Reps K F vs past'):Env K F₀ H₀ F H3 σ (put c i (.dsk ad l C p' s' past')):=by
 have hd:=(E.dsk_at hs).2
 refine E.dsk_to hs hno ⟨Same.refl F,fun b o q=>?_,fun b o q=>?_,fun _ _ z=>z⟩ ⟨dx,vs,u,w,ha,hl,hw,hd.fa.1,hd.fa.2.1,hd.fa.2.2.1,hd.fa.2.2.2,r1,r2,r3⟩
 ·have n1:b≠ad:=fun z=>by rw [z,hd.fa.1] at q;cases q
  have n2:b≠l:=fun z=>by rw [z,hd.fa.2.1] at q;cases q
  exact zq (by rw [h3 b n1 n2];exact E.fh b o q) n1 n2
 ·obtain ⟨n1,n2,h⟩:=qN q
  exact zq (by rw [h3 b n1 n2];exact h) n1 n2
theorem PT.unl {X:Cx} {t:TT} (h:PT X e t):PT X e (fun σ H Q=>∃l vs,H l=some (.ext (LstAt l vs))/\t σ (upd H l (.lst vs)) (fun v H'=>∃vs',H' l=some (.lst vs')/\((∃h,LstAt l vs' h)->Q v (upd H' l (.ext (LstAt l vs')))))):=by
 intro pins s σ H Q I ⟨l,vs,hl,q⟩
 refine thn (h pins s σ _ _ (I.unl hl) q) fun v s1 ⟨H',I',vs',h',q'⟩=>?_
 have J:=I'.lstx h'
 exact ⟨_,J.1,q' ⟨_,J.2⟩⟩
theorem kK {z:Str} {q1 q2 q3 q4 q5 q6:Pos} (S:Sc Y T k N G) (i:Nat) (hs:slot c i= .dsk ad l C pr s past) (hno:∀j,j≠i->isDsk (slot c j)=false) (Z:DskK T.K C) (hz:past.length<1000000) (hr:SsD Y rest (put c i (.dsk ad l C pr s (past++ [s]))) P) (hi:N[i]? =some z:=by rfl)
  (hb1:attributeBase (.Name z q1) "earlier" Y.X.env (eval (.Name z q1) Y.X.env)=eval (.Name z q1) Y.X.env:=by rfl) (hb2:attributeBase (.Name z q4) "spot" Y.X.env (eval (.Name z q4) Y.X.env)=eval (.Name z q4) Y.X.env:=by rfl)
  (hbase:attributeBase (.Attribute (.Name z q1) "earlier" q2) "append" Y.X.env (eval (.Attribute (.Name z q1) "earlier" q2) Y.X.env)=eval (.Attribute (.Name z q1) "earlier" q2) Y.X.env:=by rfl) (hfew:((backTo q6 (starEach [.Attribute (.Name z q4) "spot" q5] Y.X.env)).all (fun x=> !x.1) && (backToKw q6 (keywordEach [] Y.X.env)).all (fun x=>x.1.isSome)
   && decide ([Expr.Attribute (.Name z q4) "spot" q5].length+([]:List Keyword).length+(if ([]:List Keyword).isEmpty then 0 else 1)<30))=true:=by rfl) (hline:(q3.endLine==q6.line)=true:=by rfl) (hst:starEach [.Attribute (.Name z q4) "spot" q5] Y.X.env=(false,eval (.Attribute (.Name z q4) "spot" q5) Y.X.env)::starEach [] Y.X.env:=by rfl)
  (hsw:swapsWith (.Call (.Attribute (.Attribute (.Name z q1) "earlier" q2) "append" q3) [.Attribute (.Name z q4) "spot" q5] [] q6) none pos.line Y.X.env=pure false:=by rfl):
  SsD Y (.Expr (.Call (.Attribute (.Attribute (.Name z q1) "earlier" q2) "append" q3) [.Attribute (.Name z q4) "spot" q5] [] q6) pos::rest) c P:=by
 have hx:=S.loc z (mz hi)
 rw [<-S.n] at hi
 have pv:∀{q:Pos},PE Y.X (.Name z q) (tVar i):=fun {q}=>xT (pos:=q) hi (hx.1.elim .inl fun h=> .inr (.inl h)) hx.2.1 hx.2.2
 refine xF (PS.imp (vb (PE.unl (ut PySem.F.plainAttrs_list PySem.F.slot_list_append PySem.F.type_list_append vY (qf pv hb1) (xQ (qf pv hb2) yq hst) hbase hfew hline hst rfl)) hsw) fun D σ H ⟨F,E,m⟩=>?_)
 obtain ⟨hσ,dx,vs,u,w,h1,h2,h3,h4,h5,h6,h7,r1,r2,r3⟩:=E.dsk_at hs
 have al:ad≠l:=fun z=>by rw [z,h2] at h1;cases h1
 have cl:Cls Y.X.K C:=by rw [S.eK];exact Z.cl
 have ne:NoAttr Y.X.K C "earlier" :=by rw [S.eK];exact Z.ne
 have ns:NoAttr Y.X.K C "spot" :=by rw [S.eK];exact Z.ns
 have e1:upd H l (.lst vs) ad=some (.ins C dx (dskF u w l)):=by rw [xh al];exact h1
 have e2:upd H l (.lst vs) l=some (.lst vs):=xm
 refine ⟨l,vs,h2,.ref ad,hσ,ad,C,dx,_,.ref l,rfl,e1,cl,ne,Vv,.inl ⟨rfl,vs,.inl (.inl e2)⟩,.ref ad,hσ,ad,C,dx,_,w,rfl,e1,cl,ns,Kt,l,vs,w,rfl,rfl,e2,?_,vs++ [w],xm,fun hw=>?_⟩
 ·rw [r3.length];exact mE hz (xL (mJ _))
 ·refine m (.nx _) hr _ F _ (Same.refl F) (E.dsk_w (dx:=dx) (u:=u) (w:=w) hs hno (fun b n1 n2=>?_) ?_ xm hw r1 r2 (r3.append (.cons r2 .nil)))
  ·rw [xh n2,xh n2,xh n2]
  ·rw [xh al,xh al,xh al];exact h1
theorem kJ {z:Str} {q1 q2:Pos} (S:Sc Y T k N G) (i:Nat) (hs:slot c i= .dsk ad l C pr s past) (hno:∀j,j≠i->isDsk (slot c j)=false) (Z:DskK T.K C) (he:EvD Y e c d) (hr:SsD Y rest (put c i (.dsk ad l C pr d past)) P) (hi:N[i]? =some z:=by rfl)
  (hsw:swapsWith e (some (.Attribute (.Name z q1) "spot" q2)) pos.line Y.X.env=pure false:=by rfl):SsD Y (.Assign [.Attribute (.Name z q1) "spot" q2] e pos::rest) c P:=by
 have hx:=S.loc z (mz hi)
 rw [<-S.n] at hi
 refine xF (PS.imp (uo (xT hi (hx.1.elim .inl fun h=> .inr (.inl h)) hx.2.1 hx.2.2) he hsw) fun D σ H ⟨F,E,m⟩=>⟨F,E,fun v F1 H1 x1 rv=>?_⟩)
 have E1:=E.grow x1
 obtain ⟨hσ,dx,vs,u,w,h1,h2,h3,h4,h5,h6,h7,r1,r2,r3⟩:=E1.dsk_at hs
 have al:ad≠l:=fun z=>by rw [z,h2] at h1;cases h1
 refine ⟨.ref ad,hσ,ad,C,dx,_,rfl,h1,by rw [S.eK];exact Z.cl,by rw [S.eK];exact Z.ns,(by show 3<1000;decide),?_⟩
 rw [Kn]
 exact m (.nx _) hr _ F1 _ x1.ff (E1.dsk_w (dx:=dx) (u:=u) (w:=v) hs hno (fun b n1 _=>xh n1) xm (by rw [xh (Ne.symm al)];exact h2) h3 r1 rv r3)
theorem kG {z:Str} {q1 q2 q3 q4 q5 q6:Pos} (S:Sc Y T k N G) (i:Nat) (hs:slot c i= .dsk ad l C pr s (past++ [d])) (hno:∀j,j≠i->isDsk (slot c j)=false) (Z:DskK T.K C) (hr:SsD Y rest (put c i (.dsk ad l C pr d past)) P) (hi:N[i]? =some z:=by rfl)
  (hb1:attributeBase (.Name z q3) "earlier" Y.X.env (eval (.Name z q3) Y.X.env)=eval (.Name z q3) Y.X.env:=by rfl)
  (hbase:attributeBase (.Attribute (.Name z q3) "earlier" q4) "pop" Y.X.env (eval (.Attribute (.Name z q3) "earlier" q4) Y.X.env)=eval (.Attribute (.Name z q3) "earlier" q4) Y.X.env:=by rfl) (hline:(q5.endLine==q6.line)=true:=by rfl)
  (hsw:swapsWith (.Call (.Attribute (.Attribute (.Name z q3) "earlier" q4) "pop" q5) [] [] q6) (some (.Attribute (.Name z q1) "spot" q2)) pos.line Y.X.env=pure false:=by rfl):
  SsD Y (.Assign [.Attribute (.Name z q1) "spot" q2] (.Call (.Attribute (.Attribute (.Name z q3) "earlier" q4) "pop" q5) [] [] q6) pos::rest) c P:=by
 have hx:=S.loc z (mz hi)
 rw [<-S.n] at hi
 have pv:∀{q:Pos},PE Y.X (.Name z q) (tVar i):=fun {q}=>xT (pos:=q) hi (hx.1.elim .inl fun h=> .inr (.inl h)) hx.2.1 hx.2.2
 refine xF (PS.imp (uo pv (PE.unl (Qe PySem.F.plainAttrs_list PySem.F.slot_list_pop PySem.F.type_list_pop xai (qf pv hb1) hbase hline)) hsw) fun D σ H ⟨F,E,m⟩=>?_)
 obtain ⟨hσ,dx,vs,u,w,h1,h2,h3,h4,h5,h6,h7,r1,r2,r3⟩:=E.dsk_at hs
 have al:ad≠l:=fun z=>by rw [z,h2] at h1;cases h1
 have cl:Cls Y.X.K C:=by rw [S.eK];exact Z.cl
 have ne:NoAttr Y.X.K C "earlier" :=by rw [S.eK];exact Z.ne
 have ns:NoAttr Y.X.K C "spot" :=by rw [S.eK];exact Z.ns
 have e1:upd H l (.lst vs) ad=some (.ins C dx (dskF u w l)):=by rw [xh al];exact h1
 have e2:upd H l (.lst vs) l=some (.lst vs):=xm
 have n1:=r3.length
 rw [List.length_append,List.length_singleton] at n1
 obtain ⟨v,hv,rv⟩:=r3.get (i:=past.length) (d:=d) (by simp)
 refine ⟨l,vs,h2,.ref ad,hσ,ad,C,dx,_,.ref l,rfl,e1,cl,ne,Vv,.inl ⟨rfl,vs,.inl (.inl e2)⟩,l,vs,v,rfl,rfl,e2,?_,vs.dropLast,xm,fun hw=>?_⟩
 ·rw [show vs.length - 1=past.length by omega];exact hv
 ·have e3:upd (upd (upd H l (.lst vs)) l (.lst vs.dropLast)) l (.ext (LstAt l vs.dropLast)) ad=some (.ins C dx (dskF u w l)):=by rw [xh al,xh al];exact e1
  refine ⟨.ref ad,hσ,ad,C,dx,_,rfl,e3,cl,ns,(by show 3<1000;decide),?_⟩
  rw [Kn]
  have rd:=XA r3
  rw [List.dropLast_concat] at rd
  refine m (.nx _) hr _ F _ (Same.refl F) (E.dsk_w (dx:=dx) (u:=u) (w:=v) hs hno (fun b n1 n2=>?_) xm ?_ hw r1 rv rd)
  ·rw [xh n1,xh n2,xh n2,xh n2]
  ·rw [xh (Ne.symm al),xm]
end
noncomputable def firstD:D:= .tup [.int 0,.tup [.int 0,.int 1]]
section
variable {Y:Cy} {T:Tx} {k j:Nat} {N G ps:List Str} {c c' c'':List Slot} {e b:Expr} {es:List Expr} {pos p:Pos} {d d1 d2:D} {ds:List D} {x qual y m:Str} {P:Out->Prop} {rest:List Stmt} {ad l C:Addr} {pr s s':D} {past past':List D} {i:Nat}
theorem VS {z:Str} {q1 q2 q3:Pos} (S:Se Y T k N G) (i:Nat) (hs:slot c i= .dsk ad l C pr s past) (Z:DskK T.K C) (hsh:SeqAt.shaped (toPy (.lst past))=true) (hi:N[i]? =some z:=by rfl)
  (hb1:attributeBase (.Name z q1) "earlier" Y.X.env (eval (.Name z q1) Y.X.env)=eval (.Name z q1) Y.X.env:=by rfl):TeD Y (.Compare (.Attribute (.Name z q1) "earlier" q2) [.Eq] [.List [] q3] pos) c (eqD (.lst past) (.lst [])):=by
 have hx:=S.loc z (mz hi)
 rw [<-S.n] at hi
 have pv:∀{q:Pos},PE Y.X (.Name z q) (tVar i):=fun {q}=>xT (pos:=q) hi (hx.1.elim .inl fun h=> .inr (.inl h)) hx.2.1 hx.2.2
 refine PT.imp (PT.unl (Yj (Yo (d1:= .lst past) (d2:= .lst []) S.room.units hsh rfl) (qf pv hb1) (Ym yq) (nomark _))) fun σ H Q ⟨F,E,q⟩=>?_
 obtain ⟨hσ,dx,vs,u,w,h1,h2,h3,h4,h5,h6,h7,r1,r2,r3⟩:=E.dsk_at hs
 have al:ad≠l:=fun z=>by rw [z,h2] at h1;cases h1
 have e1:upd H l (.lst vs) ad=some (.ins C dx (dskF u w l)):=by rw [xh al];exact h1
 refine ⟨l,vs,h2,.ref ad,hσ,ad,C,dx,_,.ref l,rfl,e1,by rw [S.eK];exact Z.cl,by rw [S.eK];exact Z.ne,Vv,Nat.zero_le _,fun p hp=>?_⟩
 have pl:p≠l:=fun z=>by rw [z,xm] at hp;cases hp
 have hp':H p=none:=by rw [xh pl] at hp;exact hp
 have fp:F p=none:=none_of E.fh hp'
 have s1:Same F (upd (upd F l (.lst vs)) p (.lst [])):=fun b o g=>by rw [xh (xo g fp),xh (xo g h5)];exact g
 refine ⟨upd (upd F l (.lst vs)) p (.lst []),fun b o g=>?_,.lst (SqL.of (by rw [xh (Ne.symm pl),xm])) (r3.mono s1),.lst (SqL.of xm) .nil,_,rfl,vs,?_,fun _=>q F _ ⟨Same.refl F,fun b o g=>?_,fun b o g=>?_,fun _ _ z=>z⟩⟩
 ·by_cases e:b=p
  ·subst e;rw [xm] at g ⊢;exact g
  ·rw [xh e] at g ⊢
   by_cases e2:b=l
   ·subst e2;rw [xm] at g ⊢;exact g
   ·rw [xh e2] at g ⊢;exact E.fh b o g
 ·rw [xh (Ne.symm pl),xm]
 ·rw [xh (xo g h5),xh (xo g fp),xh (xo g h5)];exact E.fh b o g
 ·by_cases e2:b=l
  ·subst e2;rw [xm];rw [h2] at g;exact g
  ·rw [xh e2,xh (xo g hp'),xh e2];exact g
theorem JO {z:Str} {p q1 q2:Pos} (S:Se Y T k N G) (gi i:Nat) (hs:slot c i= .dsk ad l C pr s past) (Z:DskK T.K C) (hm:T.mg "len" =none) (hg:G[gi]? =some ("len" :Str):=by rfl) (hi:N[i]? =some z:=by rfl)
  (hb1:attributeBase (.Name z q1) "earlier" Y.X.env (eval (.Name z q1) Y.X.env)=eval (.Name z q1) Y.X.env:=by rfl) (hst:starEach [.Attribute (.Name z q1) "earlier" q2] Y.X.env=(false,eval (.Attribute (.Name z q1) "earlier" q2) Y.X.env)::starEach [] Y.X.env:=by rfl):
  EvD Y (.Call (.Name "len" p) [.Attribute (.Name z q1) "earlier" q2] [] pos) c (.int past.length):=by
 have hx:=S.loc z (mz hi)
 have gl:=S.gl _ (mz hg)
 rw [<-S.n] at hi
 have pv:∀{q:Pos},PE Y.X (.Name z q) (tVar i):=fun {q}=>xT (pos:=q) hi (hx.1.elim .inl fun h=> .inr (.inl h)) hx.2.1 hx.2.2
 refine PE.imp (PE.unl (zt vI gl.1 (by rw [S.eM];exact hm) YR (xQ (qf pv hb1) yq hst) gl.2.2 gl.2.1 hst rfl)) fun σ H Q ⟨F,E,q⟩=>?_
 obtain ⟨hσ,dx,vs,u,w,h1,h2,h3,h4,h5,h6,h7,r1,r2,r3⟩:=E.dsk_at hs
 have al:ad≠l:=fun z=>by rw [z,h2] at h1;cases h1
 have e1:upd H l (.lst vs) ad=some (.ins C dx (dskF u w l)):=by rw [xh al];exact h1
 refine ⟨l,vs,h2,.ref ad,hσ,ad,C,dx,_,.ref l,rfl,e1,by rw [S.eK];exact Z.cl,by rw [S.eK];exact Z.ne,Vv,.ref l,vs.length,rfl,.inl ⟨vs,.inl (.inl xm),rfl⟩,vs,xm,fun _=>?_⟩
 rw [r3.length]
 refine q _ F _ ⟨Same.refl F,fun b o g=>?_,fun b o g=>?_,fun _ _ z=>z⟩ (.int _)
 ·rw [xh (xo g h5),xh (xo g h5)];exact E.fh b o g
 ·by_cases e2:b=l
  ·subst e2;rw [xm];rw [h2] at g;exact g
  ·rw [xh e2,xh e2];exact g
end
def spN (T:Tx) (C:Addr):Sp:=fun vs H Q _=>∃F a dx x p,vs=[.ref a,x]/\Same F H/\Rep T.K F x p/\H a=some (.ins C dx [])/\F a=none/\∀F' H' l x' y,Ext F (rmD H a a) F' H'->F' a=none->H' a=some (.ins C dx (dskF x' y l))->H' l=some (.lst [])->F' l=none->rmD H a a l=none->Rep T.K F' x' p->Rep T.K F' y firstD->Q .non H'
def tN (Y:Cy) (C:Addr) (p:D):TS:=fun D σ H=>∃F a dx,EnvY Y F H σ [.un,.val p]/\σ[0]? =some (some (.ref a))/\H a=some (.ins C dx [])/\F a=none/\Y.H0 a=none/\∀F' H' l x' y,Ext Y.F0 Y.H0 F' H'->F' a=none->H' a=some (.ins C dx (dskF x' y l))->H' l=some (.lst [])->F' l=none->Y.H0 l=none->Rep Y.X.K F' x' p->Rep Y.X.K F' y firstD->D.nx σ H'
section
variable {K:W.Frag} {F₀ H₀ F H:Hp} {σ:St} {c:List Slot} {a:Addr} {o:HO}
theorem Env.wr (E:Env K F₀ H₀ F H σ c) (h0:H₀ a=none) (hf:F a=none) (hv:∀j,slot c j= .un∨∃d,slot c j= .val d):Env K F₀ H₀ F (upd H a o) σ c where
 ext:=⟨E.ext.ff,fun b u q=>by rw [xh (xo q hf)];exact E.ext.fh b u q,fun b u q=>by rw [xh (xo q h0)];exact E.ext.hh b u q,E.ext.fr⟩
 len:=E.len
 sl:=fun j=>by
  have q:=E.sl j
  rcases hv j with h | ⟨d,h⟩
  ·rw [h];trivial
  ·rw [h] at q ⊢;exact q
 inj:=E.inj
end
section
variable {Y:Cy} {T:Tx} {k j:Nat} {N G ps:List Str} {c c' c'':List Slot} {e b:Expr} {es:List Expr} {pos p:Pos} {d d1 d2:D} {ds:List D} {x qual y m:Str} {P:Out->Prop} {rest:List Stmt} {ad l C:Addr} {pr s s':D} {past past':List D} {i:Nat}
theorem UM {sf fr z:Str} {q1 q2 q3 q4 r1 r2 r3 r4 t1 t2 t3 t4:Pos} (S:Sc Y T k [sf,fr] G) (Z:DskK T.K C) (hF:EvD Y (.Name z r3) [.un,.val pr] firstD)
  (hs1:swapsWith (.Name fr q3) (some (.Attribute (.Name sf q1) "prime" q2)) q4.line Y.X.env=pure false:=by rfl) (hs2:swapsWith (.Name z r3) (some (.Attribute (.Name sf r1) "spot" r2)) r4.line Y.X.env=pure false:=by rfl) (hs3:swapsWith (.List [] t3) (some (.Attribute (.Name sf t1) "earlier" t2)) t4.line Y.X.env=pure false:=by rfl):
  PSs Y.X [.Assign [.Attribute (.Name sf q1) "prime" q2] (.Name fr q3) q4,.Assign [.Attribute (.Name sf r1) "spot" r2] (.Name z r3) r4,.Assign [.Attribute (.Name sf t1) "earlier" t2] (.List [] t3) t4] (tN Y C pr):=by
 have hx:=S.loc sf (by simp)
 have hi:Y.X.N[0]? =some sf:=by rw [S.n];rfl
 have pv:∀{q:Pos},PE Y.X (.Name sf q) (tVar 0):=fun {q}=>xT (pos:=q) hi (hx.1.elim .inl fun h=> .inr (.inl h)) hx.2.1 hx.2.2
 have hp:EvD Y (.Name fr q3) [.un,.val pr] pr:=xb S.toSe 1
 have cl:Cls Y.X.K C:=by rw [S.eK];exact Z.cl
 have np:NoAttr Y.X.K C "prime" :=by rw [S.eK];exact Z.np
 have ne:NoAttr Y.X.K C "earlier" :=by rw [S.eK];exact Z.ne
 have ns:NoAttr Y.X.K C "spot" :=by rw [S.eK];exact Z.ns
 have hv:∀j,slot [Slot.un,.val pr] j= .un∨∃d,slot [Slot.un,.val pr] j= .val d:=fun j=>by
  match j with
  | 0=>exact .inl rfl
  | 1=>exact .inr ⟨pr,rfl⟩
  | j+2=>exact .inl rfl
 refine PSs.imp (va (uo pv hp hs1) (va (uo pv hF hs2) (Va (uo pv (Ym yq) hs3)))) fun D σ H ⟨F,a,dx,E,hσ,ha,fa,h0,q⟩=>?_
 refine ⟨F,E,fun x1 F1 H1 e1 rx=>?_⟩
 have f1:F1 a=none:=e1.fr a (by rw [ha];exact fun z=>nomatch z) fa
 have E1:EnvY Y F1 (upd H1 a (.ins C dx (putF "prime" x1 []))) σ [.un,.val pr]:=(E.grow e1).wr h0 f1 hv
 refine ⟨.ref a,hσ,a,C,dx,[],rfl,e1.hh _ _ ha,cl,np,(by show 0<1000;decide),F1,E1,fun y1 F2 H2 e2 ry=>?_⟩
 have f2:F2 a=none:=e2.fr a (by rw [xm];exact fun z=>nomatch z) f1
 have a2:=e2.hh a _ xm
 have E2:EnvY Y F2 (upd H2 a (.ins C dx (putF "spot" y1 (putF "prime" x1 [])))) σ [.un,.val pr]:=(E1.grow e2).wr h0 f2 hv
 refine ⟨.ref a,hσ,a,C,dx,_,rfl,a2,cl,ns,(by show 1<1000;decide),Nat.zero_le _,fun l hl=>?_⟩
 have la:l≠a:=fun z=>by rw [z,xm] at hl;cases hl
 have l0:Y.H0 l=none:=none_of E2.ext.hh hl
 have fl:F2 l=none:=none_of E2.ext.fh hl
 refine ⟨.ref a,hσ,a,C,dx,_,rfl,by rw [xh (Ne.symm la),xm],cl,ne,(by show 2<1000;decide),?_⟩
 exact q F2 _ l x1 y1 ((E2.wr (o:= .lst []) l0 fl hv).wr (a:=a) h0 f2 hv).ext f2 xm (by rw [xh la,xm]) fl l0 (rx.mono e2.ff) ry
theorem xbJ {fI:Addr} {fd:FuncData} {sf fr:Str} {st:Stmt} (F:Fun T.K x qual st fI fd) (B:ScB [sf,fr] [sf,fr] G (defScope st))
  (body:∀(Y:Cy) (S:Sc Y T k [sf,fr] G) (p:D),PSs Y.X (defBody st) (tN Y C p)):FnOk T.prog T.w T.K T.mg T.base CX0 (k+1) fI fd [sf,fr] (spN T C):=by
 refine F.ok B.fs (fun vs H Q E h=>?_) fun cdv A outer s H vs Q E hr h=>?_
 ·obtain ⟨F0,a,dx,x,p,rfl,_⟩:=h;rfl
 ·obtain ⟨F0,a,dx,x,p,rfl,f0,rx,ha,fa,q⟩:=h
  have S:Sc ⟨(cxOf CX0 T.prog T.w T.K T.mg T.base [sf,fr] qual (defScope st) fI cdv A outer s H E).nox,F0,rmD H a a⟩ T k [sf,fr] G:=
   ⟨⟨⟨rfl,rfl,rfl,rfl,rfl,rfl,B.fs.nd,B.loc,B.gl⟩,rfl,hr⟩,fun _=>rfl,PassesOwn.never⟩
  refine ⟨_,body _ S p,F0,a,dx,⟨⟨Same.refl F0,f0,fun b o g=>(qN g).2.2,fun _ _ z=>z⟩,rfl,fun i=>?_,fun i j a h1 _ _ _=>?_⟩,rfl,ha,fa,UE,fun F' H' l x' y h1 h2 h3 h4 h5 h6 h7 h8=>q F' H' l x' y h1 h2 h3 h4 h5 h6 h7 h8⟩
  ·cases i with
   | zero=>exact trivial
   | succ i=>
    cases i with
    | zero=>exact ⟨_,rfl,rx⟩
    | succ i=>show SlotOk T.K _ F0 H _ (slot [] i);exact trivial
  ·cases i with
   | zero=>cases h1
   | succ i=>
    cases i with
    | zero=>cases h1
    | succ i=>cases h1
theorem PE.lstx {X:Cx} {t:TE} (h:PE X e t):PE X e (fun σ H Q=>t σ H (fun v H'=>∃l vs,H' l=some (.lst vs)/\((∃h,LstAt l vs h)->Q v (upd H' l (.ext (LstAt l vs)))))):=by
 intro pins s σ H Q I q
 refine thn (h pins s σ _ _ I q) fun u s1 ⟨v,H',I',rv,l,vs',h',q'⟩=>?_
 have J:=I'.lstx h'
 exact ⟨v,_,J.1,rv,q' ⟨_,J.2⟩⟩
theorem Env.dsk_put {K:W.Frag} {F₀ H₀ F H:Hp} {σ:St} (E:Env K F₀ H₀ F H σ c) (hi:i<c.length) (hd:DskOk K H₀ F H ad l C pr s past) (ap:∀j,isOwn (slot c j)=true->σ[j]? =some (some (V.ref ad))->False):Env K F₀ H₀ F H (σ.set i (some (.ref ad))) (put c i (.dsk ad l C pr s past)) where
 ext:=E.ext
 len:=by rw [List.length_set,yb];exact E.len
 sl:=fun j=>by
  by_cases e:i=j
  ·subst e
   rw [xV _ _ _ hi,List.getElem?_set_self (by rw [E.len];exact hi)]
   exact ⟨rfl,hd⟩
  ·rw [xt _ _ _ _ e,mG e]
   exact E.sl j
 inj:=fun j k b h1 h2 h3 h4=>by
  by_cases e:i=j
  ·subst e
   by_cases e2:i=k
   ·exact e2
   ·rw [List.getElem?_set_self (by rw [E.len];exact hi)] at h3
    cases h3
    rw [mG e2] at h4
    rw [xt _ _ _ _ e2] at h2
    exact (ap k h2 h4).elim
  ·by_cases e2:i=k
   ·subst e2
    rw [List.getElem?_set_self (by rw [E.len];exact hi)] at h4
    cases h4
    rw [mG e] at h3
    rw [xt _ _ _ _ e] at h1
    exact (ap j h1 h3).elim
   ·rw [xt _ _ _ _ e] at h1
    rw [xt _ _ _ _ e2] at h2
    rw [mG e] at h3
    rw [mG e2] at h4
    exact E.inj j k b h1 h2 h3 h4
theorem Env.own_some {K:W.Frag} {F₀ H₀ F H:Hp} {σ:St} {a:Addr} (E:Env K F₀ H₀ F H σ c) {j:Nat} (h:isOwn (slot c j)=true) (hσ:σ[j]? =some (some (V.ref a))):∃o,H a=some o:=by
 have q:=E.sl j
 cases hs:slot c j with
 | own ds'=>rw [hs] at q;obtain ⟨b,ws,h,h1,_⟩:=q;rw [hσ] at h;cases h;exact ⟨_,h1⟩
 | dic ds'=>rw [hs] at q;obtain ⟨b,ws,h,h1,_⟩:=q;rw [hσ] at h;cases h;exact ⟨_,h1⟩
 | thg ds'=>rw [hs] at q;obtain ⟨b,ws,h,h1,_⟩:=q;rw [hσ] at h;cases h;exact ⟨_,h1⟩
 | dsk a' l' C p' s' past=>rw [hs] at q;obtain ⟨h,_,_,_,_,h1,_⟩:=q;rw [hσ] at h;cases h;exact ⟨_,h1⟩
 | bor t=>rw [hs] at h;cases h
 | fnv t=>rw [hs] at h;cases h
 | un=>rw [hs] at h;cases h
 | val d=>rw [hs] at h;cases h
 | exc C dx=>rw [hs] at h;cases h
theorem xa2 {z:Str} {p pos':Pos} {f:Addr} {fd:FuncData} (S:Sc Y T k N G) (i gi:Nat) (M:Mk T.K C f) (F:FnOk T.prog T.w T.K T.mg T.base CX0 j f fd ps (spN T C)) (hj:j+1<=k) (hb:Binds T.K fd ps []) (hC:T.mg "Desk" =some (.ref C)) (he:EvD Y e c d) (hr:∀a l,SsD Y rest (put c i (.dsk a l C d firstD [])) P)
  (hg:G[gi]? =some ("Desk" :Str):=by rfl) (hi:N[i]? =some z:=by rfl) (hlt:i<c.length:=by first | exact of_decide_eq_true rfl | decide | omega) (hst:starEach [e] Y.X.env=(false,eval e Y.X.env)::starEach [] Y.X.env:=by rfl)
  (hsw:swapsWith (.Call (.Name "Desk" p) [e] [] pos) (some (.Name z pos')) pos.line Y.X.env=pure false:=by rfl):SsD Y (.Assign [.Name z pos'] (.Call (.Name "Desk" p) [e] [] pos) pos::rest) c P:=by
 have F':FnOk Y.X.prog Y.X.w Y.X.K Y.X.mg Y.X.base CX0 j f fd ps (spN T C):=by rw [S.eP,S.eW,S.eK,S.eM,S.eB];exact F
 have gl:=S.gl _ (mz hg)
 have hx:=S.loc z (mz hi)
 have hN:=S.nd
 rw [<-S.n] at hi hN
 refine xF (PS.imp (qO hN hi hx.1 (PE.lstx (Jd (by rw [S.eK];exact M) F' (S.room.mono hj) gl.1 (by rw [S.eM];exact hC) (by rw [S.eK];exact hb) .nil pass0 (xQ he yq hst) gl.2.1 hst rfl)) hsw (.inl (S.fn z))) fun D σ H ⟨F,E,m⟩=>⟨F,E,fun v F1 H1 e1 r1 a dx ha hdx hne=>?_⟩)
 have E1:=E.grow e1
 have B1:∀b o,H1 b=some o->upd (upd H1 dx (.own a)) a (.ins C dx []) b=some o/\b≠a:=fun b o g=>⟨by rw [xh (xo g ha),xh (xo g hdx)];exact g,xo g ha⟩
 refine ⟨F1,a,dx,v,d,rfl,fun b o g=>(B1 b o (e1.fh b o g)).1,by rw [<-S.eK];exact r1,xm,none_of e1.fh ha,fun F2 H2 l x' y h1 h2 h3 h4 h5 h6 h7 h8=>⟨rfl,l,[],h4,fun hw=>?_⟩⟩
 have la:l≠a:=fun z=>by rw [z,h3] at h4;cases h4
 have lH:H1 l=none:=by
  cases q:H1 l with
  | none=>rfl
  | some o=>
   have:=zq (B1 l o q).1 la la
   rw [h6] at this
   cases this
 have X:Ext F1 H1 F2 (upd H2 l (.ext (LstAt l []))):=by
  refine ⟨h1.ff,fun b o g=>?_,fun b o g=>?_,fun b hb fb=>?_⟩
  ·rw [xh (xo g h5)];exact h1.fh b o g
  ·obtain ⟨g1,g2⟩:=B1 b o g
   rw [xh (xo g lH)]
   exact h1.hh b o (zq g1 g2 g2)
  ·cases q:H1 b with
   | none=>exact absurd q hb
   | some o=>
    obtain ⟨g1,g2⟩:=B1 b o q
    exact h1.fr b (by rw [zq g1 g2 g2];exact fun z=>nomatch z) fb
 have E2:=E1.grow X
 refine m (.nx _) (hr a l) _ F2 _ (e1.ff.trans h1.ff) (E2.dsk_put hlt ⟨dx,[],x',y,by rw [xh (Ne.symm la)];exact h3,xm,hw,h2,h5,none_of E1.ext.hh ha,none_of E1.ext.hh lH,by rw [S.eK];exact h7,by rw [S.eK];exact h8,.nil⟩ fun j hj hσ=>?_)
 obtain ⟨o,ho⟩:=E1.own_some hj hσ
 rw [ha] at ho
 cases ho
end
structure DicT (T:Tx) (x:Str) (kvs:List (Str×Value)):Prop where
 ex:∃a o es ep,T.mg x=some (.ref a)/\(a==sysModules)=false/\T.K.lookup a=some o/\o.ExactDict/\o.data= .dict es ep/\KeysOf (strKind T.prog T.w) es/\Pairs (strKind T.prog T.w) es.toList kvs/\(kvs.map (·.1)).Nodup
section
variable {Y:Cy} {T:Tx} {k j:Nat} {N G:List Str} {c:List Slot} {a b e:Expr} {es:List Expr} {pos p:Pos} {d:D} {ds:List D} {x z w:Str} {P:Out->Prop} {rest:List Stmt} {kvs:List (Str×Value)} {u:Value} {v:V} {i:Nat} {f:Addr}
theorem ur (S:Se Y T k N G) (gi:Nat) (Dc:DicT T x kvs) (hb:EvD Y b c (.str w)) (hv:valueAt kvs w=some u) (hr:RelV v u) (hs:NoSl b) (hg:G[gi]? =some x:=by rfl):
  PE Y.X (.Subscript (.Name x p) b pos) (fun σ H Q=>∃F,EnvY Y F H σ c/\∀F' H',Ext F H F' H'->Q v H'):=by
 obtain ⟨ad,o,es',ep,hm,hsm,hlk,h1,h2,h3,h4,h5⟩:=Dc.ex
 have gl:=S.gl x (mz hg)
 intro pins s σ H Q I ⟨F,E,q⟩
 refine kA PySem.F.slot_dict_getitem.lookup hs (yz I gl.1 (by rw [S.eM];exact hm) ?_ gl.2.1)
 refine thn (hb pins s σ H (fun y H1=>y= .str w/\∃F1,Ext F H F1 H1) I ⟨F,E,fun y F1 H1 e1 r1=>⟨xN r1,F1,e1⟩⟩) fun iv s2 ⟨y,H2,I2,ry,ey,F1,e1⟩=>?_
 subst ey
 obtain ⟨t,rfl⟩:=(show ∃t,iv=Value.str w t from ry)
 have dd:s2.heap.DictOf (strKind Y.X.prog Y.X.w) ad kvs:=by
  rw [S.eP,S.eW]
  exact ⟨o,es',ep,I2.kIn ad o (by rw [S.eK];exact hlk),h1,h2,h3,h4,h5⟩
 exact ⟨dd.typeIs,wpAny_getItem_of (knd:=strKind Y.X.prog Y.X.w) (k:=w) (by show Value.isStrOf w (.str w t)=true;simp [Value.isStrOf]) dd.mapOf hv ⟨v,H2,I2.tok _,hr,q F1 H2 e1⟩⟩
theorem xaH {y:Str} {t:Tok} (S:Se Y T k N G) (gi:Nat) (Dc:DicT T x kvs) (hb:EvD Y b c (.str w)) (hv:valueAt kvs w=some (.str y t)) (hs:NoSl b) (hg:G[gi]? =some x:=by rfl):EvD Y (.Subscript (.Name x p) b pos) c (.str y):=
 PE.imp (ur (v:= .str y) S gi Dc hb hv ⟨t,rfl⟩ hs hg) fun σ H Q ⟨F,E,q⟩=>⟨F,E,fun F' H' x=>q _ F' H' x (.str y)⟩
theorem xaI {n:Int} {t:Tok} (S:Se Y T k N G) (gi:Nat) (Dc:DicT T x kvs) (hb:EvD Y b c (.str w)) (hv:valueAt kvs w=some (.int n t)) (hs:NoSl b) (hg:G[gi]? =some x:=by rfl):EvD Y (.Subscript (.Name x p) b pos) c (.int n):=
 PE.imp (ur (v:= .int n) S gi Dc hb hv ⟨t,rfl⟩ hs hg) fun σ H Q ⟨F,E,q⟩=>⟨F,E,fun F' H' x=>q _ F' H' x (.int n)⟩
theorem Jf (S:Se Y T k N G) (gi:Nat) (Dc:DicT T x kvs) (ha:EvD Y a c (.str w)) (hg:G[gi]? =some x:=by rfl):
  PC Y.X .In a (.Name x p) (fun σ H Q=>∃F,EnvY Y F H σ c/\∀F' H',Ext F H F' H'->Q (.bl (valueAt kvs w).isSome) H'):=by
 obtain ⟨ad,o,es',ep,hm,hsm,hlk,h1,h2,h3,h4,h5⟩:=Dc.ex
 have gl:=S.gl x (mz hg)
 intro pins s σ H Q I ⟨F,E,q⟩
 refine thn (ha pins s σ H (fun y H1=>y= .str w/\∃F1,Ext F H F1 H1) I ⟨F,E,fun y F1 H1 e1 r1=>⟨xN r1,F1,e1⟩⟩) fun iv s2 ⟨y,H2,I2,ry,ey,F1,e1⟩=>yz I2 gl.1 (by rw [S.eM];exact hm) ?_ gl.2.1
 subst ey
 obtain ⟨t,rfl⟩:=(show ∃t,iv=Value.str w t from ry)
 have dd:s2.heap.DictOf (strKind Y.X.prog Y.X.w) ad kvs:=by
  rw [S.eP,S.eW]
  exact ⟨o,es',ep,I2.kIn ad o (by rw [S.eK];exact hlk),h1,h2,h3,h4,h5⟩
 exact wpAny_in_of (knd:=strKind Y.X.prog Y.X.w) (k:=w) (by show Value.isStrOf w (.str w t)=true;simp [Value.isStrOf]) hsm dd.mapOf ⟨.bl _,H2,I2.tok _,rfl,q F1 H2 e1⟩
theorem UU (S:Se Y T k N G) (gi:Nat) (Dc:DicT T x kvs) (ha:EvD Y a c (.str w)) (hg:G[gi]? =some x:=by rfl):
  PC Y.X .NotIn a (.Name x p) (fun σ H Q=>∃F,EnvY Y F H σ c/\∀F' H',Ext F H F' H'->Q (.bl (!(valueAt kvs w).isSome)) H'):=by
 obtain ⟨ad,o,es',ep,hm,hsm,hlk,h1,h2,h3,h4,h5⟩:=Dc.ex
 have gl:=S.gl x (mz hg)
 intro pins s σ H Q I ⟨F,E,q⟩
 refine thn (ha pins s σ H (fun y H1=>y= .str w/\∃F1,Ext F H F1 H1) I ⟨F,E,fun y F1 H1 e1 r1=>⟨xN r1,F1,e1⟩⟩) fun iv s2 ⟨y,H2,I2,ry,ey,F1,e1⟩=>yz I2 gl.1 (by rw [S.eM];exact hm) ?_ gl.2.1
 subst ey
 obtain ⟨t,rfl⟩:=(show ∃t,iv=Value.str w t from ry)
 have dd:s2.heap.DictOf (strKind Y.X.prog Y.X.w) ad kvs:=by
  rw [S.eP,S.eW]
  exact ⟨o,es',ep,I2.kIn ad o (by rw [S.eK];exact hlk),h1,h2,h3,h4,h5⟩
 exact wpAny_notIn_of (knd:=strKind Y.X.prog Y.X.w) (k:=w) (by show Value.isStrOf w (.str w t)=true;simp [Value.isStrOf]) hsm dd.mapOf ⟨.bl _,H2,I2.tok _,rfl,q F1 H2 e1⟩
theorem ky (S:Se Y T k N G) (gi:Nat) (Dc:DicT T x kvs) (ha:EvD Y a c (.str w)) (hg:G[gi]? =some x:=by rfl) (hm:behindInMarks .In (.Name x p)=false:=by rfl):TeD Y (.Compare a [.In] [.Name x p] pos) c (valueAt kvs w).isSome:=
 PT.imp (Qa (Jf S gi Dc ha hg) hm) fun σ H Q ⟨F,E,q⟩=>⟨F,E,fun F' H' x=>⟨_,rfl,q F' H' x⟩⟩
theorem Uf (S:Se Y T k N G) (gi:Nat) (Dc:DicT T x kvs) (ha:EvD Y a c (.str w)) (hg:G[gi]? =some x:=by rfl) (hm:behindInMarks .NotIn (.Name x p)=false:=by rfl):TeD Y (.Compare a [.NotIn] [.Name x p] pos) c (!(valueAt kvs w).isSome):=
 PT.imp (Qa (UU S gi Dc ha hg) hm) fun σ H Q ⟨F,E,q⟩=>⟨F,E,fun F' H' x=>⟨_,rfl,q F' H' x⟩⟩
theorem Env.setF {K:W.Frag} {F₀ H₀ F H:Hp} {σ:St} (E:Env K F₀ H₀ F H σ c) (hi:i<c.length):Env K F₀ H₀ F H (σ.set i (some (.ref f))) (put c i (.fnv f)) where
 ext:=E.ext
 len:=by rw [List.length_set,yb];exact E.len
 sl:=fun j=>by
  by_cases e:i=j
  ·subst e
   rw [xV _ _ _ hi,List.getElem?_set_self (by rw [E.len];exact hi)]
   rfl
  ·rw [xt _ _ _ _ e,mG e]
   exact E.sl j
 inj:=fun j k a h1 h2 h3 h4=>by
  by_cases e:i=j
  ·subst e;rw [xV _ _ _ hi] at h1;cases h1
  ·by_cases e2:i=k
   ·subst e2;rw [xV _ _ _ hi] at h2;cases h2
   ·rw [xt _ _ _ _ e] at h1
    rw [xt _ _ _ _ e2] at h2
    rw [mG e] at h3
    rw [mG e2] at h4
    exact E.inj j k a h1 h2 h3 h4
theorem kD {pos':Pos} (S:Sc Y T k N G) (i gi:Nat) (Dc:DicT T x kvs) (hb:EvD Y b c (.str w)) (hv:valueAt kvs w=some (.ref f)) (hn:NoSl b) (hr:SsD Y rest (put c i (.fnv f)) P) (hg:G[gi]? =some x:=by rfl) (hi:N[i]? =some z:=by rfl) (hlt:i<c.length:=by first | exact mC rfl | decide | omega)
  (hs:swapsWith (.Subscript (.Name x p) b pos) (some (.Name z pos')) pos.line Y.X.env=pure false:=by rfl):SsD Y (.Assign [.Name z pos'] (.Subscript (.Name x p) b pos) pos::rest) c P:=by
 have hx:=S.loc z (mz hi)
 have hN:=S.nd
 rw [<-S.n] at hi hN
 refine xF (PS.imp (qO hN hi hx.1 (ur (v:= .ref f) S.toSe gi Dc hb hv rfl hn hg) hs (.inl (S.fn z))) fun D σ H ⟨F,E,m⟩=>⟨F,E,fun F' H' e'=>?_⟩)
 exact m (.nx _) hr _ F' H' e'.ff ((E.grow e').setF hlt)
theorem jK {R:List D->D->Prop} (S:Se Y T k N G) (i:Nat) (hsl:slot c i= .fnv f) (Fn:FnD T j x R) (hf:T.mg x=some (.ref f)) (hj:j<=k) (ha:ArD Y (e::es) c ds) (hR:R ds d) (hi:N[i]? =some z:=by rfl)
  (he:starEach (e::es) Y.X.env=(false,eval e Y.X.env)::starEach es Y.X.env:=by rfl) (hpl:(backTo pos (starEach es Y.X.env)).any (·.1)=false:=by rfl):EvD Y (.Call (.Name z p) (e::es) [] pos) c d:=by
 obtain ⟨f',fd,ps,hm,hk,hb,F⟩:=Fn.ex
 rw [hf] at hm
 cases hm
 have hx:=S.loc z (mz hi)
 rw [<-S.n] at hi
 have F':FnOk Y.X.prog Y.X.w Y.X.K Y.X.mg Y.X.base CX0 j f fd ps (spD Y.X.K R):=by rw [S.eP,S.eW,S.eK,S.eM,S.eB];exact F
 intro pins s σ H Q I ⟨F0,E,q⟩
 have hσ:σ[i]? =some (some (.ref f)):=by have:=E.sl i;rw [hsl] at this;exact this
 refine wpAny_Call_Name_kw (thn (xT hi (hx.1.elim .inl fun h=> .inr (.inl h)) hx.2.1 hx.2.2 pins s σ H (fun v H1=>v= .ref f/\H1=H) I ⟨.ref f,hσ,rfl,rfl⟩) fun fv s1 ⟨v,H1,I1,rv,ev,eh⟩=>?_)
 subst ev eh
 cases (show fv=Value.ref f from rv)
 refine W.callWith_K (h₀:=Y.X.base) I1.ok.mod.kin (by rw [S.eK];exact hk) (thn (ha pos pins s1 σ H1 (fun vs H2=>∃F1,Ext F0 H1 F1 H2/\Reps Y.X.K F1 vs ds) I1 ⟨F0,E,fun vs F1 H2 e1 r1=>⟨F1,e1,r1⟩⟩) fun us s2 ⟨vs,H2,I2,r,F1,e1,rs⟩=>⟨I2.kIn,?_⟩) he hpl
 exact ug (dvs:=[]) (ds:=[]) F' (S.room.mono hj) (by rw [S.eK];exact hb) .nil pass0 I2 r (by rw [List.append_nil];exact ⟨F1,ds,d,e1.fh,rs,hR,fun v F2 H3 e2 r2=>q v F2 H3 (e1.trans e2) r2⟩)
end
inductive VD where
 | s (x:Str) | i (n:Int) | f (g:Str)
def RV (T:Tx):VD->Value->Prop
 | .s x,v=>∃t,v= .str x t
 | .i n,v=>∃t,v= .int n t
 | .f g,v=>∃a,T.mg g=some (.ref a)/\v= .ref a
inductive PV (T:Tx):List (Str×VD)->List (Str×Value)->Prop
 | nil:PV T [] []
 | cons {x:Str} {d:VD} {v:Value} {l:List (Str×VD)} {m:List (Str×Value)}:RV T d v->PV T l m->PV T ((x,d)::l) ((x,v)::m)
def DicV (T:Tx) (x:Str) (l:List (Str×VD)):Prop:=∃kvs,DicT T x kvs/\PV T l kvs
noncomputable def lkD:List (Str×VD)->Str->Option VD
 | [],_=>none
 | (y,d)::r,x=>if y=x then some d else lkD r x
theorem qY {x w:Str} {v:Value} {m:List (Str×Value)}:valueAt ((x,v)::m) w=if x=w then some v else valueAt m w:=by
 unfold valueAt
 rw [List.find?_cons]
 by_cases h:x=w
 ·rw [if_pos h];simp [h]
 ·rw [if_neg h];simp [h]
theorem wI {T:Tx} {w:Str} {d:VD}:∀{l:List (Str×VD)} {m:List (Str×Value)},PV T l m->lkD l w=some d->∃v,valueAt m w=some v/\RV T d v
 | _,_,.nil,h=>by cases h
 | _,_,.cons (x:=x) r t,h=>by
  rw [qY]
  unfold lkD at h
  by_cases e:x=w
  ·rw [mH e] at h ⊢
   cases h
   exact ⟨_,rfl,r⟩
  ·rw [mF e] at h ⊢
   exact wI t h
theorem UL {T:Tx} {w:Str}:∀{l:List (Str×VD)} {m:List (Str×Value)},PV T l m->(valueAt m w).isSome=(lkD l w).isSome
 | _,_,.nil=>rfl
 | _,_,.cons (x:=x) r t=>by
  rw [qY]
  unfold lkD
  by_cases e:x=w
  ·rw [mH e,mH e];rfl
  ·rw [mF e,mF e]
   exact UL t
noncomputable def dicE (P:Params) (l:List (Str×Tok×Value)):Array DictEntry:=(l.map fun q=>(⟨PyData.keyHash P q.1,.str q.1 q.2.1,q.2.2⟩:DictEntry)).toArray
theorem uv {pr:Program} {w:World}:∀l:List (Str×Tok×Value),Pairs (strKind pr w) (l.map fun q=>(⟨PyData.keyHash w.params q.1,.str q.1 q.2.1,q.2.2⟩:DictEntry)) (l.map fun q=>(q.1,q.2.2))
 | []=> .nil
 | q::r=> .cons (by show Value.isStrOf q.1 (.str q.1 q.2.1)=true;simp [Value.isStrOf]) rfl (uv r)
theorem wR {T:Tx} {x:Str} {ca:Addr} {l:List (Str×Tok×Value)} {n:Nat} (hm:T.mg x=some (.ref ca)) (hs:(ca==sysModules)=false) (hl:T.K.lookup ca=some ⟨.type "dict",none,.dict (dicE T.w.params l) n,#[]⟩) (hn:(l.map (·.1)).Nodup):DicT T x (l.map fun q=>(q.1,q.2.2)):=by
 refine ⟨ca,_,_,_,hm,hs,hl,⟨rfl,rfl,rfl⟩,rfl,fun e he=>?_,uv l,by rw [List.map_map];exact hn⟩
 unfold dicE at he
 obtain ⟨q,_,rfl⟩:=List.mem_map.mp (List.mem_toArray.mp he)
 exact ⟨q.1,by show Value.isStrOf q.1 (.str q.1 q.2.1)=true;simp [Value.isStrOf],rfl⟩
section
variable {Y:Cy} {T:Tx} {k j:Nat} {N G:List Str} {c:List Slot} {a b e:Expr} {es:List Expr} {pos p:Pos} {d:D} {ds:List D} {x z w g:Str} {P:Out->Prop} {rest:List Stmt} {l:List (Str×VD)} {i:Nat} {f:Addr}
theorem xaF {y:Str} (S:Se Y T k N G) (gi:Nat) (Dc:DicV T x l) (hb:EvD Y b c (.str w)) (hv:lkD l w=some (.s y)) (hs:NoSl b) (hg:G[gi]? =some x:=by rfl):EvD Y (.Subscript (.Name x p) b pos) c (.str y):=by
 obtain ⟨kvs,D1,D2⟩:=Dc
 obtain ⟨v,h1,t,rfl⟩:=wI D2 hv
 exact xaH S gi D1 hb h1 hs hg
theorem xaG {n:Int} (S:Se Y T k N G) (gi:Nat) (Dc:DicV T x l) (hb:EvD Y b c (.str w)) (hv:lkD l w=some (.i n)) (hs:NoSl b) (hg:G[gi]? =some x:=by rfl):EvD Y (.Subscript (.Name x p) b pos) c (.int n):=by
 obtain ⟨kvs,D1,D2⟩:=Dc
 obtain ⟨v,h1,t,rfl⟩:=wI D2 hv
 exact xaI S gi D1 hb h1 hs hg
theorem zw (S:Se Y T k N G) (gi:Nat) (Dc:DicV T x l) (ha:EvD Y a c (.str w)) (hg:G[gi]? =some x:=by rfl) (hm:behindInMarks .In (.Name x p)=false:=by rfl):TeD Y (.Compare a [.In] [.Name x p] pos) c (lkD l w).isSome:=by
 obtain ⟨kvs,D1,D2⟩:=Dc
 rw [<-UL D2]
 exact ky S gi D1 ha hg hm
theorem Ue (S:Se Y T k N G) (gi:Nat) (Dc:DicV T x l) (ha:EvD Y a c (.str w)) (hg:G[gi]? =some x:=by rfl) (hm:behindInMarks .NotIn (.Name x p)=false:=by rfl):TeD Y (.Compare a [.NotIn] [.Name x p] pos) c (!(lkD l w).isSome):=by
 obtain ⟨kvs,D1,D2⟩:=Dc
 rw [<-UL D2]
 exact Uf S gi D1 ha hg hm
theorem Ur {pos':Pos} (S:Sc Y T k N G) (i gi:Nat) (Dc:DicV T x l) (hb:EvD Y b c (.str w)) (hv:lkD l w=some (.f g)) (hn:NoSl b) (hr:∀f,T.mg g=some (.ref f)->SsD Y rest (put c i (.fnv f)) P) (hg:G[gi]? =some x:=by rfl) (hi:N[i]? =some z:=by rfl) (hlt:i<c.length:=by first | exact mC rfl | decide | omega)
  (hs:swapsWith (.Subscript (.Name x p) b pos) (some (.Name z pos')) pos.line Y.X.env=pure false:=by rfl):SsD Y (.Assign [.Name z pos'] (.Subscript (.Name x p) b pos) pos::rest) c P:=by
 obtain ⟨kvs,D1,D2⟩:=Dc
 obtain ⟨v,h1,f,hf,rfl⟩:=wI D2 hv
 exact kD S i gi D1 hb h1 hn (hr f hf) hg hi hlt hs
end
def tD1 (Y:Cy) (C:Addr) (g:Str) (q:D):TS:=fun D σ H=>∃F a dx,EnvY Y F H σ [.un,.val q]/\σ[0]? =some (some (.ref a))/\H a=some (.ins C dx [])/\F a=none/\Y.H0 a=none/\∀F' H' x',Ext Y.F0 Y.H0 F' H'->F' a=none->H' a=some (.ins C dx [(g,x')])->Rep Y.X.K F' x' q->D.nx σ H'
section
variable {Y:Cy} {T:Tx} {k:Nat} {N G:List Str} {c:List Slot} {e a b o:Expr} {pos apos:Pos} {ds:List D}
theorem U9 {X:Cx}:MtR X "str.join" (fun x vs H Q=>∃sep p xs,x= .str sep/\vs=[.ref p]/\SqL X.K H p (xs.map V.str)/\JoinOk sep xs=true/\Q (.str (Txt.join sep xs)) H):=by
 intro pins s σ H x xs v us Q I rx r h
 obtain ⟨sep,p,ys,rfl,rfl,hp,hok,q⟩:=h
 obtain ⟨t,rfl⟩:=rx
 obtain ⟨u,rfl,ru⟩:=vals1 r
 cases (show u=Value.ref p from ru)
 obtain ⟨its,r',pl,hz2⟩:=I.list hp
 obtain ⟨ls,el,ex⟩:=qL r'
 subst el ex
 unfold JoinOk at hok
 rw [Bool.not_eq_true'] at hok
 refine call_meets PySem.F.slot_str_join (typeIs_str s sep t) PySem.F.entry_str_join (PySem.F.args_str_join_2 _ _) (meets_str_join_list sep t p ls hok) ⟨pl.isList,post_join ls ⟨joinFit_length hok,fun t' k=>⟨.str _,H,I.kept (t':=k) (fun _ _ z=>z),⟨t',rfl⟩,q⟩⟩⟩
theorem jF {sep:Str} {xs:List Str} (ho:EvD Y o c (.str sep)) (ha:EvD Y b c (.lst (xs.map D.str))) (hok:JoinOk sep xs=true)
  (hbase:attributeBase o "join" Y.X.env (eval o Y.X.env)=eval o Y.X.env:=by rfl) (hfew:((backTo pos (starEach [b] Y.X.env)).all (fun x=> !x.1) && (backToKw pos (keywordEach [] Y.X.env)).all (fun x=>x.1.isSome)
   && decide ([b].length+([]:List Keyword).length+(if ([]:List Keyword).isEmpty then 0 else 1)<30))=true:=by rfl) (hline:(apos.endLine==pos.line)=true:=by rfl) (hs:starEach [b] Y.X.env=(false,eval b Y.X.env)::starEach [] Y.X.env:=by rfl):
  EvD Y (.Call (.Attribute o "join" apos) [b] [] pos) c (.str (Txt.join sep xs)):=
 PE.imp (ut PySem.F.plainAttrs_str PySem.F.slot_str_join PySem.F.type_str_join U9 ho (xQ ha yq hs) hbase hfew hline hs rfl) fun σ H Q ⟨F,E,q⟩=>⟨F,E,fun v F1 H1 e1 r1=>by
  cases xN r1
  exact ⟨rfl,F1,E.grow e1,fun w F2 H2 e2 r2=>by
   obtain ⟨p,ws,rfl,hp,rs⟩:=yL r2
   have:=wY rs
   subst this
   exact ⟨sep,p,xs,rfl,rfl,e2.fh.seq hp,hok,q _ F2 H2 (e1.trans e2) (.str _)⟩⟩⟩
end
noncomputable def deKb (K:W.Frag) (C:Addr):Bool:=W.plainGet K C Str.empty && (W.hasDictIn K C && (W.plainOver K C && (W.findIn K (.ref C) "__setattr__" ==some (some (.builtin "object.__setattr__")) && W.findIn K (.ref C) "number" ==some none)))
theorem xaN {K:W.Frag} {C:Addr} (h:deKb K C=true):Cls K C/\NoAttr K C "number" :=by
 unfold deKb at h
 simp only [Bool.and_eq_true,beq_iff_eq] at h
 obtain ⟨a,b,c,d,e⟩:=h
 exact ⟨⟨a,b,c,d⟩,e⟩
noncomputable def ndK (K:W.Frag):Bool:=match K.lookup cStatics with
 | some ⟨_,_,.dict es _,_⟩=>es.toList.all (fun e=>match e.key with | .str _ _=>true | _=>false) && (es.toList.find? (·.key.isStr "sys.int_max_str_digits")).isNone
 | _=>false
def spD1X (T:Tx) (C:Addr) (g:Str) (P Pe:D->Prop) (y:Str):Sp:=fun vs H Q E=>∃F a dx x q,vs=[.ref a,x]/\Same F H/\Rep T.K F x q/\H a=some (.ins C dx [])/\F a=none/\
 ((P q/\∀F' H' x',Ext F (rmD H a a) F' H'->F' a=none->H' a=some (.ins C dx [(g,x')])->Rep T.K F' x' q->Q .non H')∨(Pe q/\∀C' F' H',T.mg y=some (.ref C')->Ext F (rmD H a a) F' H'->E (.ref C') none H'))
section
variable {Y:Cy} {T:Tx} {k j j2:Nat} {N G ps ps2:List Str} {c:List Slot} {e a b:Expr} {es:List Expr} {pos p:Pos} {d q:D} {ds:List D} {R:List (Str×D)->List D->D->Prop} {x qual m cn g y:Str} {P:Out->Prop} {rest:List Stmt} {C:Addr} {fs:List (Str×D)} {i:Nat}
theorem xax {fI:Addr} {fd:FuncData} {sf fr:Str} {st:Stmt} {P Pe:D->Prop} (F:Fun T.K x qual st fI fd) (B:ScB [sf,fr] [sf,fr] G (defScope st))
  (body:∀(Y:Cy) (S:Sc Y T k [sf,fr] G) (q:D),(P q->PSs Y.X (defBody st) (tD1 Y C g q))/\(Pe q->(∀c,RzN Y T y c/\RzMN Y T y c)->SsD Y (defBody st) [.un,.val q] (fun _=>False))):FnOk T.prog T.w T.K T.mg T.base (CXE T.prog T.w) (k+1) fI fd [sf,fr] (spD1X T C g P Pe y):=by
 obtain ⟨oc,od,kV,doc,pm,an,cdv,ct,osl,rfl,lk,hcd⟩:=F.ex
 refine XL lk hcd B.fs (fun vs H Q E h=>?_) fun A outer s H vs Q E hr h=>?_
 ·obtain ⟨F0,a,dx,x,q,rfl,_⟩:=h;rfl
 ·obtain ⟨F0,a,dx,x,q,rfl,f0,rx,ha,fa,r⟩:=h
  have S:Sc ⟨cxOf (CXE T.prog T.w) T.prog T.w T.K T.mg T.base [sf,fr] qual (defScope st) fI cdv A outer s H E,F0,rmD H a a⟩ T k [sf,fr] G:=
   ⟨⟨⟨rfl,rfl,rfl,rfl,rfl,rfl,B.fs.nd,B.loc,B.gl⟩,rfl,hr⟩,fun _=>rfl,PassesOwn.leaving⟩
  have En:EnvY ⟨cxOf (CXE T.prog T.w) T.prog T.w T.K T.mg T.base [sf,fr] qual (defScope st) fI cdv A outer s H E,F0,rmD H a a⟩ F0 H (L2.start [sf,fr] [.ref a,x]) [.un,.val q]:=by
   refine ⟨⟨Same.refl F0,f0,fun b o g=>(qN g).2.2,fun _ _ z=>z⟩,rfl,fun i=>?_,fun i j a h1 _ _ _=>?_⟩
   ·cases i with
    | zero=>exact trivial
    | succ i=>
     cases i with
     | zero=>exact ⟨_,rfl,rx⟩
     | succ i=>show SlotOk T.K _ F0 H _ (slot [] i);exact trivial
   ·cases i with
    | zero=>cases h1
    | succ i=>
     cases i with
     | zero=>cases h1
     | succ i=>cases h1
  rcases r with ⟨hP,r⟩ | ⟨hP,r⟩
  ·exact ⟨_,(body _ S q).1 hP,F0,a,dx,En,rfl,ha,fa,UE,fun F' H' x' h1 h2 h3 h4=>r F' H' x' h1 h2 h3 h4⟩
  ·refine ⟨_,(body _ S q).2 hP (fun c=>?_),F0,En,fun o ho=>ho.elim⟩
   exact ⟨fun C hC=>⟨fun I _ _ En L=>qt I rfl ⟨rfl,rfl⟩ L fun s' L=>⟨_,C,_,rfl,L,r C _ _ hC En.ext⟩⟩,fun C hC=>⟨fun I En M=>zX I rfl ⟨rfl,rfl⟩ M fun s' L=>⟨_,C,_,rfl,L,r C _ _ hC En.ext⟩⟩⟩
theorem jD {P1 Pe:D->Prop} {f:Addr} {fd:FuncData} {p1 p2:Pos} (S:Se Y T k N G) (gi:Nat) (M:Mk T.K C f) (F:FnOk T.prog T.w T.K T.mg T.base (CXE T.prog T.w) j f fd ps (spD1X T C g P1 Pe y)) (hj:j+1<=k) (hb:Binds T.K fd ps []) (hC:T.mg cn=some (.ref C))
  (he:EvD Y e c q) (hP:Pe q) (hz:RzN Y T y c) (hg:G[gi]? =some cn:=by rfl) (hst:starEach [e] Y.X.env=(false,eval e Y.X.env)::starEach [] Y.X.env:=by rfl):EvX Y (.Call (.Name cn p1) [e] [] p2) c:=by
 have F':FnOk Y.X.prog Y.X.w Y.X.K Y.X.mg Y.X.base (CXE Y.X.prog Y.X.w) j f fd ps (spD1X T C g P1 Pe y):=by rw [S.eP,S.eW,S.eK,S.eM,S.eB];exact F
 have M':Mk Y.X.K C f:=by rw [S.eK];exact M
 have gl:=S.gl _ (mz hg)
 intro pins s σ H Q I ⟨F0,E⟩
 refine wpAny_Call_Name_kw (yz I gl.1 (by rw [S.eM];exact hC) ?_ gl.2.1)
 refine W.callWith_K (h₀:=Y.X.base) I.ok.mod.kin M'.kp (thn ((xa he xc hst:ArD Y [e] c [q]) p2 pins s σ H (fun vs H1=>∃F1,Ext F0 H F1 H1/\Reps Y.X.K F1 vs [q]) I ⟨F0,E,fun vs F1 H1 e1 r1=>⟨F1,e1,r1⟩⟩) fun us s1 ⟨vs,H1,I1,r,F1,e1,rs⟩=>⟨I1.kIn,?_⟩) hst rfl
 obtain ⟨v,rfl,rv⟩:=inv1 rs
 have I2:=Inv.made (C:=C) I1
 have ha:H1 (s1.heap.objs.size+1)=none:=I1.hok.fresh (Nat.le_succ _)
 have hdx:H1 s1.heap.objs.size=none:=I1.hok.fresh (mJ _)
 generalize hA:s1.heap.objs.size+1=A at ha I2
 generalize hD:s1.heap.objs.size=dx at hdx I2
 have B1:∀b o,H1 b=some o->upd (upd H1 dx (.own A)) A (.ins C dx []) b=some o/\b≠A:=fun b o g=>⟨by rw [xh (xo g ha),xh (xo g hdx)];exact g,xo g ha⟩
 have E1:=E.grow e1
 have h:spD1X T C g P1 Pe y [.ref A,v] (upd (upd H1 dx (.own A)) A (.ins C dx [])) (fun _ _=>False) (fun cls _ H'=>∃C' F',cls= .ref C'/\T.mg y=some (.ref C')/\Ext F1 (rmD (upd (upd H1 dx (.own A)) A (.ins C dx [])) A A) F' H'):=
  ⟨F1,A,dx,v,q,rfl,fun b o g=>(B1 b o (e1.fh b o g)).1,by rw [<-S.eK];exact rv,xm,none_of e1.fh ha,.inr ⟨hP,fun C' F' H' hC' ex=>⟨C',F',rfl,hC',ex⟩⟩⟩
 have r2:Vals (V.ref A::[v]) (Value.ref A::us):= .cons rfl r
 have hl:(Value.ref A::us).length=ps.length:=by rw [<-r2.length];exact F'.len _ _ _ _ h
 have hb':Binds Y.X.K fd ps []:=by rw [S.eK];exact hb
 have hb2:=hb' _ (Value.ref A::us) I2.kIn (by rw [List.append_nil];exact hl)
 rw [List.append_nil] at hb2
 subst hA hD
 refine wpAny_call (Zm (f:=f) I1.kIn M'.makes M'.init (beq_iff_eq.mp M'.fn) (codeAny_mono (F'.run _ Y.X.stack _ _ ⟨Value.ref (s1.heap.objs.size+1)::us,[]⟩ (Value.ref (s1.heap.objs.size+1)::us) _ _ _ ((S.room.mono hj).make C us []) (I2.env0.make C us []) hb2 r2 h) fun r s' hq=>?_))
 cases r with
 | error e=>
  obtain ⟨a,C',H',rfl,L,C'',F',z,hC',ex⟩:=hq
  cases z
  have X:Ext F1 H1 F' H':=by
   refine ⟨ex.ff,fun b o g=>ex.fh b o g,fun b o g=>?_,fun b hb fb=>?_⟩
   ·obtain ⟨g1,g2⟩:=B1 b o g
    exact ex.hh b o (zq g1 g2 g2)
   ·cases q:H1 b with
    | none=>exact absurd q hb
    | some o=>
     obtain ⟨g1,g2⟩:=B1 b o q
     exact ex.fr b (by rw [zq g1 g2 g2];exact fun z=>nomatch z) fb
  have X0:Ext F1 H1 F1 (upd (upd H1 s1.heap.objs.size (.own (s1.heap.objs.size+1))) (s1.heap.objs.size+1) (.ins C s1.heap.objs.size [])):=⟨Same.refl _,fun b o g=>(B1 b o (e1.fh b o g)).1,fun b o g=>(B1 b o g).1,fun _ _ z=>z⟩
  exact (hz C' hC').fly I2 (E1.grow X0) ex.ff (E1.grow X) L
 | ok fl=>
  cases fl with
  | ret u=>obtain ⟨_,_,_,_,_,_,_,z⟩:=hq;exact z.elim
  | next=>exact False.elim hq
  | brk=>exact False.elim hq
  | cont=>exact False.elim hq
theorem XR {f:Addr} {z:Str} {R:List D->Rs->Prop} (S:Se Y T k N G) (i:Nat) (hsl:slot c i= .fnv f) (Fn:FnX T j x R) (hf:T.mg x=some (.ref f)) (hj:j<=k) (ha:ArD Y (e::es) c ds) (hR:R ds (.ok d)) (hi:N[i]? =some z:=by rfl)
  (he:starEach (e::es) Y.X.env=(false,eval e Y.X.env)::starEach es Y.X.env:=by rfl) (hpl:(backTo pos (starEach es Y.X.env)).any (·.1)=false:=by rfl):EvD Y (.Call (.Name z p) (e::es) [] pos) c d:=by
 obtain ⟨f',fd,ps,hm,hk,hb,F⟩:=Fn.ex
 rw [hf] at hm
 cases hm
 have hx:=S.loc z (mz hi)
 rw [<-S.n] at hi
 have F':FnOk Y.X.prog Y.X.w Y.X.K Y.X.mg Y.X.base (CXE Y.X.prog Y.X.w) j f fd ps (spX T R):=by rw [S.eP,S.eW,S.eK,S.eM,S.eB];exact F
 intro pins s σ H Q I ⟨F0,E,q⟩
 have hσ:σ[i]? =some (some (.ref f)):=by have:=E.sl i;rw [hsl] at this;exact this
 refine wpAny_Call_Name_kw (thn (xT hi (hx.1.elim .inl fun h=> .inr (.inl h)) hx.2.1 hx.2.2 pins s σ H (fun v H1=>v= .ref f/\H1=H) I ⟨.ref f,hσ,rfl,rfl⟩) fun fv s1 ⟨v,H1,I1,rv,ev,eh⟩=>?_)
 subst ev eh
 cases (show fv=Value.ref f from rv)
 refine W.callWith_K (h₀:=Y.X.base) I1.ok.mod.kin (by rw [S.eK];exact hk) (thn (ha pos pins s1 σ H1 (fun vs H2=>∃F1,Ext F0 H1 F1 H2/\Reps Y.X.K F1 vs ds) I1 ⟨F0,E,fun vs F1 H2 e1 r1=>⟨F1,e1,r1⟩⟩) fun us s2 ⟨vs,H2,I2,r,F1,e1,rs⟩=>⟨I2.kIn,?_⟩) he hpl
 exact ug (E:=E0) (dvs:=[]) (ds:=[]) F' (S.room.mono hj) (by rw [S.eK];exact hb) .nil (fun _ _ _ _ _ _ _ ⟨_,_,_,_,_,z⟩=>z.elim) I2 r (by rw [List.append_nil];exact ⟨F1,ds,.ok d,e1.fh,by rw [<-S.eK];exact rs,hR,fun v F2 H3 e2 r2=>q v F2 H3 (e1.trans e2) (by rw [S.eK];exact r2)⟩)
theorem yS {f:Addr} {z:Str} {R:List D->Rs->Prop} (S:Se Y T k N G) (i:Nat) (hsl:slot c i= .fnv f) (Fn:FnX T j x R) (hf:T.mg x=some (.ref f)) (hj:j<=k) (ha:ArD Y (e::es) c ds) (hR:R ds (.ex y)) (hz:RzN Y T y c) (hi:N[i]? =some z:=by rfl)
  (he:starEach (e::es) Y.X.env=(false,eval e Y.X.env)::starEach es Y.X.env:=by rfl) (hpl:(backTo pos (starEach es Y.X.env)).any (·.1)=false:=by rfl):EvX Y (.Call (.Name z p) (e::es) [] pos) c:=by
 obtain ⟨f',fd,ps,hm,hk,hb,F⟩:=Fn.ex
 rw [hf] at hm
 cases hm
 have hx:=S.loc z (mz hi)
 rw [<-S.n] at hi
 have F':FnOk Y.X.prog Y.X.w Y.X.K Y.X.mg Y.X.base (CXE Y.X.prog Y.X.w) j f fd ps (spX T R):=by rw [S.eP,S.eW,S.eK,S.eM,S.eB];exact F
 intro pins s0 σ H0 Q I0 ⟨F0,E⟩
 have hσ:σ[i]? =some (some (.ref f)):=by have:=E.sl i;rw [hsl] at this;exact this
 refine wpAny_Call_Name_kw (thn (xT hi (hx.1.elim .inl fun h=> .inr (.inl h)) hx.2.1 hx.2.2 pins s0 σ H0 (fun v H1=>v= .ref f/\H1=H0) I0 ⟨.ref f,hσ,rfl,rfl⟩) fun fv s ⟨v,H,I,rv,ev,eh⟩=>?_)
 subst ev eh
 cases (show fv=Value.ref f from rv)
 refine W.callWith_K (h₀:=Y.X.base) I.ok.mod.kin (by rw [S.eK];exact hk) (thn (ha pos pins s σ H (fun vs H1=>∃F1,Ext F0 H F1 H1/\Reps Y.X.K F1 vs ds) I ⟨F0,E,fun vs F1 H1 e1 r1=>⟨F1,e1,r1⟩⟩) fun us s1 ⟨vs,H1,I1,r,F1,e1,rs⟩=>⟨I1.kIn,?_⟩) he hpl
 have h:spX T R vs H1 (fun _ _=>False) (fun cls _ H'=>∃C F',cls= .ref C/\T.mg y=some (.ref C)/\Ext F1 H1 F' H'):=
  ⟨F1,ds,.ex y,e1.fh,by rw [<-S.eK];exact rs,hR,fun C F' H' hC ex=>⟨C,F',rfl,hC,ex⟩⟩
 have hl:us.length=ps.length:=by rw [<-r.length];exact F'.len _ _ _ _ h
 have hb':Binds Y.X.K fd ps []:=by rw [S.eK];exact hb
 have hb2:=hb' s1 us I1.kIn (by rw [List.append_nil];exact hl)
 rw [List.append_nil] at hb2
 refine wpAny_call (codeAny_mono (F'.run Y.X.A Y.X.stack s1 H1 ⟨us,[]⟩ us vs _ _ (S.room.mono hj) I1.env0 hb2 r h) fun r s' hq=>?_)
 cases r with
 | error e=>
  obtain ⟨a,C,H',rfl,L,C',F',z,hC,ex⟩:=hq
  cases z
  exact (hz C hC).fly I1 (E.grow e1) ex.ff ((E.grow e1).grow ex) L
 | ok fl=>
  cases fl with
  | ret u=>obtain ⟨_,_,_,_,_,_,_,z⟩:=hq;exact z.elim
  | next=>exact False.elim hq
  | brk=>exact False.elim hq
  | cont=>exact False.elim hq
theorem XM {ad l:Addr} {pr s:D} {past:List D} {q1 apos:Pos} {z:Str} {pl:Sem Bool} {R:D->D->List D->List D->RsM->Prop} (S:Se Y T k N G) (i:Nat) (Fn:FnMt T j m R) (hj:j<=k) (hs:slot c i= .dsk ad l C pr s past) (hC:T.mg "Desk" =some (.ref C)) (hl0:∀x y l,(dskF x y l).lookup m=none) (ha:ArX Y (e::es) c) (hi:N[i]? =some z:=by rfl)
  (hst:starEach (e::es) Y.X.env=(false,eval e Y.X.env)::starEach es Y.X.env:=by rfl) (hpl:(backTo pos (starEach es Y.X.env)).any (·.1)=false:=by rfl)
  (ht:eval (.Call (.Attribute (.Name z q1) m apos) (e::es) [] pos) Y.X.env=(do
   let ov <-eval (.Name z q1) Y.X.env
   standAt apos.atName
   let (f,first) <-holding [ov] (getMethod ov m pl)
   callWith pos f first (backTo pos (starEach (e::es) Y.X.env)) (backToKw pos (keywordEach [] Y.X.env))):=by rfl):EvX Y (.Call (.Attribute (.Name z q1) m apos) (e::es) [] pos) c:=by
 obtain ⟨C2,f,fd,ps,hm,hc,hmt,hb,F⟩:=Fn.ex
 rw [hC] at hm
 cases hm
 have F':FnOk Y.X.prog Y.X.w Y.X.K Y.X.mg Y.X.base (CXE Y.X.prog Y.X.w) j f fd ps (spM T R):=by rw [S.eP,S.eW,S.eK,S.eM,S.eB];exact F
 have hx:=S.loc z (mz hi)
 rw [<-S.n] at hi
 refine PE.imp (Vf (E:=E0) (pl:=pl) (xT hi (hx.1.elim .inl fun h=> .inr (.inl h)) hx.2.1 hx.2.2) (by rw [S.eK];exact hc) (by rw [S.eK];exact hmt) F' (S.room.mono hj) (by rw [S.eK];exact hb) .nil (fun _ _ _ _ _ _ _ ⟨_,_,_,_,_,z⟩=>z.elim) ha hst hpl ht) fun σ H Q ⟨F,E⟩=>?_
 obtain ⟨hσ,dx,vs0,u,w,h1,_⟩:=E.dsk_at hs
 exact ⟨.ref ad,hσ,ad,dx,_,rfl,h1,hl0 _ _ _,F,E⟩
end
theorem FnZ.toX {T:Tx} {k:Nat} {x cl:Str} {R:List D->Rf->Prop} {R':List D->Rs->Prop} (Fn:FnZ T k x cl R) (hR:∀ds r,R' ds r->match r with
  | .ok d=>R ds (.ok d)
  | .ex y=>y=cl/\∃n,R ds (.far n)):FnX T k x R':=by
 obtain ⟨f,fd,ps,hm,hk,hb,F⟩:=Fn.ex
 have to:∀vs H Q E,spX T R' vs H Q E->spZ T cl R vs H Q (fun c _ H'=>E c none H'):=fun vs H Q E ⟨F0,ds,r,h1,h2,h3,q⟩=>by
  have z:=hR ds r h3
  cases r with
  | ok d=>exact ⟨F0,ds,.ok d,h1,h2,z,q⟩
  | ex y=>
   obtain ⟨rfl,n,z⟩:=z
   exact ⟨F0,ds,.far n,h1,h2,z,fun C _ F' H' hC ex _=>q C F' H' hC ex⟩
 refine ⟨f,fd,ps,hm,hk,hb,⟨fun vs H Q E h=>F.len vs H Q _ (to vs H Q E h),fun A outer s H args us vs Q E hr h0 hbd hv h=>?_⟩⟩
 refine codeAny_mono (F.run A outer s H args us vs Q _ hr h0 hbd hv (to vs H Q E h)) fun r s' q=>?_
 cases r with
 | error e=>
  obtain ⟨a,C,dx,H',rfl,L,q⟩:=q
  exact ⟨a,C,H',rfl,L.toLies,q⟩
 | ok fl=>cases fl<;>exact q
section
variable {Y:Cy} {T:Tx} {k j:Nat} {N G:List Str} {c:List Slot} {e:Expr} {es:List Expr} {pos p:Pos} {x:Str}
theorem vF {st:Stmt} (S:Se Y T k N G) (gi:Nat) (A:At T x st) (ha:ArX Y (e::es) c) (hg:G[gi]? =some x:=by rfl)
  (he:starEach (e::es) Y.X.env=(false,eval e Y.X.env)::starEach es Y.X.env:=by rfl) (hpl:(backTo pos (starEach es Y.X.env)).any (·.1)=false:=by rfl):EvX Y (.Call (.Name x p) (e::es) [] pos) c:=by
 obtain ⟨f,fd,F,hm⟩:=A
 have gl:=S.gl x (mz hg)
 intro pins s σ H Q I ⟨F0,E⟩
 refine wpAny_Call_Name_kw (yz I gl.1 (by rw [S.eM];exact hm) ?_ gl.2.1)
 exact W.callWith_K (h₀:=Y.X.base) I.ok.mod.kin (by rw [S.eK];exact F.kp) (thn (ha pos pins s σ H (fun _ _=>False) I ⟨F0,E⟩) fun us s1 ⟨_,_,_,_,z⟩=>z.elim) he hpl
theorem WL {id:String} {r:List V->Hp->VK->Prop} (S:Se Y T k N G) (gi:Nat) (hc:CallR Y.X (.builtin id) r) (hg:G[gi]? =some x) (hm:T.mg x=none) (hv:bootBuiltins x=some (.builtin id)) (ha:ArX Y (e::es) c)
  (he:starEach (e::es) Y.X.env=(false,eval e Y.X.env)::starEach es Y.X.env) (hpl:(backTo pos (starEach es Y.X.env)).any (·.1)=false):EvX Y (.Call (.Name x p) (e::es) [] pos) c:=
 PE.imp (zt hc (S.gl x (mz hg)).1 (by rw [S.eM];exact hm) hv ha (S.gl x (mz hg)).2.2 (S.gl x (mz hg)).2.1 he hpl) fun σ H Q ⟨F,E⟩=>⟨F,E⟩
theorem WK {id:String} {r:List V->Hp->VK->Prop} (S:Se Y T k N G) (gi:Nat) (hc:CallR Y.X (.type id) r) (hg:G[gi]? =some x) (hm:T.mg x=none) (hv:bootBuiltins x=some (.type id)) (ha:ArX Y (e::es) c)
  (he:starEach (e::es) Y.X.env=(false,eval e Y.X.env)::starEach es Y.X.env) (hpl:(backTo pos (starEach es Y.X.env)).any (·.1)=false):EvX Y (.Call (.Name x p) (e::es) [] pos) c:=
 PE.imp (XD hc (S.gl x (mz hg)).1 (by rw [S.eM];exact hm) hv ha (S.gl x (mz hg)).2.2 (S.gl x (mz hg)).2.1 he hpl) fun σ H Q ⟨F,E⟩=>⟨F,E⟩
theorem QK {p1 p2:Pos} (S:Se Y T k N G) (gi gj:Nat) (h:EvX Y e c) (hm1:T.mg "str" =none) (hm2:T.mg "len" =none) (hg1:G[gi]? =some ("str" :Str):=by rfl) (hg2:G[gj]? =some ("len" :Str):=by rfl) (he:starEach [e] Y.X.env=(false,eval e Y.X.env)::starEach [] Y.X.env:=by rfl)
  (he2:starEach [.Call (.Name "len" p1) [e] [] p2] Y.X.env=(false,eval (.Call (.Name "len" p1) [e] [] p2) Y.X.env)::starEach [] Y.X.env:=by rfl):EvX Y (.Call (.Name "str" p) [.Call (.Name "len" p1) [e] [] p2] [] pos) c:=
 WK S gi vH hg1 hm1 QQ (Xt (WL S gj vI hg2 hm2 YR (Xt h y7 he) he rfl) y7 he2) he2 rfl
theorem jL {o:Expr} {m:Str} {apos:Pos} {pl:Sem Bool} (ho:EvX Y o c)
  (ht:eval (.Call (.Attribute o m apos) (e::es) [] pos) Y.X.env=(do
   let ov <-eval o Y.X.env
   standAt apos.atName
   let (f,first) <-holding [ov] (getMethod ov m pl)
   callWith pos f first (backTo pos (starEach (e::es) Y.X.env)) (backToKw pos (keywordEach [] Y.X.env))):=by rfl):EvX Y (.Call (.Attribute o m apos) (e::es) [] pos) c:=by
 intro pins s σ H Q I h
 rw [ht]
 exact wpAny_bind (wpAny_mono (ho pins s σ H (fun _ _=>False) I h) (fun _ _ ⟨_,_,_,_,z⟩=>z.elim) fun _ _ q=>q)
end
theorem Y2 {K:W.Frag} {F F':Hp}:∀{vs:List V} {xs:List Str},Reps K F vs (xs.map D.str)->Reps K F' vs (xs.map D.str)
 | _,[],.nil=> .nil
 | _,_::_,.cons (.str _) t=> .cons (.str _) (Y2 t)
section
variable {Y:Cy} {T:Tx} {k:Nat} {N G:List Str} {c:List Slot} {tg iter elt:Expr} {ifs:List Expr} {pos p1 p2:Pos} {rest:List Stmt} {P:Out->Prop} {items es:List D} {xs:List Str} {x:Str} {tn fs G':List Str} {ix:List Nat} {scope osc:Scope}
theorem Um (S:Sc Y T k N G) (i j:Nat) (hj:slot c j= .own es) (hsc:Y.X.env.scope=osc) (B:CmB N tn fs ix G' scope osc) (hi:ItD Y tg iter (put c j (.val (.lst es))) items)
  (rs:List (Option D)) (hlen:rs.length=items.length) (hz:rs.length<=100000)
  (turn:∀(Y':Cy) (S':Se Y' T k (tn++fs) G'),(∀x∈tn,Y'.X.env.scope.names.lookup x=some .local)->∀(m:Nat) (d:D) (r:Option D),items[m]? =some d->rs[m]? =some r->∀ts:List Slot,ts.length=tn.length->
   ∃ts':List Slot,ts'.length=tn.length/\ts'.all (fun s=> !isOwn s)=true/\TgD Y' tg d (ts++ix.map fun i=>capS (slot (put c j (.val (.lst es))) i)) (ts'++ix.map fun i=>capS (slot (put c j (.val (.lst es))) i))/\(match r with
    | some e=>TsD Y' ifs (ts'++ix.map fun i=>capS (slot (put c j (.val (.lst es))) i)) true/\EvD Y' elt (ts'++ix.map fun i=>capS (slot (put c j (.val (.lst es))) i)) e
    | none=>TsD Y' ifs (ts'++ix.map fun i=>capS (slot (put c j (.val (.lst es))) i)) false))
  (hw:swapsWith (.ListComp elt [⟨tg,iter,ifs,0⟩] scope p2) (some (.Name x p1)) pos.line Y.X.env=pure true) (hxs:rs.filterMap id=xs.map D.str)
  (hr:SsD Y rest (put c i (.val (.lst (xs.map D.str)))) P)
  (hs:∀x,foldedSetIterable iter Y.X.env x=pure x:=by intro _;rfl) (hix:N[i]? =some x:=by rfl) (hlt:i<c.length:=by first | exact mC rfl | decide | omega):
  SsD Y (.Assign [.Name x p1] (.ListComp elt [⟨tg,iter,ifs,0⟩] scope p2) pos::rest) c P:=by
 have hx:=S.loc x (mz hix)
 have hN:=S.nd
 rw [<-S.n] at hix hN
 refine xF fun pins s σ H D I ⟨F,E,m⟩=>?_
 obtain ⟨F1,sm,E1⟩:=E.freeze hj
 rw [exec_Assign_Name_used _ _ _ _ hw]
 refine wpAny_bind (wpAny_standAt (wpAny_bind ?_))
 rw [arm_evalThenUse_ListComp]
 refine wpAny_bind (wpAny_mono (qU (pos:=p2) S.toSe hsc B hi rs hlen hz turn hs I E1 (use:=some (assign (.Name x p1) Y.X.env)) (Qv:=fun _ s3=>SP Y.X pins D .next s3) (fun D' C s' mm F' H' vs hn fp hI ex hD hv hf r=>?_)) (fun _ s3 q=>wpAny_pure (wpAny_pure q)) fun _ _ q=>q)
 have I1:Inv Y.X pins σ H' s':=hI s'.heap (Heap.SameBut.refl ..)
 obtain ⟨o,es,ep,ho,r'⟩:=id hn
 have I2:Inv Y.X (pins++ [(C,o)]) σ H' s':=I1.pins_of fun q hq=>by
  rcases List.mem_append.mp hq with hq | hq
  ·have:=I1.pin q (List.mem_append_right _ hq)
   exact this
  ·have:q=(C,o):=by simpa using hq
   subst this
   exact ⟨ho,fp.1,fp.2.1,fp.2.2.1,fun v z=>by rw [r'.1] at z;cases z⟩
 show wpAny _ _ (do standAt p1;bindName Y.X.env x (.ref D')) _ _ s'
 refine wpAny_bind (wpAny_standAt (wpAny_bindName (zc I2 hN hix hx.1 (show RelV (.ref D') (.ref D') from rfl) (fun s2 I3=>?_) (.inl (S.fn x)))))
 have hp:=I3.pin (C,o) (by simp)
 refine ⟨mm,⟨o,es,ep,hp.1,r'⟩,fun h' hs'=>?_⟩
 have I3':Inv Y.X pins (σ.set i (some (.ref D'))) H' s2:=I3.pins_of fun q hq=>I3.pin q (List.mem_append_right _ (List.mem_append_left _ hq))
 have I4:Inv Y.X pins (σ.set i (some (.ref D'))) H' { s2 with heap:=h' }:=I3'.turned (it:=C) (t':=s2.toks) (fun b o hb e=>(hs'.2 b hb).trans e) fp.1 fp.2.1 fp.2.2.2.1 fp.2.2.2.2.1 fp.2.2.2.2.2
 rw [hxs] at r
 have fD:F D'=none:=by
  cases q:F D' with
  | none=>rfl
  | some u=>rw [E.fh _ _ q] at hD;cases hD
 have ex2:Ext F H (upd F D' (.lst vs)) H':=⟨fun b u z=>by rw [xh (fun w=>by rw [w,fD] at z;cases z)];exact z,fun b u z=>by
   by_cases hb:b=D'
   ·subst hb;rw [xm] at z;cases z;exact hv
   ·rw [xh hb] at z;exact ex.hh _ _ (E.fh _ _ z),ex.hh,fun b h1 h2=>by rw [xh (fun w=>h1 (by rw [w];exact hD))];exact h2⟩
 exact ⟨_,H',I4,m (.nx _) hr _ _ H' ex2.ff ((E.grow ex2).set hlt (.lst (SqL.of xm) (Y2 r)))⟩
end
theorem uj {K:W.Frag} {F:Hp}:∀{vs:List V} {ds:List D} (k:Nat),Reps K F vs ds->Reps K F (vs.eraseIdx k) (ds.eraseIdx k)
 | _,_,_,.nil=> .nil
 | _,_,0,.cons _ t=>t
 | _,_,k+1,.cons h t=> .cons h (uj k t)
section
variable {Y:Cy} {T:Tx} {k:Nat} {N G:List Str} {c:List Slot} {e:Expr} {pos p1 p2 p3:Pos} {rest:List Stmt} {P:Out->Prop} {ds:List D} {x:Str}
theorem kH (S:Sc Y T k N G) (i n:Nat) (hs:slot c i= .own ds) (he:EvD Y e c (.int (n:Int))) (hn:n<ds.length) (hz:ds.length<=1000000) (hr:SsD Y rest (put c i (.own (ds.eraseIdx n))) P) (hi:N[i]? =some x:=by rfl)
  (hbase:attributeBase (.Name x p1) "pop" Y.X.env (eval (.Name x p1) Y.X.env)=eval (.Name x p1) Y.X.env:=by rfl) (hfew:((backTo p3 (starEach [e] Y.X.env)).all (fun x=> !x.1) && (backToKw p3 (keywordEach [] Y.X.env)).all (fun x=>x.1.isSome)
   && decide ([e].length+([]:List Keyword).length+(if ([]:List Keyword).isEmpty then 0 else 1)<30))=true:=by rfl) (hline:(p2.endLine==p3.line)=true:=by rfl) (hst:starEach [e] Y.X.env=(false,eval e Y.X.env)::starEach [] Y.X.env:=by rfl)
  (hsw:swapsWith (.Call (.Attribute (.Name x p1) "pop" p2) [e] [] p3) none pos.line Y.X.env=pure false:=by rfl):
  SsD Y (.Expr (.Call (.Attribute (.Name x p1) "pop" p2) [e] [] p3) pos::rest) c P:=by
 have hx:=S.loc x (mz hi)
 rw [<-S.n] at hi
 refine xF (PS.imp (vb (ut PySem.F.plainAttrs_list PySem.F.slot_list_pop PySem.F.type_list_pop U8 (xT hi (hx.1.elim .inl fun h=> .inr (.inl h)) hx.2.1 hx.2.2) (xQ he yq hst) hbase hfew hline hst rfl) hsw) fun D σ H ⟨F,E,m⟩=>?_)
 obtain ⟨l,vs,hσ,h1,h2,h3,r⟩:=E.own_at hs
 refine ⟨.ref l,hσ,.inl ⟨rfl,vs,.inl (.inl h1)⟩,F,E,fun v F1 H1 e1 r1=>?_⟩
 have E1:=E.grow e1
 obtain ⟨l',vs',hσ',g1,g2,g3,r'⟩:=E1.own_at hs
 rw [hσ] at hσ'
 cases hσ'
 have n1:=r'.length
 have hl:n<vs'.length:=by omega
 refine ⟨l,vs',(n:Int),n,vs'[n],rfl,by rw [xw r1],g1,by omega,by omega,?_,mD hl,?_⟩
 ·unfold seqIndex?
  simp
  omega
 ·exact m (.nx _) hr _ F1 _ e1.ff (E1.own_set hs hσ g1 g2 g3 (uj n r'))
end
noncomputable def litsN:Nat->List Expr->Option (List Str×List Expr)
 | 0,es=>some ([],es)
 | n+1,.Constant (.str x) _ _::es=>(litsN n es).map fun q=>(x::q.1,q.2)
 | _+1,_=>none
theorem qx {Y:Cy} {c:List Slot}:∀(n:Nat) {es es':List Expr} {xs:List Str} {ds ds':List D},litsN n es=some (xs,es')->ds'=xs.map D.str++ds->ArD Y es' c ds->ArD Y es c ds'
 | 0,_,_,_,_,_,h,e,hr=>by cases h;rw [e];exact hr
 | n+1,[],_,_,_,_,h,_,_=>by cases h
 | n+1,e0::es,es',xs,ds,ds',h,e,hr=>by
  cases e0 with
  | Constant k0 j pos=>
   cases k0 with
   | str x=>
    have h:(litsN n es).map (fun q=>(x::q.1,q.2))=some (xs,es'):=h
    cases q:litsN n es with
    | none=>rw [q] at h;cases h
    | some w=>
     rw [q] at h
     obtain ⟨w1,w2⟩:=w
     cases h
     rw [e]
     exact xa xk (qx n q rfl hr) (yZ True.intro)
   | _=>cases h
  | _=>cases h
abbrev en3 (e:Str×Str×Int):D:= .tup [.str e.1,.str e.2.1,.int e.2.2]
def cKo:Expr->Option Const
 | .Constant k _ _=>some k
 | _=>none
def kSo:Const->Option Str
 | .str x=>some x
 | _=>none
def kIo:Const->Option Int
 | .int x=>some x
 | _=>none
def tUo:Expr->Option (List Expr)
 | .Tuple es _ _=>some es
 | _=>none
theorem Kw {Y:Cy} {c:List Slot} {e:Expr} {x:Str} (h:(cKo e).bind kSo=some x):EvD Y e c (.str x)/\NoStar e:=by
 cases e with
 | Constant k j p=>cases k with
  | str y=>cases h;exact ⟨xk,trivial⟩
  | _=>cases h
 | _=>cases h
theorem xbu {Y:Cy} {c:List Slot} {e:Expr} {x:Int} (h:(cKo e).bind kIo=some x):EvD Y e c (.int x)/\NoStar e:=by
 cases e with
 | Constant k j p=>cases k with
  | int y=>cases h;exact ⟨xf,trivial⟩
  | _=>cases h
 | _=>cases h
def lit3t:List Expr->Option (Str×Str×Int)
 | [a,b,d]=>((cKo a).bind kSo).bind fun x=>((cKo b).bind kSo).bind fun y=>((cKo d).bind kIo).bind fun n=>some (x,y,n)
 | _=>none
theorem JN {Y:Cy} {c:List Slot} {e:Expr} {q:Str×Str×Int} (h:(tUo e).bind lit3t=some q):EvD Y e c (en3 q)/\NoStar e:=by
 cases e with
 | Tuple es _ _=>
  have h:lit3t es=some q:=h
  match es,h with
  | [a,b,d],h=>
   obtain ⟨x,h1,h⟩:=Option.bind_eq_some_iff.mp h
   obtain ⟨y,h2,h⟩:=Option.bind_eq_some_iff.mp h
   obtain ⟨n,h3,h⟩:=Option.bind_eq_some_iff.mp h
   cases h
   have A:=Kw (Y:=Y) (c:=c) h1
   have B:=Kw (Y:=Y) (c:=c) h2
   have C:=xbu (Y:=Y) (c:=c) h3
   exact ⟨xu (xa A.1 (xa B.1 (xa C.1 xc (yZ C.2)) (yZ B.2)) (yZ A.2)),trivial⟩
 | _=>cases h
noncomputable def lit3:List Expr->Option (List (Str×Str×Int))
 | []=>some []
 | e::es=>((tUo e).bind lit3t).bind fun q=>(lit3 es).map fun r=>q::r
theorem VL {Y:Cy} {c:List Slot}:∀{es:List Expr} {xs:List (Str×Str×Int)},lit3 es=some xs->ArD Y es c (xs.map en3)
 | [],xs,h=>by cases h;exact xc
 | e::es,xs,h=>by
  obtain ⟨q,h1,h⟩:=Option.bind_eq_some_iff.mp h
  obtain ⟨r,h2,h⟩:=Option.map_eq_some_iff.mp h
  cases h
  obtain ⟨a,b⟩:=JN (Y:=Y) (c:=c) h1
  exact xa a (VL h2) (yZ b)
inductive NsL (K:W.Frag):List Str->List Addr->Prop
 | nil:NsL K [] []
 | cons {x:Str} {c:Addr} {xs:List Str} {cs:List Addr}:W.nsIn K mainGlobals x=some (some (.ref c))->NsL K xs cs->NsL K (x::xs) (c::cs)
theorem NsL.at {K:W.Frag} {L:List Str} {cs:List Addr} (h:NsL K L cs):∀(i:Nat) (x:Str),L[i]? =some x->∃c,cs[i]? =some c/\W.nsIn K mainGlobals x=some (some (.ref c)):=by
 induction h with
 | nil=>intro i x h;cases h
 | cons h1 _ ih=>
  intro i x h
  rcases i with _ | i
  ·cases h;exact ⟨_,rfl,h1⟩
  ·exact ih i x h
noncomputable def tabR (K:W.Frag) (c:Addr) (i:Nat):Nat->List Addr->Bool
 | _,[]=>true
 | j,d::ds=>W.kitOne K (.ref c) (.ref d)==some (i==j) && tabR K c i (j+1) ds
theorem Q4 {K:W.Frag} {c:Addr} {i:Nat}:∀{ds:List Addr} {n:Nat},tabR K c i n ds=true->∀(j:Nat) (d:Addr),ds[j]? =some d->W.kitOne K (.ref c) (.ref d)=some (i==n+j)
 | [],_,_,_,_,h=>by cases h
 | e::ds,n,h,j,d,hj=>by
  rw [tabR,Bool.and_eq_true,beq_iff_eq] at h
  rcases j with _ | j
  ·cases hj;exact h.1
  ·rw [show n+(j+1)=n+1+j by omega];exact Q4 h.2 j d hj
noncomputable def tabB (K:W.Frag) (t:Addr) (cs:List Addr):List Nat->Bool
 | []=>true
 | i::is=>(match cs[i]? with
  | none=>true
  | some c=>excKb K c && (W.kitOne K (.ref c) (.type "ValueError")==some true && (W.exmOne K (.ref c) (.ref t)==some true && tabR K c i 0 cs))) && tabB K t cs is
theorem Q5 {K:W.Frag} {t c:Addr} {cs:List Addr}:∀{js:List Nat},tabB K t cs js=true->∀i∈js,cs[i]? =some c->excKb K c=true/\W.kitOne K (.ref c) (.type "ValueError")=some true/\W.exmOne K (.ref c) (.ref t)=some true/\tabR K c i 0 cs=true
 | [],_,_,h,_=>by cases h
 | a::js,h,i,hi,hc=>by
  rw [tabB,Bool.and_eq_true] at h
  rcases List.mem_cons.mp hi with rfl | hi
  ·have z:=h.1
   rw [hc] at z
   simp only [Bool.and_eq_true,beq_iff_eq] at z
   exact z
  ·exact Q5 h.2 i hi hc
def TabN (T:Tx) (t:Str) (L:List Str) (js:List Nat):Prop:=∀(i:Nat) (x:Str),i∈js->L[i]? =some x->(∀C,T.mg x=some (.ref C)->ExcK T.K C)/\VeN T x/\ExN T x t true/\∀(j:Nat) (y:Str),L[j]? =some y->IsN T x y (i==j)
theorem KI {pr:Program} {w:World} {K:W.Frag} {h base:Heap} {mg:Str->Option Value} {t:Str} {ct:Addr} {L:List Str} {cs:List Addr} {js:List Nat} (X:K.In h) (G:h.Ns mainGlobals mg) (g:W.nsIn K mainGlobals t=some (some (.ref ct))) (hl:NsL K L cs) (tb:tabB K ct cs js=true):TabN ⟨pr,w,K,mg,base⟩ t L js:=fun i x hi hx=>by
 obtain ⟨c,hc,gc⟩:=hl.at i x hx
 obtain ⟨t1,t2,t3,t4⟩:=Q5 tb i hi hc
 refine ⟨fun C h1=>?_,KB X G gc t2,xay X G gc g t3,fun j y hy=>?_⟩
 ·cases h1.symm.trans (W.mg_of X G gc);exact JG t1
 ·obtain ⟨d,hd,gd⟩:=hl.at j y hy
  have z:=Q4 t4 j d hd
  rw [Nat.zero_add] at z
  exact xas X G gc gd z
inductive AtL (K:W.Frag):List (Str×Stmt)->Prop
 | nil:AtL K []
 | cons {x:Str} {st:Stmt} {l:List (Str×Stmt)}:AtK K x st->AtL K l->AtL K ((x,st)::l)
theorem AtL.at {K:W.Frag} {l:List (Str×Stmt)} (a:AtL K l):∀{i:Nat} {x:Str} {st:Stmt},l[i]? =some (x,st)->AtK K x st:=by
 induction a with
 | nil=>intro i x st h;cases h
 | cons a _ ih=>
  intro i x st h
  rcases i with _ | i
  ·cases h;exact a
  ·exact ih h
end DL
namespace R
open PySem L2 DL
local macro_rules | `(tactic| walk_at "S")=> `(tactic| exact ⟨⟨rfl,rfl,rfl,by decide+kernel,rfl,by decide+kernel,by decide+kernel⟩,by decide+kernel,by decide+kernel⟩)
local macro_rules | `(tactic| walk_at "1")=> `(tactic| exact fun f fd F=>F.binds fun _ _ _ _ _ _ us hl=>match us,hl with | [_],_=>rfl)
local macro_rules | `(tactic| walk_at "2")=> `(tactic| exact fun f fd F=>F.binds fun _ _ _ _ _ _ us hl=>match us,hl with | [_,_],_=>rfl)
local macro_rules | `(tactic| walk_at "3")=> `(tactic| exact fun f fd F=>F.binds fun _ _ _ _ _ _ us hl=>match us,hl with | [_,_,_],_=>rfl)
local macro_rules | `(tactic| walk_at "4")=> `(tactic| exact fun f fd F=>F.binds fun _ _ _ _ _ _ us hl=>match us,hl with | [_,_,_,_],_=>rfl)
local macro_rules | `(tactic| walk_at "5")=> `(tactic| exact fun f fd F=>F.binds fun _ _ _ _ _ _ us hl=>match us,hl with | [_,_,_,_,_],_=>rfl)
noncomputable def isW:D->Bool
 | .int _=>true
 | _=>false
def xbB (ds:List D) (d:D):Prop:=∃x:D,ds=[x]/\d= .bl (isW x)
theorem Zr (x y:Int):Int.gcd y (x.fmod y)=Int.gcd x y:=by
 rw [Int.fmod_def,Int.gcd_sub_mul_left_right,Int.gcd_comm]
theorem uV (x:Int) {y:Int} (h:y≠0):(x.fmod y).natAbs<y.natAbs:=by
 rcases Int.lt_or_gt_of_ne h with h | h
 ·have h1:=Int.fmod_def x y
  have e:=Int.neg_fmod_neg x y
  have h2:=Int.fmod_nonneg_of_pos (-x) (show 0< -y by omega)
  have h3:=Int.fmod_lt_of_pos (-x) (show 0< -y by omega)
  omega
 ·have h2:=Int.fmod_nonneg_of_pos x h
  have h3:=Int.fmod_lt_of_pos x h
  omega
def j7 (ds:List D) (d:D):Prop:=∃a b:Int,ds=[.int a,.int b]/\d= .int (Int.gcd a b)
def Pr (p:Int):Prop:=p=2∨p=3∨p=5∨p=7
theorem QC {p n:Int} (hp:Pr p) (hn:¬n%p=0):∃b,1<=b/\b<=p - 1/\n*b%p=1:=by
 rcases hp with rfl | rfl | rfl | rfl
 ·exact ⟨1,by omega,by omega,by omega⟩
 ·rcases (show n%3=1∨n%3=2 by omega) with h | h
  ·exact ⟨1,by omega,by omega,by omega⟩
  ·exact ⟨2,by omega,by omega,by omega⟩
 ·rcases (show n%5=1∨n%5=2∨n%5=3∨n%5=4 by omega) with h | h | h | h
  ·exact ⟨1,by omega,by omega,by omega⟩
  ·exact ⟨3,by omega,by omega,by omega⟩
  ·exact ⟨2,by omega,by omega,by omega⟩
  ·exact ⟨4,by omega,by omega,by omega⟩
 ·rcases (show n%7=1∨n%7=2∨n%7=3∨n%7=4∨n%7=5∨n%7=6 by omega) with h | h | h | h | h | h
  ·exact ⟨1,by omega,by omega,by omega⟩
  ·exact ⟨4,by omega,by omega,by omega⟩
  ·exact ⟨5,by omega,by omega,by omega⟩
  ·exact ⟨2,by omega,by omega,by omega⟩
  ·exact ⟨3,by omega,by omega,by omega⟩
  ·exact ⟨6,by omega,by omega,by omega⟩
theorem Wx {p n a:Int} (hp:Pr p) (hn:¬n%p=0) (h0:1<=a) (h1:a<=p - 1) (h:∀b,1<=b->b<a->n*b%p≠1) (he:¬a<p - 1∨n*a%p=1):n*a%p=1:=by
 obtain ⟨b,b0,b1,hb⟩:=QC hp hn
 rcases he with he | he
 ·have e:a=b:=by
   rcases Int.lt_trichotomy a b with l | l | l
   ·omega
   ·exact l
   ·exact absurd hb (h b b0 l)
  rw [e];exact hb
 ·exact he
theorem Vd (p:Int) {m n:Nat} (h:m<=n):p^m∣p^n:=⟨p^(n - m),by rw [<-Int.pow_add];congr 1;omega⟩
theorem newton {p n a:Int} {s k:Nat} (h:p^(min s k)∣n*a - 1):p^(min (2*s) k)∣n*(a*(2 - n*a)%p^k) - 1:=by
 have e:a*(2 - n*a)%p^k=a*(2 - n*a) - p^k*(a*(2 - n*a) / p^k):=Int.emod_def _ _
 have e2:n*(a*(2 - n*a)%p^k) - 1= -((n*a - 1)*(n*a - 1)) - p^k*(n*(a*(2 - n*a) / p^k)):=by
  rw [e];grind
 rw [e2]
 have d1:p^(min (2*s) k)∣(n*a - 1)*(n*a - 1):=by
  have q:p^(min s k)*p^(min s k)∣(n*a - 1)*(n*a - 1):=Int.mul_dvd_mul h h
  rw [<-Int.pow_add] at q
  exact Int.dvd_trans (Vd p (by omega)) q
 have d2:p^(min (2*s) k)∣p^k:=Vd p (by omega)
 exact Int.dvd_sub (Int.dvd_neg.mpr d1) (Int.dvd_trans d2 (Int.dvd_mul_right _ _))
theorem Pr.two_le {p:Int} (h:Pr p):2<=p/\p<=7:=by rcases h with rfl | rfl | rfl | rfl<;>omega
theorem yg {p:Int} (hp:Pr p) (k:Nat):0<p^k:=Int.pow_pos (by have:=hp.two_le;omega)
theorem uO {p n:Int} (hp:Pr p) (hn:¬n%p=0):∀k:Nat,∃x,p^k∣n*x - 1
 | 0=>⟨0,by simp⟩
 | 1=>by
  obtain ⟨b,_,_,hb⟩:=QC hp hn
  refine ⟨b,?_⟩
  rw [Int.pow_one]
  have:=Int.emod_add_mul_ediv (n*b) p
  exact ⟨n*b / p,by omega⟩
 | k+2=>by
  obtain ⟨x,hx⟩:=uO hp hn (k+1)
  have h:p^(min (k+1) (k+2))∣n*x - 1:=by rw [show min (k+1) (k+2)=k+1 by omega];exact hx
  have:=newton h
  rw [show min (2*(k+1)) (k+2)=k+2 by omega] at this
  exact ⟨_,this⟩
def IsOver (p n:Int) (k:Nat) (x:Int):Prop:=0<=x/\x<p^k/\p^k∣n*x - 1
theorem vV {p n:Int} {k:Nat} {x y:Int} (hx:IsOver p n k x) (hy:IsOver p n k y):x=y:=by
 obtain ⟨x0,x1,xd⟩:=hx
 obtain ⟨y0,y1,yd⟩:=hy
 have d:p^k∣x - y:=by
  have e:x - y=x*(n*y - 1)*(-1)+y*(n*x - 1):=by grind
  rw [e]
  exact Int.dvd_add (Int.dvd_mul_of_dvd_left (Int.dvd_mul_of_dvd_right yd)) (Int.dvd_mul_of_dvd_right xd)
 have:x - y=0:=by
  rcases Int.lt_trichotomy (x - y) 0 with h | h | h
  ·have:=Int.le_of_dvd (show 0< -(x - y) by omega) (Int.dvd_neg.mpr d);omega
  ·exact h
  ·have:=Int.le_of_dvd h d;omega
 omega
theorem Jh {p n:Int} (hp:Pr p) (hn:¬n%p=0) (k:Nat):∃x,IsOver p n k x:=by
 obtain ⟨x,hx⟩:=uO hp hn k
 have pp:=yg hp k
 refine ⟨x%p^k,Int.emod_nonneg _ (by omega),Int.emod_lt_of_pos _ pp,?_⟩
 have e:n*(x%p^k) - 1=(n*x - 1) - p^k*(n*(x / p^k)):=by rw [Int.emod_def];grind
 rw [e]
 exact Int.dvd_sub hx (Int.dvd_mul_right _ _)
def overBy (p n:Int) (k:Nat):Int:=Classical.epsilon (IsOver p n k)
theorem zm {p n:Int} (hp:Pr p) (hn:¬n%p=0) (k:Nat):IsOver p n k (overBy p n k):=Classical.epsilon_spec (Jh hp hn k)
theorem Km {p:Int} (hp:Pr p):∀k:Nat,p^k<2^(3*k+1)
 | 0=>by rw [Int.pow_zero];decide
 | k+1=>by
  have h:=Km hp k
  have q:=yg hp k
  have h7:=hp.two_le
  rw [Int.pow_succ,show 3*(k+1)+1=3*k+1+3 by omega,Int.pow_add]
  have:p^k*p<=p^k*7:=Int.mul_le_mul_of_nonneg_left h7.2 (by omega)
  have e:(2:Int)^3=8:=by decide
  rw [e];omega
theorem kL {x y p:Int} {k k0:Nat} (h:x*y^k=p^k0):(if k%2=1 then x*y else x)*(y*y)^(k / 2)=p^k0:=by
 rw [<-h,Int.mul_pow,<-Int.pow_add]
 split
 ·rw [Int.mul_assoc,<-Int.pow_succ']
  congr 2;omega
 ·congr 2;omega
theorem zC {y:Int} (h:1<=y):∀{k:Nat},1<=k->y<=y^k
 | 1,_=>by rw [Int.pow_one];exact Int.le_refl y
 | k+2,_=>by
  have:=zC h (show 1<=k+1 by omega)
  rw [Int.pow_succ]
  have q:y^(k+1)*1<=y^(k+1)*y:=Int.mul_le_mul_of_nonneg_left h (by omega)
  omega
theorem zY {x y:Int} (hx:1<=x) (hy:1<=y):x<=x*y/\y<=x*y:=by
 have h1:x*1<=x*y:=Int.mul_le_mul_of_nonneg_left hy (by omega)
 have h2:1*y<=x*y:=Int.mul_le_mul_of_nonneg_right hx (by omega)
 omega
theorem ul {p:Int} (hp:Pr p) (k:Nat):Bd (3*k+1) (p^k):=by
 have h:=Km hp k
 have q:=yg hp k
 unfold Bd
 have e:((2^(3*k+1):Nat):Int)=(2:Int)^(3*k+1):=by simp
 omega
theorem Bd.of_le {n:Nat} {x y:Int} (h0:0<=x) (h1:x<=y) (h:Bd n y):Bd n x:=by unfold Bd at*;omega
theorem xa3 {x y p:Int} {k' k0:Nat} (hp:Pr p) (hx:1<=x) (hy:1<=y) (hk:1<=k') (h0:k0<=1000000) (h:x*y^k'=p^k0):IntMulOk x y/\IntMulOk y y:=by
 have b:=ul hp k0
 have y1:=zC hy hk
 have z:=zY hx (show 1<=y^k' by omega)
 rw [h] at z
 have bx:Bd (3*k0+1) x:=Bd.of_le (by omega) z.1 b
 have by':Bd (3*k0+1) y:=Bd.of_le (by omega) (by omega) b
 exact ⟨mulOk bx by' (by omega),mulOk by' by' (by omega)⟩
def xbA (ds:List D) (d:D):Prop:=∃p n:Int,ds=[.int p,.int n]/\Pr p/\¬n%p=0/\Bd 1000000 n/\d= .int (overBy p n 1)
def W0 (ds:List D) (d:D):Prop:=∃p n k:Int,ds=[.int p,.int n,.int k]/\Pr p/\¬n%p=0/\0<=k/\k<=1000000/\Bd 1000000 n/\d= .int (overBy p n k.toNat)
theorem vx (t:Int) {b:Int} (hb:b≠0):t.fdiv (if b<0 then -(Int.gcd t b:Int) else (Int.gcd t b:Int))=(Rat.divInt t b).num/\b.fdiv (if b<0 then -(Int.gcd t b:Int) else (Int.gcd t b:Int))=((Rat.divInt t b).den:Int):=by
 have hg:0<Int.gcd t b:=Int.gcd_pos_of_ne_zero_right t hb
 have dt:=Int.gcd_dvd_left t b
 have db:=Int.gcd_dvd_right t b
 rw [Rat.num_divInt,Rat.den_divInt,mF hb,Int.gcd_comm b t]
 obtain ⟨u,hu⟩:=dt
 obtain ⟨v,hv⟩:=db
 have g0:(Int.gcd t b:Int)≠0:=by omega
 generalize hgg:(Int.gcd t b:Int)=g at*
 have hgn:Int.gcd t b=g.toNat:=by omega
 have gp:0<g:=by omega
 rw [hgn]
 have fm:∀x:Int,(g*x).fdiv g=x:=fun x=>by rw [Int.mul_comm];exact Int.mul_fdiv_cancel x g0
 have fm':∀x:Int,(g*x).fdiv (-g)= -x:=fun x=>by rw [show g*x=(-x)*(-g) by grind];exact Int.mul_fdiv_cancel (-x) (by omega)
 have em:∀x:Int,(g*x) / g=x:=fun x=>Int.mul_ediv_cancel_left x g0
 by_cases hb0:b<0
 ·rw [mH hb0]
  have s:b.sign= -1:=Int.sign_eq_neg_one_of_neg hb0
  rw [s]
  constructor
  ·rw [hu,fm',show -1*(g*u)=g*(-u) by grind,em]
  ·rw [hv,fm']
   have vn:v<0:=by
    by_cases h:v<0
    ·exact h
    ·have:=Int.mul_nonneg (show 0<=g by omega) (show 0<=v by omega);omega
   have:(g*v).natAbs / g.toNat=v.natAbs:=by
    rw [Int.natAbs_mul,show g.natAbs=g.toNat by omega]
    exact Nat.mul_div_cancel_left _ (by omega)
   rw [this];omega
 ·rw [mF hb0]
  have s:b.sign=1:=Int.sign_eq_one_of_pos (by omega)
  rw [s]
  constructor
  ·rw [hu,fm,Int.one_mul,em]
  ·rw [hv,fm]
   have vn:0<=v:=by
    by_cases h:v<0
    ·have:=Int.mul_nonneg (show 0<=g by omega) (show 0<= -v by omega)
     rw [show g* -v= -(g*v) by grind] at this;
     have:g*v=0:=by omega
     omega
    ·omega
   have:(g*v).natAbs / g.toNat=v.natAbs:=by
    rw [Int.natAbs_mul,show g.natAbs=g.toNat by omega]
    exact Nat.mul_div_cancel_left _ (by omega)
   rw [this];omega
def vp (p n:Int):Nat:=if h:2<=p/\n≠0/\n%p=0 then vp p (n / p)+1 else 0
termination_by n.natAbs
decreasing_by
 have e:=Int.emod_add_mul_ediv n p
 rw [h.2.2,Int.zero_add] at e
 have h1:n / p≠0:=fun z=>h.2.1 (by rw [<-e,z,Int.mul_zero])
 have:(p*(n / p)).natAbs=n.natAbs:=by rw [e]
 rw [Int.natAbs_mul] at this
 have h2:2*(n / p).natAbs<=p.natAbs*(n / p).natAbs:=Nat.mul_le_mul_right _ (by omega)
 omega
theorem wF {p n:Int} (hp:2<=p) (hn:n≠0) (h:n%p=0):vp p n=vp p (n / p)+1:=by rw [vp,dif_pos ⟨hp,hn,h⟩]
theorem wE {p n:Int} (h:¬n%p=0):vp p n=0:=by rw [vp,dif_neg (fun z=>h z.2.2)]
theorem XS {p n:Int} (hp:2<=p) (hn:n≠0) (h:n%p=0):n=p*(n / p)/\n / p≠0/\(n / p).natAbs<n.natAbs:=by
 have e:=Int.emod_add_mul_ediv n p
 rw [h,Int.zero_add] at e
 have h1:n / p≠0:=fun z=>hn (by rw [<-e,z,Int.mul_zero])
 have:(p*(n / p)).natAbs=n.natAbs:=by rw [e]
 rw [Int.natAbs_mul] at this
 have h2:2*(n / p).natAbs<=p.natAbs*(n / p).natAbs:=Nat.mul_le_mul_right _ (by omega)
 exact ⟨e.symm,h1,by omega⟩
theorem ko {p n:Int} (hp:2<=p) (hn:n≠0):vp p (p*n)=vp p n+1:=by
 rw [wF hp (Int.mul_ne_zero (by omega) hn) (Int.mul_emod_right p n),Int.mul_ediv_cancel_left n (by omega)]
theorem wW {p:Int} (hp:2<=p):∀k:Nat,vp p (p^k)=k
 | 0=>by
  rw [Int.pow_zero,wE]
  rw [Int.emod_eq_of_lt (by omega) (by omega)];decide
 | k+1=>by
  rw [Int.pow_succ',ko hp (Int.ne_of_gt (Int.pow_pos (by omega))),wW hp k]
theorem W9 {p:Int} (hp:2<=p):vp p 1=0:=by have:=wW hp 0;rw [Int.pow_zero] at this;exact this
def vq (p:Int) (r:Rat):Option Int:=if r.num=0 then none else some ((vp p r.num:Int) - (vp p r.den:Int))
abbrev frD (r:Rat):D:= .tup [.int r.num,.int (r.den:Int)]
def optI:Option Int->D
 | none=> .non
 | some i=> .int i
theorem Yx (t:Int) {b:Int} (hb:b≠0):(Rat.divInt t b).num.natAbs<=t.natAbs/\(Rat.divInt t b).den<=b.natAbs:=by
 have h:=vx t hb
 have hg:0<Int.gcd t b:=Int.gcd_pos_of_ne_zero_right t hb
 rw [Rat.num_divInt,Rat.den_divInt,mF hb]
 refine ⟨?_,Nat.div_le_self _ _⟩
 rw [Int.gcd_comm] at hg
 refine Nat.le_trans (Int.natAbs_ediv_le_natAbs _ _) ?_
 rw [Int.natAbs_mul]
 have:b.sign.natAbs<=1:=by
  rcases Int.lt_trichotomy b 0 with h | h | h
  ·rw [Int.sign_eq_neg_one_of_neg h];decide
  ·exact absurd h hb
  ·rw [Int.sign_eq_one_of_pos h];decide
 calc b.sign.natAbs*t.natAbs<=1*t.natAbs:=Nat.mul_le_mul_right _ this
  _=t.natAbs:=Nat.one_mul _
def Fb (n:Nat) (r:Rat):Prop:=Bd n r.num/\Bd n (r.den:Int)
theorem Fb.mono {m n:Nat} {r:Rat} (h:Fb m r) (l:m<=n):Fb n r:=⟨h.1.mono l,h.2.mono l⟩
theorem Fb.divInt {m:Nat} {t b:Int} (hb:b≠0) (h1:Bd m t) (h2:Bd m b):Fb m (Rat.divInt t b):=by
 have q:=Yx t hb
 refine ⟨Nat.lt_of_le_of_lt q.1 h1,?_⟩
 show ((Rat.divInt t b).den:Int).natAbs<2^m
 rw [Int.natAbs_natCast]
 exact Nat.lt_of_le_of_lt q.2 h2
theorem yn (r:Rat):(r.den:Int)≠0:=by have:=r.den_nz;omega
theorem VC (r:Rat):0<(r.den:Int):=by have:=r.den_nz;omega
theorem Q8 (a b:Rat):Rat.divInt (a.num*b.num) ((a.den:Int)*(b.den:Int))=a*b:=by
 rw [Rat.mul_def',<-Rat.divInt_ofNat];simp
theorem kX (a b:Rat):Rat.divInt (a.num*(b.den:Int)+b.num*(a.den:Int)) ((a.den:Int)*(b.den:Int))=a+b:=by
 rw [Rat.add_def',<-Rat.divInt_ofNat];simp
theorem kW (a b:Rat):Rat.divInt (a.num*(b.den:Int) - b.num*(a.den:Int)) ((a.den:Int)*(b.den:Int))=a - b:=by
 rw [Rat.sub_def',<-Rat.divInt_ofNat];simp
theorem Fb.mul {m n:Nat} {a b:Rat} (h1:Fb m a) (h2:Fb n b):Fb (m+n) (a*b):=by
 rw [<-Q8]
 exact Fb.divInt (Int.mul_ne_zero (yn a) (yn b)) (h1.1.mul h2.1) (h1.2.mul h2.2)
def ppw (p k:Int):Rat:=(p:Rat)^k
theorem vU {p k:Int} (h:0<=k):(ppw p k).num=p^k.toNat/\(ppw p k).den=1:=by
 unfold ppw
 have e:k=((k.toNat:Nat):Int):=by omega
 rw [e,Rat.zpow_natCast,Rat.num_pow,Rat.den_pow]
 constructor
 ·rfl
 ·show (1:Nat)^_=1
  simp
theorem Vc {p k:Int} (hp:0<p) (h:k<0):(ppw p k).num=1/\((ppw p k).den:Int)=p^(-k).toNat:=by
 have q:=vU (p:=p) (k:= -k) (by omega)
 have e:ppw p k=(ppw p (-k))⁻¹:=by
  unfold ppw
  rw [Rat.zpow_neg,Rat.inv_inv]
 have pp:0<p^(-k).toNat:=Int.pow_pos hp
 rw [e,Rat.num_inv,Rat.den_inv,q.1,q.2,Int.sign_eq_one_of_pos pp,mF (by omega)]
 constructor
 ·rfl
 ·omega
theorem X7 {p k:Int} (hp:Pr p):vq p (ppw p k)=some k:=by
 have p2:=hp.two_le
 unfold vq
 by_cases h:0<=k
 ·have q:=vU (p:=p) h
  have pp:0<p^k.toNat:=Int.pow_pos (by omega)
  rw [q.1,q.2,mF (by omega),wW p2.1,show ((1:Nat):Int)=1 from rfl,W9 p2.1]
  congr 1;omega
 ·have q:=Vc (p:=p) (k:=k) (by omega) (by omega)
  rw [q.1,q.2,mF (by decide),wW p2.1,W9 p2.1]
  congr 1;omega
def QS (ds:List D) (d:D):Prop:=∃p n:Int,ds=[.int p,.int n]/\Pr p/\d=(if n=0 then .non else .int (vp p n:Int))
def QT (ds:List D) (d:D):Prop:=∃(p:Int) (a:Rat),ds=[.int p,frD a]/\Pr p/\d=optI (vq p a)
def xbz (ds:List D) (d:D):Prop:=∃p k:Int,ds=[.int p,.int k]/\Pr p/\ -1000000<=k/\k<=1000000/\d=frD (ppw p k)
def kf (ds:List D) (d:D):Prop:=∃t b:Int,ds=[.int t,.int b]/\b≠0/\Bd 8900 b/\d=frD (Rat.divInt t b)
def xaV (ds:List D) (d:D):Prop:=∃a b:Rat,ds=[frD a,frD b]/\Fb 4400 a/\Fb 4400 b/\d=frD (a*b)
def xaW (ds:List D) (d:D):Prop:=∃a b:Rat,ds=[frD a,frD b]/\Fb 4400 a/\Fb 4400 b/\d=frD (a+b)
def xaU (ds:List D) (d:D):Prop:=∃a b:Rat,ds=[frD a,frD b]/\Fb 4400 a/\Fb 4400 b/\d=frD (a - b)
theorem jc {t b:Int} (hb:b≠0) (h:Bd 8900 b):(if b<0 then -(Int.gcd t b:Int) else (Int.gcd t b:Int))≠0/\Bd 9000 (if b<0 then -(Int.gcd t b:Int) else (Int.gcd t b:Int)):=by
 have hg:0<Int.gcd t b:=Int.gcd_pos_of_ne_zero_right t hb
 have hl:=Int.gcd_le_natAbs_right t hb
 have h':=h.mono (show 8900<=9000 by decide)
 unfold Bd at*
 refine ⟨by split<;>omega,?_⟩
 refine Nat.lt_of_le_of_lt ?_ h'
 split<;>omega
noncomputable def nTop (n:Int):Int:=if decide (n%4=1)=true then n / 4%(2*10^Int.toNat 20+1) - 10^Int.toNat 20 else n / 4%41 - 20
noncomputable def nPow (n:Int):Int:=if decide (n%4=3)=true then n / 4 / 500%81 - 40 else n / 4 / 500%13 - 6
def nBot (n:Int):Int:=1+n / 4 / 41%12
def xbC (ds:List D) (d:D):Prop:=∃(x:Str) (m:Nat),ds=[.str x,.int (m:Int)]/\Tl x.cps.toList/\d= .bl (okFig x.cps.toList m)
def j9 (ds:List D) (r:Rs):Prop:=∃(x:Str) (m:Nat),ds=[.str x,.int (m:Int)]/\Tl x.cps.toList/\m<=600/\r=rsO (figs x.cps.toList m) (fun n=> .int (n:Int)) "NoText"
def Xg (ds:List D) (r:Rs):Prop:=∃(x:Str) (m:Nat),ds=[.str x,.int (m:Int)]/\Tl x.cps.toList/\m<=600/\r=rsO (sgn x.cps.toList m) D.int "NoText"
def wU (ds:List D) (r:Rs):Prop:=∃(x:Str),ds=[.str x]/\Tl x.cps.toList/\r=rsO (frac x.cps.toList) (fun p=> .tup [.int p.1,.int p.2]) "NoText"
def ftx (a:Rat):List Nat:=if a.den=1 then wr a.num else wr a.num++47::nd a.den
def B60 (a:Rat):Prop:=a.num.natAbs<10^60/\a.den<10^60
def B500 (a:Rat):Prop:=a.num.natAbs<10^500/\a.den<10^500
theorem B60.up {a:Rat} (h:B60 a):B500 a:=⟨mE h.1 (by decide+kernel),mE h.2 (by decide+kernel)⟩
def VO (ds:List D) (d:D):Prop:=∃a:Rat,ds=[frD a]/\B500 a/\d= .str (tx (ftx a))
theorem y9 (i:Int):(toString i:Str)=tx (wr i):=by rw [<-Ky i,yX]
theorem W4 (n:Nat):wr (n:Int)=nd n:=by
 unfold wr
 rw [mF (by omega)]
 rfl
theorem jd {i:Int} (h:i.natAbs<10^60):i.natAbs.log2<1920:=by
 by_cases h0:i.natAbs=0
 ·rw [h0];decide
 ·rw [Nat.log2_lt h0]
  exact mE h (by decide+kernel)
theorem qu {a:Rat} (h:B60 a):frac (ftx a)=some (a.num,(a.den:Int)):=by
 unfold ftx
 split
 ·rename_i e
  rw [QI h.1,e];rfl
 ·rename_i e
  have h0:=a.den_nz
  exact ju h.1 h.2 (by omega) (by
   have:=a.reduced
   unfold Nat.Coprime at this
   unfold Int.gcd
   exact this)
theorem zW {i:Int} (h:i.natAbs<10^500):i.natAbs.log2<1920:=by
 by_cases h0:i.natAbs=0
 ·rw [h0];decide
 ·rw [Nat.log2_lt h0]
  exact mE h (by decide+kernel)
theorem vA {a:Rat} (h:B500 a):(ftx a).length<=1010:=by
 have h1:=yM (k:=499) h.1
 have h2:=uK 499 a.den h.2
 unfold ftx
 split
 ·omega
 ·rw [List.length_append,List.length_cons];omega
theorem Vu {a:Rat} (h:B500 a):Tl (ftx a):=by
 refine ⟨by have:=vA h;omega,?_⟩
 unfold ftx
 split
 ·exact ZQ _
 ·intro q hq
  rcases List.mem_append.mp hq with h | h
  ·exact ZQ _ q h
  ·rcases List.mem_cons.mp h with rfl | h
   ·decide
   ·have:=uL _ q h;omega
theorem YF {a:Rat} (h:B60 a):Tl (ftx a):=Vu h.up
theorem Jx {a:Rat} (h:B60 a):(ftx a).length<=1010:=vA h.up
theorem KJ {y:Str} {l:List Nat} (h:y.cps.toList=l):D.str y=D.str (tx l):=by rw [<-h,yX]
theorem Q9:∀k:Nat,Bd (4*k+1) ((10:Int)^k)
 | 0=>by decide
 | k+1=>by
  have h:=Q9 k
  unfold Bd at*
  rw [Int.natAbs_pow] at*
  rw [Nat.pow_succ,show 4*(k+1)+1=4*k+1+4 by omega,Nat.pow_add]
  exact Nat.mul_lt_mul_of_lt_of_le h (by decide) (by decide)
theorem kM {x y:Int} {k' k0:Nat} (hx:1<=x) (hy:1<=y) (hk:1<=k') (h0:k0<=1000000) (h:x*y^k'=10^k0):IntMulOk x y/\IntMulOk y y:=by
 have b:=Q9 k0
 have y1:=zC hy hk
 have z:=zY hx (show 1<=y^k' by omega)
 rw [h] at z
 have bx:Bd (4*k0+1) x:=Bd.of_le (by omega) z.1 b
 have by':Bd (4*k0+1) y:=Bd.of_le (by omega) (by omega) b
 exact ⟨mulOk bx by' (by omega),mulOk by' by' (by omega)⟩
def J0 (ds:List D) (d:D):Prop:=∃i:Int,ds=[.int i]/\i.natAbs<10^500/\d= .str (tx (wr i))
theorem k8:(10:Int)^500<=10^(1000:Int).toNat:=by
 rw [show (1000:Int).toNat=500+500 from rfl,Int.pow_add]
 have:(1:Int)<=10^500:=by decide+kernel
 have h0:(0:Int)<=10^500:=by omega
 calc (10:Int)^500=10^500*1:=(Int.mul_one _).symm
  _<=10^500*10^500:=Int.mul_le_mul_of_nonneg_left this h0
theorem Pr8.le {p:Int} (h:Pr p∨p=10):2<=p/\p<=10:=by
 rcases h with h | rfl
 ·have:=h.two_le;omega
 ·decide
theorem KO {x y p:Int} {k' k0:Nat} (hp:Pr p∨p=10) (hx:1<=x) (hy:1<=y) (hk:1<=k') (h0:k0<=1000000) (h:x*y^k'=p^k0):IntMulOk x y/\IntMulOk y y:=by
 rcases hp with hp | rfl
 ·exact xa3 hp hx hy hk h0 h
 ·exact kM hx hy hk h0 h
def WY (ds:List D) (d:D):Prop:=∃p k:Int,ds=[.int p,.int k]/\(Pr p∨p=10)/\k<=1000000/\d= .int (p^k.toNat)
theorem JJ {Y:Cy} {es:List Expr} {c:List Slot} {x1:Nat} {pos:Pos} (h:ArX Y es c):EvX Y (.Tuple es x1 pos) c:=PE.imp (Qc h) fun σ H Q ⟨F,E⟩=>⟨F,E⟩
def qy (ds:List D) (r:Rs):Prop:=∃t b:Int,ds=[.int t,.int b]/\((b≠0/\Bd 8900 b/\r= .ok (frD (Rat.divInt t b)))∨(b=0/\r= .ex "NoFraction"))
def xaX (ds:List D) (r:Rs):Prop:=∃a b:Rat,ds=[frD a,frD b]/\Fb 4400 a/\Fb 4400 b/\((b.num≠0/\r= .ok (frD (Rat.divInt (a.num*(b.den:Int)) ((a.den:Int)*b.num))))∨(b.num=0/\r= .ex "NoFraction"))
@[ext] structure Tb where
 a:Rat
 b:Rat
 c:Rat
 d:Rat
noncomputable abbrev tbD (t:Tb):D:= .tup [frD t.a,frD t.b,frD t.c,frD t.d]
def Tb.det (t:Tb):Rat:=t.a*t.d - t.b*t.c
noncomputable def Tb.mul (s t:Tb):Tb:=⟨s.a*t.a+s.b*t.c,s.a*t.b+s.b*t.d,s.c*t.a+s.d*t.c,s.c*t.b+s.d*t.d⟩
def Tb.scale (t:Tb) (r:Rat):Tb:=⟨t.a*r,t.b*r,t.c*r,t.d*r⟩
def Tb.turn (t:Tb):Tb:=⟨t.d,0 - t.b,0 - t.c,t.a⟩
def Tb.one:Tb:=⟨1,0,0,1⟩
def Tb.inv (t:Tb):Tb:=t.turn.scale (t.det⁻¹)
structure Tbb (n:Nat) (t:Tb):Prop where
 a:Fb n t.a
 b:Fb n t.b
 c:Fb n t.c
 d:Fb n t.d
theorem Tbb.mono {m n:Nat} {t:Tb} (h:Tbb m t) (l:m<=n):Tbb n t:=⟨h.a.mono l,h.b.mono l,h.c.mono l,h.d.mono l⟩
theorem Fb.neg {m:Nat} {a:Rat} (h:Fb m a):Fb m (-a):=⟨by show Bd m (-a.num);exact h.1.neg,h.2⟩
theorem Fb.inv {m:Nat} {a:Rat} (h:Fb m a) (h0:a≠0):Fb m a⁻¹:=by
 have hn:a.num≠0:=fun z=>h0 (Rat.num_eq_zero.mp z)
 refine ⟨?_,?_⟩
 ·rw [Rat.num_inv]
  have q:=h.2
  unfold Bd at*
  rw [Int.natAbs_mul]
  have:a.num.sign.natAbs<=1:=by
   rcases Int.lt_trichotomy a.num 0 with h | h | h
   ·rw [Int.sign_eq_neg_one_of_neg h];decide
   ·exact absurd h hn
   ·rw [Int.sign_eq_one_of_pos h];decide
  calc a.num.sign.natAbs*(a.den:Int).natAbs<=1*(a.den:Int).natAbs:=Nat.mul_le_mul_right _ this
   _=(a.den:Int).natAbs:=Nat.one_mul _
   _<2^m:=q
 ·rw [Rat.den_inv,mF hn]
  have q:=h.1
  unfold Bd at*
  rw [Int.natAbs_natCast]
  exact q
theorem fb_zero:Fb 1 0:=⟨by decide+kernel,by decide+kernel⟩
theorem fb_one:Fb 1 1:=⟨by decide+kernel,by decide+kernel⟩
theorem Fb.zsub {m:Nat} {a:Rat} (h:Fb m a):Fb m (0 - a):=by rw [Rat.sub_eq_add_neg,Rat.zero_add];exact h.neg
theorem Tbb.turn {m:Nat} {t:Tb} (h:Tbb m t):Tbb m t.turn:=⟨h.d,h.b.zsub,h.c.zsub,h.a⟩
structure MOk (t:Tb):Prop where
 ht:Tbb 4400 t
 ad:Fb 4400 (t.a*t.d)
 bc:Fb 4400 (t.b*t.c)
structure POk (s t:Tb):Prop where
 hs:Tbb 4400 s
 ht:Tbb 4400 t
 aa:Fb 4400 (s.a*t.a)
 bc:Fb 4400 (s.b*t.c)
 ab:Fb 4400 (s.a*t.b)
 bd:Fb 4400 (s.b*t.d)
 ca:Fb 4400 (s.c*t.a)
 dc:Fb 4400 (s.d*t.c)
 cb:Fb 4400 (s.c*t.b)
 dd:Fb 4400 (s.d*t.d)
def W2 (ds:List D) (d:D):Prop:=∃t:Tb,ds=[tbD t]/\MOk t/\d=frD t.det
def J4 (ds:List D) (d:D):Prop:=∃t:Tb,ds=[tbD t]/\Tbb 4400 t/\d=frD (t.a+t.d)
def Xe (ds:List D) (r:Rs):Prop:=∃t:Tb,ds=[frD t.a,frD t.b,frD t.c,frD t.d]/\MOk t/\((t.det≠0/\r= .ok (tbD t))∨(t.det=0/\r= .ex "NoTable"))
def j8 (ds:List D) (d:D):Prop:=∃a b c e:Rat,ds=[.tup [frD a,frD b],.tup [frD c,frD e]]/\Fb 4400 a/\Fb 4400 b/\Fb 4400 c/\Fb 4400 e/\Fb 4400 (a*c)/\Fb 4400 (b*e)/\d=frD (a*c+b*e)
def WZ (ds:List D) (d:D):Prop:=∃s t:Tb,ds=[tbD s,tbD t]/\POk s t/\d=tbD (s.mul t)
def ZE (ds:List D) (r:Rs):Prop:=∃(t:Tb) (q:Rat),ds=[tbD t,frD q]/\Tbb 4400 t/\Fb 4400 q/\((q≠0/\r= .ok (tbD (t.scale q)))∨(q=0/\r= .ex "NoTable"))
def j3 (ds:List D) (d:D):Prop:=∃t:Tb,ds=[tbD t]/\MOk t/\t.det≠0/\Fb 4400 t.det/\d=tbD t.inv
theorem wL (a:Rat) {b:Rat} (h0:b≠0):Rat.divInt (a.num*(b.den:Int)) ((a.den:Int)*b.num)=a*b⁻¹:=by
 have hn:b.num≠0:=fun z=>h0 (Rat.num_eq_zero.mp z)
 have e:b⁻¹=Rat.divInt (b.den:Int) b.num:=by rw [Rat.inv_def]
 have ea:a=Rat.divInt a.num (a.den:Int):=by rw [Rat.divInt_ofNat];exact (Rat.mkRat_self a).symm
 rw [e]
 conv=>rhs;rw [ea]
 rw [Rat.divInt_mul_divInt]
theorem UW {b:Rat} (h0:b≠0):Rat.divInt ((1:Rat).num*(b.den:Int)) (((1:Rat).den:Int)*b.num)=b⁻¹:=by rw [wL 1 h0,Rat.one_mul]
theorem xau {b:Rat} (h:b≠0):b⁻¹≠0:=fun z=>by
 have:=Rat.mul_inv_cancel _ h
 rw [z,Rat.mul_zero] at this
 exact absurd this (by decide)
theorem u4 (a b:Rat):eqD (frD a) (frD b)=decide (a=b):=by
 have e:eqD (frD a) (frD b)=((a.num==b.num) && (((a.den:Int)==(b.den:Int)) && true)):=rfl
 rw [e,Bool.eq_iff_iff]
 simp only [Bool.and_true,Bool.and_eq_true,beq_iff_eq,decide_eq_true_eq]
 constructor
 ·intro h;exact Rat.ext h.1 (by omega)
 ·rintro rfl;exact ⟨rfl,rfl⟩
theorem Qb {p a b:Int} (hp:Pr p) (ha:¬a%p=0) (hb:¬b%p=0):¬a*b%p=0:=by
 intro h
 obtain ⟨c,_,_,hc⟩:=QC hp hb
 have h1:=Int.dvd_of_emod_eq_zero h
 have h2:p∣a*(b*c):=by rw [<-Int.mul_assoc];exact Int.dvd_mul_of_dvd_left h1
 have e:b*c=1+p*(b*c / p):=by have:=Int.emod_add_mul_ediv (b*c) p;omega
 rw [e,Int.mul_add,Int.mul_one,Int.mul_left_comm] at h2
 have h3:p∣a:=(Int.dvd_add_left (Int.dvd_mul_right p _)).mp h2
 exact ha (Int.emod_eq_zero_of_dvd h3)
theorem YV {p:Int} (hp:Pr p):∀(m:Nat) (n:Int),n.natAbs<=m->n≠0->∃u,n=p^(vp p n)*u/\¬u%p=0
 | 0,n,hm,hn=>by omega
 | m+1,n,hm,hn=>by
  have p2:=hp.two_le
  by_cases h:n%p=0
  ·have f:=XS p2.1 hn h
   obtain ⟨u,hu,hup⟩:=YV hp m (n / p) (by omega) f.2.1
   refine ⟨u,?_,hup⟩
   rw [wF p2.1 hn h,Int.pow_succ',Int.mul_assoc,<-hu]
   exact f.1
  ·exact ⟨n,by rw [wE h,Int.pow_zero,Int.one_mul],h⟩
theorem Xu {p:Int} (hp:Pr p) {n:Int} (hn:n≠0):∃u,n=p^(vp p n)*u/\¬u%p=0:=YV hp _ n (mJ _) hn
theorem uk {p w:Int} (hp:Pr p) (hw:¬w%p=0):∀(n:Nat) (m:Int),p^n∣m*w->p^n∣m
 | 0,m,_=>by rw [Int.pow_zero];exact Int.one_dvd m
 | n+1,m,h=>by
  have p2:=hp.two_le
  have hm:p∣m:=by
   have h1:p∣m*w:=Int.dvd_trans (by rw [Int.pow_succ'];exact Int.dvd_mul_right _ _) h
   by_cases z:m%p=0
   ·exact Int.dvd_of_emod_eq_zero z
   ·exact absurd (Int.emod_eq_zero_of_dvd h1) (Qb hp z hw)
  obtain ⟨q,rfl⟩:=hm
  rw [Int.pow_succ',Int.mul_assoc] at h
  have h2:p^n∣q*w:=Int.dvd_of_mul_dvd_mul_left (by omega) h
  rw [Int.pow_succ']
  exact Int.mul_dvd_mul_left p (uk hp hw n q h2)
theorem Ua {p u:Int} (hp:Pr p) (hu:¬u%p=0) (n:Nat):vp p (p^n*u)=n:=by
 have p2:=hp.two_le
 have u0:u≠0:=fun z=>hu (by rw [z];simp)
 induction n with
 | zero=>rw [Int.pow_zero,Int.one_mul,wE hu]
 | succ n ih=>
  have e:p^(n+1)*u=p*(p^n*u):=by rw [Int.pow_succ',Int.mul_assoc]
  have pp:=yg hp n
  rw [e,wF p2.1 (Int.mul_ne_zero (by omega) (Int.mul_ne_zero (by omega) u0)) (Int.mul_emod_right p _),Int.mul_ediv_cancel_left _ (by omega),ih]
theorem yw {p:Int} (hp:Pr p) (a b:Int):ppw p (a+b)=ppw p a*ppw p b:=by
 have p2:=hp.two_le
 exact Rat.zpow_add (by intro z;have:p=0:=(by exact_mod_cast z);omega) a b
theorem yc (p:Int) (n:Nat):ppw p (n:Int)=((p^n:Int):Rat):=by
 have q:=vU (p:=p) (k:=(n:Int)) (by omega)
 apply Rat.ext
 ·rw [q.1];simp
 ·rw [q.2];simp
theorem uq (p:Int):ppw p 0=1:=by have:=yc p 0;simpa using this
theorem qP {p:Int} (hp:Pr p) (k:Int):ppw p k≠0:=by
 intro z
 have h:=yw hp k (-k)
 rw [z,Rat.zero_mul,show k+ -k=0 by omega,uq] at h
 exact absurd h (by decide)
theorem wJ {p:Int} (hp:Pr p) (k:Int):ppw p (-k)*ppw p k=1:=by
 rw [<-yw hp,show -k+k=0 by omega,uq]
theorem Z7 {a:Rat} (h:0<a.num):0<a:=by
 rw [Rat.lt_iff];simpa using h
theorem zT {p:Int} (hp:Pr p) (k:Int):0<ppw p k:=by
 have p2:=hp.two_le
 have nat:∀n:Nat,0<ppw p (n:Int):=fun n=>by
  apply Z7
  rw [(vU (p:=p) (k:=(n:Int)) (by omega)).1]
  exact yg hp _
 by_cases h:0<=k
 ·have:=nat k.toNat
  rw [show ((k.toNat:Nat):Int)=k by omega] at this
  exact this
 ·have h1:=nat (-k).toNat
  rw [show (((-k).toNat:Nat):Int)= -k by omega] at h1
  have e:=wJ hp k
  by_cases z:0<ppw p k
  ·exact z
  ·exfalso
   have z':ppw p k<=0:=Rat.not_lt.mp z
   have:ppw p (-k)*ppw p k<=ppw p (-k)*0:=Rat.mul_le_mul_of_nonneg_left z' (Rat.le_of_lt h1)
   rw [e,Rat.mul_zero] at this
   exact absurd this (by decide)
def Dv (p k:Int) (r:Rat):Prop:=∃u w:Int,¬w%p=0/\r*(w:Rat)=(u:Rat)*ppw p k
theorem qJ (p k:Int) (hp:Pr p):Dv p k 0:=⟨0,1,by rcases hp with rfl | rfl | rfl | rfl<;>decide,by simp⟩
theorem xaL {p k:Int} (hp:Pr p) {r s:Rat} (hr:Dv p k r) (hs:Dv p k s):Dv p k (r+s):=by
 obtain ⟨u,w,hw,h⟩:=hr
 obtain ⟨u',w',hw',h'⟩:=hs
 refine ⟨u*w'+u'*w,w*w',Qb hp hw hw',?_⟩
 push_cast
 grind
theorem xaK {p k:Int} {r:Rat} (hr:Dv p k r):Dv p k (-r):=by
 obtain ⟨u,w,hw,h⟩:=hr
 refine ⟨-u,w,hw,?_⟩
 push_cast
 grind
theorem JT {p k:Int} {r s:Rat} (h:Dv p k (r - s)):Dv p k (s - r):=by
 have:=xaK h
 rw [show -(r - s)=s - r by grind] at this
 exact this
theorem Zz {p k:Int} (hp:Pr p) {r s t:Rat} (h:Dv p k (r - s)) (h':Dv p k (s - t)):Dv p k (r - t):=by
 have:=xaL hp h h'
 rw [show r - s+(s - t)=r - t by grind] at this
 exact this
theorem qB (r:Rat):r*(r.den:Rat)=(r.num:Rat):=by
 have h:=Rat.num_divInt_den r
 rw [Rat.divInt_eq_div] at h
 have d0:((r.den:Int):Rat)≠0:=by
  intro z
  have:(r.den:Int)=0:=by exact_mod_cast z
  exact yn r this
 conv=>lhs;lhs;rw [<-h]
 exact Rat.div_mul_cancel d0
theorem W8 {p k:Int} (hp:Pr p) (r:Rat):Dv p k r↔(match vq p r with | none=>True | some v=>k<=v):=by
 by_cases h0:r.num=0
 ·have z:r=0:=Rat.num_eq_zero.mp h0
  have e:vq p r=none:=by unfold vq;rw [mH h0]
  rw [e,z]
  exact ⟨fun _=>trivial,fun _=>qJ p k hp⟩
 ·have e:vq p r=some ((vp p r.num:Int) - (vp p r.den:Int)):=by unfold vq;rw [mF h0]
  rw [e]
  obtain ⟨n,hn,np⟩:=Xu hp h0
  obtain ⟨d,hd,dp⟩:=Xu hp (yn r)
  generalize vp p r.num=a at*
  generalize vp p r.den=b at*
  have s:=qB r
  have hn':(r.num:Rat)=ppw p (a:Int)*(n:Rat):=by rw [yc,hn];push_cast;rfl
  have hd':(r.den:Rat)=ppw p (b:Int)*(d:Rat):=by
   rw [yc]
   have:((r.den:Int):Rat)=((p^b*d:Int):Rat):=by rw [<-hd]
   push_cast at this ⊢
   exact this
  rw [hn',hd'] at s
  have pb:=qP hp (b:Int)
  have key:r*(d:Rat)=(n:Rat)*ppw p ((a:Int) - (b:Int)):=by
   have e2:ppw p (a:Int)=ppw p ((a:Int) - (b:Int))*ppw p (b:Int):=by rw [<-yw hp];congr 1;omega
   rw [e2] at s
   grind
  constructor
  ·rintro ⟨u,w,hw,h⟩
   show k<=(a:Int) - (b:Int)
   by_cases z:k<=(a:Int) - (b:Int)
   ·exact z
   ·exfalso
    have e3:ppw p k=ppw p (k - ((a:Int) - (b:Int)))*ppw p ((a:Int) - (b:Int)):=by rw [<-yw hp];congr 1;omega
    have pk:=qP hp ((a:Int) - (b:Int))
    obtain ⟨m,hm⟩:∃m:Nat,k - ((a:Int) - (b:Int))=((m+1:Nat):Int):=⟨(k - ((a:Int) - (b:Int))).toNat - 1,by omega⟩
    have e4:(n:Rat)*(w:Rat)=(u:Rat)*(d:Rat)*ppw p (k - ((a:Int) - (b:Int))):=by
     rw [e3] at h
     grind
    rw [hm,yc] at e4
    have e5:n*w=u*d*p^(m+1):=by exact_mod_cast e4
    have:n*w%p=0:=Int.emod_eq_zero_of_dvd (by rw [e5,Int.pow_succ',Int.mul_left_comm];exact Int.dvd_mul_right _ _)
    exact Qb hp np hw this
  ·intro h
   have h:k<=(a:Int) - (b:Int):=h
   obtain ⟨m,hm⟩:∃m:Nat,(a:Int) - (b:Int) - k=(m:Int):=⟨((a:Int) - (b:Int) - k).toNat,by omega⟩
   refine ⟨n*p^m,d,dp,?_⟩
   rw [key]
   have e3:ppw p ((a:Int) - (b:Int))=ppw p (m:Int)*ppw p k:=by rw [<-yw hp];congr 1;omega
   rw [e3,yc]
   push_cast
   grind
def PDen (p:Int) (r:Rat):Prop:=∃n:Nat,(r.den:Int)=p^n
theorem uu {p:Int} (hp:Pr p) {r:Rat} (h:PDen p r):∃(n:Nat) (m:Int),r*ppw p (n:Int)=(m:Rat):=by
 obtain ⟨n,hn⟩:=h
 refine ⟨n,r.num,?_⟩
 rw [yc,<-hn,<-qB r]
 first | rfl | norm_cast
theorem w9 {p:Int} (hp:Pr p) {r:Rat} {n:Nat} {m:Int} (h:r*ppw p (n:Int)=(m:Rat)) {l:Nat} (hl:n<=l):∃m':Int,r*ppw p (l:Int)=(m':Rat):=by
 refine ⟨m*p^(l - n),?_⟩
 have e:ppw p (l:Int)=ppw p (n:Int)*ppw p ((l - n:Nat):Int):=by rw [<-yw hp];congr 1;omega
 rw [e,<-Rat.mul_assoc,h,yc]
 push_cast
 rfl
theorem jP {p:Int} (hp:Pr p):∀(n:Nat) (d:Int),0<d->d∣p^n->∃m:Nat,d=p^m
 | 0,d,h0,h=>⟨0,by
  rw [Int.pow_zero] at h ⊢
  have:=Int.le_of_dvd (by decide) h
  omega⟩
 | n+1,d,h0,h=>by
  have p2:=hp.two_le
  by_cases z:d%p=0
  ·obtain ⟨q,rfl⟩:=Int.dvd_of_emod_eq_zero z
   rw [Int.pow_succ'] at h
   have q0:0<q:=by
    by_cases hq:0<q
    ·exact hq
    ·have:=Int.mul_nonneg (show 0<=p by omega) (show 0<= -q by omega)
     rw [Int.mul_neg] at this
     omega
   obtain ⟨m,rfl⟩:=jP hp n q q0 (Int.dvd_of_mul_dvd_mul_left (by omega) h)
   exact ⟨m+1,by rw [Int.pow_succ']⟩
  ·obtain ⟨c,hc⟩:=h
   have h1:p^(n+1)∣c*d:=⟨1,by rw [Int.mul_one,Int.mul_comm];exact hc.symm⟩
   have h2:=uk hp z (n+1) c h1
   obtain ⟨e,rfl⟩:=h2
   have pp:=yg hp (n+1)
   have:d*e=1:=by
    have h3:p^(n+1)*(d*e)=p^(n+1)*1:=by rw [Int.mul_one];grind
    exact Int.eq_of_mul_eq_mul_left (by omega) h3
   have:d∣1:=⟨e,this.symm⟩
   have:=Int.le_of_dvd (by decide) this
   exact ⟨0,by rw [Int.pow_zero];omega⟩
theorem Yn {p:Int} (hp:Pr p) {r:Rat} {n:Nat} {m:Int} (h:r*ppw p (n:Int)=(m:Rat)):PDen p r:=by
 have e:r.num*p^n=m*(r.den:Int):=by
  have s:=qB r
  rw [yc] at h
  have q:(r.num:Rat)*((p^n:Int):Rat)=(m:Rat)*((r.den:Int):Rat):=by
   rw [<-s,<-h]
   push_cast
   grind
  exact_mod_cast q
 have hc:Int.gcd (r.den:Int) r.num=1:=by
  rw [Int.gcd_comm,Int.gcd_eq_natAbs_gcd_natAbs,Int.natAbs_natCast];exact r.reduced
 have d:(r.den:Int)∣r.num*p^n:=⟨m,by rw [e,Int.mul_comm]⟩
 have d2:(r.den:Int)∣p^n:=by
  have g:=Int.gcd_mul_right_right_of_gcd_eq_one (k:=p^n) hc
  have:(Int.gcd (r.den:Int) (r.num*p^n):Int)=(r.den:Int):=by
   rw [Int.gcd_eq_left (by omega) d]
  rw [g] at this
  have h3:=Int.gcd_dvd_right (r.den:Int) (p^n)
  rw [this] at h3
  exact h3
 obtain ⟨k,hk⟩:=jP hp n _ (VC r) d2
 exact ⟨k,hk⟩
structure IsRest (p k:Int) (a r:Rat):Prop where
 den:PDen p r
 nn:0<=r
 lt:r<ppw p k
 dv:Dv p k (a - r)
theorem rat_lt_int {a b:Int}:(a:Rat)<(b:Rat)↔a<b:=by
 rw [Rat.lt_iff];simp
theorem rat_le_int {a b:Int}:(a:Rat)<=(b:Rat)↔a<=b:=by
 rw [Rat.le_iff];simp
theorem Qs {a b c:Rat} (h:a<b) (hc:0<c):a*c<b*c:=(Rat.mul_lt_mul_right hc).mpr h
theorem zL {p k:Int} (hp:Pr p) {a b r s:Rat} (hr:IsRest p k a r) (hs:IsRest p k b s) (h:Dv p k (a - b)):r=s:=by
 have d:Dv p k (r - s):=Zz hp (JT hr.dv) (Zz hp h hs.dv)
 obtain ⟨n1,m1,e1⟩:=uu hp hr.den
 obtain ⟨n2,m2,e2⟩:=uu hp hs.den
 obtain ⟨L,hL⟩:∃L:Nat,n1<=L/\n2<=L/\ -k<=(L:Int):=⟨n1+n2+(-k).toNat,by omega,by omega,by omega⟩
 obtain ⟨x,hx⟩:=w9 hp e1 hL.1
 obtain ⟨y,hy⟩:=w9 hp e2 hL.2.1
 obtain ⟨K,hK⟩:∃K:Nat,k+(L:Int)=(K:Int):=⟨(k+L).toNat,by omega⟩
 have pL:=zT hp (L:Int)
 have eK:ppw p k*ppw p (L:Int)=((p^K:Int):Rat):=by rw [<-yw hp,hK,yc]
 have bd:∀{t:Rat} {z:Int},0<=t->t<ppw p k->t*ppw p (L:Int)=(z:Rat)->0<=z/\z<p^K:=fun {t z} h0 h1 hz=>by
  constructor
  ·have:(0:Rat)<=(z:Rat):=by rw [<-hz];exact Rat.mul_nonneg h0 (Rat.le_of_lt pL)
   exact rat_le_int.mp (by simpa using this)
  ·have:=Qs h1 pL
   rw [hz,eK] at this
   exact rat_lt_int.mp this
 have bx:=bd hr.nn hr.lt hx
 have by':=bd hs.nn hs.lt hy
 obtain ⟨u,w,hw,hd⟩:=d
 have e:(x - y)*w=u*p^K:=by
  have q:((x:Rat) - (y:Rat))*(w:Rat)=(u:Rat)*((p^K:Int):Rat):=by
   rw [<-hx,<-hy,<-eK]
   grind
  exact_mod_cast q
 have dd:=uk hp hw K (x - y) ⟨u,by rw [e,Int.mul_comm]⟩
 have:x - y=0:=by
  rcases Int.lt_trichotomy (x - y) 0 with h | h | h
  ·have:=Int.le_of_dvd (show 0< -(x - y) by omega) (Int.dvd_neg.mpr dd);omega
  ·exact h
  ·have:=Int.le_of_dvd h dd;omega
 have exy:x=y:=by omega
 rw [exy,<-hy] at hx
 have pn:=qP hp (L:Int)
 grind
def restQ (p k:Int) (a:Rat):Rat:=if k+(vp p a.den:Int)<=0 then 0 else
 Rat.divInt (a.num*overBy p ((a.den:Int) / p^(vp p a.den)) (k+(vp p a.den:Int)).toNat%p^(k+(vp p a.den:Int)).toNat) (p^(vp p a.den))
theorem zx {p:Int} (hp:Pr p) (k:Int) (a:Rat):IsRest p k a (restQ p k a):=by
 obtain ⟨d,hd,dp⟩:=Xu hp (yn a)
 unfold restQ
 have s:=qB a
 generalize vp p a.den=e at*
 have pe:=yg hp e
 have hdiv:(a.den:Int) / p^e=d:=by rw [hd];exact Int.mul_ediv_cancel_left d (by omega)
 have hd':(a.den:Rat)=ppw p (e:Int)*(d:Rat):=by
  rw [yc]
  have:((a.den:Int):Rat)=((p^e*d:Int):Rat):=by rw [<-hd]
  push_cast at this ⊢
  exact this
 rw [hd'] at s
 have pne:=qP hp (e:Int)
 split
 ·rename_i h
  refine ⟨⟨0,by simp⟩,Rat.le_refl,zT hp k,?_⟩
  obtain ⟨m,hm⟩:∃m:Nat,-(e:Int) - k=(m:Int):=⟨(-(e:Int) - k).toNat,by omega⟩
  refine ⟨a.num*p^m,d,dp,?_⟩
  have e1:ppw p (-(e:Int))*ppw p (e:Int)=1:=wJ hp _
  have e2:ppw p (-(e:Int))=ppw p (m:Int)*ppw p k:=by rw [<-yw hp];congr 1;omega
  rw [yc] at e2
  push_cast at e2 ⊢
  grind
 ·rename_i h
  obtain ⟨K,hK⟩:∃K:Nat,k+(e:Int)=(K:Int):=⟨(k+e).toNat,by omega⟩
  rw [hdiv,hK,Int.toNat_natCast]
  have ov:=zm hp dp K
  generalize overBy p d K=x at ov
  have pK:=yg hp K
  have w0:=Int.emod_nonneg (a.num*x) (show p^K≠0 by omega)
  have w1:=Int.emod_lt_of_pos (a.num*x) pK
  have dw:p^K∣a.num - (a.num*x%p^K)*d:=by
   have e1:a.num - (a.num*x%p^K)*d= -(a.num*(d*x - 1))+p^K*(a.num*x / p^K*d):=by rw [Int.emod_def];grind
   rw [e1]
   exact Int.dvd_add (Int.dvd_neg.mpr (Int.dvd_mul_of_dvd_right ov.2.2)) (Int.dvd_mul_right _ _)
  generalize a.num*x%p^K=W at*
  have hr:Rat.divInt W (p^e)*ppw p (e:Int)=(W:Rat):=by
   rw [Rat.divInt_eq_div,yc]
   refine Rat.div_mul_cancel ?_
   intro z
   have:p^e=0:=by exact_mod_cast z
   omega
  generalize Rat.divInt W (p^e)=r at hr
  have pp:=zT hp (e:Int)
  refine ⟨Yn hp hr,?_,?_,?_⟩
  ·by_cases z:0<=r
   ·exact z
   ·exfalso
    have:=Qs (Rat.not_le.mp z) pp
    rw [hr,Rat.zero_mul] at this
    have:=rat_lt_int.mp (by simpa using this:(W:Rat)<((0:Int):Rat))
    omega
  ·by_cases z:r<ppw p k
   ·exact z
   ·exfalso
    have h1:ppw p k*ppw p (e:Int)<=r*ppw p (e:Int):=Rat.mul_le_mul_of_nonneg_right (Rat.not_lt.mp z) (Rat.le_of_lt pp)
    rw [hr,<-yw hp,hK,yc] at h1
    have:=rat_le_int.mp h1
    omega
  ·obtain ⟨t,ht⟩:=dw
   refine ⟨t,d,dp,?_⟩
   have e1:ppw p (e:Int)*ppw p k=((p^K:Int):Rat):=by rw [<-yw hp,show (e:Int)+k=(K:Int) by omega,yc]
   have e2:(a.num:Rat) - (W:Rat)*(d:Rat)=((p^K:Int):Rat)*(t:Rat):=by exact_mod_cast ht
   grind
theorem Ki {p:Int} (hp:Pr p) {n:Int} (hn:n≠0) {m:Nat} (h:Bd m n):vp p n<m:=by
 obtain ⟨u,hu,up⟩:=Xu hp hn
 have p2:=hp.two_le
 have u0:u≠0:=fun z=>up (by rw [z];simp)
 unfold Bd at h
 by_cases z:vp p n<m
 ·exact z
 ·exfalso
  have e:n.natAbs=(p^vp p n).natAbs*u.natAbs:=by rw [<-Int.natAbs_mul,<-hu]
  have h1:2^m<=(p^vp p n).natAbs:=by
   rw [Int.natAbs_pow]
   exact Nat.le_trans (Nat.pow_le_pow_right (by decide) (by omega)) (Nat.pow_le_pow_left (by omega) _)
  have h2:(p^vp p n).natAbs*1<=(p^vp p n).natAbs*u.natAbs:=Nat.mul_le_mul_left _ (by omega)
  omega
def xaT (ds:List D) (d:D):Prop:=∃(p k:Int) (a:Rat),ds=[.int p,.int k,frD a]/\Pr p/\k<=900000/\ -900000<=k/\Fb 4400 a/\d=frD (restQ p k a)
theorem vq_none {p:Int} {r:Rat}:vq p r=none↔r=0:=by
 unfold vq
 rw [<-Rat.num_eq_zero]
 split<;>simp [*]
theorem W7 {p:Int} (hp:Pr p) {r:Rat} {v:Int}:vq p r=some v↔(r≠0/\∀k,Dv p k r↔k<=v):=by
 constructor
 ·intro h
  refine ⟨fun z=>?_,fun k=>?_⟩
  ·rw [vq_none.mpr z] at h;cases h
  ·rw [W8 hp,h]
 ·rintro ⟨h0,h⟩
  cases e:vq p r with
  | none=>exact absurd (vq_none.mp e) h0
  | some w=>
   have q:∀k,Dv p k r↔k<=w:=fun k=>by rw [W8 hp,e]
   have h1:=(h w).mp ((q w).mpr (Int.le_refl _))
   have h2:=(q v).mp ((h v).mpr (Int.le_refl _))
   congr 1;omega
theorem xaJ {p k j:Int} (hp:Pr p) {r:Rat}:Dv p k (r*ppw p j)↔Dv p (k - j) r:=by
 have hj:=qP hp j
 have e:ppw p k=ppw p (k - j)*ppw p j:=by rw [<-yw hp];congr 1;omega
 constructor
 ·rintro ⟨u,w,hw,h⟩
  refine ⟨u,w,hw,?_⟩
  rw [e] at h
  grind
 ·rintro ⟨u,w,hw,h⟩
  refine ⟨u,w,hw,?_⟩
  rw [e]
  grind
theorem wV {p:Int} (hp:Pr p) (r:Rat) (j:Int):vq p (r*ppw p j)=(vq p r).map (· +j):=by
 cases e:vq p r with
 | none=>rw [vq_none.mp e,Rat.zero_mul];exact vq_none.mpr rfl
 | some v=>
  obtain ⟨h0,h⟩:=(W7 hp).mp e
  refine (W7 hp).mpr ⟨fun z=>(Rat.mul_eq_zero.mp z).elim h0 (qP hp j),fun k=>?_⟩
  rw [xaJ hp,h]
  show k - j<=v↔k<=v+j
  omega
theorem W6 {p:Int} (hp:Pr p):vq p 1=some 0:=by have:=X7 (k:=0) hp;rwa [uq] at this
noncomputable def leastV (p:Int) (rs:List Rat):Int:=match rs.filterMap (vq p) with
 | []=>0
 | x::xs=>xs.foldl min x
noncomputable def lowS (p k1:Int) (q1:Rat) (k2:Int) (q2:Rat):Int:=match vq p (q2 - q1) with
 | none=>min 0 (k2 - k1)
 | some v=>min (min 0 (k2 - k1)) (v - k1)
abbrev spotD (k:Int) (q:Rat):D:= .tup [.int k,frD q]
def tabS (p k:Int) (q:Rat):Tb:=⟨ppw p k,q,0,1⟩
theorem Ui (p k:Int) (q:Rat):(tabS p k q).det=ppw p k:=by unfold tabS Tb.det;simp only [];grind
theorem Jv {p:Int} (hp:Pr p) (k:Int):(ppw p k)⁻¹=ppw p (-k):=by
 have h:=wJ hp k
 have h0:=qP hp k
 have:=Rat.mul_inv_cancel _ h0
 grind
theorem Uh {p:Int} (hp:Pr p) (k:Int) (q:Rat):(tabS p k q).inv=⟨ppw p (-k),-q*ppw p (-k),0,1⟩:=by
 unfold Tb.inv
 rw [Ui,Jv hp]
 have h:=wJ hp k
 unfold tabS Tb.turn Tb.scale
 simp only [Tb.mk.injEq]
 refine ⟨?_,?_,?_,?_⟩<;>grind
theorem Ug {p:Int} (hp:Pr p) (k1 k2:Int) (q1 q2:Rat):(tabS p k1 q1).inv.mul (tabS p k2 q2)=⟨ppw p (k2 - k1),(q2 - q1)*ppw p (-k1),0,1⟩:=by
 rw [Uh hp]
 have e:ppw p (k2 - k1)=ppw p (-k1)*ppw p k2:=by rw [<-yw hp];congr 1;omega
 unfold tabS Tb.mul
 simp only [Tb.mk.injEq]
 refine ⟨?_,?_,?_,?_⟩<;>grind
theorem Wu {p:Int} (hp:Pr p) (k1 k2:Int) (q1 q2:Rat):leastV p [ppw p (k2 - k1),(q2 - q1)*ppw p (-k1),0,1]=lowS p k1 q1 k2 q2:=by
 unfold leastV lowS
 have h0:vq p 0=none:=vq_none.mpr rfl
 cases e:vq p (q2 - q1) with
 | none=>
  have h:[ppw p (k2 - k1),(q2 - q1)*ppw p (-k1),0,1].filterMap (vq p)=[k2 - k1,0]:=by
   simp [List.filterMap_cons,X7 hp,wV hp,e,h0,W6 hp]
  rw [h]
  show min (k2 - k1) 0=min 0 (k2 - k1)
  omega
 | some v=>
  have h:[ppw p (k2 - k1),(q2 - q1)*ppw p (-k1),0,1].filterMap (vq p)=[k2 - k1,v+ -k1,0]:=by
   simp [List.filterMap_cons,X7 hp,wV hp,e,h0,W6 hp]
  rw [h]
  show min (min (k2 - k1) (v+ -k1)) 0=min (min 0 (k2 - k1)) (v - k1)
  omega
def Sz (p:Int) (M B:Nat) (r:Rat):Prop:=∃m:Int,r*ppw p (M:Int)=(m:Rat)/\Bd B m
structure Sp (p:Int) (k:Int) (q:Rat):Prop where
 k0: -310<=k
 k1:k<=310
 q:Sz p 310 1862 q
theorem ku {p:Int} (k1 k2:Int) (q1 q2:Rat):Tb.det ⟨ppw p (k2 - k1),(q2 - q1)*ppw p (-k1),0,1⟩=ppw p (k2 - k1):=by unfold Tb.det;simp only [];grind
def Kb (ds:List D) (d:D):Prop:=∃(p:Int) (rs:List Rat),ds=[.int p,.tup (rs.map frD)]/\Pr p/\rs.length<=10/\(∃r∈rs,r≠0)/\d= .int (leastV p rs)
def xbx (ds:List D) (d:D):Prop:=∃(p:Int) (t:Tb) (v:Int),ds=[.int p,tbD t]/\Pr p/\MOk t/\vq p t.det=some v/\d= .tup [.int (leastV p [t.a,t.b,t.c,t.d]),.int (v - leastV p [t.a,t.b,t.c,t.d])]
def J5 (ds:List D) (d:D):Prop:=∃(p k:Int) (q:Rat),ds=[.int p,spotD k q]/\Pr p/\ -1000000<=k/\k<=1000000/\d=tbD (tabS p k q)
def wayS (p k1:Int) (q1:Rat) (k2:Int) (q2:Rat):Int:=k2 - k1 - lowS p k1 q1 k2 q2 - lowS p k1 q1 k2 q2
theorem xaM {t:Tb} {p v:Int} (h:vq p t.det=some v):∃r∈[t.a,t.b,t.c,t.d],r≠0:=by
 by_cases ha:t.a=0
 ·by_cases hb:t.b=0
  ·exfalso
   have:t.det=0:=by unfold Tb.det;rw [ha,hb];grind
   rw [vq_none.mpr this] at h;cases h
  ·exact ⟨t.b,by simp,hb⟩
 ·exact ⟨t.a,by simp,ha⟩
def cellOf (ns:List Int) (k:Int):Int:=if k<(ns.length:Int) then ns.getD k.toNat 0%10^60 else 0
noncomputable def drawn (ns:List Int) (k:Int):Int:=if 0<(ns.length:Int)/\ns.getD 0 0%2=1 then cellOf ns k / (1+if k=0 then 1 else 0)
 else cellOf ns k*2147483629+(cellOf ns k+7919*k+13)*48271%2147483647*69621%2147483629
theorem VG {ns:List Int} {k:Int} (h0:0<=k) (h:k<(ns.length:Int)):atI (ns.map D.int) k=some (.int (ns.getD k.toNat 0)):=by
 have hk:k.toNat<ns.length:=by omega
 have ek:k=((k.toNat:Nat):Int):=by omega
 have q:atI (ns.map D.int) ((k.toNat:Nat):Int)=some (.int (ns.getD k.toNat 0)):=VJ (by
  rw [List.getElem?_map,mD hk]
  simp [hk])
 rw [<-ek] at q
 exact q
structure Spt (p K k:Int) (q:Rat):Prop where
 k0: -K<=k
 k1:k<=K
 nn:0<=q
 lt:q<ppw p k
 sc:∃m:Int,q*ppw p ((310:Nat):Int)=(m:Rat)
theorem UP {i:Int} (h0:0<=i) (h1:i<4):∃p,Pr p/\atI [D.int 2,D.int 3,D.int 5,D.int 7] i=some (.int p):=by
 rcases (show i=0∨i=1∨i=2∨i=3 by omega) with rfl | rfl | rfl | rfl
 ·exact ⟨2,.inl rfl,rfl⟩
 ·exact ⟨3,.inr (.inl rfl),rfl⟩
 ·exact ⟨5,.inr (.inr (.inl rfl)),rfl⟩
 ·exact ⟨7,.inr (.inr (.inr rfl)),rfl⟩
noncomputable def isF:D->Bool
 | .tup [.int a,.int b]=>decide (1<=b) && decide ((Int.gcd a b:Int)=1)
 | _=>false
noncomputable def isS (p:Int):D->Bool
 | .tup [.int k,.tup [.int a,.int b]]=>isF (.tup [.int a,.int b]) && decide (restQ p (min k (bits a:Int)) (Rat.divInt a b)=Rat.divInt a b)
 | _=>false
def okS (x:D):Prop:=∀k a b:Int,x= .tup [.int k,.tup [.int a,.int b]]-> -900000<=k/\Bd 4400 a/\Bd 4400 b
def SpP (p k a b:Int):Prop:=1<=b/\0<=a/\(Int.gcd a b:Int)=1/\(∃n:Nat,b=p^n)/\Rat.divInt a b<ppw p k
def xbE (ds:List D) (d:D):Prop:=∃x:D,ds=[x]/\d= .bl (isF x)
def xbD (ds:List D) (d:D):Prop:=∃(p:Int) (x:D),ds=[.int p,x]/\Pr p/\okS x/\d= .bl (isS p x)
theorem Qx {a b:Int} (h1:1<=b) (h:(Int.gcd a b:Int)=1):(Rat.divInt a b).num=a/\((Rat.divInt a b).den:Int)=b:=by
 have hb:b≠0:=by omega
 have hn:¬b<0:=by omega
 have l:=vx a hb
 rw [mF hn,h] at l
 rw [Int.fdiv_one,Int.fdiv_one] at l
 exact ⟨l.1.symm,l.2.symm⟩
theorem Ju {p k a b:Int} (hp:Pr p):isS p (.tup [.int k,.tup [.int a,.int b]])=true↔SpP p k a b:=by
 have p2:=hp.two_le
 show (isF (.tup [.int a,.int b]) && decide (restQ p (min k (bits a:Int)) (Rat.divInt a b)=Rat.divInt a b))=true↔_
 show ((decide (1<=b) && decide ((Int.gcd a b:Int)=1)) && decide (restQ p (min k (bits a:Int)) (Rat.divInt a b)=Rat.divInt a b))=true↔_
 simp only [Bool.and_eq_true,decide_eq_true_eq]
 have mono:∀i j:Int,i<=j->ppw p i<=ppw p j:=by
  intro i j h
  have e:ppw p j=ppw p i*ppw p (j - i):=by rw [<-yw hp];congr 1;omega
  have h1:(1:Rat)<=ppw p (j - i):=by
   rw [show j - i=(((j - i).toNat:Nat):Int) by omega,yc]
   have:=yg hp (j - i).toNat
   exact_mod_cast (show (1:Int)<=p^(j - i).toNat by omega)
  rw [e]
  have:=Rat.mul_le_mul_of_nonneg_left h1 (Rat.le_of_lt (zT hp i))
  rwa [Rat.mul_one] at this
 constructor
 ·rintro ⟨⟨h1,hg⟩,hr⟩
  have l:=Qx h1 hg
  have ir:=zx hp (min k (bits a:Int)) (Rat.divInt a b)
  rw [hr] at ir
  refine ⟨h1,?_,hg,?_,?_⟩
  ·have:=Rat.num_nonneg.mpr ir.nn
   rw [l.1] at this
   exact this
  ·obtain ⟨n,e⟩:=ir.den
   exact ⟨n,by rw [<-l.2];exact e⟩
  ·exact Std.lt_of_lt_of_le ir.lt (mono _ _ (by omega))
 ·rintro ⟨h1,h0,hg,⟨n,hn⟩,hlt⟩
  have l:=Qx h1 hg
  refine ⟨⟨h1,hg⟩,?_⟩
  have nn:(0:Rat)<=Rat.divInt a b:=Rat.num_nonneg.mp (by rw [l.1];exact h0)
  have lt2:Rat.divInt a b<ppw p (bits a:Int):=by
   rw [Rat.lt_iff,l.1,l.2]
   have q:=vU (p:=p) (k:=(bits a:Int)) (by omega)
   rw [q.1,q.2,Int.toNat_natCast]
   have hb:=JX a
   have h2:(2:Int)^bits a<=p^bits a:=by
    have:(2:Int)^bits a=((2^bits a:Nat):Int):=by simp
    have h3:(2^bits a:Nat)<=(p.toNat)^bits a:=Nat.pow_le_pow_left (by omega) _
    have h4:(p^bits a:Int)=((p.toNat^bits a:Nat):Int):=by
     rw [Int.natCast_pow,show (p.toNat:Int)=p by omega]
    rw [this,h4]
    exact_mod_cast h3
   have h5:a<p^bits a:=by
    have:(2:Int)^bits a=((2^bits a:Nat):Int):=by simp
    omega
   have pp:=yg hp (bits a)
   have:p^bits a*1<=p^bits a*b:=Int.mul_le_mul_of_nonneg_left h1 (by omega)
   show a*((1:Nat):Int)<p^bits a*b
   omega
  have lt3:Rat.divInt a b<ppw p (min k (bits a:Int)):=by
   by_cases h:k<=(bits a:Int)
   ·rw [show min k (bits a:Int)=k by omega];exact hlt
   ·rw [show min k (bits a:Int)=(bits a:Int) by omega];exact lt2
  have z:Dv p (min k (bits a:Int)) (Rat.divInt a b - Rat.divInt a b):=by rw [Rat.sub_self];exact qJ p _ hp
  have i2:IsRest p (min k (bits a:Int)) (Rat.divInt a b) (Rat.divInt a b):=⟨⟨n,by rw [l.2];exact hn⟩,nn,lt3,z⟩
  exact zL hp (zx hp _ _) i2 z
theorem xbk {a b:D} (h:(!isW a || !isW b)=true):isF (.tup [a,b])=false:=by
 cases a<;>cases b<;>first | rfl | (simp [isW] at h)
theorem QA {a:D} (h:isW a=true):∃i,a= .int i:=by
 cases a<;>first | exact ⟨_,rfl⟩ | cases h
theorem xat {x:D} (h:isF x=true):∃a b:Int,x= .tup [.int a,.int b]/\1<=b/\(Int.gcd a b:Int)=1:=by
 unfold isF at h
 split at h
 ·rename_i a b
  have h:=Bool.and_eq_true_iff.mp h
  exact ⟨a,b,rfl,mC h.1,mC h.2⟩
 ·cases h
theorem xbh {p:Int} {a b:D} (h:(!isW a || !isF b)=true):isS p (.tup [a,b])=false:=by
 cases hs:isS p (.tup [a,b]) with
 | false=>rfl
 | true=>
  exfalso
  unfold isS at hs
  split at hs
  ·rename_i k x y e
   have e:=D.tup.inj e
   simp only [List.cons.injEq,and_true] at e
   obtain ⟨rfl,rfl⟩:=e
   rw [(Bool.and_eq_true_iff.mp hs).1] at h
   simp [isW] at h
  ·cases hs
theorem xbm (a:D):isF (.tup [a])=false:=by cases a<;>rfl
theorem xbl (a b e:D) (r:List D):isF (.tup (a::b::e::r))=false:=by cases a<;>cases b<;>rfl
theorem xbj (p:Int) (a:D):isS p (.tup [a])=false:=by cases a<;>rfl
theorem xbi (p:Int) (a b e:D) (r:List D):isS p (.tup (a::b::e::r))=false:=by
 cases hs:isS p (.tup (a::b::e::r)) with
 | false=>rfl
 | true=>
  unfold isS at hs
  split at hs
  ·rename_i e2
   have e2:=D.tup.inj e2
   simp at e2
  ·cases hs
theorem Jq {p:Int} (hp:Pr p) (k1 k2 n:Int) (q1 q2:Rat):n<=lowS p k1 q1 k2 q2+k1↔n<=k1/\n<=k2/\Dv p n (q2 - q1):=by
 rw [W8 hp]
 unfold lowS
 cases vq p (q2 - q1) with
 | none=>show n<=min 0 (k2 - k1)+k1↔n<=k1/\n<=k2/\True;rw [and_true];omega
 | some v=>simp only [];omega
def ZG (ds:List D) (d:D):Prop:=∃(p:Int) (t:Tb) (v:Int),ds=[.int p,tbD t]/\Pr p/\MOk t/\vq p t.det=some v/\ -900000<=v - 2*leastV p [t.c,t.d]/\v - 2*leastV p [t.c,t.d]<=900000/\
 (vq p t.c=some (leastV p [t.c,t.d])->Fb 4400 (t.a*t.c⁻¹))/\(¬vq p t.c=some (leastV p [t.c,t.d])->t.d≠0/\Fb 4400 (t.b*t.d⁻¹))/\
 d=spotD (v - 2*leastV p [t.c,t.d]) (if vq p t.c=some (leastV p [t.c,t.d]) then restQ p (v - 2*leastV p [t.c,t.d]) (t.a*t.c⁻¹) else restQ p (v - 2*leastV p [t.c,t.d]) (t.b*t.d⁻¹))
theorem JV {t:Tb} {p v:Int} (h:vq p t.det=some v):∃r∈[t.c,t.d],r≠0:=by
 by_cases ha:t.c=0
 ·by_cases hb:t.d=0
  ·exfalso
   have:t.det=0:=by unfold Tb.det;rw [ha,hb];grind
   rw [vq_none.mpr this] at h;cases h
  ·exact ⟨t.d,by simp,hb⟩
 ·exact ⟨t.c,by simp,ha⟩
theorem Spt.rest {p K k:Int} (hp:Pr p) {q a:Rat} (h:Spt p K k q) (hd:Dv p k (a - q)):restQ p k a=q:=by
 obtain ⟨m,e⟩:=h.sc
 have z:Dv p k (q - q):=by rw [Rat.sub_self];exact qJ p k hp
 have r2:IsRest p k q q:=⟨Yn hp e,h.nn,h.lt,z⟩
 exact zL hp (zx hp k a) r2 hd
theorem WO (k1 k2:Int) (q1 q2:Rat):eqD (spotD k1 q1) (spotD k2 q2)=decide (k1=k2/\q1=q2):=by
 have e:eqD (spotD k1 q1) (spotD k2 q2)=((k1==k2) && (eqD (frD q1) (frD q2) && true)):=rfl
 rw [e,u4,Bool.eq_iff_iff]
 simp
def downQ (p k:Int) (q:Rat) (c:Int):Rat:=q+(c:Rat)*ppw p k
def lvS (p k1:Int) (q1:Rat) (k2:Int) (q2:Rat):Int:=lowS p k1 q1 k2 q2+k1
noncomputable def fK (n:Int):Int:=if n / 25%8=1 then n / 25 / 8%401 - 200 else n%25 - 12
noncomputable def fDeep (n:Int):Int:=max 0 (-(fK n))+n / 25 / 3208%7
noncomputable def fNum (n:Int):Int:=if n / 25 / 3208 / 7<2^61 then (if n / 25 / 3208 / 7%5=1 then n / 25 / 3208 / 7 / 5%9 else (n / 25 / 3208 / 7+1)*1442695040888963407^12+n / 25 / 3208 / 7) else n / 25 / 3208 / 7
def fQ (p n:Int):Rat:=Rat.divInt (fNum n%p^(fK n+fDeep n).toNat) (p^(fDeep n).toNat)
def upsN (p:Int):Nat->Int×Rat->Int×Rat
 | 0,s=>s
 | n+1,s=>((upsN p n s).1 - 1,restQ p ((upsN p n s).1 - 1) (upsN p n s).2)
noncomputable def dnsN (p:Int):Nat->Int->Int×Rat->Int×Rat
 | 0,_,s=>s
 | n+1,c,s=>((dnsN p n c s).1+1,downQ p (dnsN p n c s).1 (dnsN p n c s).2 (c / p^n%p))
def nearS (p:Int) (s:Int×Rat) (n:Int):Int×Rat:=dnsN p (n / 6%6).toNat (n / 36) (upsN p (n%6).toNat s)
noncomputable def fmix (x k:Int):Int:=(x%2305843009213693951+7919*k*k+104729*k+17)*1442695040888963407%2305843009213693951*1181783497276652981%2305843009213693921
noncomputable def fcell (ns:List Int) (k:Int):Int:=if k<(ns.length:Int) then (if 0<k/\ns.getD 0 0%2=1 then ((ns.getD k.toNat 0).natAbs:Int) else fmix (ns.getD k.toNat 0) k) else fmix 0 k
theorem jx (ns:List Int) (k:Int):0<=fcell ns k:=by
 unfold fcell fmix
 repeat' split
 all_goals omega
def Ke (ds:List D) (d:D):Prop:=∃(ns:List Int) (k:Int),ds=[.lst (ns.map D.int),.int k]/\ns.length<=63/\0<=k/\k<1000/\d= .int (fcell ns k)
def xbF (ds:List D) (d:D):Prop:=∃p n:Int,ds=[.int p,.int n]/\Pr p/\0<=n/\n<=3000/\d= .int (p^n.toNat)
def xaY (ds:List D) (d:D):Prop:=∃t b:Int,ds=[.int t,.int b]/\0<b/\Bd 8900 b/\d=frD (Rat.divInt t b)
theorem jb {p:Int} (hp:Pr p) (k1 k2 n:Int) (q1 q2:Rat):n<=lvS p k1 q1 k2 q2↔n<=k1/\n<=k2/\Dv p n (q2 - q1):=Jq hp k1 k2 n q1 q2
def wy (p:Int) (a b:Int×Rat):Int:=wayS p a.1 a.2 b.1 b.2
noncomputable abbrev stD (s:Int×Rat):D:=spotD s.1 s.2
def fourX (p n j:Int) (l:List (Int×Rat)):Int×Rat:=
 if n%4=0 then (fK (n / 4),fQ p (n / 4)) else if n%32=1 then l.getD (n / 32%j).toNat (0,0) else nearS p (l.getD (n / 4%j).toNat (0,0)) (n / 12)
def fourL (p:Int) (ns:List Int) (k:Int):Nat->List (Int×Rat)
 | 0=>[(fK (fcell ns k),fQ p (fcell ns k))]
 | m+1=>fourL p ns k m++ [fourX p (fcell ns (k+((m+1:Nat):Int))) ((m+1:Nat):Int) (fourL p ns k m)]
def Kf (ds:List D) (d:D):Prop:=∃(p j:Int) (q:Rat) (k:Int),ds=[.int p,spotD j q,.int k]/\Pr p/\Fb 4400 q/\ -900000<=k/\k<=900000/\d=spotD k (restQ p k q)
theorem JS (s t:Int×Rat):eqD (stD s) (stD t)=decide (s=t):=by
 rw [show eqD (stD s) (stD t)=_ from WO s.1 t.1 s.2 t.2]
 exact decide_eq_decide.mpr Prod.ext_iff.symm
def eK (n:Int):Int:=if decide (n / 25%8=1)=true then n / 200%401 - 200 else n%25 - 12
structure Wk (p k1:Int) (q1:Rat) (k2:Int) (q2:Rat):Prop where
 tb:MOk (tabS p k1 q1)/\(tabS p k1 q1).det≠0/\Fb 4400 (tabS p k1 q1).det
 po:POk (tabS p k1 q1).inv (tabS p k2 q2)
 mo:MOk ⟨ppw p (k2 - k1),(q2 - q1)*ppw p (-k1),0,1⟩
 a0: -1000<=k1
 a1:k1<=1000
 b0: -1000<=k2
 b1:k2<=1000
 f1:Fb 4400 q1
 f2:Fb 4400 q2
def alongS (p:Int) (a b:Int×Rat) (j:Int):Int×Rat:=if j<=a.1 - lvS p a.1 a.2 b.1 b.2 then (a.1 - j,restQ p (a.1 - j) a.2) else (a.1 - 2*(a.1 - lvS p a.1 a.2 b.1 b.2)+j,restQ p (a.1 - 2*(a.1 - lvS p a.1 a.2 b.1 b.2)+j) b.2)
def kh (ds:List D) (d:D):Prop:=∃(p k1:Int) (q1:Rat) (k2:Int) (q2:Rat),ds=[.int p,spotD k1 q1,spotD k2 q2]/\Pr p/\Wk p k1 q1 k2 q2/\d= .tup [.int (lowS p k1 q1 k2 q2),.int (k2 - k1 - lowS p k1 q1 k2 q2)]
def J3 (ds:List D) (d:D):Prop:=∃(p k1:Int) (q1:Rat) (k2:Int) (q2:Rat),ds=[.int p,spotD k1 q1,spotD k2 q2]/\Pr p/\Wk p k1 q1 k2 q2/\d= .int (wayS p k1 q1 k2 q2)
def j4 (ds:List D) (d:D):Prop:=∃(p k1:Int) (q1:Rat) (k2:Int) (q2:Rat),ds=[.int p,spotD k1 q1,spotD k2 q2]/\Pr p/\Wk p k1 q1 k2 q2/\ -3000<=lvS p k1 q1 k2 q2/\d=spotD (lvS p k1 q1 k2 q2) (restQ p (lvS p k1 q1 k2 q2) q1)
def W3 (ds:List D) (d:D):Prop:=∃(p:Int) (a b:Int×Rat) (j:Int),ds=[.int p,stD a,stD b,.int j]/\Pr p/\Wk p a.1 a.2 b.1 b.2/\ -3000<=lvS p a.1 a.2 b.1 b.2/\ -3000<=j/\j<=3000/\d=stD (alongS p a b j)
def XY (ds:List D) (d:D):Prop:=∃(p:Int) (t:Tb) (v1 v2:Int),ds=[.int p,tbD t]/\Pr p/\Tbb 4400 t/\MOk t/\vq p (t.a+t.d)=some v1/\vq p t.det=some v2/\d= .int (max 0 (v2 - 2*v1))
noncomputable def isSp (p k:Int) (r:Rat):Bool:=decide (0<=r.num) && (decide (r.num*((ppw p k).den:Int)<(ppw p k).num*(r.den:Int)) && decide (p^(vp p r.den)=(r.den:Int)))
theorem XI {p:Int} (hp:Pr p) (k:Int) (r:Rat):restQ p k r=r↔isSp p k r=true:=by
 unfold isSp
 simp only [Bool.and_eq_true,decide_eq_true_eq]
 constructor
 ·intro h
  have ir:=zx hp k r
  rw [h] at ir
  obtain ⟨n,hn⟩:=ir.den
  refine ⟨Rat.num_nonneg.mpr ir.nn,by simpa using (Rat.lt_iff _ _).mp ir.lt,?_⟩
  rw [hn,wW hp.two_le.1]
 ·rintro ⟨h1,h2,h3⟩
  have z:Dv p k (r - r):=by rw [Rat.sub_self];exact qJ p k hp
  exact zL hp (zx hp k r) ⟨⟨_,h3.symm⟩,Rat.num_nonneg.mp h1,(Rat.lt_iff _ _).mpr (by simpa using h2),z⟩ z
theorem B60.fb {a:Rat} (h:B60 a):Fb 4400 a:=by
 have e:(10:Nat)^60<=2^4400:=by decide+kernel
 exact ⟨mE h.1 e,mE (show ((a.den:Int)).natAbs<10^60 from h.2) e⟩
abbrev sptD (k:Int) (a:Rat):D:= .tup [.int k,frD a]
def stx (k:Int) (a:Rat):List Nat:=wr k++58::ftx a
def J6 (ds:List D) (d:D):Prop:=∃(k:Int) (a:Rat),ds=[sptD k a]/\k.natAbs<10^3/\B500 a/\d= .str (tx (stx k a))
def frR (q:Int×Int):Rat:=Rat.divInt q.1 q.2
theorem xav {l:List Nat} {q:Int×Int} (h:frac l=some q):(D.tup [.int q.1,.int q.2])=frD (frR q)/\B60 (frR q):=by
 have key:∀t b:Int,0<b->Int.gcd t b=1->t.natAbs<10^60->b.natAbs<10^60->(D.tup [.int t,.int b])=frD (Rat.divInt t b)/\B60 (Rat.divInt t b):=fun t b hb hg h1 h2=>by
  have hn:=Yx t (show b≠0 by omega)
  refine ⟨?_,Nat.lt_of_le_of_lt hn.1 h1,Nat.lt_of_le_of_lt hn.2 h2⟩
  have l:=vx t (show b≠0 by omega)
  rw [mF (by omega),hg] at l
  obtain ⟨l1,l2⟩:=l
  show D.tup [.int t,.int b]=D.tup [.int (Rat.divInt t b).num,.int ((Rat.divInt t b).den:Int)]
  rw [<-l1,<-l2]
  simp
 unfold frac at h
 split at h
 ·cases h
 ·rename_i t ht
  have b1:=Uw ht
  split at h
  ·cases h;exact key t 1 (by decide) (by simp) b1 (by decide+kernel)
  ·split at h
   ·cases h
   ·rename_i b hb
    have b2:=YH hb
    split at h
    ·cases h
    ·rename_i z
     cases h
     exact key t b (by omega) (Decidable.byContradiction fun y=>z (.inr y)) b1 (by simpa using b2)
noncomputable def rd8 (p:Int) (l:List Nat):Except Bool (Int×Rat):=match sgn (partL 58 l).1 3 with
 | none=> .error false
 | some k=>match frac (partL 58 l).2.2 with
  | none=> .error false
  | some q=>if 300<k.natAbs∨isSp p k (frR q)=false then .error true else .ok (k,frR q)
def VM (ds:List D) (r:Rs):Prop:=∃(p:Int) (x:Str),ds=[.int p,.str x]/\Pr p/\Tl x.cps.toList/\r=(match rd8 p x.cps.toList with
 | .error false=> .ex "NoText"
 | .error true=> .ex "NoSpot"
 | .ok z=> .ok (sptD z.1 z.2))
theorem wN {p k:Int} (hp:Pr p) {q:Rat} (nn:0<=q) (lt:q<ppw p k) (den:PDen p q):isSp p k q=true:=by
 have z:Dv p k (q - q):=by rw [Rat.sub_self];exact qJ p k hp
 exact (XI hp k q).mp (zL hp (zx hp k q) ⟨den,nn,lt,z⟩ z)
theorem jR (t:Int) {b:Int} (hb:b≠0):Rat.divInt t b*(b:Rat)=(t:Rat):=by
 rw [Rat.divInt_eq_div]
 refine Rat.div_mul_cancel ?_
 intro z
 exact hb (by simpa using z)
theorem KQ {k:Int} (h:k.natAbs<10^(3+1)):(toString k:Str).length+(":" :Str).length<=1000000:=by
 have:=yM h
 rw [y9,yN,show (":" :Str).length=1 from rfl]
 omega
theorem kN {k:Int} (h:k.natAbs<10^(3+1)) {y:Str} (hy:y.length<=5000):((toString k:Str)++(":" :Str)).length+y.length<=1000000:=by
 have:=yM h
 rw [xJ,xq,y9,xr,show (":" :Str).cps.toList=[58] from rfl,List.length_append,List.length_cons,List.length_nil]
 omega
theorem xa5 {k:Int} {l:List Nat}:(toString k:Str)++(":" :Str)++tx l=tx (wr k++58::l):=by
 rw [<-yX ((toString k:Str)++(":" :Str)++tx l),xq,xq,y9,xr,xr,show (":" :Str).cps.toList=[58] from rfl]
 simp
theorem xaO {a b:List Nat} (ha:Tl a) (hb:Tl b) (hl:a.length+b.length+1<=3000):Tl (a++58::b):=by
 refine ⟨by rw [List.length_append,List.length_cons];omega,fun q hq=>?_⟩
 rcases List.mem_append.mp hq with h | h
 ·exact ha.2 q h
 ·rcases List.mem_cons.mp h with rfl | h
  ·decide
  ·exact hb.2 q h
theorem xaZ {k:Int} (h:k.natAbs<10^(3+1)):Tl (wr k):=⟨by have:=yM h;omega,ZQ k⟩
theorem ZX {k:Int} {a:Rat} (h:k.natAbs<10^(3+1)) (hB:B500 a):Tl (stx k a):=xaO (xaZ h) (Vu hB) (by have:=yM h;have:=vA hB;omega)
theorem jk {p:Int} (hp:Pr p) (k:Int) (a:Rat):isS p (.tup [.int k,frD a])=isSp p k a:=by
 have rs:=XI hp k a
 have l:Rat.divInt a.num (a.den:Int)=a:=Rat.num_divInt_den a
 have i:=Ju (k:=k) (a:=a.num) (b:=(a.den:Int)) hp
 have d0:a.den≠0:=a.den_nz
 have e:isS p (.tup [.int k,frD a])=true↔isSp p k a=true:=by
  refine Iff.trans i ?_
  rw [<-rs]
  constructor
  ·rintro ⟨_,h0,_,hd,hl⟩
   have z:Dv p k (a - a):=by rw [Rat.sub_self];exact qJ p k hp
   rw [l] at hl
   exact zL hp (zx hp k a) ⟨hd,Rat.num_nonneg.mp h0,hl,z⟩ z
  ·intro h
   have ir:=zx hp k a
   rw [h] at ir
   refine ⟨by omega,Rat.num_nonneg.mpr ir.nn,?_,ir.den,by rw [l];exact ir.lt⟩
   have r:=a.reduced
   unfold Nat.Coprime at r
   rw [Int.gcd_eq_natAbs_gcd_natAbs,Int.natAbs_natCast,r]
   rfl
 exact Bool.eq_iff_iff.mpr e
def farL:List Nat:=[102,97,114]
theorem JD:("far" :Str).cps.toList=farL:=by rfl
theorem Vw (x:Str):(x==("far" :Str))=decide (x.cps.toList=farL):=by rw [zP,JD]
def ka (ds:List D) (r:Rs):Prop:=∃(x:Str),ds=[.str x]/\Tl x.cps.toList/\r=(if x.cps.toList=farL then .ok (.str "far") else rsO (frac x.cps.toList) (fun p=> .tup [.int p.1,.int p.2]) "NoText")
def Okd (s:D):Prop:=∃(k:Int) (a:Rat),s=sptD k a/\k.natAbs<10^3/\B500 a
noncomputable def txD:D->Str
 | .tup [.int k,.tup [.int n,.int m]]=>tx (stx k (Rat.divInt n m))
 | _=>Str.empty
theorem X9 (k:Int) (a:Rat):txD (sptD k a)=tx (stx k a):=by
 show tx (stx k (Rat.divInt a.num (a.den:Int)))=_
 rw [Rat.num_divInt_den]
def ShL (past:List D):Prop:=SeqAt.shaped (toPy (.lst past))=true
def kg (_ s:D) (past ds:List D) (r:RsM):Prop:=ds=[]/\r= .ok s s past
def WX (_ s:D) (past ds:List D) (r:RsM):Prop:=ds=[]/\r= .ok (.int past.length) s past
def Kc (_ s:D) (past ds:List D) (r:RsM):Prop:=∃d,ds=[d]/\Okd d/\past.length<1000000/\r= .ok (.str (txD d)) d (past++ [s])
def Xd (_ s:D) (past ds:List D) (r:RsM):Prop:=ds=[]/\ShL past/\((past=[]/\r= .ex "NothingDone")∨∃d past',past=past'++ [d]/\Okd d/\r= .ok (.str (txD d)) d past')
theorem Vz (past:List D):eqD (.lst past) (.lst [])=decide (past=[]):=by
 cases past with
 | nil=>rfl
 | cons x r=>rfl
theorem yW {Y:Cy} {t:Expr} {c:List Slot} {v w:D} (h:EvD Y t c v) (e:v=w):EvD Y t c w:=e▸h
theorem Uk {x:Str} (h:Tl x.cps.toList):PyData.canLay0 (toPy (.str x))=true:=by
 show x.cps.all (fun q=>decide (q<0x110000))=true
 rw [<-Array.all_toList]
 exact List.all_eq_true.mpr fun q hq=>decide_eq_true (by have:=h.2 q hq;omega)
theorem vQ:∀l:List Str,(∀w∈l,Tl w.cps.toList)->PyData.canLayAll0 (toPys (l.map D.str))=true/\PyData.depthAll (toPys (l.map D.str))<=3
 | [],_=>⟨rfl,Nat.zero_le _⟩
 | t::r,h=>by
  have ih:=vQ r fun w hw=>h w (mI _ hw)
  have e2:PyData.depth (toPy (.str t))=0:=rfl
  refine ⟨?_,?_⟩
  ·show (PyData.canLay0 (toPy (.str t)) && PyData.canLayAll0 (toPys (r.map D.str)))=true
   rw [Uk (h t (List.mem_cons_self ..)),ih.1]
   rfl
  ·show max (PyData.depth (toPy (.str t))) (PyData.depthAll (toPys (r.map D.str)))<=3
   rw [e2]
   omega
theorem V0 {l:List Str} (h:∀w∈l,Tl w.cps.toList):SeqAt.shaped (toPy (.lst (l.map D.str)))=true:=by
 have k:=vQ l h
 show (PyData.canLayAll0 (toPys (l.map D.str)) && decide (PyData.depthAll (toPys (l.map D.str))+1<=64))=true
 rw [k.1,decide_eq_true (by omega)]
 rfl
theorem WN (a b:Str):eqD (.str a) (.str b)=(a==b):=rfl
def numTo (m:Int) (l:List Nat):Bool:=match figs l 3 with
 | some n=>decide ((n:Int)<=m)
 | none=>false
def W1 (ds:List D) (d:D):Prop:=∃(m:Int) (x:Str),ds=[.int m,.str x]/\Tl x.cps.toList/\d= .bl (numTo m x.cps.toList)
def ZN (ds:List D) (d:D):Prop:=∃(p s:D) (r:List D),ds=[p,s,.lst (d::r)]
noncomputable def formsL:List (Str×VD):=[("go",.s "SPOT"),("move",.s "A B C D"),("scale",.s "F"),("shift",.s "F"),("flip",.s ""),("undo",.s ""),("ties",.s ""),("road",.s "SPOT"),("towards",.s "END STEPS"),("way",.s "SPOT"),("meet",.s "SPOT SPOT"),("near",.s "END END"),("within",.s "REACH"),("kind",.s "A B C D"),("numbers",.s "A B C D"),("figures",.s "F")]
noncomputable def mostL:List (Str×VD):=[("STEPS",.i 300),("REACH",.i 7)]
theorem uM {w:Str} {v:VD}:∀{l:List (Str×VD)},lkD l w=some v->(w,v)∈l
 | [],h=>by cases h
 | (y,d)::r,h=>by
  unfold lkD at h
  by_cases e:y=w
  ·rw [mH e] at h
   cases h
   rw [e]
   exact List.mem_cons_self ..
  ·rw [mF e] at h
   exact mI _ (uM h)
def okV93:VD->Bool
 | .s y=>decide (y.length<=20) && (decide ((Builtin.Str.spaceWords y (y.length+1)).length<=10) && decide ((wordsS y).length<=4))
 | _=>false
theorem WB {w:Str} {v:VD} (h:lkD formsL w=some v):∃y,v= .s y/\y.length<=20/\(Builtin.Str.spaceWords y (y.length+1)).length<=10/\(wordsS y).length<=4:=by
 have a:formsL.all (fun q=>okV93 q.2)=true:=by decide+kernel
 have b:=List.all_eq_true.mp a _ (uM h)
 cases v with
 | s y=>
  have b:(decide (y.length<=20) && (decide ((Builtin.Str.spaceWords y (y.length+1)).length<=10) && decide ((wordsS y).length<=4)))=true:=b
  simp only [Bool.and_eq_true,decide_eq_true_eq] at b
  exact ⟨y,rfl,b.1,b.2.1,b.2.2⟩
 | i n=>cases b
 | f g=>cases b
theorem ja {w:Str} {v:VD} (h:lkD mostL w=some v):∃n,v= .i n:=by
 have a:mostL.all (fun q=>match q.2 with | .i _=>true | _=>false)=true:=by decide+kernel
 have b:=List.all_eq_true.mp a _ (uM h)
 cases v with
 | s y=>cases b
 | i n=>exact ⟨n,rfl⟩
 | f g=>cases b
noncomputable def badN (f ws:List Str) (i:Nat):Bool:=match f[i]?,ws[i+1]? with
 | some g,some x=>(match lkD mostL g with
  | some (.i m)=> !numTo m x.cps.toList
  | _=>false)
 | _,_=>false
noncomputable def formS (ws:List Str):Option (List Str):=match ws with
 | []=>none
 | w::r=>if (w::r).contains ("" :Str) then none else match lkD formsL w with
  | some (.s y)=>if r.length=(wordsS y).length then (if (List.range (wordsS y).length).any (badN (wordsS y) (w::r)) then none else some (wordsS y)) else none
  | _=>none
theorem zv (w:Str) (r:List Str):formS (w::r)=if (w::r).contains ("" :Str) then none else match lkD formsL w with
  | some (.s y)=>if r.length=(wordsS y).length then (if (List.range (wordsS y).length).any (badN (wordsS y) (w::r)) then none else some (wordsS y)) else none
  | _=>none:=rfl
def ZO (ds:List D) (r:Rs):Prop:=∃ws:List Str,ds=[.lst (ws.map D.str)]/\ws≠[]/\ws.length<=4000/\(∀w∈ws,Tl w.cps.toList)/\r=(match formS ws with
 | some f=> .ok (.lst (f.map D.str))
 | none=> .ex "NoRow")
theorem XW (l:List Str):((l.map D.str).any fun y=>eqD y (.str ""))=l.contains ("" :Str):=by
 induction l with
 | nil=>rfl
 | cons a r ih=>
  rw [List.map_cons,List.any_cons,ih,List.contains_cons,WN]
  congr 1
  exact Bool.beq_comm ..
theorem zN {l:List D} {i:Int} (h0:0<=i) (h1:i<l.length):atI l i=l[i.toNat]? :=by
 unfold atI ixN
 rw [mH h0,mH h1]
 rfl
theorem yo {l:List Str} {m:Nat} {x:Str} (h:l[m]? =some x) {i:Int} (hi:i=(m:Int)):atI (l.map D.str) i=some (.str x):=by
 have hl:=(List.getElem?_eq_some_iff.mp h).1
 subst hi
 rw [zN (by omega) (by rw [mB];omega),List.getElem?_map]
 rw [show ((m:Int)).toNat=m by omega,h]
 rfl
noncomputable def splitS (x:Str):List Str:=(splitL 32 x.cps.toList).map tx
theorem qM {c:Nat}:∀{l q:List Nat},q∈splitL c l->q.length<=l.length/\∀e∈q,e∈l
 | [],q,h=>by
  unfold splitL at h
  cases List.mem_singleton.mp h
  exact ⟨mJ _,fun _ h=>h⟩
 | a::r,q,h=>by
  unfold splitL at h
  by_cases e:a=c
  ·rw [mH e] at h
   rcases List.mem_cons.mp h with rfl | h
   ·exact ⟨Nat.zero_le _,fun _ h=>by cases h⟩
   ·obtain ⟨h1,h2⟩:=qM h
    exact ⟨Nat.le_trans h1 (Nat.le_succ _),fun e he=>mI _ (h2 e he)⟩
  ·rw [mF e] at h
   have ih:∀q∈splitL c r,q.length<=r.length/\∀e∈q,e∈r:=fun q hq=>qM hq
   cases hs:splitL c r with
   | nil=>exact absurd hs (Xy c r)
   | cons p s=>
    rw [hs] at h ih
    rcases List.mem_cons.mp (show q∈(a::p)::s from h) with rfl | hq
    ·obtain ⟨h1,h2⟩:=ih p (List.mem_cons_self ..)
     refine ⟨by simpa using h1,fun e he=>?_⟩
     rcases List.mem_cons.mp he with rfl | he
     ·exact List.mem_cons_self ..
     ·exact mI _ (h2 e he)
    ·obtain ⟨h1,h2⟩:=ih q (mI _ hq)
     exact ⟨Nat.le_trans h1 (Nat.le_succ _),fun e he=>mI _ (h2 e he)⟩
theorem YZ {x:Str} (h:Tl x.cps.toList):splitS x≠[]/\(splitS x).length<=4000/\∀w∈splitS x,Tl w.cps.toList:=by
 refine ⟨fun z=>Xy 32 x.cps.toList (List.map_eq_nil_iff.mp z),?_,fun w hw=>?_⟩
 ·unfold splitS
  rw [mB]
  have:=zE 32 x.cps.toList
  have:=h.1
  omega
 ·obtain ⟨q,hq,rfl⟩:=List.mem_map.mp hw
  obtain ⟨h1,h2⟩:=qM hq
  rw [xr]
  exact ⟨Nat.le_trans h1 h.1,fun e he=>h.2 e (h2 e he)⟩
noncomputable def changesL:List (Str×VD):=[("go",.f "gone"),("move",.f "moved_by"),("scale",.f "scaled"),("shift",.f "shifted"),("flip",.f "flipped")]
theorem Zv:formS (["undo"]:List Str)=some []:=by decide+kernel
theorem Yd:splitS "undo" =(["undo"]:List Str):=by decide+kernel
def J7 (p s:D) (past ds:List D) (r:RsM):Prop:=∃(pr:Int) (x:Str),p= .int pr/\Pr pr/\ds=[.str x]/\Tl x.cps.toList/\past.length<1000000/\
 ((formS (splitS x)=none/\r= .ex "NoRow")∨(x= "undo" /\Xd p s past [] r)∨∃(t:Str) (k:Int) (a:Rat),splitS x=(["go",t]:List Str)/\t≠ "" /\rd8 pr t.cps.toList= .ok (k,a)/\r= .ok (.str (txD (sptD k a))) (sptD k a) (past++ [s]))
def wg (ds:List D) (d:D):Prop:=∃(p:Int) (a:Tb) (k:Int) (q:Rat),ds=[.int p,tbD a,spotD k q]/\Pr p/\ -1000000<=k/\k<=1000000/\POk a (tabS p k q)/\ZG [.int p,tbD (a.mul (tabS p k q))] d
theorem Q3 {Y:Cy} {t:Expr} {c:List Slot} {v w:Bool} (h:TeD Y t c v) (e:v=w):TeD Y t c w:=e▸h
def WW (ds:List D) (r:Rs):Prop:=∃t:Tb,ds=[.lst [frD t.a,frD t.b,frD t.c,frD t.d]]/\Xe [frD t.a,frD t.b,frD t.c,frD t.d] r
def ye (ds:List D) (r:Rs):Prop:=∃(p:Int) (n x:Str),ds=[.int p,.str n,.str x]/\
 ((n= "SPOT" /\VM [.int p,.str x] r)∨(n= "END" /\ka [.str x] r)∨(n∈(["F","A","B","C","D"]:List Str)/\wU [.str x] r)∨(n∈(["STEPS","REACH"]:List Str)/\∃v:Nat,figs x.cps.toList 3=some v/\r= .ok (.int v)))
noncomputable def questL:List (Str×VD):=[("ties",.f "ties_text"),("road",.f "road_text"),("towards",.f "towards_text"),("way",.f "way_text"),("meet",.f "meet_text"),("near",.f "near_text"),("within",.f "within_text"),("kind",.f "kind_text"),("numbers",.f "numbers_text"),("figures",.f "figures_text")]
noncomputable def names93:List D:=(["prime","fraction","text","spot","table","many","line","row","nothing","far"]:List Str).map D.str
def ZI (y:Str) (d:D):Prop:=(y= "NoRow" /\d= .str "row")∨(y= "NothingDone" /\d= .str "nothing")
def xby (p s:D) (past ds:List D) (r:RsM):Prop:=∃(x:Str) (rs:RsM),ds=[.str x]/\J7 p s past [.str x] rs/\(match rs with
 | .ok d s' past'=>(∃y,d= .str y)/\r= .ok (.tup [.str "",d]) s' past'
 | .ex y=>∃z,ZI y (.str z)/\z≠ "" /\r= .ok (.tup [.str z,.non]) s past)
structure Gs (p:Int) (u:Int×Rat):Prop where
 kb:u.1.natAbs<=300
 sp:isSp p u.1 u.2=true
 b:B60 u.2
noncomputable abbrev sp93 (u:Int×Rat):D:=sptD u.1 u.2
noncomputable def fk93 (c:Int):Int:=(200+c / 25 / 16%101)*(1 - 2*(c / 25 / 8%2))
def dp93 (c:Int):Int:=max 0 (-(c%25 - 12))+c / 25 / 8%7
noncomputable def nm93 (c:Int):Int:=if c / 25 / 56<2^61 then (if c / 25 / 56%5=1 then c / 25 / 56 / 5%9 else (c / 25 / 56+1)*1442695040888963407^2+c / 25 / 56) else c / 25 / 56
noncomputable def spt93 (p c:Int):Int×Rat:=if c / 25%8=1 then (fk93 c,((c / 25 / 1616%9*(if 0<fk93 c then 1 else 0):Int):Rat)) else (c%25 - 12,Rat.divInt (nm93 c%p^(c%25 - 12+dp93 c).toNat) (p^(dp93 c).toNat))
def j5 (ds:List D) (d:D):Prop:=∃p c:Int,ds=[.int p,.int c]/\Pr p/\0<=c/\d=sp93 (spt93 p c)
theorem JC (c:Int):(200<=fk93 c/\fk93 c<=300)∨(-300<=fk93 c/\fk93 c<= -200):=by
 unfold fk93
 rcases (show c / 25 / 8%2=0∨c / 25 / 8%2=1 by omega) with h | h
 ·rw [h];omega
 ·rw [h];omega
theorem VB (c:Int):0<=dp93 c/\dp93 c<=18/\0<=c%25 - 12+dp93 c/\c%25 - 12+dp93 c<=18:=by
 unfold dp93
 omega
theorem YX {p:Int} (hp:Pr p) (c:Int):Gs p (spt93 p c):=by
 unfold spt93
 split
 ·have fk:=JC c
  generalize fk93 c=k at fk ⊢
  obtain ⟨n,hn,n0,n8,nk⟩:∃n:Int,c / 25 / 1616%9*(if 0<k then 1 else 0)=n/\0<=n/\n<=8/\(k<0->n=0):=by
   refine ⟨_,rfl,?_⟩
   split
   ·exact ⟨by omega,by omega,fun h=>by omega⟩
   ·exact ⟨by omega,by omega,fun h=>by omega⟩
  rw [hn]
  have r0:(0:Rat)<=(n:Rat):=by exact_mod_cast n0
  refine ⟨by show k.natAbs<=300;omega,wN hp r0 ?_ ⟨0,by rw [Int.pow_zero];rfl⟩,?_,?_⟩
  ·show (n:Rat)<ppw p k
   rcases fk with fk | fk
   ·have e:k=(k.toNat:Int):=by omega
    rw [e,yc]
    refine rat_lt_int.mpr ?_
    have h4:(16:Int)<=p^4:=by rcases hp with rfl | rfl | rfl | rfl<;>decide
    have hj:=yg hp (k.toNat - 4)
    have hm:(16:Int)*1<=p^4*p^(k.toNat - 4):=Int.mul_le_mul h4 (by omega) (by decide) (by omega)
    rw [<-Int.pow_add,show 4+(k.toNat - 4)=k.toNat by omega] at hm
    omega
   ·rw [nk (by omega)]
    exact zT hp k
  ·show ((n:Rat)).num.natAbs<10^60
   rw [Rat.num_intCast]
   have:(10:Nat)^1<=10^60:=Nat.pow_le_pow_right (by decide) (by decide)
   omega
  ·show ((n:Rat)).den<10^60
   rw [Rat.den_intCast]
   decide+kernel
 ·have b:=VB c
  generalize hk:c%25 - 12=k at b ⊢
  obtain ⟨e,he⟩:∃e:Nat,dp93 c=(e:Int):=⟨(dp93 c).toNat,by omega⟩
  rw [he,Int.toNat_natCast]
  rw [he] at b
  have pk:=yg hp (k+(e:Int)).toNat
  have pe:=yg hp e
  obtain ⟨t,ht,t0,t1⟩:∃t:Int,nm93 c%p^(k+(e:Int)).toNat=t/\0<=t/\t<p^(k+(e:Int)).toNat:=⟨_,rfl,Int.emod_nonneg _ (by omega),Int.emod_lt_of_pos _ pk⟩
  rw [ht]
  have hq:Rat.divInt t (p^e)*ppw p (e:Int)=(t:Rat):=by rw [yc];exact jR t (by omega)
  have hpe:=zT hp (e:Int)
  have p7:∀n:Nat,n<=18->(p^n).natAbs<=7^18:=fun n hn=>by
   rw [Int.natAbs_pow]
   have:p.natAbs<=7:=by rcases hp with rfl | rfl | rfl | rfl<;>decide
   exact Nat.le_trans (Nat.pow_le_pow_left this n) (Nat.pow_le_pow_right (by decide) hn)
  refine ⟨by show k.natAbs<=300;omega,wN hp ?_ ?_ (Yn hp hq),?_⟩
  ·refine Rat.not_lt.mp fun z=>?_
   have:=Qs z hpe
   rw [hq,Rat.zero_mul] at this
   have:t<0:=rat_lt_int.mp (by simpa using this)
   omega
  ·show Rat.divInt t (p^e)<ppw p k
   refine (Rat.mul_lt_mul_right hpe).mp ?_
   rw [hq,<-yw hp]
   have e2:k+(e:Int)=(((k+(e:Int)).toNat:Nat):Int):=by omega
   rw [e2,yc]
   exact rat_lt_int.mpr t1
  ·have nl:=Yx t (show p^e≠0 by omega)
   have q1:=p7 e (by omega)
   have q2:=p7 (k+(e:Int)).toNat (by omega)
   have e60:(7:Nat)^18<10^60:=by decide+kernel
   exact ⟨Nat.lt_of_le_of_lt nl.1 (by omega),Nat.lt_of_le_of_lt nl.2 (by omega)⟩
theorem V6 {p:Int} {u:Int×Rat} (h:Gs p u):rd8 p (stx u.1 u.2)= .ok (u.1,u.2):=by
 have kb:=h.kb
 unfold rd8 stx
 rw [Y7 (X6 (by decide) (.inr (by decide)))]
 dsimp only
 rw [Ye (m:=2) (by omega),qu h.b]
 dsimp only
 have e:frR (u.2.num,(u.2.den:Int))=u.2:=by
  unfold frR
  rw [Rat.divInt_ofNat];exact Rat.mkRat_self u.2
 rw [e,h.sp,if_neg (by simp;omega)]
def J9 (ds:List D) (d:D):Prop:=∃u:Int×Rat,ds=[sp93 u]/\u.1.natAbs<=300/\B60 u.2/\d= .str (tx (stx u.1 u.2))
theorem VR {Y:Cy} {c c':List Slot} {a b:Expr} {pos:Pos} {i j:Int} (ha:EvS Y a c (.int i) c') (hb:EvD Y b c' (.int j)):TeS Y (.Compare a [.NotEq] [b] pos) c (!decide (i=j)) c':=
 Q2 UY (nomark _) ha hb fun x y F H Q f rx ry q=>by
  rw [xw rx,xw ry]
  refine ⟨rfl,?_⟩
  rw [qK]
  exact q F H (Ext.refl f)
theorem ZV {Y:Cy} {c c':List Slot} {a:Expr} {v:Bool} (h:TeS Y a c v c') (e:v=false):TeS Y a c false c':=e▸h
noncomputable def jnL:List (List Nat)->List Nat
 | []=>[]
 | [w]=>w
 | w::v::r=>w++32::jnL (v::r)
theorem wt {c:Nat} {r:List Nat}:∀{w:List Nat},c∉w->splitL c (w++c::r)=w::splitL c r
 | [],_=>by
  rw [List.nil_append]
  conv=>lhs;unfold splitL
  rw [mH rfl]
 | a::w,h=>by
  have ha:¬a=c:=fun z=>h (by rw [z];exact List.mem_cons_self ..)
  have ih:=wt (c:=c) (r:=r) (w:=w) fun z=>h (mI _ z)
  rw [List.cons_append]
  conv=>lhs;unfold splitL
  rw [mF ha,ih]
theorem w5:∀{ws:List (List Nat)},ws≠[]->(∀w∈ws,32∉w)->splitL 32 (jnL ws)=ws
 | [],h,_=>absurd rfl h
 | [w],_,h=>qd 32 w (h w (by simp))
 | w::v::r,_,h=>by
  show splitL 32 (w++32::jnL (v::r))=_
  rw [wt (h w (by simp)),w5 (by simp) fun u hu=>h u (List.mem_cons_of_mem _ hu)]
theorem Y0 {ws:List (List Nat)} (h0:ws≠[]) (h:∀w∈ws,32∉w):splitS (tx (jnL ws))=ws.map tx:=by
 unfold splitS
 rw [xr,w5 h0 h]
theorem uN:∀{ws:List (List Nat)},(∀w∈ws,w.length<=200)->(jnL ws).length<=201*ws.length
 | [],_=>by simp [jnL]
 | [w],h=>by have:=h w (by simp);show w.length<=_;simp;omega
 | w::v::r,h=>by
  have ih:=uN (ws:=v::r) fun u hu=>h u (mI _ hu)
  have:=h w (by simp)
  show (w++32::jnL (v::r)).length<=_
  rw [List.length_append,List.length_cons]
  simp only [List.length_cons] at ih ⊢
  omega
theorem Zn:∀{ws:List (List Nat)} {q:Nat},q∈jnL ws->q=32∨∃w∈ws,q∈w
 | [],_,h=>by cases h
 | [w],q,h=> .inr ⟨w,by simp,h⟩
 | w::v::r,q,h=>by
  have h:q∈w++32::jnL (v::r):=h
  rcases List.mem_append.mp h with h | h
  ·exact .inr ⟨w,by simp,h⟩
  ·rcases List.mem_cons.mp h with h | h
   ·exact .inl h
   ·rcases Zn h with h | ⟨u,hu,hq⟩
    ·exact .inl h
    ·exact .inr ⟨u,mI _ hu,hq⟩
theorem Jt {ws:List (List Nat)} (hl:ws.length<=6) (h:∀w∈ws,w.length<=200/\∀q∈w,q<128):Tl (tx (jnL ws)).cps.toList:=by
 rw [xr]
 have:=uN fun w hw=>(h w hw).1
 refine ⟨by omega,fun q hq=>?_⟩
 rcases Zn hq with rfl | ⟨w,hw,hq⟩
 ·decide
 ·exact (h w hw).2 q hq
theorem v6 {w y:Str} {ts:List Str} (hl:lkD formsL w=some (.s y)) (hw:(("" :Str)==w)=false) (hts:∀t∈ts,t≠("" :Str)) (hlen:ts.length=(wordsS y).length) (hm:(wordsS y).all (fun f=>(lkD mostL f).isNone)=true):formS (w::ts)=some (wordsS y):=by
 have hc:(w::ts).contains ("" :Str)=false:=by
  rw [List.contains_cons,hw,Bool.false_or]
  cases q:ts.contains ("" :Str) with
  | false=>rfl
  | true=>
   have:=List.contains_iff_mem.mp q
   exact absurd rfl (hts _ this)
 rw [zv,hc,mF (by decide),hl]
 dsimp only
 rw [mH hlen]
 have hb:(List.range (wordsS y).length).any (badN (wordsS y) (w::ts))=false:=by
  rw [List.any_eq_false]
  intro j hj hbad
  have hj:=List.mem_range.mp hj
  unfold badN at hbad
  rw [mD hj] at hbad
  have n:=List.all_eq_true.mp hm _ (List.getElem_mem hj)
  have n:lkD mostL (wordsS y)[j]=none:=Option.isNone_iff_eq_none.mp n
  cases hq:(w::ts)[j+1]? with
  | none=>rw [hq] at hbad;cases hbad
  | some x=>
   rw [hq] at hbad
   dsimp only at hbad
   rw [n] at hbad
   cases hbad
 rw [hb,mF (by decide)]
theorem z3 {w:Str} {ts fs:List Str} (h:formS (w::ts)=some fs):fs.length=ts.length:=by
 rw [zv] at h
 split at h
 ·cases h
 ·cases hq:lkD formsL w with
  | none=>rw [hq] at h;cases h
  | some v=>
   rw [hq] at h
   cases v with
   | s y=>
    dsimp only at h
    by_cases e:ts.length=(wordsS y).length
    ·rw [mH e] at h
     split at h
     ·cases h
     ·cases h;exact e.symm
    ·rw [mF e] at h;cases h
   | i n=>cases h
   | f g=>cases h
theorem qE {a:Rat} (h:B60 a):(ftx a).length<=130:=by
 have h1:=yM (k:=59) h.1
 have h2:=uK 59 a.den h.2
 unfold ftx
 split
 ·omega
 ·rw [List.length_append,List.length_cons];omega
theorem vz (a:Rat):32∉ftx a:=by
 have w:∀i:Int,32∉wr i:=fun i=>X6 (by decide) (.inl (by decide))
 unfold ftx
 split
 ·exact w _
 ·simp only [List.mem_append,List.mem_cons,not_or]
  exact ⟨w _,by decide,XG (.inl (by decide))⟩
theorem Uj (k:Int) (a:Rat):32∉stx k a:=by
 unfold stx
 simp only [List.mem_append,List.mem_cons,not_or]
 exact ⟨X6 (by decide) (.inl (by decide)),by decide,vz a⟩
theorem VV {k:Int} {a:Rat} (hk:k.natAbs<=300) (h:B60 a):(stx k a).length<=140:=by
 have h1:=yM (i:=k) (k:=3) (by omega)
 have h2:=qE h
 unfold stx
 rw [List.length_append,List.length_cons]
 omega
theorem kj (i:Int):wr i≠[]:=by
 unfold wr
 split
 ·simp
 ·intro z
  have:=(uK (i.natAbs+1) i.natAbs (Nat.lt_trans (Nat.lt_pow_self (by decide:1<10)) (Nat.pow_lt_pow_right (by decide) (by omega)))).1
  rw [z] at this
  cases this
theorem QY {l:List Nat} (h:l≠[]):tx l≠("" :Str):=fun z=>by
 have e:=congrArg (fun y:Str=>y.cps.toList) z
 rw [show (tx l).cps.toList=l from xr _] at e
 exact h e
theorem uU (a:Rat):ftx a≠[]:=by
 unfold ftx
 split
 ·exact kj _
 ·simp
theorem VU (k:Int) (a:Rat):stx k a≠[]:=by unfold stx;simp
theorem XB {p:Int} (hp:Pr p) {k:Int} {a:Rat} (kb:k.natAbs<=300) (hs:isSp p k a=true) (hb:B60 a):rd8 p (stx k a)= .ok (k,a):=by
 unfold rd8 stx
 rw [Y7 (X6 (by decide) (.inr (by decide)))]
 dsimp only
 rw [Ye (m:=2) (by omega),qu hb]
 dsimp only
 have e:frR (a.num,(a.den:Int))=a:=by
  unfold frR
  rw [Rat.divInt_ofNat];exact Rat.mkRat_self a
 rw [e,hs,if_neg (by simp;omega)]
def rowL (w:Str) (ts:List (List Nat)):Str:=tx (jnL (w.cps.toList::ts))
theorem qe {w:Str} {ts:List (List Nat)} (hw:32∉w.cps.toList) (h:∀t∈ts,32∉t):splitS (rowL w ts)=w::ts.map tx:=by
 unfold rowL
 rw [Y0 (by simp) (fun u hu=>by
  rcases List.mem_cons.mp hu with rfl | hu
  ·exact hw
  ·exact h u hu),List.map_cons,yX]
theorem wA (xs:List (List Nat)):Txt.join " " (xs.map tx)=tx (jnL xs):=by
 show Builtin.Str.glued " " (xs.map tx)=_
 rw [StrLaws.glued_eq_join]
 have key:∀xs:List (List Nat),(Str.join " " (xs.map tx)).cps.toList=jnL xs:=by
  intro xs
  induction xs with
  | nil=>rfl
  | cons x r ih=>
   cases r with
   | nil=>exact xr x
   | cons y r=>
    show (tx x++(" " :Str)++Str.join " " ((y::r).map tx)).cps.toList=x++32::jnL (y::r)
    rw [xq,xq,ih,xr]
    simp
    rfl
 rw [<-key xs,yX]
theorem joinOk96 {xs:List Str} (hl:xs.length<=500) (h:∀x∈xs,x.length<=1500):JoinOk " " xs=true:=by
 unfold JoinOk Builtin.Str.tooLong
 rw [StrLaws.joinTotal]
 have hs:∀l:List Str,(∀x∈l,x.length<=1500)->(l.map (·.length)).sum<=1500*l.length:=by
  intro l hl
  induction l with
  | nil=>simp
  | cons a r ih=>
   have:=ih fun x hx=>hl x (mI _ hx)
   have:=hl a (by simp)
   simp only [List.map_cons,List.sum_cons,List.length_cons]
   omega
 have:=hs xs h
 rw [show (" " :Str).length=1 from rfl,sizeLine_eq]
 simp
 omega
noncomputable def tp91 (p n:Int):Int:=if n / 2460%2=1 then (n%41 - 20)*p^(n / 492%5).toNat else n%41 - 20
noncomputable def bt91 (p n:Int):Int:=if n / 2460%2=1 then 1+n / 41%12 else (1+n / 41%12)*p^(n / 492%5).toNat
def fr91 (p n:Int):Rat:=Rat.divInt (tp91 p n) (bt91 p n)
theorem Z9 {p:Int} (hp:Pr p) {d:Nat} (h:d<=4):1<=p^d/\p^d<=2401:=by
 rcases (show d=0∨d=1∨d=2∨d=3∨d=4 by omega) with rfl | rfl | rfl | rfl | rfl<;>rcases hp with rfl | rfl | rfl | rfl<;>decide
theorem Zj {a b A B:Int} (a0: -A<=a) (a1:a<=A) (b0:1<=b) (b1:b<=B) (A0:0<=A): -(A*B)<=a*b/\a*b<=A*B:=by
 have x1:a*b<=A*b:=Int.mul_le_mul_of_nonneg_right a1 (by omega)
 have x2:A*b<=A*B:=Int.mul_le_mul_of_nonneg_left b1 A0
 have x3: -A*b<=a*b:=Int.mul_le_mul_of_nonneg_right a0 (by omega)
 have x4: -A*b= -(A*b):=Int.neg_mul ..
 omega
theorem QZ {p:Int} (hp:Pr p) (n:Int): -48020<=tp91 p n/\tp91 p n<=48020:=by
 unfold tp91
 split
 ·have b:=Z9 hp (d:=(n / 492%5).toNat) (by omega)
  have:=Zj (a:=n%41 - 20) (A:=20) (B:=2401) (by omega) (by omega) b.1 b.2 (by decide)
  omega
 ·omega
theorem YS {p:Int} (hp:Pr p) (n:Int):1<=bt91 p n/\bt91 p n<=28812:=by
 unfold bt91
 split
 ·omega
 ·have b:=Z9 hp (d:=(n / 492%5).toNat) (by omega)
  have c1:1<=1+n / 41%12:=by omega
  have c2:1+n / 41%12<=12:=by omega
  generalize 1+n / 41%12=x at c1 c2
  have:=Zj (a:=x) (A:=12) (B:=2401) (by omega) (by omega) b.1 b.2 (by decide)
  have y:1*1<=x*p^(n / 492%5).toNat:=Int.mul_le_mul c1 b.1 (by decide) (by omega)
  omega
theorem Jy {p:Int} (hp:Pr p) (n:Int):Fb 20 (fr91 p n):=by
 have t:=QZ hp n
 have b:=YS hp n
 refine Fb.divInt (by omega) ?_ ?_
 ·show (tp91 p n).natAbs<2^20;have:(2:Nat)^20=1048576:=by decide
  omega
 ·show (bt91 p n).natAbs<2^20;have:(2:Nat)^20=1048576:=by decide
  omega
theorem qF {p:Int} (hp:Pr p) (n:Int):B60 (fr91 p n):=by
 have t:=QZ hp n
 have b:=YS hp n
 have l:=Yx (tp91 p n) (show bt91 p n≠0 by omega)
 have c:(10:Nat)^5<=10^60:=Nat.pow_le_pow_right (by decide) (by decide)
 have d:(10:Nat)^5=100000:=by decide
 exact ⟨by show (Rat.divInt _ _).num.natAbs<_;omega,by show (Rat.divInt _ _).den<_;omega⟩
theorem VT {t:Tb} (h:Tbb 20 t):MOk t:=⟨h.mono (by decide),(h.a.mul h.d).mono (by decide),(h.b.mul h.c).mono (by decide)⟩
abbrev Tri3:=Int×Int×Int
def cntF (p:Int):Nat->Int
 | 0=>1
 | i+1=>cntF p i+(p+1)*p^i
noncomputable def ovM (p:Int) (n:Nat):Bool:=(List.range n).any fun i=>decide (400<cntF p (i+1))
def kc (ds:List D) (d:D):Prop:=∃p r:Int,ds=[.int p,.int r]/\Pr p/\0<=r/\r<=7/\d= .bl (ovM p r.toNat)
def T94:Int:=2^192
noncomputable def t94:Tb:=⟨1 / (T94:Rat),1,1 - (T94:Rat),(T94:Rat)⟩
def QU (q:D):Prop:=q=frD 0
def wj (ds:List D) (r:Rs):Prop:=∃(t:Tb) (p s:D),ds=[p,s,.lst [frD t.a,frD t.b,frD t.c,frD t.d]]/\MOk t/\t.det=0/\r= .ex "NoTable"
def Xf (ds:List D) (r:Rs):Prop:=∃p s:D,ds=[p,s,.lst [frD 0]]/\r= .ex "NoFraction"
def Like94 (e:D):Prop:=SeqAt.shaped (toPy e)=true/\eqD e e=true
def QR (ds:List D) (r:Rs):Prop:=∃e:D,ds=[e,e]/\Like94 e/\r= .ex "NoLine"
def ZK (ds:List D) (r:Rs):Prop:=∃p s e:D,ds=[p,s,e,e]/\Like94 e/\r= .ex "NoLine"
def X4 (ds:List D) (r:Rs):Prop:=∃p s e:D,ds=[p,s,.lst [e,e]]/\Like94 e/\r= .ex "NoLine"
def Xi (ds:List D) (r:Rs):Prop:=∃(p:Int) (a:Rat),ds=[.int p,frD a]/\Pr p/\Fb 4400 a/\300<(a.den:Int) / p^(vp p a.den)/\r= .ex "TooMany"
def ZP (ds:List D) (r:Rs):Prop:=∃(p a s:D),ds=[p,s,.lst [a]]/\Xi [p,a] r
def X2 (ds:List D) (r:Rf):Prop:=∃(p:Int) (a b:Int×Rat),ds=[.int p,stD a,stD b]/\Pr p/\Wk p a.1 a.2 b.1 b.2/\wy p a b<=1000/\500<wy p a b/\r= .far (wy p a b)
def Xh (ds:List D) (r:Rs):Prop:=∃n,X2 ds (.far n)/\r= .ex "TooFar"
def XZ (ds:List D) (r:Rs):Prop:=∃p s a:D,ds=[p,s,.lst [a]]/\Xh [p,s,a] r
def ZM (ds:List D) (r:Rs):Prop:=ds=[.int 2,tbD t94]/\r= .ex "TooFar"
def X5 (ds:List D) (r:Rs):Prop:=∃(t:Tb) (p s:D),ds=[p,s,.lst [frD t.a,frD t.b,frD t.c,frD t.d]]/\MOk t/\((t.det=0/\r= .ex "NoTable")∨(t.det≠0/\ZM [p,tbD t] r))
def ZJ (ds:List D) (r:Rs):Prop:=wj ds r
def ZD (ds:List D) (r:Rs):Prop:=∃(p:Int) (s:D),ds=[.int p,s,.int 7]/\Pr p/\p≠2/\r= .ex "TooMany"
def XX (ds:List D) (r:Rs):Prop:=∃p s:D,ds=[p,s,.lst [.int 7]]/\ZD [p,s,.int 7] r
def VP (g:Str) (ds:List D) (r:Rs):Prop:=(g= "gone" /\∃d,ZN ds d/\r= .ok d)∨(g= "moved_by" /\wj ds r)∨(g= "scaled" /\Xf ds r)
def VN (g:Str) (ds:List D) (r:Rs):Prop:=(g= "near_text" /\X4 ds r)∨(g= "figures_text" /\ZP ds r)∨(g= "road_text" /\XZ ds r)∨(g= "kind_text" /\X5 ds r)∨(g= "numbers_text" /\ZJ ds r)∨(g= "within_text" /\XX ds r)
def yC (p s:D) (past ds:List D) (r:RsM):Prop:=∃(pr:Int) (x w:Str) (ts fs:List Str),p= .int pr/\ds=[.str x]/\Tl x.cps.toList/\past.length<1000000/\splitS x=w::ts/\formS (w::ts)=some fs/\
  ((∃(rs:Nat->Rs) (m:Nat) (y:Str),m<fs.length/\(∀(i:Nat) (f t:Str),i<=m->fs[i]? =some f->ts[i]? =some t->ye [p,.str f,.str t] (rs i))/\(∀i,i<m->∃d,rs i= .ok d)/\rs m= .ex y/\r= .ex y)∨
   (∃rd:List D,rd.length=fs.length/\(∀(i:Nat) (f t:Str) (d:D),fs[i]? =some f->ts[i]? =some t->rd[i]? =some d->ye [p,.str f,.str t] (.ok d))/\
    ((w= "undo" /\Xd p s past [] r)∨(w≠ "undo" /\∃g rs,lkD changesL w=some (.f g)/\VP g [p,s,.lst rd] rs/\((∃s',rs= .ok s'/\Okd s'/\r= .ok (.str (txD s')) s' (past++ [s]))∨∃y,rs= .ex y/\r= .ex y))∨
     (w≠ "undo" /\lkD changesL w=none/\∃g y,lkD questL w=some (.f g)/\VN g [p,s,.lst rd] (.ex y)/\r= .ex y))))
def zh:Rat:=((T94:Rat)+1) / (T94:Rat)
def ze:Rat:=1 / (T94:Rat)
noncomputable def q9:Rat:=((T94:Rat)*(T94:Rat)+(T94:Rat)+1) / (T94:Rat)
def fbb94 (r:Rat):Bool:=decide (r.num.natAbs<2^4400) && decide (r.den<2^4400)
theorem fb94 {r:Rat} (h:fbb94 r=true):Fb 4400 r:=by
 unfold fbb94 at h
 rw [Bool.and_eq_true,decide_eq_true_eq,decide_eq_true_eq] at h
 exact ⟨h.1,by show ((r.den:Int)).natAbs<2^4400;rw [Int.natAbs_natCast];exact h.2⟩
theorem z9 {p:Int} (hp:Pr p) {r:Rat} {n m:Nat} {u v:Int} (hu:¬u%p=0) (hv:¬v%p=0) (h1:r.num=p^n*u) (h2:(r.den:Int)=p^m*v):vq p r=some ((n:Int) - (m:Int)):=by
 have u0:u≠0:=fun z=>hu (by rw [z];exact Int.zero_emod _)
 have n0:¬r.num=0:=by
  rw [h1]
  exact Int.mul_ne_zero (by have:=yg hp n;omega) u0
 unfold vq
 rw [mF n0,h1,h2,Ua hp hu,Ua hp hv]
theorem yK:Pr 2:= .inl rfl
theorem rest94 {p k:Int} (hp:Pr p) {a q:Rat} {u w m:Int} (nn:0<=q) (lt:q<ppw p k) (sc:q*ppw p ((310:Nat):Int)=(m:Rat)) (hw:¬w%p=0) (h:(a - q)*(w:Rat)=(u:Rat)*ppw p k):restQ p k a=q:=
 Spt.rest (K:=k.natAbs) hp ⟨by omega,by omega,nn,lt,⟨m,sc⟩⟩ ⟨u,w,hw,h⟩
theorem xbe:wg [.int 2,tbD t94,spotD 0 0] (spotD 192 zh):=by
 have vd:vq 2 (t94.mul (tabS 2 0 0)).det=some 192:=z9 yK (n:=192) (m:=0) (u:=1) (v:=1) (by decide) (by decide) (by decide+kernel) (by decide+kernel)
 have vc:vq 2 (t94.mul (tabS 2 0 0)).c=some 0:=z9 yK (n:=0) (m:=0) (u:=1 - T94) (v:=1) (by decide+kernel) (by decide) (by decide+kernel) (by decide+kernel)
 have vD:vq 2 (t94.mul (tabS 2 0 0)).d=some 192:=z9 yK (n:=192) (m:=0) (u:=1) (v:=1) (by decide) (by decide) (by decide+kernel) (by decide+kernel)
 have lv:leastV 2 [(t94.mul (tabS 2 0 0)).c,(t94.mul (tabS 2 0 0)).d]=0:=by unfold leastV;simp only [List.filterMap_cons,vc,vD,List.filterMap_nil];rfl
 refine ⟨2,t94,0,0,rfl,yK,by decide,by decide,?_,2,t94.mul (tabS 2 0 0),192,rfl,yK,?_,vd,by rw [lv];decide,by rw [lv];decide,fun _=>fb94 (by decide+kernel),fun h=>absurd (by rw [vc,lv]) h,?_⟩
 ·constructor<;>first | exact fb94 (by decide+kernel) | (constructor<;>exact fb94 (by decide+kernel))
 ·constructor<;>first | exact fb94 (by decide+kernel) | (constructor<;>exact fb94 (by decide+kernel))
 ·rw [lv,vc,mH rfl]
  show _=spotD 192 (restQ 2 192 _)
  rw [rest94 (q:=zh) (u:=1) (w:=1 - T94) (m:=(T94+1)*2^118) yK (by decide+kernel) (by decide+kernel) (by decide+kernel) (by decide+kernel) (by decide+kernel)]
theorem xbd:wg [.int 2,tbD t94,spotD (-96) ze] (spotD 480 q9):=by
 have vd:vq 2 (t94.mul (tabS 2 (-96) ze)).det=some 96:=z9 yK (n:=96) (m:=0) (u:=1) (v:=1) (by decide) (by decide) (by decide+kernel) (by decide+kernel)
 have vc:vq 2 (t94.mul (tabS 2 (-96) ze)).c=some (-96):=z9 yK (n:=0) (m:=96) (u:=1 - T94) (v:=1) (by decide+kernel) (by decide) (by decide+kernel) (by decide+kernel)
 have vD:vq 2 (t94.mul (tabS 2 (-96) ze)).d=some (-192):=z9 yK (n:=0) (m:=192) (u:=1 - T94+T94*T94) (v:=1) (by decide+kernel) (by decide) (by decide+kernel) (by decide+kernel)
 have lv:leastV 2 [(t94.mul (tabS 2 (-96) ze)).c,(t94.mul (tabS 2 (-96) ze)).d]= -192:=by unfold leastV;simp only [List.filterMap_cons,vc,vD,List.filterMap_nil];rfl
 refine ⟨2,t94,-96,ze,rfl,yK,by decide,by decide,?_,2,t94.mul (tabS 2 (-96) ze),96,rfl,yK,?_,vd,by rw [lv];decide,by rw [lv];decide,fun _=>fb94 (by decide+kernel),fun _=>⟨by decide+kernel,fb94 (by decide+kernel)⟩,?_⟩
 ·constructor<;>first | exact fb94 (by decide+kernel) | (constructor<;>exact fb94 (by decide+kernel))
 ·constructor<;>first | exact fb94 (by decide+kernel) | (constructor<;>exact fb94 (by decide+kernel))
 ·rw [lv,vc,mF (by decide)]
  show _=spotD 480 (restQ 2 480 _)
  rw [rest94 (q:=q9) (u:= -(2^96)) (w:=1 - T94+T94*T94) (m:=(T94*T94+T94+1)*2^118) yK (by decide+kernel) (by decide+kernel) (by decide+kernel) (by decide+kernel) (by decide+kernel)]
theorem Qy {p k1 k2 v:Int} {q1 q2:Rat} (h:vq p (q2 - q1)=some v):lowS p k1 q1 k2 q2=min (min 0 (k2 - k1)) (v - k1):=by
 unfold lowS
 rw [h]
theorem W5:Wk 2 0 0 192 zh:=by
 constructor<;>first | decide | exact fb94 (by decide+kernel) | skip
 ·refine ⟨?_,by decide+kernel,fb94 (by decide+kernel)⟩
  constructor<;>first | exact fb94 (by decide+kernel) | (constructor<;>exact fb94 (by decide+kernel))
 ·constructor<;>first | exact fb94 (by decide+kernel) | (constructor<;>exact fb94 (by decide+kernel))
 ·constructor<;>first | exact fb94 (by decide+kernel) | (constructor<;>exact fb94 (by decide+kernel))
theorem KA:Wk 2 (-96) ze 480 q9:=by
 constructor<;>first | decide | exact fb94 (by decide+kernel) | skip
 ·refine ⟨?_,by decide+kernel,fb94 (by decide+kernel)⟩
  constructor<;>first | exact fb94 (by decide+kernel) | (constructor<;>exact fb94 (by decide+kernel))
 ·constructor<;>first | exact fb94 (by decide+kernel) | (constructor<;>exact fb94 (by decide+kernel))
 ·constructor<;>first | exact fb94 (by decide+kernel) | (constructor<;>exact fb94 (by decide+kernel))
theorem Kz {p:Int} (hp:Pr p):Wk p 300 0 300 1:=by
 rcases hp with rfl | rfl | rfl | rfl
 all_goals
  constructor<;>first | decide | exact fb94 (by decide+kernel) | skip
  ·refine ⟨?_,by decide+kernel,fb94 (by decide+kernel)⟩
   constructor<;>first | exact fb94 (by decide+kernel) | (constructor<;>exact fb94 (by decide+kernel))
  ·constructor<;>first | exact fb94 (by decide+kernel) | (constructor<;>exact fb94 (by decide+kernel))
  ·constructor<;>first | exact fb94 (by decide+kernel) | (constructor<;>exact fb94 (by decide+kernel))
theorem jf:lowS 2 0 0 192 zh= -192:=by rw [Qy (v:= -192) (z9 yK (n:=0) (m:=192) (u:=T94+1) (v:=1) (by decide+kernel) (by decide) (by decide+kernel) (by decide+kernel))];decide
theorem xbg:lowS 2 (-96) ze 480 q9=0:=by rw [Qy (v:=0) (z9 yK (n:=0) (m:=0) (u:=T94+1) (v:=1) (by decide+kernel) (by decide) (by decide+kernel) (by decide+kernel))];decide
theorem xbf {p:Int} (hp:Pr p):lowS p 300 0 300 1= -300:=by
 rw [Qy (v:=0) (z9 hp (n:=0) (m:=0) (u:=1) (v:=1) (by rcases hp with rfl | rfl | rfl | rfl<;>decide) (by rcases hp with rfl | rfl | rfl | rfl<;>decide) (by rw [Int.pow_zero];decide+kernel) (by rw [Int.pow_zero];decide+kernel))];decide
theorem xbw:alongS 2 (0,0) (192,zh) 288=(-96,ze):=by
 unfold alongS
 have e:lvS 2 0 0 192 zh= -192:=by unfold lvS;rw [jf];rfl
 show (if (288:Int)<=0 - lvS 2 0 0 192 zh then _ else (0 - 2*(0 - lvS 2 0 0 192 zh)+288,restQ 2 (0 - 2*(0 - lvS 2 0 0 192 zh)+288) zh))=_
 rw [e,mF (by decide)]
 show ((-96:Int),restQ 2 (-96) zh)=_
 rw [rest94 (q:=ze) (u:=2^96) (w:=1) (m:=2^118) yK (by decide+kernel) (by decide+kernel) (by decide+kernel) (by decide) (by decide+kernel)]
theorem kn:wayS 2 0 0 192 zh=576:=by unfold wayS;rw [jf];decide
theorem QW:wy 2 (-96,ze) (480,q9)=576:=by show wayS 2 (-96) ze 480 q9=576;unfold wayS;rw [xbg];decide
theorem kU {p:Int} (hp:Pr p):Xh [.int p,stD (300,0),stD (300,1)] (.ex "TooFar"):=by
 have w:wy p (300,0) (300,1)=600:=by show wayS p 300 0 300 1=600;unfold wayS;rw [xbf hp];decide
 exact ⟨_,⟨p,(300,0),(300,1),rfl,hp,Kz hp,by rw [w];decide,by rw [w];decide,rfl⟩,rfl⟩
theorem xa4:XY [.int 2,tbD t94] (.int 576):=⟨2,t94,-192,192,rfl,yK,by constructor<;>exact fb94 (by decide+kernel),by constructor<;>first | exact fb94 (by decide+kernel) | (constructor<;>exact fb94 (by decide+kernel)),z9 yK (n:=0) (m:=192) (u:=1+T94*T94) (v:=1) (by decide+kernel) (by decide) (by decide+kernel) (by decide+kernel),z9 yK (n:=192) (m:=0) (u:=1) (v:=1) (by decide) (by decide) (by decide+kernel) (by decide+kernel),rfl⟩
theorem yH (w:Str) (h:(decide (w.cps.toList.length<=200) && w.cps.toList.all (fun q=>decide (q<128/\q≠32)))=true):(w.cps.toList.length<=200/\∀q∈w.cps.toList,q<128)/\32∉w.cps.toList:=by
 simp only [Bool.and_eq_true,decide_eq_true_eq,List.all_eq_true] at h
 exact ⟨⟨h.1,fun q hq=>(h.2 q hq).1⟩,fun z=>(h.2 32 z).2 rfl⟩
theorem uh {w:Str} {ts:List (List Nat)} (hw:(w.cps.toList.length<=200/\∀q∈w.cps.toList,q<128)/\32∉w.cps.toList) (hl:ts.length<=5) (h:∀t∈ts,t.length<=200/\∀q∈t,q<128):Tl (rowL w ts).cps.toList:=
 Jt (by simp only [List.length_cons];omega) fun u hu=>by
  rcases List.mem_cons.mp hu with rfl | hu
  ·exact hw.1
  ·exact h u hu
theorem Zs {a:Rat} (h:B60 a):(ftx a).length<=200/\∀q∈ftx a,q<128:=⟨by have:=qE h;omega,(YF h).2⟩
def isVS (o:Option VD) (y:Str):Bool:=match o with
 | some (.s z)=>decide (z=y)
 | _=>false
def isVF (o:Option VD) (y:Str):Bool:=match o with
 | some (.f z)=>decide (z=y)
 | _=>false
theorem wM {o:Option VD} {y:Str} (h:isVS o y=true):o=some (.s y):=by
 cases o with
 | none=>cases h
 | some v=>
  cases v with
  | s z=>rw [mC (show decide (z=y)=true from h)]
  | i n=>cases h
  | f g=>cases h
theorem zZ {o:Option VD} {y:Str} (h:isVF o y=true):o=some (.f y):=by
 cases o with
 | none=>cases h
 | some v=>
  cases v with
  | f z=>rw [mC (show decide (z=y)=true from h)]
  | i n=>cases h
  | s g=>cases h
def mr94 (c j:Int):Int:=(c+104729*j+1)*1442695040888963407%2305843009213693951
noncomputable def frM94:List Str:=["-0","01","1/1","2/4","1/0","1/-2","+1","1.5","--1","/2","1/","1/02","x","1:0","Far","-","1/2/3","0/5",tx (List.replicate (61:Int).toNat 57),("1/" :Str)++tx (List.replicate (61:Int).toNat 55)]
noncomputable def spM94:List Str:=["far","1",":","1:",":0","-0:0","00:0","1:-0","01:0","1:02","1:1/1","1:2/4","1:0:0","+1:0","1:1/0","1000:0","-1000:0","1.0","1;0","x:0","1:x","--1:0",("1:" :Str)++tx (List.replicate (61:Int).toNat 49)]
noncomputable def noM94 (p:Int):List Str:=["0:1",("1:" :Str)++(toString p:Str),"2:-1","3:1/11","301:0","-301:0","999:0","-999:0",("-1:1/" :Str)++(toString p:Str),("2:" :Str)++(toString (p*p):Str)++("/13" :Str),("0:" :Str)++(toString (p+1):Str)++("/" :Str)++(toString p:Str)]
noncomputable def il94 (p:Int) (f:Str) (c:Int):Str×Str:=if f= "spot" then (if c%3=0 then (((noM94 p)[(c / 3%11).toNat]?).getD "","spot") else ((spM94[(c / 3%23).toNat]?).getD "","text")) else ((frM94[(c / 3%20).toNat]?).getD "","text")
noncomputable def okW94 (x:Str):Bool:= !x.cps.toList.isEmpty && (decide (x.cps.toList.length<=200) && x.cps.toList.all (fun q=>decide (q<128) && decide (q≠32)))
def noT94 (l:List Nat):Bool:=(sgn (partL 58 l).1 3).isNone || (frac (partL 58 l).2.2).isNone
theorem Zu:∀x∈frM94,okW94 x=true/\(frac x.cps.toList).isNone=true/\x.cps.toList≠farL:=by decide+kernel
theorem Ut:∀x∈spM94,okW94 x=true/\noT94 x.cps.toList=true:=by decide+kernel
theorem ZR {p n:Int} (h:¬n%p=0):vp p n=0:=by unfold vp;rw [dif_neg (fun z=>h z.2.2)]
noncomputable def noS94 (p:Int) (l:List Nat):Bool:=match sgn (partL 58 l).1 3 with
 | none=>false
 | some k=>match frac (partL 58 l).2.2 with
  | none=>false
  | some q=>decide (300<k.natAbs) || !(decide (0<=(frR q).num) && decide ((frR q).num*((ppw p k).den:Int)<(ppw p k).num*((frR q).den:Int))) || (!decide (((frR q).den:Int)%p=0) && decide ((frR q).den≠1))
theorem U6 {p:Int} (hp:Pr p):∀x∈noM94 p,okW94 x=true/\noS94 p x.cps.toList=true:=by
 rcases hp with rfl | rfl | rfl | rfl<;>decide+kernel
theorem U4 {p:Int} {l:List Nat} (h:noT94 l=true):rd8 p l= .error false:=by
 unfold noT94 at h
 unfold rd8
 cases q:sgn (partL 58 l).1 3 with
 | none=>rfl
 | some k=>
  rw [q] at h
  cases q2:frac (partL 58 l).2.2 with
  | none=>rfl
  | some z=>rw [q2] at h;cases h
theorem U5 {p:Int} {l:List Nat} (h:noS94 p l=true):rd8 p l= .error true:=by
 unfold noS94 at h
 unfold rd8
 cases q:sgn (partL 58 l).1 3 with
 | none=>rw [q] at h;cases h
 | some k=>
  rw [q] at h
  cases q2:frac (partL 58 l).2.2 with
  | none=>rw [q2] at h;cases h
  | some z=>
   rw [q2] at h
   dsimp only at h ⊢
   rw [mH]
   simp only [Bool.or_eq_true,decide_eq_true_eq] at h
   rcases h with (h | h) | h
   ·exact .inl h
   ·right
    unfold isSp
    rw [Bool.not_eq_true',Bool.and_eq_false_iff] at h
    rcases h with h | h
    ·rw [h];rfl
    ·rw [h];simp
   ·right
    simp only [Bool.and_eq_true,Bool.not_eq_true',decide_eq_false_iff_not,decide_eq_true_eq] at h
    unfold isSp
    rw [ZR h.1,Int.pow_zero]
    have:¬((1:Int)=((frR z).den:Int)):=fun w=>h.2 (by exact_mod_cast w.symm)
    rw [decide_eq_false this]
    simp
def Wd94 (p:Int) (n:Str) (u:Str×Str):Prop:=okW94 u.1=true/\((u.2= "" /\∃d,ye [.int p,.str n,.str u.1] (.ok d))∨(u.2= "text" /\ye [.int p,.str n,.str u.1] (.ex "NoText"))∨(u.2= "spot" /\ye [.int p,.str n,.str u.1] (.ex "NoSpot")))
def Fm94 (f n:Str):Prop:=(f= "spot" /\n= "SPOT")∨(f= "end" /\n= "END")∨(f= "fraction" /\n∈(["F","A","B","C","D"]:List Str))
theorem qr {x:Str} (h:okW94 x=true):x.cps.toList≠[]/\x.cps.toList.length<=200/\32∉x.cps.toList/\∀q∈x.cps.toList,q<128:=by
 unfold okW94 at h
 simp only [Bool.and_eq_true,Bool.not_eq_true',decide_eq_true_eq,List.all_eq_true] at h
 obtain ⟨a,b,c⟩:=h
 exact ⟨fun z=>(by rw [z] at a;cases a),b,fun z=>(c 32 z).2 rfl,fun q hq=>(c q hq).1⟩
theorem Zi {l:List Nat} (h0:l≠[]) (h1:l.length<=200) (h2:32∉l) (h3:∀q∈l,q<128):okW94 (tx l)=true:=by
 unfold okW94
 rw [xr]
 simp only [Bool.and_eq_true,Bool.not_eq_true',decide_eq_true_eq,List.all_eq_true]
 exact ⟨by cases l with | nil=>exact absurd rfl h0 | cons _ _=>rfl,h1,fun q hq=>⟨h3 q hq,fun z=>h2 (z▸hq)⟩⟩
theorem vv {x:Str} (h:okW94 x=true):Tl x.cps.toList:=by
 obtain ⟨_,b,_,d⟩:=qr h
 exact ⟨by omega,d⟩
theorem Zt {a:Rat} (h:B60 a):okW94 (tx (ftx a))=true:=Zi (uU a) (by have:=qE h;omega) (vz a) (YF h).2
theorem UH {p:Int} {n:Str} (hn:n∈(["F","A","B","C","D"]:List Str)) {a:Rat} (h:B60 a):ye [.int p,.str n,.str (tx (ftx a))] (.ok (frD a)):=
 ⟨p,n,tx (ftx a),rfl,.inr (.inr (.inl ⟨hn,tx (ftx a),rfl,by rw [xr];exact YF h,by rw [xr,qu h];rfl⟩))⟩
theorem WA {a:Rat} (h:B60 a):¬ftx a=farL:=fun z=>by
 have e:=qu h
 rw [z] at e
 revert e
 rw [show frac farL=none by decide+kernel]
 exact fun w=>nomatch w
theorem Z6 {p:Int} {a:Rat} (h:B60 a):ye [.int p,.str "END",.str (tx (ftx a))] (.ok (frD a)):=
 ⟨p,"END",tx (ftx a),rfl,.inr (.inl ⟨rfl,tx (ftx a),rfl,by rw [xr];exact YF h,by rw [xr,if_neg (WA h),qu h];rfl⟩)⟩
theorem Z5 {p:Int}:ye [.int p,.str "END",.str "far"] (.ok (.str "far")):=
 ⟨p,"END","far",rfl,.inr (.inl ⟨rfl,"far",rfl,⟨by decide+kernel,by decide+kernel⟩,by rw [if_pos (by decide+kernel)]⟩)⟩
theorem Xa {l:List Str} {N:Int} (hn:(l.length:Int)=N) (i:Int) (h0:0<N):l[(i%N).toNat]? =some ((l[(i%N).toNat]?).getD "")/\(l[(i%N).toNat]?).getD "" ∈l:=by
 have h:(i%N).toNat<l.length:=by
  have a:=Int.emod_nonneg i (show N≠0 by omega)
  have b:=Int.emod_lt_of_pos i h0
  omega
 rw [mD h]
 exact ⟨rfl,List.getElem_mem h⟩
theorem YC {p:Int} (hp:Pr p) {f n:Str} (h:Fm94 f n) (c:Int):Wd94 p n (il94 p f c)/\(il94 p f c).2≠ "" :=by
 have nf:∀{x:Str},okW94 x=true->(frac x.cps.toList).isNone=true->n∈(["F","A","B","C","D"]:List Str)->ye [.int p,.str n,.str x] (.ex "NoText"):=fun {x} hx hf hn=>
  ⟨p,n,x,rfl,.inr (.inr (.inl ⟨hn,x,rfl,vv hx,by rw [Option.isNone_iff_eq_none.mp hf];rfl⟩))⟩
 rcases h with ⟨rfl,rfl⟩ | ⟨rfl,rfl⟩ | ⟨rfl,hn⟩
 ·unfold il94
  rw [mH rfl]
  by_cases h3:c%3=0
  ·rw [mH h3]
   obtain ⟨_,m⟩:=Xa (l:=noM94 p) (N:=11) rfl (c / 3) (by decide)
   generalize ((noM94 p)[(c / 3%11).toNat]?).getD "" =x at m ⊢
   obtain ⟨a,b⟩:=U6 hp _ m
   exact ⟨⟨a,.inr (.inr ⟨rfl,p,"SPOT",_,rfl,.inl ⟨rfl,p,_,rfl,hp,vv a,by rw [U5 b]⟩⟩)⟩,(by decide:("spot" :Str)≠ "")⟩
  ·rw [mF h3]
   obtain ⟨_,m⟩:=Xa (l:=spM94) (N:=23) rfl (c / 3) (by decide)
   generalize ((spM94)[(c / 3%23).toNat]?).getD "" =x at m ⊢
   obtain ⟨a,b⟩:=Ut _ m
   exact ⟨⟨a,.inr (.inl ⟨rfl,p,"SPOT",_,rfl,.inl ⟨rfl,p,_,rfl,hp,vv a,by rw [U4 b]⟩⟩)⟩,(by decide:("text" :Str)≠ "")⟩
 ·unfold il94
  rw [mF (by decide)]
  obtain ⟨_,m⟩:=Xa (l:=frM94) (N:=20) rfl (c / 3) (by decide)
  generalize ((frM94)[(c / 3%20).toNat]?).getD "" =x at m ⊢
  obtain ⟨a,b,e⟩:=Zu _ m
  exact ⟨⟨a,.inr (.inl ⟨rfl,p,"END",_,rfl,.inr (.inl ⟨rfl,_,rfl,vv a,by rw [if_neg e,Option.isNone_iff_eq_none.mp b];rfl⟩)⟩)⟩,(by decide:("text" :Str)≠ "")⟩
 ·unfold il94
  rw [mF (by decide)]
  obtain ⟨_,m⟩:=Xa (l:=frM94) (N:=20) rfl (c / 3) (by decide)
  generalize ((frM94)[(c / 3%20).toNat]?).getD "" =x at m ⊢
  obtain ⟨a,b,_⟩:=Zu _ m
  exact ⟨⟨a,.inr (.inl ⟨rfl,nf a b hn⟩)⟩,(by decide:("text" :Str)≠ "")⟩
noncomputable def wd94 (p:Int) (f:Str) (c:Int):Str×Str:=if c%3=0 then il94 p f (c / 3) else if f= "spot" then (tx (stx (spt93 p (c / 3)).1 (spt93 p (c / 3)).2),"") else if f= "end" /\c / 3%4=0 then ("far","") else (tx (ftx (fr91 p (c / 12))),"")
theorem kl {p:Int} (hp:Pr p) {f n:Str} (h:Fm94 f n) (c:Int):Wd94 p n (wd94 p f c):=by
 unfold wd94
 by_cases h3:c%3=0
 ·rw [mH h3];exact (YC hp h _).1
 rw [mF h3]
 have b:=qF hp (c / 12)
 rcases h with ⟨rfl,rfl⟩ | ⟨rfl,rfl⟩ | ⟨rfl,hn⟩
 ·rw [mH rfl]
  have g:=YX hp (c / 3)
  have hT:=ZX (k:=(spt93 p (c / 3)).1) (a:=(spt93 p (c / 3)).2) (by have:=g.kb;omega) g.b.up
  refine ⟨Zi (VU _ _) (by have:=VV g.kb g.b;omega) (Uj _ _) hT.2,.inl ⟨rfl,_,p,"SPOT",_,rfl,.inl ⟨rfl,p,_,rfl,hp,by rw [xr];exact hT,by rw [xr,V6 g]⟩⟩⟩
 ·rw [mF (by decide)]
  by_cases h4:c / 3%4=0
  ·rw [mH ⟨rfl,h4⟩]
   exact ⟨by decide+kernel,.inl ⟨rfl,_,Z5⟩⟩
  ·rw [mF fun z=>h4 z.2]
   exact ⟨Zt b,.inl ⟨rfl,_,Z6 b⟩⟩
 ·rw [mF (by decide),mF (fun z=>absurd z.1 (by decide))]
  exact ⟨Zt b,.inl ⟨rfl,_,UH hn b⟩⟩
def nm94 (y z:Str):Prop:=(y= "NoFraction" /\z= "fraction")∨(y= "NoText" /\z= "text")∨(y= "NoSpot" /\z= "spot")∨(y= "NoTable" /\z= "table")∨(y= "TooMany" /\z= "many")∨(y= "NoLine" /\z= "line")∨(y= "TooFar" /\z= "far")
noncomputable def due94 (us:List (Str×Str)):Str:=((us.filter fun u=> !decide (u.2=("" :Str))).map fun u=>u.2).headD ("" :Str)
theorem uW:∀{us:List (Str×Str)},(∃u∈us,u.2≠ "")->∃(m:Nat) (u:Str×Str),us[m]? =some u/\u.2≠ "" /\u.2=due94 us/\∀(i:Nat) (v:Str×Str),i<m->us[i]? =some v->v.2= ""
 | [],⟨_,h,_⟩=>by cases h
 | v::r,h=>by
  by_cases hv:v.2= ""
  ·obtain ⟨m,u,h1,h2,h3,h4⟩:=uW (us:=r) (by
    obtain ⟨u,hu,hu2⟩:=h
    rcases List.mem_cons.mp hu with rfl | hu
    ·exact absurd hv hu2
    ·exact ⟨u,hu,hu2⟩)
   refine ⟨m+1,u,by simpa using h1,h2,?_,fun i w hi hw=>?_⟩
   ·rw [h3];unfold due94;rw [List.filter_cons_of_neg (by simp [hv])]
   ·cases i with
    | zero=>simp at hw;rw [<-hw];exact hv
    | succ i=>exact h4 i w (by omega) (by simpa using hw)
  ·exact ⟨0,v,rfl,hv,by unfold due94;rw [List.filter_cons_of_pos (by simp [hv])];rfl,fun i _ hi=>absurd hi (by omega)⟩
theorem V5 {p:Int} {s:D} {past:List D} (hl:past.length<1000000) {w:Str} {fs ex:List Str} {us:List (Str×Str)} {x:Str} (hT:Tl x.cps.toList) (hsp:splitS x=w::(us.map (·.1)++ex)) (hfo:formS (w::(us.map (·.1)++ex))=some fs)
  (hw:∀(i:Nat) (u:Str×Str) (f:Str),us[i]? =some u->fs[i]? =some f->Wd94 p f u) (hu:∃u∈us,u.2≠ ""):∃y,yC (.int p) s past [.str x] (.ex y)/\nm94 y (due94 us):=by
 obtain ⟨m,u,h1,h2,h3,h4⟩:=uW hu
 have hm:m<us.length:=(List.getElem?_eq_some_iff.mp h1).1
 have hfl:=z3 hfo
 rw [List.length_append,mB] at hfl
 have gf:∀i,i<us.length->∃f,fs[i]? =some f:=fun i hi=>⟨fs[i]'(by omega),mD _⟩
 have gu:∀i f,i<us.length->fs[i]? =some f->∃v r,us[i]? =some v/\ye [.int p,.str f,.str v.1] r/\((v.2= "" /\∃d,r= .ok d)∨(v.2= "text" /\r= .ex "NoText")∨(v.2= "spot" /\r= .ex "NoSpot")):=fun i f hi hf=>by
  obtain ⟨v,hv⟩:∃v,us[i]? =some v:=⟨us[i],mD hi⟩
  obtain ⟨_,z⟩:=hw i v f hv hf
  rcases z with ⟨z1,d,z2⟩ | ⟨z1,z2⟩ | ⟨z1,z2⟩
  ·exact ⟨v,_,hv,z2,.inl ⟨z1,d,rfl⟩⟩
  ·exact ⟨v,_,hv,z2,.inr (.inl ⟨z1,rfl⟩)⟩
  ·exact ⟨v,_,hv,z2,.inr (.inr ⟨z1,rfl⟩)⟩
 have ch:∀i,∃r:Rs,i<us.length->∃v f,us[i]? =some v/\fs[i]? =some f/\ye [.int p,.str f,.str v.1] r/\((v.2= "" /\∃d,r= .ok d)∨(v.2= "text" /\r= .ex "NoText")∨(v.2= "spot" /\r= .ex "NoSpot")):=fun i=>by
  by_cases hi:i<us.length
  ·obtain ⟨f,hf⟩:=gf i hi
   obtain ⟨v,r,a,b,c⟩:=gu i f hi hf
   exact ⟨r,fun _=>⟨v,f,a,hf,b,c⟩⟩
  ·exact ⟨.ok .non,fun z=>absurd z hi⟩
 obtain ⟨rs,hrs⟩:=Classical.axiomOfChoice ch
 obtain ⟨v,f,a,_,b,c⟩:=hrs m hm
 rw [h1] at a
 cases a
 have key:∃y,rs m= .ex y/\nm94 y u.2:=by
  rcases c with ⟨z,_⟩ | ⟨z,e⟩ | ⟨z,e⟩
  ·exact absurd z h2
  ·exact ⟨_,e,.inr (.inl ⟨rfl,z⟩)⟩
  ·exact ⟨_,e,.inr (.inr (.inl ⟨rfl,z⟩))⟩
 obtain ⟨y,ey,ny⟩:=key
 refine ⟨y,⟨p,x,w,_,fs,rfl,rfl,hT,hl,hsp,hfo,.inl ⟨rs,m,y,by omega,fun i f t hi hf ht=>?_,fun i hi=>?_,ey,rfl⟩⟩,by rw [<-h3];exact ny⟩
 ·obtain ⟨v,f',a,hf',b,_⟩:=hrs i (by omega)
  rw [hf] at hf'
  cases hf'
  rw [List.getElem?_append_left (by rw [mB];omega),List.getElem?_map,a] at ht
  cases ht
  exact b
 ·obtain ⟨v,f',a,_,_,c⟩:=hrs i (by omega)
  have e:=h4 i v hi a
  rcases c with ⟨_,d⟩ | ⟨z,_⟩ | ⟨z,_⟩
  ·exact d
  ·rw [e] at z;exact absurd z (by decide)
  ·rw [e] at z;exact absurd z (by decide)
theorem jM (a:Rat):eqD (frD a) (frD a)=true:=by
 show (decide (a.num=a.num) && (decide ((a.den:Int)=(a.den:Int)) && true))=true
 simp
theorem Kv {p:Int} (hp:Pr p) {a:Rat} (hf:fbb94 a=true) {n:Nat} {v:Int} (hv:¬v%p=0) (h:(a.den:Int)=p^n*v) (h3:300<v):Xi [.int p,frD a] (.ex "TooMany"):=by
 refine ⟨p,a,rfl,hp,fb94 hf,?_,rfl⟩
 rw [h,Ua hp hv,Int.mul_ediv_cancel_left _ (by have:=yg hp n;omega)]
 exact h3
theorem zd {p:Int} {s:D} {past:List D} {w y g cls:Str} {as:List Rat} (hpl:past.length<1000000) (hw:(w.cps.toList.length<=200/\∀q∈w.cps.toList,q<128)/\32∉w.cps.toList) (hw0:(("" :Str)==w)=false) (hf:isVS (lkD formsL w) y=true) (hy:(wordsS y).length=as.length) (hall:(wordsS y).all (fun f=>(lkD mostL f).isNone && decide (f∈(["F","A","B","C","D"]:List Str)))=true) (hu:w≠ "undo") (hb:∀a∈as,B60 a) (hl:as.length<=5)
  (h:(isVF (lkD changesL w) g=true/\VP g [.int p,s,.lst (as.map frD)] (.ex cls))∨((lkD changesL w).isNone=true/\isVF (lkD questL w) g=true/\VN g [.int p,s,.lst (as.map frD)] (.ex cls))):yC (.int p) s past [.str (rowL w (as.map ftx))] (.ex cls):=by
 have hall1:(wordsS y).all (fun f=>(lkD mostL f).isNone)=true:=List.all_eq_true.mpr fun f h=>(Bool.and_eq_true_iff.mp (List.all_eq_true.mp hall f h)).1
 have hall2:∀f∈wordsS y,f∈(["F","A","B","C","D"]:List Str):=fun f h=>of_decide_eq_true (Bool.and_eq_true_iff.mp (List.all_eq_true.mp hall f h)).2
 have hns:∀t∈as.map ftx,32∉t:=fun t ht=>by obtain ⟨a,_,rfl⟩:=List.mem_map.mp ht;exact vz a
 have hok:∀t∈as.map ftx,t.length<=200/\∀q∈t,q<128:=fun t ht=>by obtain ⟨a,ha,rfl⟩:=List.mem_map.mp ht;exact Zs (hb a ha)
 refine ⟨p,rowL w (as.map ftx),w,(as.map ftx).map tx,wordsS y,rfl,rfl,uh hw (by rw [mB];exact hl) hok,hpl,qe hw.2 hns,v6 (wM hf) hw0 ?_ (by rw [mB,mB,hy]) hall1,.inr ⟨as.map frD,by rw [mB,hy],?_,?_⟩⟩
 ·intro t ht
  obtain ⟨l,hl,rfl⟩:=List.mem_map.mp ht
  obtain ⟨a,_,rfl⟩:=List.mem_map.mp hl
  exact QY (uU a)
 ·intro i f t d h1 h2 h3
  rw [List.getElem?_map,List.getElem?_map] at h2
  rw [List.getElem?_map] at h3
  cases q:as[i]? with
  | none=>rw [q] at h3;cases h3
  | some a=>
   rw [q] at h2 h3
   cases h2
   cases h3
   exact UH (hall2 f (mz h1)) (hb a (mz q))
 ·rcases h with ⟨h1,h2⟩ | ⟨h1,h2,h3⟩
  ·exact .inr (.inl ⟨hu,g,_,zZ h1,h2,.inr ⟨cls,rfl,rfl⟩⟩)
  ·exact .inr (.inr ⟨hu,Option.isNone_iff_eq_none.mp h1,g,cls,zZ h2,h3,rfl⟩)
theorem z6 {x:Str} {w:Str} {ts:List (List Nat)} (h:x.cps.toList=jnL (w.cps.toList::ts)):x=rowL w ts:=by unfold rowL;rw [<-h,yX]
def Rf94 (p:Int) (u:Str×Str):Prop:=∃cls,yC (.int p) (stD (300,0)) [stD (0,0)] [.str u.1] (.ex cls)/\nm94 cls u.2
noncomputable def kT94:Str:=("kind 1/" :Str)++(toString T94:Str)++(" 1 " :Str)++(toString (1 - T94):Str)++(" " :Str)++(toString T94:Str)
noncomputable def sL94 (p:Int) (z:Str):List (Str×Str):=[("scale 0","fraction"),("near far far","line"),(("near " :Str)++z++(" " :Str)++z,"line"),("figures 1/307","many"),(("figures -11/" :Str)++(toString (307*p):Str),"many"),("road 300:1","far"),(("move 0 0 " :Str)++z++(" 1" :Str),"table"),(("kind " :Str)++z++(" 0 " :Str)++z++(" 0" :Str),"table"),(("numbers 2 " :Str)++z++(" 2 " :Str)++z,"table"),("move 0 0 0 0","table"),if p=2 then (kT94,"far") else ("within 7","many")]
theorem Jr (a:Rat):Like94 (frD a):=⟨rfl,by rw [jM]⟩
theorem Yb {a b c d:Rat} (ha:Fb 20 a) (hb:Fb 20 b) (hc:Fb 20 c) (hd:Fb 20 d):MOk ⟨a,b,c,d⟩:=VT ⟨ha,hb,hc,hd⟩
theorem kT {p:Int} (hp:Pr p) {a:Rat} (hB:B60 a) (hf:Fb 20 a):∀u∈sL94 p (tx (ftx a)),Rf94 p u:=by
 have b0:B60 0:=by constructor<;>decide+kernel
 have b1:B60 1:=by constructor<;>decide+kernel
 have b2:B60 2:=by constructor<;>decide+kernel
 have f0:Fb 20 0:=fb_zero.mono (by decide)
 have f1:Fb 20 1:=fb_one.mono (by decide)
 have f2:Fb 20 2:=by constructor<;>decide+kernel
 have p1:([stD (0,0)]:List D).length<1000000:=by decide
 intro u hu
 unfold sL94 at hu
 simp only [List.mem_cons,List.not_mem_nil,or_false] at hu
 rcases hu with rfl | rfl | rfl | rfl | rfl | rfl | rfl | rfl | rfl | rfl | rfl
 ·refine ⟨"NoFraction",?_,.inl ⟨rfl,rfl⟩⟩
  show yC _ _ _ [.str ("scale 0" :Str)] _
  rw [z6 (x:= "scale 0") (w:= "scale") (ts:=([(0:Rat)]).map ftx) (by decide+kernel)]
  exact zd (w:= "scale") (y:= "F") (g:= "scaled") p1 (yH _ (by decide+kernel)) (by decide+kernel) (by decide+kernel) (by decide+kernel) (by decide+kernel) (by decide+kernel) (by simpa using b0) (by decide) (.inl ⟨by decide+kernel,.inr (.inr ⟨rfl,_,_,rfl,rfl⟩)⟩)
 ·refine ⟨"NoLine",⟨p,"near far far","near",["far","far"],["END","END"],rfl,rfl,⟨by decide+kernel,by decide+kernel⟩,p1,by decide+kernel,by decide+kernel,.inr ⟨[.str "far",.str "far"],rfl,?_,.inr (.inr ⟨by decide,by decide+kernel,"near_text","NoLine",zZ (by decide+kernel),.inl ⟨rfl,_,_,_,rfl,⟨by decide+kernel,by decide+kernel⟩,rfl⟩,rfl⟩)⟩⟩,.inr (.inr (.inr (.inr (.inr (.inl ⟨rfl,rfl⟩)))))⟩
  intro i f t d h1 h2 h3
  rcases i with _ | _ | i
  ·cases h1;cases h2;cases h3;exact Z5
  ·cases h1;cases h2;cases h3;exact Z5
  ·cases h1
 ·refine ⟨"NoLine",?_,.inr (.inr (.inr (.inr (.inr (.inl ⟨rfl,rfl⟩)))))⟩
  have e:(("near " :Str)++tx (ftx a)++(" " :Str)++tx (ftx a))=rowL "near" [ftx a,ftx a]:=z6 (by rw [xq,xq,xq,xr];simp only [List.append_assoc];rfl)
  show yC _ _ _ [.str (("near " :Str)++tx (ftx a)++(" " :Str)++tx (ftx a))] _
  rw [e]
  have hns:∀t∈[ftx a,ftx a],32∉t:=fun t ht=>by simp at ht;rw [ht];exact vz a
  refine ⟨p,_,"near",[tx (ftx a),tx (ftx a)],["END","END"],rfl,rfl,uh (yH _ (by decide+kernel)) (by show 2<=5;decide) (fun t ht=>by simp at ht;rw [ht];exact Zs hB),p1,qe (by decide+kernel) hns,?_,.inr ⟨[frD a,frD a],rfl,?_,.inr (.inr ⟨by decide,by decide+kernel,"near_text","NoLine",zZ (by decide+kernel),.inl ⟨rfl,_,_,_,rfl,Jr a,rfl⟩,rfl⟩)⟩⟩
  ·have:=v6 (w:= "near") (y:= "END END") (ts:=[tx (ftx a),tx (ftx a)]) (wM (by decide+kernel)) (by decide+kernel) (fun t ht=>by simp at ht;rw [ht];exact QY (uU a)) (by show 2=(wordsS "END END").length;decide+kernel) (by decide+kernel)
   rw [this]
   decide+kernel
  ·intro i f t d h1 h2 h3
   rcases i with _ | _ | i
   ·cases h1;cases h2;cases h3;exact Z6 hB
   ·cases h1;cases h2;cases h3;exact Z6 hB
   ·cases h1
 ·refine ⟨"TooMany",?_,.inr (.inr (.inr (.inr (.inl ⟨rfl,rfl⟩))))⟩
  show yC _ _ _ [.str ("figures 1/307" :Str)] _
  rw [z6 (x:= "figures 1/307") (w:= "figures") (ts:=([(1 / 307:Rat)]).map ftx) (by decide+kernel)]
  exact zd (w:= "figures") (y:= "F") (g:= "figures_text") p1 (yH _ (by decide+kernel)) (by decide+kernel) (by decide+kernel) (by decide+kernel) (by decide+kernel) (by decide+kernel) (fun b hb=>by rw [List.mem_singleton.mp hb];constructor<;>decide+kernel) (by decide) (.inr ⟨by decide+kernel,by decide+kernel,.inr (.inl ⟨rfl,_,_,_,rfl,Kv hp (by decide+kernel) (n:=0) (v:=307) (by rcases hp with rfl | rfl | rfl | rfl<;>decide) (by rw [Int.pow_zero];decide+kernel) (by decide)⟩)⟩)
 ·refine ⟨"TooMany",?_,.inr (.inr (.inr (.inr (.inl ⟨rfl,rfl⟩))))⟩
  have e:(("figures -11/" :Str)++(toString (307*p):Str))=rowL "figures" (([(-11 / (307*p:Int):Rat)]).map ftx):=by rcases hp with rfl | rfl | rfl | rfl<;>exact z6 (by decide+kernel)
  show yC _ _ _ [.str (("figures -11/" :Str)++(toString (307*p):Str))] _
  rw [e]
  exact zd (w:= "figures") (y:= "F") (g:= "figures_text") p1 (yH _ (by decide+kernel)) (by decide+kernel) (by decide+kernel) (by show (wordsS "F").length=1;decide+kernel) (by decide+kernel) (by decide+kernel) (fun b hb=>by rw [List.mem_singleton.mp hb];rcases hp with rfl | rfl | rfl | rfl<;>constructor<;>decide+kernel) (by show 1<=5;decide) (.inr ⟨by decide+kernel,by decide+kernel,.inr (.inl ⟨rfl,_,_,_,rfl,Kv hp (by rcases hp with rfl | rfl | rfl | rfl<;>decide+kernel) (n:=1) (v:=307) (by rcases hp with rfl | rfl | rfl | rfl<;>decide) (by rcases hp with rfl | rfl | rfl | rfl<;>decide+kernel) (by decide)⟩)⟩)
 ·refine ⟨"TooFar",⟨p,"road 300:1","road",["300:1"],["SPOT"],rfl,rfl,⟨by decide+kernel,by decide+kernel⟩,p1,by decide+kernel,by decide+kernel,.inr ⟨[stD (300,1)],rfl,?_,.inr (.inr ⟨by decide,by decide+kernel,"road_text","TooFar",zZ (by decide+kernel),.inr (.inr (.inl ⟨rfl,_,_,_,rfl,kU hp⟩)),rfl⟩)⟩⟩,.inr (.inr (.inr (.inr (.inr (.inr ⟨rfl,rfl⟩)))))⟩
  intro i f t d h1 h2 h3
  rcases i with _ | i
  ·cases h1;cases h2;cases h3
   refine ⟨p,"SPOT","300:1",rfl,.inl ⟨rfl,?_⟩⟩
   rw [show ("300:1" :Str)=tx (stx 300 1) by decide+kernel]
   have hs:isSp p 300 1=true:=wN hp (by decide+kernel) (by rcases hp with rfl | rfl | rfl | rfl<;>decide+kernel) ⟨0,by rw [Int.pow_zero];rfl⟩
   exact ⟨p,_,rfl,hp,by rw [xr];exact ZX (by decide+kernel) b1.up,by rw [xr,XB hp (by decide) hs b1]⟩
  ·cases h1
 ·refine ⟨"NoTable",?_,.inr (.inr (.inr (.inl ⟨rfl,rfl⟩)))⟩
  have e:(("move 0 0 " :Str)++tx (ftx a)++(" 1" :Str))=rowL "move" (([0,0,a,1]:List Rat).map ftx):=z6 (by rw [xq,xq,xr];show _=jnL ([109,111,118,101]::[ftx 0,ftx 0,ftx a,ftx 1]);rw [show ftx 0=[48] by decide+kernel,show ftx 1=[49] by decide+kernel];rfl)
  show yC _ _ _ [.str (("move 0 0 " :Str)++tx (ftx a)++(" 1" :Str))] _
  rw [e]
  exact zd (w:= "move") (y:= "A B C D") (g:= "moved_by") p1 (yH _ (by decide+kernel)) (by decide+kernel) (by decide+kernel) (by show (wordsS "A B C D").length=4;decide+kernel) (by decide+kernel) (by decide+kernel) (by simp [b0,b1,hB]) (by show 4<=5;decide) (.inl ⟨by decide+kernel,.inr (.inl ⟨rfl,⟨0,0,a,1⟩,_,_,rfl,Yb f0 f0 hf f1,by unfold Tb.det;simp only [];grind,rfl⟩)⟩)
 ·refine ⟨"NoTable",?_,.inr (.inr (.inr (.inl ⟨rfl,rfl⟩)))⟩
  have e:(("kind " :Str)++tx (ftx a)++(" 0 " :Str)++tx (ftx a)++(" 0" :Str))=rowL "kind" (([a,0,a,0]:List Rat).map ftx):=z6 (by rw [xq,xq,xq,xq,xr];show _=jnL ([107,105,110,100]::[ftx a,ftx 0,ftx a,ftx 0]);rw [show ftx 0=[48] by decide+kernel];simp only [List.append_assoc];rfl)
  show yC _ _ _ [.str (("kind " :Str)++tx (ftx a)++(" 0 " :Str)++tx (ftx a)++(" 0" :Str))] _
  rw [e]
  exact zd (w:= "kind") (y:= "A B C D") (g:= "kind_text") p1 (yH _ (by decide+kernel)) (by decide+kernel) (by decide+kernel) (by show (wordsS "A B C D").length=4;decide+kernel) (by decide+kernel) (by decide+kernel) (by simp [b0,hB]) (by show 4<=5;decide) (.inr ⟨by decide+kernel,by decide+kernel,.inr (.inr (.inr (.inl ⟨rfl,⟨a,0,a,0⟩,_,_,rfl,Yb hf f0 hf f0,.inl ⟨by unfold Tb.det;simp only [];grind,rfl⟩⟩)))⟩)
 ·refine ⟨"NoTable",?_,.inr (.inr (.inr (.inl ⟨rfl,rfl⟩)))⟩
  have e:(("numbers 2 " :Str)++tx (ftx a)++(" 2 " :Str)++tx (ftx a))=rowL "numbers" (([2,a,2,a]:List Rat).map ftx):=z6 (by rw [xq,xq,xq,xr];show _=jnL ([110,117,109,98,101,114,115]::[ftx 2,ftx a,ftx 2,ftx a]);rw [show ftx 2=[50] by decide+kernel];simp only [List.append_assoc];rfl)
  show yC _ _ _ [.str (("numbers 2 " :Str)++tx (ftx a)++(" 2 " :Str)++tx (ftx a))] _
  rw [e]
  exact zd (w:= "numbers") (y:= "A B C D") (g:= "numbers_text") p1 (yH _ (by decide+kernel)) (by decide+kernel) (by decide+kernel) (by show (wordsS "A B C D").length=4;decide+kernel) (by decide+kernel) (by decide+kernel) (by simp [b2,hB]) (by show 4<=5;decide) (.inr ⟨by decide+kernel,by decide+kernel,.inr (.inr (.inr (.inr (.inl ⟨rfl,⟨2,a,2,a⟩,_,_,rfl,Yb f2 hf f2 hf,by unfold Tb.det;simp only [];grind,rfl⟩))))⟩)
 ·refine ⟨"NoTable",?_,.inr (.inr (.inr (.inl ⟨rfl,rfl⟩)))⟩
  show yC _ _ _ [.str ("move 0 0 0 0" :Str)] _
  rw [z6 (x:= "move 0 0 0 0") (w:= "move") (ts:=(([0,0,0,0]:List Rat)).map ftx) (by decide+kernel)]
  exact zd (w:= "move") (y:= "A B C D") (g:= "moved_by") p1 (yH _ (by decide+kernel)) (by decide+kernel) (by decide+kernel) (by show (wordsS "A B C D").length=4;decide+kernel) (by decide+kernel) (by decide+kernel) (by simp [b0]) (by show 4<=5;decide) (.inl ⟨by decide+kernel,.inr (.inl ⟨rfl,⟨0,0,0,0⟩,_,_,rfl,Yb f0 f0 f0 f0,by decide+kernel,rfl⟩)⟩)
 ·by_cases p2:p=2
  ·rw [mH p2]
   subst p2
   refine ⟨"TooFar",?_,.inr (.inr (.inr (.inr (.inr (.inr ⟨rfl,rfl⟩)))))⟩
   show yC _ _ _ [.str kT94] _
   rw [z6 (x:=kT94) (w:= "kind") (ts:=(([1 / (T94:Rat),1,1 - (T94:Rat),(T94:Rat)]:List Rat)).map ftx) (by decide+kernel)]
   exact zd (w:= "kind") (y:= "A B C D") (g:= "kind_text") p1 (yH _ (by decide+kernel)) (by decide+kernel) (by decide+kernel) (by show (wordsS "A B C D").length=4;decide+kernel) (by decide+kernel) (by decide+kernel) (fun b hb=>by
    simp only [List.mem_cons,List.not_mem_nil,or_false] at hb
    rcases hb with rfl | rfl | rfl | rfl<;>constructor<;>decide+kernel) (by show 4<=5;decide) (.inr ⟨by decide+kernel,by decide+kernel,.inr (.inr (.inr (.inl ⟨rfl,t94,_,_,rfl,by constructor<;>first | exact fb94 (by decide+kernel) | (constructor<;>exact fb94 (by decide+kernel)),.inr ⟨by decide+kernel,rfl,rfl⟩⟩)))⟩)
  ·rw [mF p2]
   refine ⟨"TooMany",⟨p,"within 7","within",["7"],["REACH"],rfl,rfl,⟨by decide+kernel,by decide+kernel⟩,p1,by decide+kernel,by decide+kernel,.inr ⟨[.int 7],rfl,?_,.inr (.inr ⟨by decide,by decide+kernel,"within_text","TooMany",zZ (by decide+kernel),.inr (.inr (.inr (.inr (.inr ⟨rfl,_,_,rfl,p,_,rfl,hp,p2,rfl⟩)))),rfl⟩)⟩⟩,.inr (.inr (.inr (.inr (.inl ⟨rfl,rfl⟩))))⟩
   intro i f t d h1 h2 h3
   rcases i with _ | i
   ·cases h1;cases h2;cases h3
    exact ⟨p,"REACH","7",rfl,.inr (.inr (.inr ⟨by decide,7,by decide+kernel,rfl⟩))⟩
   ·cases h1
noncomputable def tab94:List (Str×Str×Int):=[("go","spot",1),("move","fraction",4),("scale","fraction",1),("shift","fraction",1),("road","spot",1),("way","spot",1),("meet","spot",2),("near","end",2),("kind","fraction",4),("numbers","fraction",4),("figures","fraction",1),("towards","end",1)]
noncomputable def ex94 (w:Str):List Str:=if w= "towards" then ["3"] else []
noncomputable def ws94 (p:Int) (f:Str) (c:Int) (n:Nat):List (Str×Str):=(List.range n).map fun (j:Nat)=>wd94 p f (mr94 c (0+(j:Int)*1))
def fl94 (us:List (Str×Str)):List (Str×Str):=us.filter fun u=> !decide (u.2=("" :Str))
noncomputable def fw94 (p:Int) (f:Str) (c:Int) (n:Nat):List (Str×Str):=if fl94 (ws94 p f c n)=[] then (ws94 p f c n).set (n - 1) (il94 p f (c / 48)) else ws94 p f c n
noncomputable def jn94 (w:Str) (us:List (Str×Str)):Str:=Txt.join " " (w::us.map fun u=>u.1)
def rw94 (w:Str) (us:List (Str×Str)):Str:=if w= "towards" then jn94 w us++(" 3" :Str) else jn94 w us
noncomputable def fmB94 (f n:Str):Bool:=(decide (f= "spot") && decide (n= "SPOT")) || ((decide (f= "end") && decide (n= "END")) || (decide (f= "fraction") && decide (n∈(["F","A","B","C","D"]:List Str))))
theorem jw {f n:Str} (h:fmB94 f n=true):Fm94 f n:=by
 unfold fmB94 at h
 simp only [Bool.or_eq_true,Bool.and_eq_true,decide_eq_true_eq] at h
 exact h
structure Ent94 (w f:Str) (n:Nat):Prop where
 n1:1<=n
 n4:n<=4
 fl:f∈(["spot","end","fraction"]:List Str)
 ok:okW94 w=true
 fs:∃fs:List Str,(∀ts:List Str,ts.length=n->(∀t∈ts,t≠("" :Str))->formS (w::(ts++ex94 w))=some fs)/\∀(i:Nat) (x:Str),i<n->fs[i]? =some x->Fm94 f x
theorem yG {w f y:Str} {n:Nat} (n1:1<=n) (n4:n<=4) (fl:f∈(["spot","end","fraction"]:List Str)) (ok:okW94 w=true) (hl:isVS (lkD formsL w) y=true) (hw:(("" :Str)==w)=false) (he:ex94 w=[]) (hn:(wordsS y).length=n) (hm:(wordsS y).all (fun x=>(lkD mostL x).isNone && fmB94 f x)=true):Ent94 w f n:=
 ⟨n1,n4,fl,ok,wordsS y,fun ts h1 h2=>by
  rw [he,List.append_nil]
  exact v6 (wM hl) hw h2 (by rw [h1,hn]) (List.all_eq_true.mpr fun x hx=>(Bool.and_eq_true_iff.mp (List.all_eq_true.mp hm x hx)).1),fun i x _ hx=>jw (Bool.and_eq_true_iff.mp (List.all_eq_true.mp hm x (mz hx))).2⟩
theorem WC {t:Str} (h:t≠("" :Str)):formS (["towards",t,"3"]:List Str)=some (["END","STEPS"]:List Str):=by
 have e1:lkD formsL "towards" =some (.s "END STEPS"):=wM (by decide+kernel)
 have e2:wordsS "END STEPS" =(["END","STEPS"]:List Str):=by decide+kernel
 have e4:(["towards",t,"3"]:List Str).contains ("" :Str)=false:=by
  rw [List.contains_cons,List.contains_cons]
  have a:(("" :Str)== "towards")=false:=by decide+kernel
  have b:(("" :Str)==t)=false:=by simpa using fun z=>h z.symm
  rw [a,b]
  decide+kernel
 rw [zv,e4,e1]
 dsimp only
 rw [e2]
 have e5:(List.range (["END","STEPS"]:List Str).length).any (badN (["END","STEPS"]:List Str) (["towards",t,"3"]:List Str))=false:=by
  show (badN (["END","STEPS"]:List Str) (["towards",t,"3"]:List Str) 0 || (badN (["END","STEPS"]:List Str) (["towards",t,"3"]:List Str) 1 || false))=false
  have a:badN (["END","STEPS"]:List Str) (["towards",t,"3"]:List Str) 0=false:=by
   unfold badN
   show (match lkD mostL "END" with | some (.i m)=> !numTo m t.cps.toList | _=>false)=false
   rw [show lkD mostL "END" =none from Option.isNone_iff_eq_none.mp (by decide+kernel)]
  have b:badN (["END","STEPS"]:List Str) (["towards",t,"3"]:List Str) 1=badN (["END","STEPS"]:List Str) (["towards","","3"]:List Str) 1:=rfl
  rw [a,b]
  decide+kernel
 rw [e5]
 rfl
theorem jO:∀e∈tab94,Ent94 e.1 e.2.1 e.2.2.toNat:=by
 intro e he
 unfold tab94 at he
 simp only [List.mem_cons,List.not_mem_nil,or_false] at he
 rcases he with rfl | rfl | rfl | rfl | rfl | rfl | rfl | rfl | rfl | rfl | rfl | rfl
 case inr.inr.inr.inr.inr.inr.inr.inr.inr.inr.inr=>
  refine ⟨by decide,by decide,by decide,by decide+kernel,["END","STEPS"],fun ts h1 h2=>?_,fun i x hi hx=>?_⟩
  ·obtain ⟨t,rfl⟩:∃t,ts=[t]:=List.length_eq_one_iff.mp h1
   exact WC (h2 t (by simp))
  ·have:i<1:=hi
   obtain rfl:i=0:=by omega
   cases hx
   exact .inr (.inl ⟨rfl,rfl⟩)
 case inl=>exact yG (y:= "SPOT") (by decide) (by decide) (by decide) (by decide+kernel) (by decide+kernel) (by decide+kernel) (by decide+kernel) (by decide+kernel) (by decide+kernel)
 case inr.inl=>exact yG (y:= "A B C D") (by decide) (by decide) (by decide) (by decide+kernel) (by decide+kernel) (by decide+kernel) (by decide+kernel) (by decide+kernel) (by decide+kernel)
 case inr.inr.inl=>exact yG (y:= "F") (by decide) (by decide) (by decide) (by decide+kernel) (by decide+kernel) (by decide+kernel) (by decide+kernel) (by decide+kernel) (by decide+kernel)
 case inr.inr.inr.inl=>exact yG (y:= "F") (by decide) (by decide) (by decide) (by decide+kernel) (by decide+kernel) (by decide+kernel) (by decide+kernel) (by decide+kernel) (by decide+kernel)
 case inr.inr.inr.inr.inl=>exact yG (y:= "SPOT") (by decide) (by decide) (by decide) (by decide+kernel) (by decide+kernel) (by decide+kernel) (by decide+kernel) (by decide+kernel) (by decide+kernel)
 case inr.inr.inr.inr.inr.inl=>exact yG (y:= "SPOT") (by decide) (by decide) (by decide) (by decide+kernel) (by decide+kernel) (by decide+kernel) (by decide+kernel) (by decide+kernel) (by decide+kernel)
 case inr.inr.inr.inr.inr.inr.inl=>exact yG (y:= "SPOT SPOT") (by decide) (by decide) (by decide) (by decide+kernel) (by decide+kernel) (by decide+kernel) (by decide+kernel) (by decide+kernel) (by decide+kernel)
 case inr.inr.inr.inr.inr.inr.inr.inl=>exact yG (y:= "END END") (by decide) (by decide) (by decide) (by decide+kernel) (by decide+kernel) (by decide+kernel) (by decide+kernel) (by decide+kernel) (by decide+kernel)
 case inr.inr.inr.inr.inr.inr.inr.inr.inl=>exact yG (y:= "A B C D") (by decide) (by decide) (by decide) (by decide+kernel) (by decide+kernel) (by decide+kernel) (by decide+kernel) (by decide+kernel) (by decide+kernel)
 case inr.inr.inr.inr.inr.inr.inr.inr.inr.inl=>exact yG (y:= "A B C D") (by decide) (by decide) (by decide) (by decide+kernel) (by decide+kernel) (by decide+kernel) (by decide+kernel) (by decide+kernel) (by decide+kernel)
 case inr.inr.inr.inr.inr.inr.inr.inr.inr.inr.inl=>exact yG (y:= "F") (by decide) (by decide) (by decide) (by decide+kernel) (by decide+kernel) (by decide+kernel) (by decide+kernel) (by decide+kernel) (by decide+kernel)
theorem Vt {p:Int} (hp:Pr p) {f:Str} {c:Int} {n:Nat} (n1:1<=n):(fw94 p f c n).length=n/\(∀(i:Nat) (u:Str×Str) (x:Str),(fw94 p f c n)[i]? =some u->Fm94 f x->Wd94 p x u)/\((∃x,Fm94 f x)->∃u∈fw94 p f c n,u.2≠ ""):=by
 have wl:(ws94 p f c n).length=n:=by unfold ws94;rw [mB,List.length_range]
 have wk:∀(i:Nat) (u:Str×Str) (x:Str),(ws94 p f c n)[i]? =some u->Fm94 f x->Wd94 p x u:=fun i u x h hx=>by
  unfold ws94 at h
  rw [List.getElem?_map] at h
  cases q:(List.range n)[i]? with
  | none=>rw [q] at h;cases h
  | some j=>rw [q] at h;cases h;exact kl hp hx _
 unfold fw94
 by_cases h:fl94 (ws94 p f c n)=[]
 ·rw [mH h]
  refine ⟨by rw [List.length_set,wl],fun i u x hu hx=>?_,fun ⟨x,hx⟩=>⟨il94 p f (c / 48),List.mem_iff_getElem?.mpr ⟨n - 1,by rw [List.getElem?_set_self (by omega)]⟩,(YC hp hx _).2⟩⟩
  by_cases hi:n - 1=i
  ·subst hi
   rw [List.getElem?_set_self (by omega)] at hu
   cases hu
   exact (YC hp hx _).1
  ·rw [mG hi] at hu
   exact wk i u x hu hx
 ·rw [mF h]
  refine ⟨wl,wk,fun _=>?_⟩
  obtain ⟨u,hu⟩:=List.exists_mem_of_ne_nil _ h
  unfold fl94 at hu
  rw [List.mem_filter] at hu
  exact ⟨u,hu.1,by simpa using hu.2⟩
theorem Zo:∀{xs:List (List Nat)} {y:List Nat},xs≠[]->jnL (xs++ [y])=jnL xs++32::y
 | [],_,h=>absurd rfl h
 | [x],y,_=>rfl
 | x::v::r,y,_=>by
  show x++32::jnL ((v::r)++ [y])=(x++32::jnL (v::r))++32::y
  rw [Zo (by simp),List.append_assoc,List.cons_append]
theorem Q6 (w:Str) (us:List (Str×Str)):rw94 w us=rowL w ((us.map fun u=>u.1.cps.toList)++(ex94 w).map fun x=>x.cps.toList):=by
 have e:jn94 w us=tx (jnL (w.cps.toList::us.map fun u=>u.1.cps.toList)):=by
  unfold jn94
  rw [<-wA,List.map_cons,yX,List.map_map]
  congr 2
 unfold rw94 ex94
 by_cases h:w= "towards"
 ·rw [mH h,mH h,e]
  unfold rowL
  show _=tx (jnL ((w.cps.toList::us.map fun u=>u.1.cps.toList)++ [("3" :Str).cps.toList]))
  rw [Zo (by simp),<-yX (tx _++_),xq,xr]
  rfl
 ·rw [mF h,mF h,e]
  unfold rowL
  rw [List.map_nil,List.append_nil]
theorem UC {p:Int} (hp:Pr p) {w f:Str} {n:Nat} (h:Ent94 w f n) (c:Int):Rf94 p (rw94 w (fw94 p f c n),due94 (fw94 p f c n)):=by
 obtain ⟨hl,hw,hu⟩:=Vt hp (f:=f) (c:=c) h.n1
 obtain ⟨fs,h1,h2⟩:=h.fs
 generalize fw94 p f c n=us at hl hw hu ⊢
 have n4:=h.n4
 have n1:=h.n1
 obtain ⟨w1,w2,w3,w4⟩:=qr h.ok
 have wx:∀t∈ex94 w,okW94 t=true:=fun t ht=>by
  unfold ex94 at ht
  split at ht
  ·rw [List.mem_singleton.mp ht];decide+kernel
  ·cases ht
 have exl:(ex94 w).length<=1:=by unfold ex94;split<;>decide
 obtain ⟨f0,hf0⟩:∃x,Fm94 f x:=by
  have z:=h1 (List.replicate n "3") (by simp) (fun t ht=>by rw [(List.mem_replicate.mp ht).2];decide)
  have zl:=z3 z
  rw [List.length_append,List.length_replicate] at zl
  exact ⟨_,h2 0 _ (by omega) (mD (by omega))⟩
 have uw:∀u∈us,okW94 u.1=true:=fun u hu=>by
  obtain ⟨i,hi⟩:=List.mem_iff_getElem?.mp hu
  exact (hw i u f0 hi hf0).1
 have all:∀t∈(us.map fun u=>u.1)++ex94 w,okW94 t=true:=fun t ht=>by
  rcases List.mem_append.mp ht with ht | ht
  ·obtain ⟨u,hu,rfl⟩:=List.mem_map.mp ht;exact uw u hu
  ·exact wx t ht
 have eL:((us.map fun u=>u.1.cps.toList)++(ex94 w).map fun x=>x.cps.toList)=((us.map fun u=>u.1)++ex94 w).map fun x=>x.cps.toList:=by rw [List.map_append,List.map_map];rfl
 have hT:Tl (rw94 w us).cps.toList:=by
  rw [Q6,eL]
  refine uh ⟨⟨w2,w4⟩,w3⟩ (by rw [mB,List.length_append,mB,hl];omega) fun t ht=>?_
  obtain ⟨x,hx,rfl⟩:=List.mem_map.mp ht
  obtain ⟨_,a,_,b⟩:=qr (all x hx)
  exact ⟨a,b⟩
 have hS:splitS (rw94 w us)=w::((us.map fun u=>u.1)++ex94 w):=by
  rw [Q6,eL,qe w3 fun t ht=>by
   obtain ⟨x,hx,rfl⟩:=List.mem_map.mp ht
   exact (qr (all x hx)).2.2.1]
  congr 1
  rw [List.map_map]
  refine (List.map_congr_left fun x _=>yX x).trans (List.map_id _)
 exact V5 (by decide) hT hS (h1 _ (by rw [mB,hl]) fun t ht=>by
  obtain ⟨u,hu,rfl⟩:=List.mem_map.mp ht
  exact fun z=>(qr (uw u hu)).1 (by rw [z];rfl)) (fun i u x hu hx=>by
   have hi:i<n:=by rw [<-hl];exact (List.getElem?_eq_some_iff.mp hu).1
   exact hw i u x hu (h2 i x hi hx)) (hu ⟨f0,hf0⟩)
noncomputable def row94 (p c:Int):Str×Str:=if c%4=0 then ((sL94 p (tx (ftx (fr91 p (c / 4 / 20)))))[(c / 4%11).toNat]?).getD ("","") else match tab94[(c / 4%12).toNat]? with
 | some e=>(rw94 e.1 (fw94 p e.2.1 c e.2.2.toNat),due94 (fw94 p e.2.1 c e.2.2.toNat))
 | none=>("","")
theorem UD {p:Int} (hp:Pr p) (c:Int):Rf94 p (row94 p c):=by
 unfold row94
 by_cases h:c%4=0
 ·rw [mH h]
  have hl:(sL94 p (tx (ftx (fr91 p (c / 4 / 20))))).length=11:=rfl
  have hi:(c / 4%11).toNat<(sL94 p (tx (ftx (fr91 p (c / 4 / 20))))).length:=by rw [hl];omega
  rw [mD hi]
  exact kT hp (qF hp _) (Jy hp _) _ (List.getElem_mem hi)
 ·rw [mF h]
  have hi:(c / 4%12).toNat<tab94.length:=by show _<12;omega
  rw [mD hi]
  exact UC hp (jO _ (List.getElem_mem hi)) c
def pr94 (u:Str×Str):D:= .tup [.str u.1,.str u.2]
def ke (ds:List D) (d:D):Prop:=∃c j:Int,ds=[.int c,.int j]/\d= .int (mr94 c j)
def Ka (ds:List D) (d:D):Prop:=∃p n:Int,ds=[.int p,.int n]/\Pr p/\d=frD (fr91 p n)
def Kd (ds:List D) (d:D):Prop:=∃(p:Int) (f:Str) (c:Int),ds=[.int p,.str f,.int c]/\Pr p/\d=pr94 (il94 p f c)
def jZ (ds:List D) (d:D):Prop:=∃(p:Int) (f:Str) (c:Int),ds=[.int p,.str f,.int c]/\Pr p/\0<=c/\d=pr94 (wd94 p f c)
def j6 (ds:List D) (d:D):Prop:=∃p c:Int,ds=[.int p,.int c]/\Pr p/\d=pr94 (((sL94 p (tx (ftx (fr91 p (c / 20)))))[(c%11).toNat]?).getD ("",""))
def J8 (ds:List D) (d:D):Prop:=∃p c:Int,ds=[.int p,.int c]/\Pr p/\d=pr94 (row94 p c)
def ZH (y:Str) (d:D):Prop:=∃z,d= .str z/\nm94 y z
def vJ (p s:D) (past ds:List D) (r:RsM):Prop:=∃(x:Str) (rs:RsM),ds=[.str x]/\yC p s past [.str x] rs/\(match rs with
 | .ok d s' past'=>(∃y,d= .str y)/\r= .ok (.tup [.str "",d]) s' past'
 | .ex y=>∃z,nm94 y z/\r= .ok (.tup [.str z,.non]) s past)
theorem VI {l:List (Str×Str)} {N:Int} (hn:(l.length:Int)=N) (h0:0<N) (i:Int):atI (l.map pr94) (i%N)=some (pr94 ((l[(i%N).toNat]?).getD ("",""))):=by
 have a:=Int.emod_nonneg i (show N≠0 by omega)
 have b:=Int.emod_lt_of_pos i h0
 have hi:(i%N).toNat<l.length:=by omega
 rw [zN a (by rw [mB];omega),List.getElem?_map,mD hi]
 rfl
theorem jX {c:Int} {e:Str×Str×Int} (he:tab94[(c / 4%12).toNat]? =some e):atI (tab94.map en3) (c / 4%12)=some (en3 e):=by
 have hl:(tab94.map en3).length=12:=rfl
 rw [zN (by omega) (by rw [hl];omega),List.getElem?_map,he]
 rfl
theorem Zp (p:Int) (f:Str) (c:Int):(il94 p f c).2= "text" ∨(il94 p f c).2= "spot" :=by
 unfold il94
 split
 ·split
  ·exact .inr rfl
  ·exact .inl rfl
 ·exact .inl rfl
theorem km (p:Int) (f:Str) (c:Int):(wd94 p f c).2= "" ∨(wd94 p f c).2= "text" ∨(wd94 p f c).2= "spot" :=by
 unfold wd94
 split
 ·exact .inr (Zp ..)
 ·split
  ·exact .inl rfl
  ·split<;>exact .inl rfl
theorem ki {p:Int} {f:Str} {c:Int} {n:Nat}:∀u∈ws94 p f c n,u.2= "" ∨u.2= "text" ∨u.2= "spot" :=fun u hu=>by
 obtain ⟨j,_,rfl⟩:=List.mem_map.mp hu
 exact km ..
theorem kO {us:List (Str×Str)} (h:∀u∈us,u.2= "" ∨u.2= "text" ∨u.2= "spot"):SeqAt.shaped (toPy (.lst (((fl94 us).map fun u=>u.2).map D.str)))=true:=by
 have k:=vQ ((fl94 us).map fun u=>u.2) fun w hw=>by
  obtain ⟨u,hu,rfl⟩:=List.mem_map.mp hw
  rcases h u (List.mem_filter.mp hu).1 with e | e | e<;>rw [e]<;>exact ⟨by decide+kernel,by decide+kernel⟩
 show (PyData.canLayAll0 (toPys (((fl94 us).map fun u=>u.2).map D.str)) && decide (PyData.depthAll (toPys (((fl94 us).map fun u=>u.2).map D.str))+1<=64))=true
 rw [k.1,decide_eq_true (by omega)]
 rfl
theorem VA (l:List Str):eqD (.lst (l.map D.str)) (.lst [])=decide (l=[]):=by
 cases l with
 | nil=>decide+kernel
 | cons a r=>rfl
theorem JB (us:List (Str×Str)):(us.map fun u=>if u.2=("" :Str) then none else some (D.str u.2)).filterMap id=((fl94 us).map fun u=>u.2).map D.str:=by
 induction us with
 | nil=>rfl
 | cons v r ih=>
  unfold fl94 at ih ⊢
  by_cases h:v.2=("" :Str)
  ·rw [List.map_cons,if_pos h,List.filter_cons_of_neg (by simp [h])]
   exact ih
  ·rw [List.map_cons,if_neg h,List.filter_cons_of_pos (by simp [h])]
   show D.str v.2::_=_
   rw [ih]
   rfl
theorem JA (us:List (Str×Str)):(us.map fun u=>some (pr94 u)).filterMap id=us.map pr94:=by rw [List.filterMap_map];simp
theorem Js {l:List (Str×Str)} {n:Nat} (h:l.length=n) (n1:1<=n) {u:Str×Str}:atI ((l.set (n - 1) u).map pr94) (-1)=some (pr94 u):=by
 have hl:((l.set (n - 1) u).map pr94).length=n:=by rw [mB,List.length_set,h]
 unfold atI ixN
 rw [mF (by decide),mH (by omega),hl,show ((-1:Int)+(n:Int)).toNat=n - 1 by omega]
 show ((l.set (n - 1) u).map pr94)[n - 1]? =_
 rw [List.getElem?_map,List.getElem?_set_self (by omega)]
 rfl
theorem WP {us:List (Str×Str)} {n:Nat} {u:Str×Str} (h:fl94 us=[]) (hn:n<us.length) (hu:u.2≠("" :Str)):due94 (us.set n u)=u.2:=by
 have a:∀v∈us,v.2=("" :Str):=fun v hv=>by
  have z:=List.filter_eq_nil_iff.mp h v hv
  simpa using z
 obtain ⟨m,v,h1,h2,h3,_⟩:=uW (us:=us.set n u) ⟨u,List.mem_iff_getElem?.mpr ⟨n,by rw [List.getElem?_set_self hn]⟩,hu⟩
 by_cases e:n=m
 ·subst e
  rw [List.getElem?_set_self hn] at h1
  cases h1
  exact h3.symm
 ·rw [mG e] at h1
  exact absurd (a v (mz h1)) h2
theorem jh {w:Str} {us:List (Str×Str)} (h0:w.cps.toList.length<=200) (h:∀u∈us,u.1.cps.toList.length<=200):(jn94 w us).length<=201*(us.length+1):=by
 have e:jn94 w us=tx (jnL (w.cps.toList::us.map fun u=>u.1.cps.toList)):=by
  unfold jn94
  rw [<-wA,List.map_cons,yX,List.map_map]
  congr 2
 rw [e,yN]
 have:=uN (ws:=w.cps.toList::us.map fun u=>u.1.cps.toList) fun x hx=>by
  rcases List.mem_cons.mp hx with rfl | hx
  ·exact h0
  ·obtain ⟨u,hu,rfl⟩:=List.mem_map.mp hx;exact h u hu
 rw [List.length_cons,mB] at this
 exact this
theorem tx300_94:txD (stD (300,0))=("300:0" :Str)/\txD (stD (0,0))=("0:0" :Str):=by
 constructor
 ·rw [X9];decide+kernel
 ·rw [X9];decide+kernel
theorem b0_94:B60 0:=by constructor<;>decide+kernel
theorem xbn {p:Int} (hp:Pr p):vJ (.int p) (stD (0,0)) [] [.str "go 300:0"] (.ok (.tup [.str "",.str "300:0"]) (stD (300,0)) [stD (0,0)]):=by
 refine ⟨"go 300:0",.ok (.str "300:0") (stD (300,0)) [stD (0,0)],rfl,⟨p,"go 300:0","go",["300:0"],["SPOT"],rfl,rfl,⟨by decide+kernel,by decide+kernel⟩,by decide,by decide+kernel,by decide+kernel,.inr ⟨[stD (300,0)],rfl,?_,.inr (.inl ⟨by decide,"gone",.ok (stD (300,0)),zZ (by decide+kernel),.inl ⟨rfl,_,⟨_,_,_,rfl⟩,rfl⟩,.inl ⟨_,rfl,⟨300,0,rfl,by decide,b0_94.up⟩,by rw [tx300_94.1];rfl⟩⟩)⟩⟩,⟨_,rfl⟩,rfl⟩
 intro i f t d h1 h2 h3
 rcases i with _ | i
 ·cases h1;cases h2;cases h3
  refine ⟨p,"SPOT","300:0",rfl,.inl ⟨rfl,?_⟩⟩
  rw [show ("300:0" :Str)=tx (stx 300 0) by decide+kernel]
  have hs:isSp p 300 0=true:=wN hp (by decide+kernel) (zT hp 300) ⟨0,by rw [Int.pow_zero];rfl⟩
  exact ⟨p,_,rfl,hp,by rw [xr];exact ZX (by decide+kernel) b0_94.up,by rw [xr,XB hp (by decide) hs b0_94]⟩
 ·cases h1
theorem xa0 {p:Int}:vJ (.int p) (stD (300,0)) [stD (0,0)] [.str "undo"] (.ok (.tup [.str "",.str "0:0"]) (stD (0,0)) []):=
 ⟨"undo",.ok (.str "0:0") (stD (0,0)) [],rfl,⟨p,"undo","undo",[],[],rfl,rfl,⟨by decide+kernel,by decide+kernel⟩,by decide,Yd,Zv,.inr ⟨[],rfl,(fun i f t d h=>by cases h),.inl ⟨rfl,rfl,(show ShL [stD (0,0)] by unfold ShL;decide+kernel),.inr ⟨stD (0,0),[],rfl,⟨0,0,rfl,by decide,b0_94.up⟩,by rw [tx300_94.2]⟩⟩⟩⟩,⟨_,rfl⟩,rfl⟩
theorem xa6 {p:Int} {u:Str×Str} (h:Rf94 p u):vJ (.int p) (stD (300,0)) [stD (0,0)] [.str u.1] (.ok (.tup [.str u.2,.non]) (stD (300,0)) [stD (0,0)])/\SeqAt.shaped (toPy (.tup [.str u.2,.non]))=true/\eqD (.tup [.str u.2,.non]) (.tup [.str u.2,.non])=true:=by
 obtain ⟨cls,h1,h2⟩:=h
 obtain ⟨x,z⟩:=u
 refine ⟨⟨_,.ex cls,rfl,h1,z,h2,rfl⟩,?_⟩
 rcases h2 with ⟨_,e⟩ | ⟨_,e⟩ | ⟨_,e⟩ | ⟨_,e⟩ | ⟨_,e⟩ | ⟨_,e⟩ | ⟨_,e⟩<;>(have e:z=_:=e;subst e;exact ⟨by dsimp only;decide+kernel,by dsimp only;decide+kernel⟩)
def top (i:Nat):Stmt:=PySem.Challenge.pw_primetree_k94_words_refused.main.body.getD i (.Pass ⟨0,0,0,0⟩)
abbrev vS:Stmt:=mth (top 12) 0
abbrev uf:Stmt:=mth (top 131) 0
abbrev Yf:Stmt:=mth (top 131) 1
abbrev uc:Stmt:=mth (top 131) 2
abbrev vR:Stmt:=mth (top 131) 3
abbrev Yg:Stmt:=mth (top 131) 4
abbrev ua:Stmt:=mth (top 131) 5
abbrev zR:Stmt:=mth (top 74) 0
noncomputable def dl:List (Str×Stmt):=("is_whole",top 14)::("shared",top 15)::("power_of",top 16)::("raised",top 17)::("over_by",top 18)::("over_by_prime",top 19)::("is_fraction",top 24)::("plus",top 25)::("minus",top 26)::("times",top 27)::("over",top 28)::("power_in",top 29)::("prime_power",top 30)::("rest_by",top 32)::("table_of",top 34)::("measure",top 35)::("trace",top 36)::("product",top 37)::("row_by_column",top 38)::("turned_over",top 39)::("stretched",top 40)::("is_spot",top 43)::("spot_of",top 44)::("table_at",top 45)::("spot_above",top 46)::("least_power",top 47)::("two_numbers",top 48)::("lies_in",top 49)::("way",top 50)::("fraction_text",top 58)::("whole_text",top 59)::("spot_text",top 60)::("is_figures",top 61)::("read_figures",top 62)::("read_whole",top 63)::("read_fraction",top 64)::("read_spot",top 65)::("read_end",top 66)::("moved",top 71)::("figures",top 79)::("road",top 82)::("turn_between",top 84)::("spot_along",top 85)::("within",top 90)::("is_over_most",top 91)::("kind",top 97)::("slide",top 98)::("check_unlike",top 100)::("nearest",top 101)::("form_of",top 108)::("is_number_to",top 109)::("read_word",top 110)::("table_from",top 111)::("gone",top 112)::("moved_by",top 113)::("scaled",top 114)::("spots_text",top 117)::("road_text",top 119)::("near_text",top 123)::("within_text",top 124)::("kind_text",top 125)::("numbers_text",top 126)::("figures_text",top 127)::("_law_cell",top 133)::("_law_more",top 134)::("_law_low",top 135)::("_law_power",top 136)::("_law_spot",top 138)::("_law_fraction_text",top 139)::("_law_spot_text",top 140)::("_law_fraction",top 142)::("_law_refusal",top 144)::("_law_said",top 145)::("_law_ill",top 146)::("_law_word",top 147)::("_law_special",top 148)::("_law_row",top 149)::("law",top 150)::[]
structure Mo (T:Tx):Prop where
 A:∀{i:Nat} {x:Str} {st:Stmt},dl[i]? =some (x,st)->At T x st
 nd:ndK T.K=true
 gb:T.mg "isinstance" =none
 gG:T.mg "int" =none
 md:T.mg "bool" =none
 g8:T.mg "abs" =none
 gh:T.mg "tuple" =none
 gk:T.mg "len" =none
 hZ:T.mg "min" =none
 gv:T.mg "str" =none
 g5:T.mg "reversed" =none
 mt:T.mg "all" =none
 gJ:T.mg "range" =none
 my:T.mg "list" =none
 ma:T.mg "max" =none
 g6:T.mg "ValueError" =none
 hG:AtV T "fraction" (top 23) 1
 gF:∃C,T.mg "Desk" =some (.ref C)
 gg:∀C,T.mg "Desk" =some (.ref C)->DskK T.K C
 me:∃C f fd,T.mg "Desk" =some (.ref C)/\Mk T.K C f/\Fun T.K "__init__" "Desk.__init__" uf f fd
 mn:∃C f fd,T.mg "Desk" =some (.ref C)/\Meth T.K C "say" f/\Fun T.K "say" "Desk.say" Yf f fd
 mf:∃C f fd,T.mg "Desk" =some (.ref C)/\Meth T.K C "lies" f/\Fun T.K "lies" "Desk.lies" uc f fd
 hW:∃C f fd,T.mg "Desk" =some (.ref C)/\Meth T.K C "steps" f/\Fun T.K "steps" "Desk.steps" vR f fd
 mq:∃C f fd,T.mg "Desk" =some (.ref C)/\Meth T.K C "lay" f/\Fun T.K "lay" "Desk.lay" Yg f fd
 mh:∃C f fd,T.mg "Desk" =some (.ref C)/\Meth T.K C "undo" f/\Fun T.K "undo" "Desk.undo" ua f fd
 mv:∀C,T.mg "Scale" =some (.ref C)->Cls T.K C/\NoAttr T.K C "number"
 g7:∃C f fd,T.mg "Scale" =some (.ref C)/\Mk T.K C f/\Fun T.K "__init__" "Scale.__init__" zR f fd
 hJ:DicV T "FORMS" [("go",.s "SPOT"),("move",.s "A B C D"),("scale",.s "F"),("shift",.s "F"),("flip",.s ""),("undo",.s ""),("ties",.s ""),("road",.s "SPOT"),("towards",.s "END STEPS"),("way",.s "SPOT"),("meet",.s "SPOT SPOT"),("near",.s "END END"),("within",.s "REACH"),("kind",.s "A B C D"),("numbers",.s "A B C D"),("figures",.s "F")]
 gR:DicV T "MOST" [("STEPS",.i 300),("REACH",.i 7)]
 gX:DicV T "CHANGES" [("go",.f "gone"),("move",.f "moved_by"),("scale",.f "scaled"),("shift",.f "shifted"),("flip",.f "flipped")]
 g9:DicV T "QUESTIONS" [("ties",.f "ties_text"),("road",.f "road_text"),("towards",.f "towards_text"),("way",.f "way_text"),("meet",.f "meet_text"),("near",.f "near_text"),("within",.f "within_text"),("kind",.f "kind_text"),("numbers",.f "numbers_text"),("figures",.f "figures_text")]
 gE:∃C,T.mg "TreeError" =some (.ref C)
 gS:∃C,T.mg "NoPrime" =some (.ref C)
 gw:∃C,T.mg "NoFraction" =some (.ref C)
 gM:∃C,T.mg "NoText" =some (.ref C)
 gN:∃C,T.mg "NoSpot" =some (.ref C)
 gK:∃C,T.mg "NoTable" =some (.ref C)
 gL:∃C,T.mg "TooMany" =some (.ref C)
 gO:∃C,T.mg "NoLine" =some (.ref C)
 gU:∃C,T.mg "NoRow" =some (.ref C)
 gr:∃C,T.mg "NothingDone" =some (.ref C)
 gP:∃C,T.mg "TooFar" =some (.ref C)
 mi:∃C D fI fd,T.mg "TooFar" =some (.ref C)/\T.mg "TreeError" =some (.ref D)/\FarK T.K C D fI/\W.keepIn T.K (.ref C)=true/\Fun T.K "__init__" "TooFar.__init__" vS fI fd
 gm:ClsX T "NoFraction"
 gA:ClsX T "NoTable"
 gC:ClsX T "NoText"
 gH:ClsX T "NoSpot"
 gB:ClsX T "TooMany"
 gI:ClsX T "NoLine"
 gQ:ClsX T "NoRow"
 gn:ClsX T "NothingDone"
 tb:TabN T "TreeError" ["NoPrime","NoFraction","NoText","NoSpot","NoTable","TooMany","NoLine","NoRow","NothingDone","TooFar"] [1,4,2,3,5,6,7,8,9]
 gZ:CstP T "FIRST" 0 0 1
 gq:CstT T "NOUGHT" [0,1]
 mr:CstT T "ONE" [1,1]
 ms:CstS T "FAR" "far"
 hX:CstS T "FIGURES" "0123456789"
 gy:CstI T "MOST_FIGURES" 60
 gD:CstI T "MOST_FIRST_FIGURES" 3
 gV:CstI T "FURTHEST_FIRST" 300
 gY:CstI T "PIECE_FIGURES" 1000
 gT:CstI T "MOST_BOTTOM" 300
 g4:CstI T "FURTHEST_WAY" 500
 gW:CstI T "MOST_SPOTS" 400
 mw:CstS T "KEEPS" "keeps"
 mx:CstS T "TURNS" "turns"
 mj:CstS T "SLIDES" "slides"
 gz:CstI T "MOST_NUMBER_FIGURES" 3
theorem kR:ScB ["self","far"] ["self","far"] ["TreeError"] (defScope vS):=⟨⟨rfl,rfl,rfl,by decide+kernel,rfl,by decide+kernel,by decide+kernel⟩,by decide+kernel,by decide+kernel⟩
theorem kr (n:Int) (h:n.natAbs<=1000):(Str.ofString (toString n)).length<=100:=by
 have a:∀k:Fin 1001,(Str.ofString (toString (Int.ofNat k.val))).length<=100:=by decide+kernel
 have b:∀k:Fin 1000,(Str.ofString (toString (Int.negSucc k.val))).length<=100:=by decide+kernel
 cases n with
 | ofNat k=>exact a ⟨k,by show k<1001;have h:k<=1000:=h;omega⟩
 | negSucc k=>exact b ⟨k,by have h:k+1<=1000:=h;omega⟩
theorem Jl {T:Tx} (M:Mo T):∃C D fI fd,T.mg "TooFar" =some (.ref C)/\FarK T.K C D fI/\W.keepIn T.K (.ref C)=true/\Binds T.K fd ["self","far"] []/\FnOk T.prog T.w T.K T.mg T.base CX0 1 fI fd ["self","far"] (spI C 1000):=by
 obtain ⟨C,D,fI,fd,h1,h2,Z,hk,F⟩:=M.mi
 refine ⟨C,D,fI,fd,h1,Z,hk,F.binds fun _ _ _ _ _ _ us hl=>match us,hl with | [_,_],_=>rfl,Jz F kR fun Y S n hn=>?_⟩
 have hl:=kr n hn
 have e1:(Str.empty++Str.ofString "too far: ").length=9:=by decide+kernel
 have e2:((Str.empty++Str.ofString "too far: ")++Str.ofString (toString n)).length=9+(Str.ofString (toString n)).length:=by rw [PySem.Str.length_append,e1]
 exact k7 S 0 Z h2 (XO (yi xk (by rw [e1];decide) (yi (qT (xb S.toSe 1) (Nat.lt_of_le_of_lt (Nat.log2_le_self _) (by omega))) (by rw [e2];omega) v4)) (by rw [e2];omega)) rfl
theorem qp {T:Tx} (M:Mo T):FnD T 1 "is_whole" xbB:=by
 refine x9 (M.A (i:=0) rfl) (by walk_at "S" :ScB ["thing"] ["thing"] ["isinstance","int","bool"] _) (by walk_at "1") (by rintro _ _ ⟨a,rfl,rfl⟩;rfl) fun Y S Z ds d h=>?_
 have Se:=S.toSe
 obtain ⟨x,rfl,rfl⟩:=h
 cases x with
 | int i=>exact xi (z5 (xY Se 0 1 (xb Se 0) (b:=true) rfl M.gb M.gG qw) fun _=>YI (jA (xY Se 0 2 (xb Se 0) (b:=false) rfl M.gb M.md VH))) rfl
 | bl i=>exact xi (z5 (xY Se 0 1 (xb Se 0) (b:=true) rfl M.gb M.gG qw) fun _=>YI (jA (xY Se 0 2 (xb Se 0) (b:=true) rfl M.gb M.md VH))) rfl
 | non=>exact xi (z5 (d:= .non) (xY Se 0 1 (xb Se 0) (b:=false) rfl M.gb M.gG qw) fun h=>nomatch h) rfl
 | str i=>exact xi (z5 (d:= .non) (xY Se 0 1 (xb Se 0) (b:=false) rfl M.gb M.gG qw) fun h=>nomatch h) rfl
 | tup i=>exact xi (z5 (d:= .non) (xY Se 0 1 (xb Se 0) (b:=false) rfl M.gb M.gG qw) fun h=>nomatch h) rfl
 | lst i=>exact xi (z5 (d:= .non) (xY Se 0 1 (xb Se 0) (b:=false) rfl M.gb M.gG qw) fun h=>nomatch h) rfl
theorem vW {T:Tx} (M:Mo T):FnD T 1 "shared" j7:=by
 refine x9 (M.A (i:=1) rfl) (by walk_at "S" :ScB ["one","other","left"] ["one","other"] ["abs"] _) (by walk_at "2") (by rintro _ _ ⟨a,b,rfl,rfl⟩;rfl) fun Y S Z ds d h=>?_
 have Se:=S.toSe
 obtain ⟨a,b,rfl,rfl⟩:=h
 refine zo S (fun c=>∃x y z,c=[.val (.int x),.val (.int y),z]/\Int.gcd x y=Int.gcd a b) (fun c=>match c with | [_,.val (.int y),_]=>y.natAbs | _=>0) ⟨a,b,_,rfl,rfl⟩ ?_
 rintro _ ⟨x,y,z,rfl,hg⟩
 refine ⟨_,yY (xb Se 1) xf,fun h=>?_,fun h=>?_⟩
 ·have h0:y≠0:=by simpa using h
  refine xl S 2 (jB (xb Se 0) (xb Se 1) h0) ?_
  refine xl S 0 (xb Se 1) ?_
  refine xl S 1 (xb Se 2) ?_
  refine xn ⟨⟨y,x.fmod y,_,rfl,?_⟩,?_⟩
  ·rw [Zr];exact hg
  ·exact uV x h0
 ·have h0:y=0:=by simpa using h
  refine xi (u3 Se 0 (xa (xb Se 0) xc) M.g8) ?_
  subst h0
  rw [Int.gcd_zero_right] at hg
  show D.int _=D.int _
  rw [hg]
theorem zA {T:Tx} (M:Mo T):FnD T 1 "power_of" QS:=by
 refine x9 (M.A (i:=2) rfl) (by walk_at "S" :ScB ["p","n","power"] ["p","n"] [] _) (by walk_at "2") (by rintro _ _ ⟨a,b,rfl,_,rfl⟩;rfl) fun Y S Z ds d h=>?_
 have Se:=S.toSe
 obtain ⟨p,n,rfl,hp,rfl⟩:=h
 have p2:=hp.two_le
 refine xp (yp (xb Se 1) xf) (fun h=>?_) (fun h=>xn ?_)
 ·refine xi YJ ?_
  show D.non=_
  rw [if_pos (by simpa using h)]
 have h0:¬n=0:=by simpa using h
 rw [mF h0]
 refine xl S 2 xf ?_
 refine zo S (fun c=>∃m w:Int,c=[.val (.int p),.val (.int m),.val (.int w)]/\m≠0/\(vp p n:Int)=w+(vp p m:Int)) (fun c=>match c with | [_,.val (.int m),_]=>m.natAbs | _=>0) ⟨n,0,rfl,h0,by omega⟩ ?_
 rintro _ ⟨m,w,rfl,hm,hv⟩
 refine ⟨_,yp (xz (xb Se 1) (xb Se 0) (by omega)) xf,fun h=>?_,fun h=>?_⟩
 ·have h1:m%p=0:=by simpa using h
  have f:=XS p2.1 hm h1
  have s:=wF p2.1 hm h1
  refine xl S 1 (xD (xb Se 1) (xb Se 0) (by omega) (Bd.of 8 (by omega) (by omega) (by decide+kernel))) ?_
  refine xl S 2 (x8 (xb Se 2) xf) ?_
  exact xn ⟨⟨m / p,w+1,rfl,f.2.1,by omega⟩,f.2.2⟩
 ·have h1:¬m%p=0:=by simpa using h
  have s:=wE h1
  refine xi (xb Se 2) ?_
  show D.int _=D.int _
  congr 1
  omega
theorem yP {T:Tx} (M:Mo T):FnD T 1 "raised" WY:=by
 refine x9 (M.A (i:=3) rfl) (by walk_at "S" :ScB ["p","k","product","square"] ["p","k"] [] _) (by walk_at "2") (by rintro _ _ ⟨a,b,rfl,_,_,rfl⟩;rfl) fun Y S Z ds d h=>?_
 have Se:=S.toSe
 obtain ⟨p,k,rfl,hp,hk,rfl⟩:=h
 have p2:=Pr8.le hp
 refine xl S 2 xf ?_
 refine xl S 3 (xb Se 0) ?_
 refine zo S (fun c=>∃k' x y:Int,c=[.val (.int p),.val (.int k'),.val (.int x),.val (.int y)]/\k'<=k/\1<=x/\1<=y/\x*y^k'.toNat=p^k.toNat) (fun c=>match c with | [_,.val (.int y),_,_]=>y.toNat | _=>0) ⟨_,_,_,rfl,Int.le_refl _,by decide,by omega,by rw [Int.one_mul]⟩ ?_
 rintro _ ⟨k',x,y,rfl,hk',hx,hy,he⟩
 refine ⟨_,wq (xb Se 1) xf,fun h=>?_,fun h=>?_⟩
 ·have h0:0<k':=by simpa using h
  have ok:=KO hp hx hy (show 1<=k'.toNat by omega) (by omega) he
  have xy:=zY hx hy
  have yy:=zY hy hy
  refine ZZ S 2 (yp (xz (xb Se 1) xf (by decide)) xf) (fun _=>xB (xb Se 2) (xb Se 3) ok.1) ?_
  refine xl S 3 (xB (xb Se 3) (xb Se 3) ok.2) ?_
  refine xl S 1 (xD (xb Se 1) xf (by decide) (by decide+kernel)) ?_
  refine xn ⟨⟨k' / 2,_,y*y,rfl,by omega,?_,by omega,?_⟩,?_⟩
  ·split<;>omega
  ·have e:=kL he
   have e1:(k' / 2).toNat=k'.toNat / 2:=by omega
   rw [e1,<-e]
   by_cases h2:k'%2=1
   ·rw [if_pos (by simpa using h2),if_pos (show k'.toNat%2=1 by omega)]
   ·rw [if_neg (by simpa using h2),if_neg (show ¬k'.toNat%2=1 by omega)]
  ·show (k' / 2).toNat<k'.toNat
   omega
 ·have h0:k'.toNat=0:=by
   have:¬0<k':=by simpa using h
   omega
  refine xi (xb Se 2) ?_
  rw [h0,Int.pow_zero,Int.mul_one] at he
  show D.int _=D.int _
  rw [he]
theorem xaf {T:Tx} (M:Mo T):FnD T 1 "over_by_prime" xbA:=by
 refine x9 (M.A (i:=5) rfl) (by walk_at "S" :ScB ["p","n","answer"] ["p","n"] [] _) (by walk_at "2") (by rintro _ _ ⟨a,b,rfl,_,_,_,rfl⟩;rfl) fun Y S Z ds d h=>?_
 have Se:=S.toSe
 obtain ⟨p,n,rfl,hp,hn,hb,rfl⟩:=h
 have p2:=hp.two_le
 refine xl S 2 xf ?_
 refine zo S (fun c=>∃a:Int,c=[.val (.int p),.val (.int n),.val (.int a)]/\1<=a/\a<=p - 1/\∀b,1<=b->b<a->n*b%p≠1) (fun c=>match c with | [_,_,.val (.int y)]=>(p - y).toNat | _=>0) ⟨1,rfl,by omega,by omega,fun b h1 h2=>by omega⟩ ?_
 rintro _ ⟨a,rfl,a1,a2,hs⟩
 refine ⟨_,(qc (wn (xb Se 2) (yQ (xb Se 0) xf)) fun _=>qz (yY (xz (xB (xb Se 1) (xb Se 2) (mulOk hb (Bd.of (n:=3) 8 (by omega) (by omega) (by decide)) (by decide))) (xb Se 0) (by omega)) xf)).pt,fun h=>?_,fun h=>?_⟩
 ·have h':a<p - 1/\¬n*a%p=1:=by simpa using h
  refine xl S 2 (x8 (xb Se 2) xf) ?_
  refine xn ⟨⟨a+1,rfl,by omega,by omega,fun b h1 h2=>?_⟩,?_⟩
  ·by_cases e:b=a
   ·rw [e];exact h'.2
   ·exact hs b h1 (by omega)
  ·show (p - (a+1)).toNat<(p - a).toNat
   omega
 ·have h':¬a<p - 1∨n*a%p=1:=by
   by_cases z:a<p - 1
   ·right
    simpa [z] using h
   ·exact .inl z
  have e:=Wx hp hn a1 a2 hs h'
  refine xi (xb Se 2) ?_
  show D.int _=D.int _
  congr 1
  refine vV (k:=1) ⟨by omega,by rw [Int.pow_one];omega,?_⟩ (zm hp hn 1)
  rw [Int.pow_one]
  have:=Int.emod_add_mul_ediv (n*a) p
  exact ⟨n*a / p,by omega⟩
theorem Ze {T:Tx} (M:Mo T):FnD T 2 "over_by" W0:=by
 refine x9 (M.A (i:=4) rfl) (by walk_at "S" :ScB ["p","n","k","modulus","answer","settled"] ["p","n","k"] ["raised","over_by_prime"] _) (by walk_at "3") (by rintro _ _ ⟨a,b,c,rfl,_,_,_,_,_,rfl⟩;rfl) fun Y S Z ds d h=>?_
 have Se:=S.toSe
 obtain ⟨p,n,k,rfl,hp,hn,k0,k1,hb,rfl⟩:=h
 have p2:=hp.two_le
 refine xp (yp (xb Se 2) xf) (fun h=>?_) (fun h=>xn ?_)
 ·have h0:k=0:=by simpa using h
  refine xi xf ?_
  subst h0
  show D.int _=D.int _
  congr 1
  exact vV (k:=0) ⟨by omega,by rw [Int.pow_zero];omega,by rw [Int.pow_zero];exact Int.one_dvd _⟩ (zm hp hn 0)
 have h0:¬k=0:=by simpa using h
 have pp:=yg hp k.toNat
 have pb:=ul hp k.toNat
 refine xl S 3 (xg Se 0 (yP M) (by decide) (xa (xb Se 0) (xa (xb Se 2) xc)) ⟨p,k,rfl,.inl hp,k1,rfl⟩) ?_
 refine xl S 4 (xg Se 1 (xaf M) (by decide) (xa (xb Se 0) (xa (xb Se 1) xc)) ⟨p,n,rfl,hp,hn,hb,rfl⟩) ?_
 refine xl S 5 xf ?_
 have i1:=zm hp hn 1
 refine zo S (fun c=>∃a s:Int,c=[.val (.int p),.val (.int n),.val (.int k),.val (.int (p^k.toNat)),.val (.int a),.val (.int s)]/\0<=a/\a<p^k.toNat/\1<=s/\p^(min s.toNat k.toNat)∣n*a - 1) (fun c=>match c with | [_,_,_,_,_,.val (.int s)]=>(k - s).toNat | _=>0) ⟨_,1,rfl,i1.1,?_,by omega,?_⟩ ?_
 ·have:=i1.2.1
  have q:=zC (show 1<=p by omega) (show 1<=k.toNat by omega)
  rw [Int.pow_one] at this
  omega
 ·rw [show min (1:Int).toNat k.toNat=1 by omega]
  exact i1.2.2
 rintro _ ⟨a,s,rfl,a0,a1,s1,hd⟩
 refine ⟨_,wn (xb Se 5) (xb Se 2),fun h=>?_,fun h=>?_⟩
 ·have h':s<k:=by simpa using h
  have ba:Bd (3*k.toNat+1) a:=Bd.of_le a0 (by omega) pb
  have bn:=hb.mul ba
  have b2:=Bd.sub (n:=1000000+(3*k.toNat+1)) (show Bd 2 2 by decide) bn
  refine xl S 4 (xz (xB (xb Se 4) (yQ xf (xB (xb Se 1) (xb Se 4) (mulOk hb ba (by omega)))) (mulOk ba b2 (by omega))) (xb Se 3) pp) ?_
  refine xl S 5 (xB xf (xb Se 5) (.of_left (intBits_le_64 (by decide) (by decide)))) ?_
  refine xn ⟨⟨_,2*s,rfl,Int.emod_nonneg _ (by omega),Int.emod_lt_of_pos _ pp,by omega,?_⟩,?_⟩
  ·have e:=newton hd
   rw [show (2*s).toNat=2*s.toNat by omega]
   exact e
  ·show (k - 2*s).toNat<(k - s).toNat
   omega
 ·have h':¬s<k:=by simpa using h
  refine xi (xb Se 4) ?_
  show D.int _=D.int _
  congr 1
  rw [show min s.toNat k.toNat=k.toNat by omega] at hd
  exact vV ⟨a0,a1,hd⟩ (zm hp hn _)
abbrev zS:Stmt:=top 23
theorem Y1:ScB ["top","bottom","factor"] ["top","bottom"] ["shared","NoFraction"] (defScope zS):=by walk_at "S"
theorem vk {T:Tx} (M:Mo T):FnX T 2 "fraction" qy/\FnXd T 2 "fraction" 1 qy:=by
 refine xbp M.hG Y1 (fun Td kV doc pm an cdv ct tk o n lt hs=>⟨fun s us X hl=>match us,(show us.length=2 by simpa using hl) with | [_,_],_=>W.binds_K X rfl lt hs rfl rfl,fun s us X hl=>match us,(show us.length=1 by simpa using hl) with | [_],_=>W.binds_K X rfl lt hs rfl rfl⟩) (by rintro _ _ ⟨a,b,rfl,_⟩;rfl) fun Y S Z ds r h hz=>?_
 have Se:=S.toSe
 obtain ⟨t,b,rfl,h⟩:=h
 rcases h with ⟨hb,bb,rfl⟩ | ⟨hb,rfl⟩
 ·refine xp (yp (xb Se 1) xf) (fun h=>absurd (by simpa using h) hb) (fun _=>xn ?_)
  refine xl S 2 (xg Se 0 (vW M) (by decide) (xa (xb Se 0) (xa (xb Se 1) xc)) ⟨_,_,rfl,rfl⟩) ?_
  refine ZZ S 2 (wn (xb Se 1) xf) (fun _=>wc (xb Se 2)) ?_
  have q:=jc (t:=t) hb bb
  have l:=vx t hb
  have e:(if decide (b<0)=true then -(Int.gcd t b:Int) else (Int.gcd t b:Int))=(if b<0 then -(Int.gcd t b:Int) else (Int.gcd t b:Int)):=by simp
  rw [e]
  refine xi (xu (xa (vC (xb Se 0) (xb Se 2) q.1 q.2) (xa (vC (xb Se 1) (xb Se 2) q.1 q.2) xc))) ?_
  show D.tup _=D.tup _
  rw [l.1,l.2]
 ·refine xp (yp (xb Se 1) xf) (fun _=>?_) (fun h=>absurd hb (by simpa using h))
  exact yD S 1 M.gm (xa xk xc) (hz _ rfl _).2
theorem zU {T:Tx} (M:Mo T):FnX T 2 "fraction" qy:=(vk M).1
theorem zB {T:Tx} (M:Mo T):FnD T 2 "fraction" kf:=(zU M).toD fun ds d h=>by
 obtain ⟨t,b,rfl,hb,bb,rfl⟩:=h;exact ⟨t,b,rfl,.inl ⟨hb,bb,rfl⟩⟩
theorem Yr {T:Tx} (M:Mo T):FnDd T 2 "fraction" 1 kf:=(vk M).2.toD fun ds d h=>by
 obtain ⟨t,b,rfl,hb,bb,rfl⟩:=h;exact ⟨t,b,rfl,.inl ⟨hb,bb,rfl⟩⟩
theorem uG {T:Tx} (M:Mo T):FnD T 2 "is_fraction" xbE:=by
 refine x9 (M.A (i:=6) rfl) (by walk_at "S" :ScB ["thing"] ["thing"] ["isinstance","tuple","len","is_whole","shared"] _) (by walk_at "1") (by rintro _ _ ⟨_,rfl,_⟩;rfl) fun Y S Z ds d h=>?_
 have Se:=S.toSe
 obtain ⟨x,rfl,rfl⟩:=h
 cases x with
 | non=>exact xp (yu (w:=true) (xU (xR (xY Se 0 1 (xb Se 0) (b:=false) rfl M.gb M.gh xX))) (fun h=>nomatch h)).pt (fun _=>xi yB rfl) (fun h=>nomatch h)
 | bl i=>exact xp (yu (w:=true) (xU (xR (xY Se 0 1 (xb Se 0) (b:=false) rfl M.gb M.gh xX))) (fun h=>nomatch h)).pt (fun _=>xi yB rfl) (fun h=>nomatch h)
 | int i=>exact xp (yu (w:=true) (xU (xR (xY Se 0 1 (xb Se 0) (b:=false) rfl M.gb M.gh xX))) (fun h=>nomatch h)).pt (fun _=>xi yB rfl) (fun h=>nomatch h)
 | str i=>exact xp (yu (w:=true) (xU (xR (xY Se 0 1 (xb Se 0) (b:=false) rfl M.gb M.gh xX))) (fun h=>nomatch h)).pt (fun _=>xi yB rfl) (fun h=>nomatch h)
 | lst i=>exact xp (yu (w:=true) (xU (xR (xY Se 0 1 (xb Se 0) (b:=false) rfl M.gb M.gh xX))) (fun h=>nomatch h)).pt (fun _=>xi yB rfl) (fun h=>nomatch h)
 | tup ds=>
  match ds with
  | []=>exact xp (yu (xU (xR (xY Se 0 1 (xb Se 0) (b:=true) rfl M.gb M.gh xX))) fun _=>yO (yY (yr Se 2 (xa (xb Se 0) xc) rfl M.gk) xf)).pt (fun _=>xi yB rfl) (fun h=>absurd h (by decide))
  | [a]=>exact xp (yu (xU (xR (xY Se 0 1 (xb Se 0) (b:=true) rfl M.gb M.gh xX))) fun _=>yO (yY (yr Se 2 (xa (xb Se 0) xc) rfl M.gk) xf)).pt (fun _=>xi yB (by show D.bl false=D.bl _;rw [xbm])) (fun h=>absurd h (by simp))
  | a::b::e::r=>
   refine xp (yu (xU (xR (xY Se 0 1 (xb Se 0) (b:=true) rfl M.gb M.gh xX))) fun _=>yO (yY (yr Se 2 (xa (xb Se 0) xc) rfl M.gk) xf)).pt (fun _=>xi yB (by show D.bl false=D.bl _;rw [xbl])) (fun h=>absurd h ?_)
   have:¬(((a::b::e::r).length:Nat):Int)=2:=by simp only [List.length_cons];omega
   simp [this]
   omega
  | [a,b]=>
   refine xp (yu (xU (xR (xY Se 0 1 (xb Se 0) (b:=true) rfl M.gb M.gh xX))) fun _=>yO (yY (yr Se 2 (xa (xb Se 0) xc) rfl M.gk) xf)).pt (fun h=>absurd h (by simp)) (fun _=>xn ?_)
   refine xp (yu (xU (xR (xg Se 3 (qp M) (by decide) (xa (xj (xb Se 0) xf (d:=a) rfl) xc) ⟨a,rfl,rfl⟩))) fun _=>yO (xU (xR (xg Se 3 (qp M) (by decide) (xa (xj (xb Se 0) xf (d:=b) rfl) xc) ⟨b,rfl,rfl⟩)))).pt (fun h=>?_) (fun h=>xn ?_)
   ·refine xi yB ?_
    show D.bl false=D.bl _
    rw [xbk h]
   ·obtain ⟨h1,h2⟩:=Bool.or_eq_false_iff.mp h
    obtain ⟨i,rfl⟩:=QA (show isW a=true by simpa using h1)
    obtain ⟨j,rfl⟩:=QA (show isW b=true by simpa using h2)
    refine xi (z5 (xbt (xj (xb Se 0) xf rfl) xf) fun _=>YI (jG (xg Se 4 (vW M) (by decide) (xa (xj (xb Se 0) xf rfl) (xa (xj (xb Se 0) xf rfl) xc)) ⟨i,j,rfl,rfl⟩) xf)) ?_
    show (if decide ((1:Int)<=j)=true then D.bl (decide ((Int.gcd i j:Int)=1)) else D.bl false)=D.bl (decide (1<=j) && decide ((Int.gcd i j:Int)=1))
    by_cases q:(1:Int)<=j
    ·rw [decide_eq_true q];rfl
    ·rw [decide_eq_false q];rfl
theorem Vl {T:Tx} (M:Mo T):FnD T 3 "plus" xaW:=by
 refine x9 (M.A (i:=7) rfl) (by walk_at "S" :ScB ["a","b"] ["a","b"] ["fraction"] _) (by walk_at "2") (by rintro _ _ ⟨a,b,rfl,_,_,rfl⟩;rfl) fun Y S Z ds d h=>?_
 have Se:=S.toSe
 obtain ⟨a,b,rfl,ha,hb,rfl⟩:=h
 rw [<-kX a b]
 exact xi (xg Se 0 (zB M) (by decide) (xa (x8 (xB (xj (xb Se 0) xf rfl) (xj (xb Se 1) xf rfl) (mulOk ha.1 hb.2 (by decide))) (xB (xj (xb Se 1) xf rfl) (xj (xb Se 0) xf rfl) (mulOk hb.1 ha.2 (by decide)))) (xa (xB (xj (xb Se 0) xf rfl) (xj (xb Se 1) xf rfl) (mulOk ha.2 hb.2 (by decide))) xc)) ⟨_,_,rfl,Int.mul_ne_zero (yn a) (yn b),(ha.2.mul hb.2).mono (by decide),rfl⟩) rfl
theorem uF {T:Tx} (M:Mo T):FnD T 3 "minus" xaU:=by
 refine x9 (M.A (i:=8) rfl) (by walk_at "S" :ScB ["a","b"] ["a","b"] ["fraction"] _) (by walk_at "2") (by rintro _ _ ⟨a,b,rfl,_,_,rfl⟩;rfl) fun Y S Z ds d h=>?_
 have Se:=S.toSe
 obtain ⟨a,b,rfl,ha,hb,rfl⟩:=h
 rw [<-kW a b]
 exact xi (xg Se 0 (zB M) (by decide) (xa (yQ (xB (xj (xb Se 0) xf rfl) (xj (xb Se 1) xf rfl) (mulOk ha.1 hb.2 (by decide))) (xB (xj (xb Se 1) xf rfl) (xj (xb Se 0) xf rfl) (mulOk hb.1 ha.2 (by decide)))) (xa (xB (xj (xb Se 0) xf rfl) (xj (xb Se 1) xf rfl) (mulOk ha.2 hb.2 (by decide))) xc)) ⟨_,_,rfl,Int.mul_ne_zero (yn a) (yn b),(ha.2.mul hb.2).mono (by decide),rfl⟩) rfl
theorem zf {T:Tx} (M:Mo T):FnD T 3 "times" xaV:=by
 refine x9 (M.A (i:=9) rfl) (by walk_at "S" :ScB ["a","b"] ["a","b"] ["fraction"] _) (by walk_at "2") (by rintro _ _ ⟨a,b,rfl,_,_,rfl⟩;rfl) fun Y S Z ds d h=>?_
 have Se:=S.toSe
 obtain ⟨a,b,rfl,ha,hb,rfl⟩:=h
 rw [<-Q8 a b]
 exact xi (xg Se 0 (zB M) (by decide) (xa (xB (xj (xb Se 0) xf rfl) (xj (xb Se 1) xf rfl) (mulOk ha.1 hb.1 (by decide))) (xa (xB (xj (xb Se 0) xf rfl) (xj (xb Se 1) xf rfl) (mulOk ha.2 hb.2 (by decide))) xc)) ⟨_,_,rfl,Int.mul_ne_zero (yn a) (yn b),(ha.2.mul hb.2).mono (by decide),rfl⟩) rfl
theorem vj {T:Tx} (M:Mo T):FnX T 3 "over" xaX:=by
 refine zj (M.A (i:=10) rfl) (by walk_at "S" :ScB ["a","b"] ["a","b"] ["fraction"] _) (by walk_at "2") (by rintro _ _ ⟨a,b,rfl,_⟩;rfl) fun Y S Z ds r h hz=>?_
 have Se:=S.toSe
 obtain ⟨a,b,rfl,ha,hb,h⟩:=h
 rcases h with ⟨h0,rfl⟩ | ⟨h0,rfl⟩
 ·exact xi (xM Se 0 (zU M) (by decide) (xa (xB (xj (xb Se 0) xf rfl) (xj (xb Se 1) xf rfl) (mulOk ha.1 hb.2 (by decide))) (xa (xB (xj (xb Se 0) xf rfl) (xj (xb Se 1) xf rfl) (mulOk ha.2 hb.1 (by decide))) xc)) ⟨_,_,rfl,.inl ⟨Int.mul_ne_zero (yn a) h0,(ha.2.mul hb.1).mono (by decide),rfl⟩⟩) rfl
 ·exact xZ (xI Se 0 (zU M) (by decide) (xa (xB (xj (xb Se 0) xf rfl) (xj (xb Se 1) xf rfl) (mulOk ha.1 hb.2 (by decide))) (xa (xB (xj (xb Se 0) xf rfl) (xj (xb Se 1) xf rfl) (mulOk ha.2 hb.1 (by decide))) xc)) ⟨_,_,rfl,.inr ⟨by rw [h0];simp,rfl⟩⟩ (hz _ rfl _).1)
theorem yE {T:Tx} (M:Mo T):FnD T 2 "power_in" QT:=by
 refine x9 (M.A (i:=11) rfl) (by walk_at "S" :ScB ["p","a"] ["p","a"] ["power_of"] _) (by walk_at "2") (by rintro _ _ ⟨a,b,rfl,_,rfl⟩;rfl) fun Y S Z ds d h=>?_
 have Se:=S.toSe
 obtain ⟨p,a,rfl,hp,rfl⟩:=h
 refine xp (yp (xj (xb Se 1) xf rfl) xf) (fun h=>?_) (fun h=>xn ?_)
 ·refine xi YJ ?_
  show D.non=_
  unfold vq
  rw [if_pos (by simpa using h)]
  rfl
 have h0:¬a.num=0:=by simpa using h
 refine xi (yQ (xg Se 0 (zA M) (by decide) (xa (xb Se 0) (xa (xj (xb Se 1) xf rfl) xc)) ⟨p,_,rfl,hp,(mF h0).symm⟩) (xg Se 0 (zA M) (by decide) (xa (xb Se 0) (xa (xj (xb Se 1) xf rfl) xc)) ⟨p,_,rfl,hp,(mF (yn a)).symm⟩)) ?_
 show D.int _=_
 unfold vq
 rw [mF h0]
 rfl
theorem wB {T:Tx} (M:Mo T):FnD T 2 "prime_power" xbz:=by
 refine x9 (M.A (i:=12) rfl) (by walk_at "S" :ScB ["p","k"] ["p","k"] ["raised"] _) (by walk_at "2") (by rintro _ _ ⟨a,b,rfl,_,_,_,rfl⟩;rfl) fun Y S Z ds d h=>?_
 have Se:=S.toSe
 obtain ⟨p,k,rfl,hp,k0,k1,rfl⟩:=h
 have p2:=hp.two_le
 refine xp (wn (xb Se 1) xf) (fun h=>?_) (fun h=>xn ?_)
 ·have h0:k<0:=by simpa using h
  have q:=Vc (p:=p) (by omega) h0
  refine xi (xu (xa xf (xa (xg Se 0 (yP M) (by decide) (xa (xb Se 0) (xa (wc (xb Se 1)) xc)) ⟨p,-k,rfl,.inl hp,by omega,rfl⟩) xc))) ?_
  show D.tup _=D.tup _
  rw [q.1,q.2]
 ·have h0:¬k<0:=by simpa using h
  have q:=vU (p:=p) (k:=k) (by omega)
  refine xi (xu (xa (xg Se 0 (yP M) (by decide) (xa (xb Se 0) (xa (xb Se 1) xc)) ⟨p,k,rfl,.inl hp,by omega,rfl⟩) (xa xf xc))) ?_
  show D.tup _=D.tup _
  rw [q.1,q.2]
  rfl
theorem yV {T:Tx} (M:Mo T):FnD T 3 "rest_by" xaT:=by
 refine x9 (M.A (i:=13) rfl) (by walk_at "S" :ScB ["p","k","a","sunk","settled","scale","whole"] ["p","k","a"] ["power_of","NOUGHT","raised","fraction","over_by"] _) (by walk_at "3") (by rintro _ _ ⟨_,_,_,rfl,_,_,_,_,rfl⟩;rfl) fun Y S Z ds d h=>?_
 have Se:=S.toSe
 obtain ⟨p,k,a,rfl,hp,k1,k0,ha,rfl⟩:=h
 have p2:=hp.two_le
 have hv:=Ki hp (yn a) ha.2
 obtain ⟨u,hu,up⟩:=Xu hp (yn a)
 refine xl S 3 (xg Se 0 (zA M) (by decide) (xa (xb Se 0) (xa (xj (xb Se 2) xf rfl) xc)) ⟨p,_,rfl,hp,(mF (yn a)).symm⟩) ?_
 refine xl S 4 (x8 (xb Se 1) (xb Se 3)) ?_
 unfold restQ
 generalize vp p a.den=e at*
 refine xp (Kl (xb Se 4) xf) (fun h=>?_) (fun h=>xn ?_)
 ·have h0:k+(e:Int)<=0:=by simpa using h
  rw [mH h0]
  exact xi (yJ Se.toSn 1 M.gq) rfl
 have h0:¬k+(e:Int)<=0:=by simpa using h
 rw [mF h0]
 have pe:=yg hp e
 have bpe:Bd 4400 (p^e):=by
  refine Bd.of_le (by omega) (?_:p^e<=(a.den:Int)) ha.2
  have:=VC a
  exact Int.le_of_dvd this ⟨u,hu⟩
 have hdiv:(a.den:Int) / p^e=u:=by rw [hu];exact Int.mul_ediv_cancel_left u (by omega)
 have bu:Bd 4400 u:=by
  have q:=ha.2
  rw [hu] at q
  unfold Bd at*
  rw [Int.natAbs_mul] at q
  have:1*u.natAbs<=(p^e).natAbs*u.natAbs:=Nat.mul_le_mul_right _ (by omega)
  omega
 refine xl S 5 (xg Se 2 (yP M) (by decide) (xa (xb Se 0) (xa (xb Se 3) xc)) ⟨p,(e:Int),rfl,.inl hp,by omega,by rw [Int.toNat_natCast]⟩) ?_
 rw [hdiv]
 have ov:=zm hp up (k+(e:Int)).toNat
 have pk:=yg hp (k+(e:Int)).toNat
 have bk:=ul hp (k+(e:Int)).toNat
 refine xl S 6 (xz (xB (xj (xb Se 2) xf rfl) (xg Se 4 (Ze M) (by decide) (xa (xb Se 0) (xa (xD (xj (xb Se 2) xf rfl) (xb Se 5) pe (bpe.mono (by decide))) (xa (xb Se 4) xc))) ⟨p,u,k+(e:Int),by rw [hdiv],hp,up,by omega,by omega,bu.mono (by decide),rfl⟩) (mulOk ha.1 (Bd.of_le ov.1 (Int.le_of_lt ov.2.1) bk) (by omega))) (xg Se 2 (yP M) (by decide) (xa (xb Se 0) (xa (xb Se 4) xc)) ⟨p,k+(e:Int),rfl,.inl hp,by omega,rfl⟩) pk) ?_
 exact xi (xg Se 3 (zB M) (by decide) (xa (xb Se 6) (xa (xb Se 5) xc)) ⟨_,_,rfl,by omega,bpe.mono (by decide),rfl⟩) rfl
theorem y4 {T:Tx} (M:Mo T):FnD T 4 "measure" W2:=by
 refine x9 (M.A (i:=15) rfl) (by walk_at "S" :ScB ["table"] ["table"] ["minus","times"] _) (by walk_at "1") (by rintro _ _ ⟨_,rfl,_,rfl⟩;rfl) fun Y S Z ds d h=>?_
 have Se:=S.toSe
 obtain ⟨t,rfl,hm,rfl⟩:=h
 exact xi (xg Se 0 (uF M) (by decide) (xa (xg Se 1 (zf M) (by decide) (xa (xj (xb Se 0) xf rfl) (xa (xj (xb Se 0) xf rfl) xc)) ⟨t.a,t.d,rfl,hm.ht.a,hm.ht.d,rfl⟩) (xa (xg Se 1 (zf M) (by decide) (xa (xj (xb Se 0) xf rfl) (xa (xj (xb Se 0) xf rfl) xc)) ⟨t.b,t.c,rfl,hm.ht.b,hm.ht.c,rfl⟩) xc)) ⟨_,_,rfl,hm.ad,hm.bc,rfl⟩) rfl
theorem vg {T:Tx} (M:Mo T):FnX T 5 "table_of" Xe:=by
 refine zj (M.A (i:=14) rfl) (by walk_at "S" :ScB ["a","b","c","d","table"] ["a","b","c","d"] ["NOUGHT","measure","NoTable"] _) (by walk_at "4") (by rintro _ _ ⟨_,rfl,_⟩;rfl) fun Y S Z ds r h hz=>?_
 have Se:=S.toSe
 obtain ⟨t,rfl,hm,h⟩:=h
 refine xl S 4 (xu (xa (xb Se 0) (xa (xb Se 1) (xa (xb Se 2) (xa (xb Se 3) xc))))) ?_
 have e0:eqD (frD t.det) (.tup ([0,1].map D.int))=decide (t.det=0):=u4 t.det 0
 rcases h with ⟨h0,rfl⟩ | ⟨h0,rfl⟩
 ·exact xp (zD Se (xg Se 1 (y4 M) (by decide) (xa (xb Se 4) xc) ⟨t,rfl,hm,rfl⟩) (yJ Se.toSn 0 M.gq)) (fun h=>absurd (by rw [e0] at h;simpa using h) h0) (fun _=>xn (xi (xb Se 4) rfl))
 ·exact xp (zD Se (xg Se 1 (y4 M) (by decide) (xa (xb Se 4) xc) ⟨t,rfl,hm,rfl⟩) (yJ Se.toSn 0 M.gq)) (fun _=>yD S 2 M.gA (xa xk xc) (hz _ rfl _).2) (fun h=>absurd h0 (by rw [e0] at h;simpa using h))
theorem U1 {T:Tx} (M:Mo T):FnD T 4 "trace" J4:=by
 refine x9 (M.A (i:=16) rfl) (by walk_at "S" :ScB ["table"] ["table"] ["plus"] _) (by walk_at "1") (by rintro _ _ ⟨_,rfl,_,rfl⟩;rfl) fun Y S Z ds d h=>?_
 have Se:=S.toSe
 obtain ⟨t,rfl,ht,rfl⟩:=h
 exact xi (xg Se 0 (Vl M) (by decide) (xa (xj (xb Se 0) xf rfl) (xa (xj (xb Se 0) xf rfl) xc)) ⟨t.a,t.d,rfl,ht.a,ht.d,rfl⟩) rfl
theorem yI {T:Tx} (M:Mo T):FnD T 4 "row_by_column" j8:=by
 refine x9 (M.A (i:=18) rfl) (by walk_at "S" :ScB ["row","column"] ["row","column"] ["plus","times"] _) (by walk_at "2") (by rintro _ _ ⟨_,_,_,_,rfl,_,_,_,_,_,_,rfl⟩;rfl) fun Y S Z ds d h=>?_
 have Se:=S.toSe
 obtain ⟨a,b,c,e,rfl,ha,hb,hc,he,h1,h2,rfl⟩:=h
 exact xi (xg Se 0 (Vl M) (by decide) (xa (xg Se 1 (zf M) (by decide) (xa (xj (xb Se 0) xf rfl) (xa (xj (xb Se 1) xf rfl) xc)) ⟨a,c,rfl,ha,hc,rfl⟩) (xa (xg Se 1 (zf M) (by decide) (xa (xj (xb Se 0) xf rfl) (xa (xj (xb Se 1) xf rfl) xc)) ⟨b,e,rfl,hb,he,rfl⟩) xc)) ⟨_,_,rfl,h1,h2,rfl⟩) rfl
theorem uD {T:Tx} (M:Mo T):FnD T 5 "product" WZ:=by
 refine x9 (M.A (i:=17) rfl) (by walk_at "S" :ScB ["one","other","left","right","upper","lower"] ["one","other"] ["row_by_column"] _) (by walk_at "2") (by rintro _ _ ⟨_,_,rfl,_,rfl⟩;rfl) fun Y S Z ds d h=>?_
 have Se:=S.toSe
 obtain ⟨s,t,rfl,hp,rfl⟩:=h
 refine xl S 2 (xu (xa (xj (xb Se 1) xf rfl) (xa (xj (xb Se 1) xf rfl) xc))) ?_
 refine xl S 3 (xu (xa (xj (xb Se 1) xf rfl) (xa (xj (xb Se 1) xf rfl) xc))) ?_
 refine xl S 4 (xu (xa (xj (xb Se 0) xf rfl) (xa (xj (xb Se 0) xf rfl) xc))) ?_
 refine xl S 5 (xu (xa (xj (xb Se 0) xf rfl) (xa (xj (xb Se 0) xf rfl) xc))) ?_
 exact xi (xu (xa (xg Se 0 (yI M) (by decide) (xa (xb Se 4) (xa (xb Se 2) xc)) ⟨s.a,s.b,t.a,t.c,rfl,hp.hs.a,hp.hs.b,hp.ht.a,hp.ht.c,hp.aa,hp.bc,rfl⟩) (xa (xg Se 0 (yI M) (by decide) (xa (xb Se 4) (xa (xb Se 3) xc)) ⟨s.a,s.b,t.b,t.d,rfl,hp.hs.a,hp.hs.b,hp.ht.b,hp.ht.d,hp.ab,hp.bd,rfl⟩) (xa (xg Se 0 (yI M) (by decide) (xa (xb Se 5) (xa (xb Se 2) xc)) ⟨s.c,s.d,t.a,t.c,rfl,hp.hs.c,hp.hs.d,hp.ht.a,hp.ht.c,hp.ca,hp.dc,rfl⟩) (xa (xg Se 0 (yI M) (by decide) (xa (xb Se 5) (xa (xb Se 3) xc)) ⟨s.c,s.d,t.b,t.d,rfl,hp.hs.c,hp.hs.d,hp.ht.b,hp.ht.d,hp.cb,hp.dd,rfl⟩) xc))))) rfl
theorem Xk {T:Tx} (M:Mo T):FnX T 4 "stretched" ZE:=by
 refine zj (M.A (i:=20) rfl) (by walk_at "S" :ScB ["table","a"] ["table","a"] ["NOUGHT","NoTable","times"] _) (by walk_at "2") (by rintro _ _ ⟨_,_,rfl,_⟩;rfl) fun Y S Z ds r h hz=>?_
 have Se:=S.toSe
 obtain ⟨t,q,rfl,ht,hq,h⟩:=h
 have e0:eqD (frD q) (.tup ([0,1].map D.int))=decide (q=0):=u4 q 0
 rcases h with ⟨h0,rfl⟩ | ⟨h0,rfl⟩
 ·refine xp (zD Se (xb Se 1) (yJ Se.toSn 0 M.gq)) (fun h=>absurd (by rw [e0] at h;simpa using h) h0) (fun _=>xn ?_)
  exact xi (xu (xa (xg Se 2 (zf M) (by decide) (xa (xj (xb Se 0) xf rfl) (xa (xb Se 1) xc)) ⟨t.a,q,rfl,ht.a,hq,rfl⟩) (xa (xg Se 2 (zf M) (by decide) (xa (xj (xb Se 0) xf rfl) (xa (xb Se 1) xc)) ⟨t.b,q,rfl,ht.b,hq,rfl⟩) (xa (xg Se 2 (zf M) (by decide) (xa (xj (xb Se 0) xf rfl) (xa (xb Se 1) xc)) ⟨t.c,q,rfl,ht.c,hq,rfl⟩) (xa (xg Se 2 (zf M) (by decide) (xa (xj (xb Se 0) xf rfl) (xa (xb Se 1) xc)) ⟨t.d,q,rfl,ht.d,hq,rfl⟩) xc))))) rfl
 ·exact xp (zD Se (xb Se 1) (yJ Se.toSn 0 M.gq)) (fun _=>yD S 1 M.gA (xa xk xc) (hz _ rfl _).2) (fun h=>absurd h0 (by rw [e0] at h;simpa using h))
theorem uC {T:Tx} (M:Mo T):FnD T 5 "turned_over" j3:=by
 refine x9 (M.A (i:=19) rfl) (by walk_at "S" :ScB ["table","swapped"] ["table"] ["stretched","minus","NOUGHT","over","ONE","measure"] _) (by walk_at "1") (by rintro _ _ ⟨_,rfl,_,_,_,rfl⟩;rfl) fun Y S Z ds d h=>?_
 have Se:=S.toSe
 obtain ⟨t,rfl,hm,h0,hd,rfl⟩:=h
 have z4:Fb 4400 0:=fb_zero.mono (by decide)
 have o4:Fb 4400 1:=fb_one.mono (by decide)
 have n0:t.det.num≠0:=fun z=>h0 (Rat.num_eq_zero.mp z)
 refine xl S 1 (xu (xa (xj (xb Se 0) xf rfl) (xa (xg Se 1 (uF M) (by decide) (xa (yJ Se.toSn 2 M.gq) (xa (xj (xb Se 0) xf rfl) xc)) ⟨0,t.b,rfl,z4,hm.ht.b,rfl⟩) (xa (xg Se 1 (uF M) (by decide) (xa (yJ Se.toSn 2 M.gq) (xa (xj (xb Se 0) xf rfl) xc)) ⟨0,t.c,rfl,z4,hm.ht.c,rfl⟩) (xa (xj (xb Se 0) xf rfl) xc))))) ?_
 refine xi (xM Se 0 (Xk M) (by decide) (xa (xb Se 1) (xa (xM Se 3 (vj M) (by decide) (xa (yJ Se.toSn 4 M.mr) (xa (xg Se 5 (y4 M) (by decide) (xa (xb Se 0) xc) ⟨t,rfl,hm,rfl⟩) xc)) ⟨1,t.det,rfl,o4,hd,.inl ⟨n0,rfl⟩⟩) xc)) ⟨t.turn,t.det⁻¹,?e,hm.ht.turn,hd.inv h0,.inl ⟨xau h0,rfl⟩⟩) rfl
 case e=>rw [UW h0];rfl
theorem Qq {T:Tx} (M:Mo T):FnD T 4 "is_spot" xbD:=by
 refine x9 (M.A (i:=21) rfl) (by walk_at "S" :ScB ["p","thing","k","q"] ["p","thing"] ["rest_by","isinstance","tuple","len","is_whole","is_fraction","min"] _) (by walk_at "2") (by rintro _ _ ⟨_,_,rfl,_⟩;rfl) fun Y S Z ds d h=>?_
 have Se:=S.toSe
 obtain ⟨p,x,rfl,hp,ok,rfl⟩:=h
 cases x with
 | non=>exact xp (yu (w:=true) (xU (xR (xY Se 1 2 (xb Se 1) (b:=false) rfl M.gb M.gh xX))) (fun h=>nomatch h)).pt (fun _=>xi yB rfl) (fun h=>nomatch h)
 | bl i=>exact xp (yu (w:=true) (xU (xR (xY Se 1 2 (xb Se 1) (b:=false) rfl M.gb M.gh xX))) (fun h=>nomatch h)).pt (fun _=>xi yB rfl) (fun h=>nomatch h)
 | int i=>exact xp (yu (w:=true) (xU (xR (xY Se 1 2 (xb Se 1) (b:=false) rfl M.gb M.gh xX))) (fun h=>nomatch h)).pt (fun _=>xi yB rfl) (fun h=>nomatch h)
 | str i=>exact xp (yu (w:=true) (xU (xR (xY Se 1 2 (xb Se 1) (b:=false) rfl M.gb M.gh xX))) (fun h=>nomatch h)).pt (fun _=>xi yB rfl) (fun h=>nomatch h)
 | lst i=>exact xp (yu (w:=true) (xU (xR (xY Se 1 2 (xb Se 1) (b:=false) rfl M.gb M.gh xX))) (fun h=>nomatch h)).pt (fun _=>xi yB rfl) (fun h=>nomatch h)
 | tup ds=>
  match ds,ok with
  | [],_=>exact xp (yu (xU (xR (xY Se 1 2 (xb Se 1) (b:=true) rfl M.gb M.gh xX))) fun _=>yO (yY (yr Se 3 (xa (xb Se 1) xc) rfl M.gk) xf)).pt (fun _=>xi yB rfl) (fun h=>absurd h (by decide))
  | [a],_=>exact xp (yu (xU (xR (xY Se 1 2 (xb Se 1) (b:=true) rfl M.gb M.gh xX))) fun _=>yO (yY (yr Se 3 (xa (xb Se 1) xc) rfl M.gk) xf)).pt (fun _=>xi yB (by show D.bl false=D.bl _;rw [xbj])) (fun h=>absurd h (by simp))
  | a::b::e::r,_=>
   refine xp (yu (xU (xR (xY Se 1 2 (xb Se 1) (b:=true) rfl M.gb M.gh xX))) fun _=>yO (yY (yr Se 3 (xa (xb Se 1) xc) rfl M.gk) xf)).pt (fun _=>xi yB (by show D.bl false=D.bl _;rw [xbi])) (fun h=>absurd h ?_)
   have:¬(((a::b::e::r).length:Nat):Int)=2:=by simp only [List.length_cons];omega
   simp [this]
   omega
  | [a,b],ok=>
   refine xp (yu (xU (xR (xY Se 1 2 (xb Se 1) (b:=true) rfl M.gb M.gh xX))) fun _=>yO (yY (yr Se 3 (xa (xb Se 1) xc) rfl M.gk) xf)).pt (fun h=>absurd h (by simp)) (fun _=>xn ?_)
   refine xl S 2 (xj (xb Se 1) xf (d:=a) rfl) ?_
   refine xl S 3 (xj (xb Se 1) xf (d:=b) rfl) ?_
   refine xp (yu (xU (xR (xg Se 4 (qp M) (by decide) (xa (xb Se 2) xc) ⟨a,rfl,rfl⟩))) fun _=>yO (xU (xR (xg Se 5 (uG M) (by decide) (xa (xb Se 3) xc) ⟨b,rfl,rfl⟩)))).pt (fun h=>?_) (fun h=>xn ?_)
   ·refine xi yB ?_
    show D.bl false=D.bl _
    rw [xbh h]
   ·obtain ⟨h1,h2⟩:=Bool.or_eq_false_iff.mp h
    obtain ⟨k,rfl⟩:=QA (show isW a=true by simpa using h1)
    have h2:isF b=true:=by simpa using h2
    obtain ⟨i,j,rfl,j1,hg⟩:=xat h2
    obtain ⟨k0,bi,bj⟩:=ok k i j rfl
    have l:=Qx j1 hg
    have ef:D.tup [.int i,.int j]=frD (Rat.divInt i j):=by
     show D.tup [.int i,.int j]=D.tup [.int (Rat.divInt i j).num,.int ((Rat.divInt i j).den:Int)]
     rw [l.1,l.2]
    have fb:Fb 4400 (Rat.divInt i j):=⟨by rw [l.1];exact bi,by rw [l.2];exact bj⟩
    have bb:=JY bi
    refine xi (xaE Se (d1:=frD (restQ p (min k ((bits i:Nat):Int)) (Rat.divInt i j))) (d2:= .tup [.int i,.int j]) (xg Se 0 (yV M) (by decide) (xa (xb Se 0) (xa (jC Se 6 (xa (xb Se 2) (xa (WM (xj (xb Se 3) xf rfl)) xc)) M.hZ) (xa (xb Se 3) xc))) ⟨p,min k ((bits i:Nat):Int),Rat.divInt i j,by rw [ef],hp,by omega,by omega,fb,rfl⟩) (xb Se 3)) ?_
    show D.bl (eqD (frD (restQ p (min k ((bits i:Nat):Int)) (Rat.divInt i j))) (.tup [.int i,.int j]))=D.bl (isF (.tup [.int i,.int j]) && decide (restQ p (min k (bits i:Int)) (Rat.divInt i j)=Rat.divInt i j))
    rw [h2,ef,u4]
    rfl
theorem qk {T:Tx} (M:Mo T):FnD T 3 "least_power" Kb:=by
 refine x9 (M.A (i:=25) rfl) (by walk_at "S" :ScB ["p","numbers"] ["p","numbers"] ["min"] _) (by walk_at "2") (by rintro _ _ ⟨_,_,rfl,_,_,_,rfl⟩;rfl) fun Y S Z ds d h=>?_
 have Se:=S.toSe
 obtain ⟨p,rs,rfl,hp,hl10,⟨r0,hr0,hn0⟩,rfl⟩:=h
 have e:(rs.map fun r=>(vq p r).map D.int).filterMap id=(rs.filterMap (vq p)).map D.int:=by
  rw [List.filterMap_map,List.map_filterMap]
  rfl
 obtain ⟨i,l,hil⟩:∃i l,rs.filterMap (vq p)=i::l:=by
  cases h:rs.filterMap (vq p) with
  | nil=>exact absurd (vq_none.mp (List.filterMap_eq_nil_iff.mp h r0 hr0)) hn0
  | cons i l=>exact ⟨i,l,rfl⟩
 have hd0:leastV p rs=l.foldl min i:=by unfold leastV;rw [hil]
 rw [hd0]
 rw [hil] at e
 refine xi (JM Se 0 (xa (jE (YM (tn:=["a"]) (fs:=["p"]) (ix:=[0]) (G':=["power_in","NOUGHT"]) Se Z.sc ?B (xaq (xb Se 1)) (rs.map fun r=>(vq p r).map D.int) (by simp) (by rw [List.length_map];omega) ?T) e) xc) M.hZ) rfl
 case B=>exact ⟨rfl,rfl,by decide+kernel,by decide+kernel,by decide+kernel,by decide+kernel,by decide+kernel,by decide+kernel,rfl,by decide+kernel⟩
 case T=>
  intro Y' S' hl m d r hd hr ts hts
  obtain ⟨t1,rfl⟩:∃t1,ts=[t1]:=List.length_eq_one_iff.mp hts
  rw [List.getElem?_map] at hd hr
  cases hq:rs[m]? with
  | none=>rw [hq] at hd;cases hd
  | some q=>
   rw [hq] at hd hr
   cases hd
   have hr2:(vq p q).map D.int=r:=by simpa using hr
   have e0:eqD (frD q) (.tup ([0,1].map D.int))=decide (q=0):=u4 q 0
   cases hv:vq p q with
   | none=>
    rw [hv] at hr2
    subst hr2
    refine ⟨[.val (frD q)],rfl,rfl,za S'.toSn 0 (.inr (hl _ (by simp))),?_⟩
    have h2:(!eqD (frD q) (.tup ([0,1].map D.int)))=false:=by rw [e0,vq_none.mp hv];simp
    show TeD Y' _ _ false
    rw [<-h2]
    exact Ud S' (xb S' 0) (yJ S'.toSn 1 M.gq)
   | some v=>
    rw [hv] at hr2
    subst hr2
    refine ⟨[.val (frD q)],rfl,rfl,za S'.toSn 0 (.inr (hl _ (by simp))),?_,?_⟩
    ·have h2:(!eqD (frD q) (.tup ([0,1].map D.int)))=true:=by
      rw [e0]
      have:q≠0:=fun z=>by rw [vq_none.mpr z] at hv;cases hv
      simp [this]
     show TeD Y' _ _ true
     rw [<-h2]
     exact Ud S' (xb S' 0) (yJ S'.toSn 1 M.gq)
    ·exact xg S' 0 (yE M) (by decide) (xa (xb S' 1) (xa (xb S' 0) xc)) ⟨p,q,rfl,hp,by rw [hv];rfl⟩
theorem Qn {T:Tx} (M:Mo T):FnD T 5 "spot_of" ZG:=by
 refine x9 (M.A (i:=22) rfl) (by walk_at "S" :ScB ["p","table","least","k"] ["p","table"] ["least_power","power_in","rest_by","measure","over"] _) (by walk_at "2") (by rintro _ _ ⟨_,_,_,rfl,_⟩;rfl) fun Y S Z ds d h=>?_
 have Se:=S.toSe
 obtain ⟨p,t,v,rfl,hp,hm,hv,k0,k1,hc,hd,rfl⟩:=h
 refine xl S 2 (xg Se 0 (qk M) (by decide) (xa (xb Se 0) (jY (xu (xa (xj (xb Se 1) xf rfl) (xa (xj (xb Se 1) xf rfl) xc))) xc)) ⟨p,[t.c,t.d],rfl,hp,by simp,JV hv,rfl⟩) ?_
 refine xl S 3 (yQ (i:=v) (xg Se 1 (yE M) (by decide) (xa (xb Se 0) (xa (xg Se 3 (y4 M) (by decide) (xa (xb Se 1) xc) ⟨t,rfl,hm,rfl⟩) xc)) ⟨p,t.det,rfl,hp,by rw [hv];rfl⟩) (xB xf (xb Se 2) (.of_left (intBits_le_64 (by decide) (by decide))))) ?_
 cases ec:vq p t.c with
 | none=>
  have hn:¬(none:Option Int)=some (leastV p [t.c,t.d]):=fun z=>nomatch z
  have hd':=hd (by rw [ec];exact hn)
  have nn:t.d.num≠0:=fun z=>hd'.1 (Rat.num_eq_zero.mp z)
  rw [mF hn]
  refine xp (zD Se (d1:= .non) (xg Se 1 (yE M) (by decide) (xa (xb Se 0) (xa (xj (xb Se 1) xf rfl) xc)) ⟨p,t.c,rfl,hp,by rw [ec];rfl⟩) (xb Se 2)) (fun h=>?_) (fun _=>xn ?_)
  ·exact absurd h (by simp [eqD,toPy,PyData.eqv])
  exact xi (xu (xa (xb Se 3) (xa (xg Se 2 (yV M) (by decide) (xa (xb Se 0) (xa (xb Se 3) (xa (xM Se 4 (vj M) (by decide) (xa (xj (xb Se 1) xf rfl) (xa (xj (xb Se 1) xf rfl) xc)) ⟨_,_,rfl,hm.ht.b,hm.ht.d,.inl ⟨nn,rfl⟩⟩) xc))) ⟨p,v - 2*leastV p [t.c,t.d],t.b*t.d⁻¹,by rw [wL _ hd'.1],hp,k1,k0,hd'.2,rfl⟩) xc))) rfl
 | some w=>
  have ee:eqD (.int w) (.int (leastV p [t.c,t.d]))=decide (w=leastV p [t.c,t.d]):=by
   show (w==leastV p [t.c,t.d])=_
   by_cases z:w=leastV p [t.c,t.d]<;>simp [z]
  refine xp (zD Se (d1:= .int w) (xg Se 1 (yE M) (by decide) (xa (xb Se 0) (xa (xj (xb Se 1) xf rfl) xc)) ⟨p,t.c,rfl,hp,by rw [ec];rfl⟩) (xb Se 2)) (fun h=>?_) (fun h=>xn ?_)
  ·rw [ee] at h
   have hw:w=leastV p [t.c,t.d]:=mC h
   have hc':=hc (by rw [ec,hw])
   have c0:t.c≠0:=fun z=>by rw [vq_none.mpr z] at ec;cases ec
   have nn:t.c.num≠0:=fun z=>c0 (Rat.num_eq_zero.mp z)
   rw [mH (by rw [hw])]
   exact xi (xu (xa (xb Se 3) (xa (xg Se 2 (yV M) (by decide) (xa (xb Se 0) (xa (xb Se 3) (xa (xM Se 4 (vj M) (by decide) (xa (xj (xb Se 1) xf rfl) (xa (xj (xb Se 1) xf rfl) xc)) ⟨_,_,rfl,hm.ht.a,hm.ht.c,.inl ⟨nn,rfl⟩⟩) xc))) ⟨p,v - 2*leastV p [t.c,t.d],t.a*t.c⁻¹,by rw [wL _ c0],hp,k1,k0,hc',rfl⟩) xc))) rfl
  ·rw [ee] at h
   have hn:¬some w=some (leastV p [t.c,t.d]):=fun z=>of_decide_eq_false h (by cases z;rfl)
   have hd':=hd (by rw [ec];exact hn)
   have nn:t.d.num≠0:=fun z=>hd'.1 (Rat.num_eq_zero.mp z)
   rw [mF hn]
   exact xi (xu (xa (xb Se 3) (xa (xg Se 2 (yV M) (by decide) (xa (xb Se 0) (xa (xb Se 3) (xa (xM Se 4 (vj M) (by decide) (xa (xj (xb Se 1) xf rfl) (xa (xj (xb Se 1) xf rfl) xc)) ⟨_,_,rfl,hm.ht.b,hm.ht.d,.inl ⟨nn,rfl⟩⟩) xc))) ⟨p,v - 2*leastV p [t.c,t.d],t.b*t.d⁻¹,by rw [wL _ hd'.1],hp,k1,k0,hd'.2,rfl⟩) xc))) rfl
theorem qi {T:Tx} (M:Mo T):FnD T 3 "table_at" J5:=by
 refine x9 (M.A (i:=23) rfl) (by walk_at "S" :ScB ["p","spot"] ["p","spot"] ["NOUGHT","ONE","prime_power"] _) (by walk_at "2") (by rintro _ _ ⟨_,_,_,rfl,_,_,_,rfl⟩;rfl) fun Y S Z ds d h=>?_
 have Se:=S.toSe
 obtain ⟨p,k,q,rfl,hp,k0,k1,rfl⟩:=h
 exact xi (xu (xa (xg Se 2 (wB M) (by decide) (xa (xb Se 0) (xa (xj (xb Se 1) xf rfl) xc)) ⟨p,k,rfl,hp,k0,k1,rfl⟩) (xa (xj (xb Se 1) xf rfl) (xa (yJ Se.toSn 0 M.gq) (xa (yJ Se.toSn 1 M.mr) xc))))) rfl
theorem uH {T:Tx} (M:Mo T):FnD T 4 "spot_above" Kf:=by
 refine x9 (M.A (i:=24) rfl) (by walk_at "S" :ScB ["p","spot","k"] ["p","spot","k"] ["rest_by"] _) (by walk_at "3") (by rintro _ _ ⟨_,_,_,_,rfl,_,_,_,_,rfl⟩;rfl) fun Y S Z ds d h=>?_
 have Se:=S.toSe
 obtain ⟨p,j,q,k,rfl,hp,fb,k0,k1,rfl⟩:=h
 exact xi (xu (xa (xb Se 2) (xa (xg Se 0 (yV M) (by decide) (xa (xb Se 0) (xa (xb Se 2) (xa (xj (xb Se 1) xf rfl) xc))) ⟨p,k,q,rfl,hp,k1,k0,fb,rfl⟩) xc))) rfl
theorem uB {T:Tx} (M:Mo T):FnD T 5 "two_numbers" xbx:=by
 refine x9 (M.A (i:=26) rfl) (by walk_at "S" :ScB ["p","table","low"] ["p","table"] ["least_power","power_in","measure"] _) (by walk_at "2") (by rintro _ _ ⟨_,_,_,rfl,_,_,_,rfl⟩;rfl) fun Y S Z ds d h=>?_
 have Se:=S.toSe
 obtain ⟨p,t,v,rfl,hp,hm,hv,rfl⟩:=h
 refine xl S 2 (xg Se 0 (qk M) (by decide) (xa (xb Se 0) (xa (xb Se 1) xc)) ⟨p,[t.a,t.b,t.c,t.d],rfl,hp,by simp,xaM hv,rfl⟩) ?_
 exact xi (xu (xa (xb Se 2) (xa (yQ (i:=v) (xg Se 1 (yE M) (by decide) (xa (xb Se 0) (xa (xg Se 2 (y4 M) (by decide) (xa (xb Se 1) xc) ⟨t,rfl,hm,rfl⟩) xc)) ⟨p,t.det,rfl,hp,by rw [hv];rfl⟩) (xb Se 2)) xc))) rfl
theorem XF {T:Tx} (M:Mo T):FnD T 6 "lies_in" kh:=by
 refine x9 (M.A (i:=27) rfl) (by walk_at "S" :ScB ["p","one","other"] ["p","one","other"] ["two_numbers","product","turned_over","table_at"] _) (by walk_at "3") (by rintro _ _ ⟨_,_,_,_,_,rfl,_,_,rfl⟩;rfl) fun Y S Z ds d h=>?_
 have Se:=S.toSe
 obtain ⟨p,k1,q1,k2,q2,rfl,hp,hw,rfl⟩:=h
 have et:=Ug hp k1 k2 q1 q2
 have ta:=hw.tb
 have hm:MOk ((tabS p k1 q1).inv.mul (tabS p k2 q2)):=by rw [et];exact hw.mo
 have hv:vq p ((tabS p k1 q1).inv.mul (tabS p k2 q2)).det=some (k2 - k1):=by rw [et,ku];exact X7 hp
 have a0:=hw.a0;have a1:=hw.a1;have b0:=hw.b0;have b1:=hw.b1
 refine xi (xg Se 0 (uB M) (by decide) (xa (xb Se 0) (xa (xg Se 1 (uD M) (by decide) (xa (xg Se 2 (uC M) (by decide) (xa (xg Se 3 (qi M) (by decide) (xa (xb Se 0) (xa (xb Se 1) xc)) ⟨p,k1,q1,rfl,hp,by omega,by omega,rfl⟩) xc) ⟨_,rfl,ta.1,ta.2.1,ta.2.2,rfl⟩) (xa (xg Se 3 (qi M) (by decide) (xa (xb Se 0) (xa (xb Se 2) xc)) ⟨p,k2,q2,rfl,hp,by omega,by omega,rfl⟩) xc)) ⟨_,_,rfl,hw.po,rfl⟩) xc)) ⟨p,_,k2 - k1,rfl,hp,hm,hv,rfl⟩) ?_
 have el:leastV p [((tabS p k1 q1).inv.mul (tabS p k2 q2)).a,((tabS p k1 q1).inv.mul (tabS p k2 q2)).b,((tabS p k1 q1).inv.mul (tabS p k2 q2)).c,((tabS p k1 q1).inv.mul (tabS p k2 q2)).d]=lowS p k1 q1 k2 q2:=by
  rw [et]
  exact Wu hp k1 k2 q1 q2
 show D.tup _=D.tup _
 rw [el]
theorem Zc {T:Tx} (M:Mo T):FnD T 7 "way" J3:=by
 refine x9 (M.A (i:=28) rfl) (by walk_at "S" :ScB ["p","one","other","numbers"] ["p","one","other"] ["lies_in"] _) (by walk_at "3") (by rintro _ _ ⟨_,_,_,_,_,rfl,_,_,rfl⟩;rfl) fun Y S Z ds d h=>?_
 have Se:=S.toSe
 obtain ⟨p,k1,q1,k2,q2,rfl,hp,hw,rfl⟩:=h
 refine xl S 3 (xg Se 0 (XF M) (by decide) (xa (xb Se 0) (xa (xb Se 1) (xa (xb Se 2) xc))) ⟨p,k1,q1,k2,q2,rfl,hp,hw,rfl⟩) ?_
 exact xi (yQ (xj (xb Se 3) xf rfl) (xj (xb Se 3) xf rfl)) rfl
theorem qh {T:Tx} (M:Mo T):FnD T 2 "whole_text" J0:=by
 refine x9 (M.A (i:=30) rfl) (by walk_at "S" :ScB ["number","size","left","pieces"] ["number"] ["raised","PIECE_FIGURES","abs","str","reversed"] _) (by walk_at "1") (by rintro _ _ ⟨_,rfl,_,rfl⟩;rfl) fun Y S Z ds d h=>?_
 have Se:=S.toSe
 obtain ⟨i,rfl,hB,rfl⟩:=h
 have lg:((i.natAbs:Int)).natAbs.log2<1920:=zW (i:=(i.natAbs:Int)) (by simpa using hB)
 have ln:=yM (i:=(i.natAbs:Int)) (k:=499) (by simpa using hB)
 refine xl S 1 (d:= .int (10^(1000:Int).toNat)) (xg Se 0 (yP M) (by decide) (xa xf (xa (yt Se.toSn 1 M.gY) xc)) ⟨10,1000,rfl,.inr rfl,by decide,rfl⟩) ?_
 refine xl S 2 (d:= .int (i.natAbs:Int)) ?ab ?_
 case ab=>
  exact u3 Se 2 (xa (xb Se 0) xc) M.g8
 refine Up S 3 (ds:=[]) (K9 xc) ?_
 have lt:(i.natAbs:Int)<10^(1000:Int).toNat:=by
  have h1:(i.natAbs:Int)<(10:Int)^500:=by exact_mod_cast hB
  exact Int.lt_of_lt_of_le h1 k8
 generalize (10:Int)^(1000:Int).toNat=P at lt
 refine zo S (fun c=>c=[.val (.int i),.val (.int P),.val (.int (i.natAbs:Int)),.own []]) (fun _=>0) rfl ?_
 rintro _ rfl
 refine ⟨false,?te,(fun h=>by cases h),fun _=>?_⟩
 case te=>
  have e:decide (P<=(i.natAbs:Int))=false:=decide_eq_false (by omega)
  rw [<-e]
  exact xa1 (xb Se 2) (xb Se 1)
 refine Z0 S 3 (ds:=[]) rfl (d:= .str (tx (wr (i.natAbs:Int)))) ?st ?_ (by decide)
 case st=>
  rw [<-y9]
  exact yA Se 3 (xa (xb Se 2) xc) lg M.gv
 refine xp (wn (xb Se 0) xf) (fun h=>?_) (fun h=>xn ?_)
 ·have h:i<0:=mC h
  refine Z0 S 3 (ds:=[.str (tx (wr (i.natAbs:Int)))]) rfl (d:= .str "-") xk (xn ?_) (by simp)
  refine vP 3 (ds:=[tx (wr (i.natAbs:Int)),"-"].map D.str) rfl ?_
  refine xi (Zx Se 4 (sep:= "") (xs:=[tx (wr (i.natAbs:Int)),"-"]) xk (xb Se 3) (by simp) ?jok M.g5) ?_
  case jok=>
   have e:JoinOk "" ["-",tx (wr (i.natAbs:Int))]=true:=by
    unfold JoinOk Builtin.Str.tooLong
    have h1:(["-",tx (wr (i.natAbs:Int))]:List Str).toArray.foldl (fun a p=>a+p.length+("" :Str).length) 0=0+("-" :Str).length+("" :Str).length+(tx (wr (i.natAbs:Int))).length+("" :Str).length:=rfl
    rw [h1,yN,show ("-" :Str).length=1 from rfl,show ("" :Str).length=0 from rfl,sizeLine_eq]
    simp
    omega
   exact e
  show D.str (Txt.join "" ["-",tx (wr (i.natAbs:Int))])=D.str (tx (wr i))
  congr 1
  have e1:wr i=45::wr (i.natAbs:Int):=by
   unfold wr
   rw [mH h,mF (by omega)]
   rfl
  have e2:(Txt.join "" ["-",tx (wr (i.natAbs:Int))]).cps.toList=wr i:=by
   show (("-" :Str).cps++("" :Str).cps++(tx (wr (i.natAbs:Int))).cps).toList=_
   rw [Array.toList_append,Array.toList_append,show (tx (wr (i.natAbs:Int))).cps.toList=wr (i.natAbs:Int) from xr _,e1]
   rfl
  rw [<-e2,yX]
 ·have h:¬i<0:=of_decide_eq_false h
  refine vP 3 (ds:=[tx (wr (i.natAbs:Int))].map D.str) rfl ?_
  refine xi (Zx Se 4 (sep:= "") (xs:=[tx (wr (i.natAbs:Int))]) xk (xb Se 3) (by simp) ?jok M.g5) ?_
  case jok=>
   have e:JoinOk "" [tx (wr (i.natAbs:Int))]=true:=by
    unfold JoinOk Builtin.Str.tooLong
    have h1:([tx (wr (i.natAbs:Int))]:List Str).toArray.foldl (fun a p=>a+p.length+("" :Str).length) 0=0+(tx (wr (i.natAbs:Int))).length+("" :Str).length:=rfl
    rw [h1,yN,show ("" :Str).length=0 from rfl,sizeLine_eq]
    simp
    omega
   exact e
  show D.str (Txt.join "" [tx (wr (i.natAbs:Int))])=D.str (tx (wr i))
  congr 1
  rw [show i=(i.natAbs:Int) by omega]
  rfl
theorem vt {T:Tx} (M:Mo T):FnD T 3 "fraction_text" VO:=by
 refine x9 (M.A (i:=29) rfl) (by walk_at "S" :ScB ["a","top","bottom"] ["a"] ["whole_text"] _) (by walk_at "1") (by rintro _ _ ⟨_,rfl,_⟩;rfl) fun Y S Z ds d h=>?_
 have Se:=S.toSe
 obtain ⟨a,rfl,hB,rfl⟩:=h
 have l1:=zW hB.1
 have l2:=zW (i:=(a.den:Int)) (by simpa using hB.2)
 have n1:=yM (k:=499) hB.1
 have n2:=yM (i:=(a.den:Int)) (k:=499) (by simpa using hB.2)
 have eq2:∀y:Str,y.cps.toList=wr a.num++47::wr (a.den:Int)->a.den≠1->D.str y=D.str (tx (ftx a)):=fun y hy hd=>by
  unfold ftx
  rw [mF hd,<-W4 a.den,<-hy,yX]
 refine xl S 1 (xg Se 0 (qh M) (by decide) (xa (xj (xb Se 0) xf rfl) xc) ⟨a.num,rfl,hB.1,rfl⟩) ?_
 refine xp (yp (xj (xb Se 0) xf rfl) xf) (fun h=>?_) (fun h=>xn ?_)
 ·have hd:a.den=1:=by have h':(a.den:Int)=1:=(by simpa using h);omega
  refine xi (xb Se 1) ?_
  show D.str _=D.str _
  unfold ftx
  rw [mH hd]
 ·have hd:a.den≠1:=by have h':¬(a.den:Int)=1:=(by simpa using h);omega
  refine xl S 2 (xg Se 0 (qh M) (by decide) (xa (xj (xb Se 0) xf rfl) xc) ⟨(a.den:Int),rfl,(by simpa using hB.2),rfl⟩) ?_
  refine xi (XO (yi (QG (xb Se 1) (by rw [yN];omega)) ?_ (yi xk ?_ (yi (QG (xb Se 2) (by rw [yN];omega)) ?_ v4))) ?_) ?_
  ·rw [xJ,xq,xr];simp [Str.empty];omega
  ·rw [xJ,xq,xq,xr];simp [Str.empty,show ("/" :Str).cps.toList=[47] from rfl];omega
  ·rw [xJ,xq,xq,xq,xr,xr];simp [Str.empty,show ("/" :Str).cps.toList=[47] from rfl];omega
  ·rw [xJ,xq,xq,xq,xr,xr];simp [Str.empty,show ("/" :Str).cps.toList=[47] from rfl];omega
  ·refine eq2 _ ?_ hd
   rw [xq,xq,xq,xr,xr];simp [Str.empty,show ("/" :Str).cps.toList=[47] from rfl]
theorem vm {T:Tx} (M:Mo T):FnD T 4 "spot_text" J6:=by
 refine x9 (M.A (i:=31) rfl) (by walk_at "S" :ScB ["spot","first","behind"] ["spot"] ["fraction_text"] _) (by walk_at "1") (by rintro _ _ ⟨_,_,rfl,_⟩;rfl) fun Y S Z ds d h=>?_
 have Se:=S.toSe
 obtain ⟨k,a,rfl,hk,hB,rfl⟩:=h
 have l1:k.natAbs.log2<1920:=zW (mE hk (by decide+kernel))
 have n1:=yM (i:=k) (k:=2) hk
 have n2:=vA hB
 refine xl S 1 (xj (xb Se 0) xf rfl) ?_
 refine xl S 2 (xg Se 0 (vt M) (by decide) (xa (xj (xb Se 0) xf rfl) xc) ⟨_,rfl,hB,rfl⟩) ?_
 have e1:(":" :Str).cps.toList=[58]:=rfl
 refine xi (XO (yi (qT (xb Se 1) l1) ?_ (yi xk ?_ (yi (QG (xb Se 2) ?_) ?_ v4))) ?_) ?_
 ·rw [xJ,xq,y9,xr];simp [Str.empty];omega
 ·rw [xJ,xq,xq,y9,xr];simp [Str.empty,e1];omega
 ·rw [yN];omega
 ·rw [xJ,xq,xq,xq,y9,xr,xr];simp [Str.empty,e1];omega
 ·rw [xJ,xq,xq,xq,y9,xr,xr];simp [Str.empty,e1];omega
 ·refine KJ ?_
  rw [xq,xq,xq,y9,xr,xr];simp [Str.empty,e1,stx]
theorem zG {T:Tx} (M:Mo T):FnD T 1 "is_figures" xbC:=by
 refine x9 (M.A (i:=32) rfl) (by walk_at "S" :ScB ["text","most"] ["text","most"] ["all","len"] _) (by walk_at "2") (by rintro _ _ ⟨_,_,rfl,_⟩;rfl) fun Y S Z ds d h=>?_
 have Se:=S.toSe
 obtain ⟨x,m,rfl,hT,rfl⟩:=h
 have hL:=hT.len
 have hz1:x.length<=1000000:=by omega
 refine xp (yu (yv (xb Se 0) xk) fun _=>yO (wq (yr Se 1 (xa (xb Se 0) xc) (len_str hz1) M.gk) (xb Se 1))).pt (fun h=>?_) (fun h=>xn ?_)
 ·refine xi yB ?_
  show D.bl false=D.bl _
  rw [okf1 h]
 obtain ⟨a,r,hx,hm⟩:=okf2 h
 have h0:atI x.cps.toList 0=some a:=VJ (j:=0) (by rw [hx];rfl)
 refine xp (qc (yv (xaC (xb Se 0) xf h0 hz1) xk) fun _=>qz (ZW (xb Se 0) xk)).pt (fun h=>?_) (fun h=>xn ?_)
 ·refine xi yB ?_
  show D.bl false=D.bl _
  have h':=(okf3 hx).symm.trans h
  unfold okFig
  rw [h']
  simp
 have h':=(okf3 hx).symm.trans h
 have e:(x.cps.toList.map fun q=>some (D.bl (decide (q∈digs)))).filterMap id=(x.cps.toList.map fun q=>decide (q∈digs)).map D.bl:=by
  rw [List.filterMap_map,List.map_map,<-List.filterMap_eq_map]
  rfl
 refine xi (JR Se 0 (xa (xbq (YM (tn:=["sign"]) (fs:=[]) (ix:=[]) (G':=["FIGURES"]) Se Z.sc ?B (xar (xb Se 0)) (x.cps.toList.map fun q=>some (D.bl (decide (q∈digs)))) (by rw [VZ,List.length_map]) (by rw [List.length_map,<-xJ];omega) ?T) e) xc) M.mt) ?_
 case B=>exact ⟨rfl,rfl,by decide+kernel,by decide+kernel,by decide+kernel,by decide+kernel,by decide+kernel,by decide+kernel,rfl,by decide+kernel⟩
 case T=>
  intro Y' S' hl m d r hd hr ts hts
  obtain ⟨q,hq,rfl⟩:=Uv hd
  obtain ⟨t,rfl⟩:∃t,ts=[t]:=List.length_eq_one_iff.mp hts
  rw [List.getElem?_map,hq] at hr
  cases hr
  exact ⟨[_],rfl,rfl,za S'.toSn 0 (.inr (hl _ (by simp))),rfl,xaD (xb S' 0) (wP S'.toSn 0 M.hX)⟩
 show D.bl _=D.bl _
 unfold okFig
 rw [h',hx]
 rw [hx] at hm
 rw [decide_eq_true hm]
 simp [Function.comp_def]
theorem ya {T:Tx} (M:Mo T):FnX T 2 "read_figures" j9:=by
 refine zj (M.A (i:=33) rfl) (by walk_at "S" :ScB ["text","most"] ["text","most"] ["int","is_figures","NoText"] _) (by walk_at "2") (by rintro _ _ ⟨_,_,rfl,_⟩;rfl) fun Y S Z ds r h hz=>?_
 have Se:=S.toSe
 obtain ⟨x,m,rfl,hT,hm,hr⟩:=h
 have hL:=hT.len
 have hz1:x.length<=1000000:=by omega
 refine xp (xU (xR (xg Se 1 (zG M) (by decide) (xa (xb Se 0) (xa (xb Se 1) xc)) ⟨_,_,rfl,hT,rfl⟩))) (fun h=>?_) (fun h=>xn ?_)
 ·have hn:figs x.cps.toList m=none:=by unfold figs;rw [if_neg];simpa using h
  rw [hn] at hr
  have hr:r= .ex "NoText" :=hr
  subst hr
  have hc:∀q∈x.cps.toList,q<16^8:=fun q hq=>Nat.lt_trans (hT.2 q hq) (by decide)
  have hl:=StrLaws.reprText_len x hc
  have hw:=yM (i:=(m:Int)) (k:=5) (by simp;omega)
  refine vO S 2 M.gC (.cons (QH (xb Se 0) (by omega) hc) (by omega) (.cons xk (by decide) (.cons (qT (xb Se 1) (jd (by simp;omega))) ?_ (.cons xk (by decide) .nil)))) (hz _ rfl _).2
  rw [y9,yN];omega
 ·have hf:okFig x.cps.toList m=true:=by simpa using h
  have hn:figs x.cps.toList m=some (dv x.cps.toList):=by unfold figs;rw [mH hf]
  rw [hn] at hr
  have hr:r= .ok (.int (dv x.cps.toList:Nat)):=hr
  subst hr
  exact xi (YL Se 0 (xa (xb Se 0) xc) (uX hm hn) (by rw [xJ];have:=(zu hf).2.1;omega) M.gG) rfl
theorem yU {T:Tx} (M:Mo T):FnX T 3 "read_whole" Xg:=by
 refine zj (M.A (i:=34) rfl) (by walk_at "S" :ScB ["text","most","number"] ["text","most"] ["read_figures","NoText"] _) (by walk_at "2") (by rintro _ _ ⟨_,_,rfl,_⟩;rfl) fun Y S Z ds r h hz=>?_
 have Se:=S.toSe
 obtain ⟨x,m,rfl,hT,hm,hr⟩:=h
 have hL:=hT.len
 have hz1:x.length<=1000000:=by omega
 refine xp (xU (xR (WG (cd:=45) (xb Se 0) xk))) (fun h=>?_) (fun h=>xn ?_)
 ·have h45:¬x.cps.toList[0]? =some 45:=by simpa using h
  unfold sgn at hr
  rw [mF h45] at hr
  cases q:figs x.cps.toList m with
  | none=>
   rw [q] at hr
   have hr:r= .ex "NoText" :=hr
   subst hr
   exact xZ (xI Se 0 (ya M) (by decide) (xa (xb Se 0) (xa (xb Se 1) xc)) ⟨_,_,rfl,hT,hm,by rw [q];rfl⟩ (hz _ rfl _).1)
  | some n=>
   rw [q] at hr
   have hr:r= .ok (.int (n:Int)):=hr
   subst hr
   exact xi (xM Se 0 (ya M) (by decide) (xa (xb Se 0) (xa (xb Se 1) xc)) ⟨_,_,rfl,hT,hm,by rw [q];rfl⟩) rfl
 have h45:x.cps.toList[0]? =some 45:=by simpa using h
 have ec:cutL x.cps.toList (some 1) none=x.cps.toList.drop 1:=jT _ 1
 have hT2:Tl (tx (cutL x.cps.toList (some 1) none)).cps.toList:=by rw [xr,ec];exact hT.sub (List.drop_sublist _ _)
 unfold sgn at hr
 rw [mH h45,<-ec,<-xr (cutL x.cps.toList (some 1) none)] at hr
 cases q:figs (tx (cutL x.cps.toList (some 1) none)).cps.toList m with
 | none=>
  rw [q] at hr
  have hr:r= .ex "NoText" :=hr
  subst hr
  exact yT S 2 (xI Se 0 (ya M) (by decide) (xa (XN (xb Se 0) xf hz1) (xa (xb Se 1) xc)) ⟨_,_,rfl,hT2,hm,by rw [q];rfl⟩ (hz _ rfl _).1)
 | some n=>
  rw [q] at hr
  refine xl S 2 (xM Se 0 (ya M) (by decide) (xa (XN (xb Se 0) xf hz1) (xa (xb Se 1) xc)) ⟨_,_,rfl,hT2,hm,by rw [q];rfl⟩) ?_
  refine xp (yp (xb Se 2) xf) (fun h=>?_) (fun h=>xn ?_)
  ·have h0:n=0:=by simpa using h
   simp only [if_pos h0] at hr
   have hr:r= .ex "NoText" :=hr
   subst hr
   exact yD S 1 M.gC (xa xk xc) (hz _ rfl _).2
  ·have h0:¬n=0:=by simpa using h
   simp only [if_neg h0] at hr
   have hr:r= .ok (.int (-(n:Int))):=hr
   subst hr
   exact xi (wc (xb Se 2)) rfl
theorem x6 {T:Tx} (M:Mo T):FnX T 4 "read_fraction" wU:=by
 refine zj (M.A (i:=35) rfl) (by walk_at "S" :ScB ["text","parts","top","bottom"] ["text"] ["read_whole","MOST_FIGURES","read_figures","fraction","NoText","shared"] _) (by walk_at "1") (by rintro _ _ ⟨_,rfl,_⟩;rfl) fun Y S Z ds r h hz=>?_
 have Se:=S.toSe
 obtain ⟨x,rfl,hT,hr⟩:=h
 have hL:=hT.len
 have hz1:x.length<=1000000:=by omega
 have hP:=hT.part 47
 refine xl S 1 (Vx (cd:=47) (xb Se 0) xk hz1) ?_
 unfold frac at hr
 generalize partL 47 x.cps.toList=pa at hP hr
 obtain ⟨p1,p2,p3⟩:=pa
 dsimp only at hP hr ⊢
 have a0:Xg [.str (tx p1),.int ((60:Nat):Int)] (rsO (sgn p1 60) D.int "NoText"):=⟨tx p1,60,rfl,hP.1.tx,by decide,by rw [xr]⟩
 cases q:sgn p1 60 with
 | none=>
  rw [q] at hr a0
  have hr:r= .ex "NoText" :=hr
  subst hr
  exact yT S 2 (xI Se 0 (yU M) (by decide) (xa (xj (xb Se 1) xf rfl) (xa (yt Se.toSn 1 M.gy) xc)) a0 (hz _ rfl _).1)
 | some t=>
  rw [q] at hr a0
  refine xl S 2 (xM Se 0 (yU M) (by decide) (xa (xj (xb Se 1) xf rfl) (xa (yt Se.toSn 1 M.gy) xc)) a0) ?_
  refine xp (yv (xj (xb Se 1) xf rfl) xk) (fun h=>?_) (fun h=>xn ?_)
  ·have h2:p2=[]:=by rw [zP,xr,show ("" :Str).cps.toList=[] from rfl] at h;simpa using h
   simp only [if_pos h2] at hr
   have hr:r= .ok (.tup [.int t,.int 1]):=hr
   subst hr
   have fr2:kf ([.int t]++ [.int 1]) (.tup [.int t,.int 1]):=⟨_,_,rfl,by decide,by decide+kernel,by rw [show Rat.divInt t 1=(t:Rat) from by rw [show (1:Int)=((1:Nat):Int) from rfl,Rat.divInt_ofNat,Rat.mkRat_one]];rfl⟩
   exact xi (jI Se 3 (Yr M) (by decide) (xa (xb Se 2) xc) fr2) rfl
  ·have h2:¬p2=[]:=by rw [zP,xr,show ("" :Str).cps.toList=[] from rfl] at h;simpa using h
   simp only [if_neg h2] at hr
   have a1:j9 [.str (tx p3),.int ((60:Nat):Int)] (rsO (figs p3 60) (fun n=> .int (n:Int)) "NoText"):=⟨tx p3,60,rfl,hP.2.tx,by decide,by rw [xr]⟩
   cases q3:figs p3 60 with
   | none=>
    rw [q3] at hr a1
    have hr:r= .ex "NoText" :=hr
    subst hr
    exact yT S 3 (xI Se 2 (ya M) (by decide) (xa (xj (xb Se 1) xf rfl) (xa (yt Se.toSn 1 M.gy) xc)) a1 (hz _ rfl _).1)
   | some b=>
    rw [q3] at hr a1
    refine xl S 3 (xM Se 2 (ya M) (by decide) (xa (xj (xb Se 1) xf rfl) (xa (yt Se.toSn 1 M.gy) xc)) a1) ?_
    refine xp (yu (wn (xb Se 3) xf) fun _=>yO (yY (xg Se 5 (vW M) (by decide) (xa (xb Se 2) (xa (xb Se 3) xc)) ⟨_,_,rfl,rfl⟩) xf)).pt (fun h=>?_) (fun h=>xn ?_)
    ·have hb:(b:Int)<2∨Int.gcd t b≠1:=by
      rcases Bool.or_eq_true_iff.mp h with h | h
      ·exact .inl (by simpa using h)
      ·right;simp at h;omega
     simp only [if_pos hb] at hr
     have hr:r= .ex "NoText" :=hr
     subst hr
     have hc:∀q∈x.cps.toList,q<16^8:=fun q hq=>Nat.lt_trans (hT.2 q hq) (by decide)
     have hl:=StrLaws.reprText_len x hc
     exact vO S 4 M.gC (.cons (QH (xb Se 0) (by omega) hc) (by omega) (.cons xk (by decide) .nil)) (hz _ rfl _).2
    ·have hb:¬((b:Int)<2∨Int.gcd t b≠1):=by
      obtain ⟨h1,h2⟩:=Bool.or_eq_false_iff.mp h
      rintro (z | z)
      ·simp at h1;omega
      ·simp at h2;omega
     simp only [if_neg hb] at hr
     have hr:r= .ok (.tup [.int t,.int (b:Int)]):=hr
     subst hr
     exact xi (xu (xa (xb Se 2) (xa (xb Se 3) xc))) rfl
theorem z8 {T:Tx} (M:Mo T):FnX T 5 "read_spot" VM:=by
 refine zj (M.A (i:=36) rfl) (by walk_at "S" :ScB ["p","text","parts","first","spot"] ["p","text"] ["read_whole","MOST_FIRST_FIGURES","read_fraction","FURTHEST_FIRST","NoSpot","abs","is_spot"] _) (by walk_at "2") (by rintro _ _ ⟨_,_,rfl,_⟩;rfl) fun Y S Z ds r h hz=>?_
 have Se:=S.toSe
 obtain ⟨p,x,rfl,hp,hT,hr⟩:=h
 have hL:=hT.len
 have hz1:x.length<=1000000:=by omega
 have hP:=hT.part 58
 refine xl S 2 (Vx (cd:=58) (xb Se 1) xk hz1) ?_
 unfold rd8 at hr
 generalize partL 58 x.cps.toList=pa at hP hr
 obtain ⟨p1,p2,p3⟩:=pa
 dsimp only at hP hr ⊢
 have a0:Xg [.str (tx p1),.int ((3:Nat):Int)] (rsO (sgn p1 3) D.int "NoText"):=⟨tx p1,3,rfl,hP.1.tx,by decide,by rw [xr]⟩
 have a1:wU [.str (tx p3)] (rsO (frac p3) (fun p=> .tup [.int p.1,.int p.2]) "NoText"):=⟨tx p3,rfl,hP.2.tx,by rw [xr]⟩
 cases q:sgn p1 3 with
 | none=>
  rw [q] at hr a0
  have hr:r= .ex "NoText" :=hr
  subst hr
  exact yT S 3 (xI Se 0 (yU M) (by decide) (xa (xj (xb Se 2) xf rfl) (xa (yt Se.toSn 1 M.gD) xc)) a0 (hz _ rfl _).1)
 | some k=>
  have hk:=Uw q
  rw [q] at hr a0
  refine xl S 3 (xM Se 0 (yU M) (by decide) (xa (xj (xb Se 2) xf rfl) (xa (yt Se.toSn 1 M.gD) xc)) a0) ?_
  cases q3:frac p3 with
  | none=>
   rw [q3] at hr a1
   have hr:r= .ex "NoText" :=hr
   subst hr
   exact yT S 4 (JJ (zO (xb Se 3) (Xt (xI Se 2 (x6 M) (by decide) (xa (xj (xb Se 2) xf rfl) xc) a1 (hz _ rfl _).1) y7)))
  | some z=>
   obtain ⟨ef,hB⟩:=xav q3
   rw [q3] at hr a1
   have a1:wU [.str (tx p3)] (.ok (frD (frR z))):=by rw [<-ef];exact a1
   refine xl S 4 (d:= .tup [.int k,frD (frR z)]) (xu (xa (xb Se 3) (xa (xM Se 2 (x6 M) (by decide) (xa (xj (xb Se 2) xf rfl) xc) a1) xc))) ?_
   dsimp only at hr
   generalize frR z=a at hB hr
   have ok:okS (.tup [.int k,frD a]):=by
    intro k' a' b' e
    cases e
    exact ⟨by omega,hB.fb.1,hB.fb.2⟩
   refine xp (yu (wq (u3 Se 5 (xa (xb Se 3) xc) M.g8) (yt Se.toSn 3 M.gV)) fun _=>yO (xU (xR (xg Se 6 (Qq M) (by decide) (xa (xb Se 0) (xa (xb Se 4) xc)) ⟨p,.tup [.int k,frD a],rfl,hp,ok,rfl⟩)))).pt (fun h=>?_) (fun h=>xn ?_)
   ·have hc:300<k.natAbs∨isSp p k a=false:=by
     rcases Bool.or_eq_true_iff.mp h with h | h
     ·left;simp at h;omega
     ·right
      rw [jk hp] at h
      simpa using h
    rw [mH hc] at hr
    have hr:r= .ex "NoSpot" :=hr
    subst hr
    have hcc:∀q∈x.cps.toList,q<16^8:=fun q hq=>Nat.lt_trans (hT.2 q hq) (by decide)
    have hl:=StrLaws.reprText_len x hcc
    have hpb:p.natAbs<10^(5+1):=by rcases hp with rfl | rfl | rfl | rfl<;>decide
    have hw:=yM hpb
    refine vO S 4 M.gH (.cons (QH (xb Se 1) (by omega) hcc) (by omega) (.cons xk (by decide) (.cons (qT (xb Se 0) (zW (mE hpb (by decide+kernel)))) ?_ (.cons xk (by decide) .nil)))) (hz _ rfl _).2
    rw [y9,yN];omega
   ·have hc:¬(300<k.natAbs∨isSp p k a=false):=by
     obtain ⟨h1,h2⟩:=Bool.or_eq_false_iff.mp h
     rw [jk hp] at h2
     have h2:isSp p k a=true:=by simpa using h2
     rintro (y | y)
     ·simp at h1;omega
     ·rw [h2] at y;cases y
    rw [mF hc] at hr
    have hr:r= .ok (sptD k a):=hr
    subst hr
    exact xi (xb Se 4) rfl
theorem vi {T:Tx} (M:Mo T):FnX T 5 "read_end" ka:=by
 refine zj (M.A (i:=37) rfl) (by walk_at "S" :ScB ["text"] ["text"] ["FAR","read_fraction"] _) (by walk_at "1") (by rintro _ _ ⟨_,rfl,_⟩;rfl) fun Y S Z ds r h hz=>?_
 have Se:=S.toSe
 obtain ⟨x,rfl,hT,hr⟩:=h
 refine xp (yv (xb Se 0) (wP Se.toSn 0 M.ms)) (fun h=>?_) (fun h=>xn ?_)
 ·rw [Vw] at h
  rw [if_pos (by simpa using h)] at hr
  subst hr
  exact xi (wP Se.toSn 0 M.ms) rfl
 ·rw [Vw] at h
  rw [if_neg (by simpa using h)] at hr
  cases q:frac x.cps.toList with
  | none=>
   rw [q] at hr
   have hr:r= .ex "NoText" :=hr
   subst hr
   exact xZ (xI Se 1 (x6 M) (by decide) (xa (xb Se 0) xc) ⟨_,rfl,hT,by rw [q];rfl⟩ (hz _ rfl _).1)
  | some p=>
   rw [q] at hr
   have hr:r= .ok (.tup [.int p.1,.int p.2]):=hr
   subst hr
   exact xi (xM Se 1 (x6 M) (by decide) (xa (xb Se 0) xc) ⟨_,rfl,hT,by rw [q];rfl⟩) rfl
theorem uE {T:Tx} (M:Mo T):FnD T 6 "moved" wg:=by
 refine x9 (M.A (i:=38) rfl) (by walk_at "S" :ScB ["p","table","spot"] ["p","table","spot"] ["spot_of","product","table_at"] _) (by walk_at "3") (by rintro _ _ ⟨_,_,_,_,rfl,_⟩;rfl) fun Y S Z ds d h=>?_
 have Se:=S.toSe
 obtain ⟨p,a,k,q,rfl,hp,k0,k1,hP,hR⟩:=h
 exact xi (xg Se 0 (Qn M) (by decide) (xa (xb Se 0) (xa (xg Se 1 (uD M) (by decide) (xa (xb Se 1) (xa (xg Se 2 (qi M) (by decide) (xa (xb Se 0) (xa (xb Se 2) xc)) ⟨p,k,q,rfl,hp,by omega,by omega,rfl⟩) xc)) ⟨a,tabS p k q,rfl,hP,rfl⟩) xc)) hR) rfl
theorem Xm {T:Tx} (M:Mo T):FnX T 2 "figures" Xi:=by
 refine zj (M.A (i:=39) rfl) (by walk_at "S" :ScB ["p","a","sunk","bottom","over_bottom","row","places","top","figure"] ["p","a"] ["power_of","MOST_BOTTOM","over_by","raised","TooMany","len"] _) (by walk_at "2") (by rintro _ _ ⟨_,_,rfl,_⟩;rfl) fun Y S Z ds r h hz=>?_
 have Se:=S.toSe
 obtain ⟨p,a,rfl,hp,fa,hB,rfl⟩:=h
 have hv:=Ki hp (yn a) fa.2
 have pe:=yg hp (vp p a.den)
 refine xl S 2 (d:= .int (vp p a.den:Int)) (xg Se 0 (zA M) (by decide) (xa (xb Se 0) (xa (xj (xb Se 1) xf rfl) xc)) ⟨p,(a.den:Int),rfl,hp,by rw [mF (yn a)]⟩) ?_
 refine xl S 3 (xD (xj (xb Se 1) xf rfl) (xg Se 3 (yP M) (by decide) (xa (xb Se 0) (xa (xb Se 2) xc)) ⟨p,(vp p a.den:Int),rfl,.inl hp,by omega,rfl⟩) ?D1 ?D2) ?_
 case D1=>rw [Int.toNat_natCast];exact pe
 case D2=>
  rw [Int.toNat_natCast]
  have bp:=ul hp (vp p a.den)
  obtain ⟨u,hu,_⟩:=Xu hp (yn a)
  have u0:u≠0:=fun z=>yn a (by rw [hu,z,Int.mul_zero])
  have f2:=fa.2
  unfold Bd at f2 ⊢
  refine Nat.lt_of_le_of_lt ?_ (mE f2 (Nat.pow_le_pow_right (by decide) (by omega)))
  rw [show (a.den:Int).natAbs=(p^vp p a.den).natAbs*u.natAbs by rw [<-Int.natAbs_mul,<-hu]]
  exact Nat.le_mul_of_pos_right _ (by omega)
 rw [Int.toNat_natCast]
 refine xp (wq (xb Se 3) (yt Se.toSn 1 M.gT)) (fun _=>?_) (fun h=>absurd hB (of_decide_eq_false h))
 refine yD S 4 M.gB (xa (XO (yi xk ?_ (yi (qT (xb Se 0) ?_) ?_ (yi xk ?_ (yi (qT (yt Se.toSn 1 M.gT) ?_) ?_ v4)))) ?_) xc) (hz _ rfl _).2
 all_goals (rcases hp with rfl | rfl | rfl | rfl<;>decide+kernel)
theorem Qh {T:Tx} (M:Mo T):FnZ T 8 "road" "TooFar" X2:=by
 refine xbH (M.A (i:=40) rfl) (by walk_at "S" :ScB ["p","one","other","far"] ["p","one","other"] ["way","FURTHEST_WAY","spots_between","TooFar"] _) (by walk_at "3") (by rintro _ _ ⟨_,_,_,rfl,_⟩;rfl) fun Y S Z ds r h hz=>?_
 have Se:=S.toSe
 obtain ⟨p,a,b,rfl,hp,hw,hw1,hw5,rfl⟩:=h
 refine xl S 3 (d:= .int (wy p a b)) (xg Se 0 (Zc M) (by decide) (xa (xb Se 0) (xa (xb Se 1) (xa (xb Se 2) xc))) ⟨p,a.1,a.2,b.1,b.2,rfl,hp,hw,rfl⟩) ?_
 refine xp (wq (xb Se 3) (yt Se.toSn 1 M.g4)) (fun h=>?_) (fun h=>absurd hw5 (of_decide_eq_false h))
 obtain ⟨C,D,fI,fd,hC,ZF,hk,hb',FI⟩:=Jl M
 exact VY S 3 Z.ex ZF hC hk FI (by decide) hb' (xb Se 3) (by omega) (hz _ rfl _).2
theorem uA {T:Tx} (M:Mo T):FnX T 8 "road" Xh:=(Qh M).toX fun ds r h=>by
 obtain ⟨n,h,rfl⟩:=h;exact ⟨rfl,n,h⟩
theorem Wd {T:Tx} (M:Mo T):FnD T 7 "turn_between" j4:=by
 refine x9 (M.A (i:=41) rfl) (by walk_at "S" :ScB ["p","one","other"] ["p","one","other"] ["spot_above","lies_in"] _) (by walk_at "3") (by rintro _ _ ⟨_,_,_,_,_,rfl,_,_,_,rfl⟩;rfl) fun Y S Z ds d h=>?_
 have Se:=S.toSe
 obtain ⟨p,k1,q1,k2,q2,rfl,hp,hw,hl,rfl⟩:=h
 have lv0:=(jb hp k1 k2 _ q1 q2).mp (Int.le_refl (lvS p k1 q1 k2 q2))
 have e:k1+lowS p k1 q1 k2 q2=lvS p k1 q1 k2 q2:=by unfold lvS;omega
 have a:=hw.a1
 have lv1:=lv0.1
 rw [<-e] at hl lv1
 rw [<-e]
 exact xi (xg Se 0 (uH M) (by decide) (xa (xb Se 0) (xa (xb Se 1) (xa (x8 (xj (xb Se 1) xf rfl) (xj (xg Se 1 (XF M) (by decide) (xa (xb Se 0) (xa (xb Se 1) (xa (xb Se 2) xc))) ⟨p,k1,q1,k2,q2,rfl,hp,hw,rfl⟩) xf rfl)) xc))) ⟨p,k1,q1,k1+lowS p k1 q1 k2 q2,rfl,hp,hw.f1,by omega,by omega,rfl⟩) rfl
theorem Qr {T:Tx} (M:Mo T):FnD T 8 "spot_along" W3:=by
 refine x9 (M.A (i:=42) rfl) (by walk_at "S" :ScB ["p","one","other","steps","up"] ["p","one","other","steps"] ["spot_above","turn_between"] _) (by walk_at "4") (by rintro _ _ ⟨_,_,_,_,rfl,_⟩;rfl) fun Y S Z ds d h=>?_
 have Se:=S.toSe
 obtain ⟨p,a,b,j,rfl,hp,hw,hl,j0,j1,rfl⟩:=h
 have lv0:=(jb hp a.1 b.1 _ a.2 b.2).mp (Int.le_refl (lvS p a.1 a.2 b.1 b.2))
 have a0:=hw.a0;have a1:=hw.a1;have b0:=hw.b0;have b1:=hw.b1
 have lv1:=lv0.1
 refine xl S 4 (d:= .int (a.1 - lvS p a.1 a.2 b.1 b.2)) (yQ (xj (xb Se 1) xf rfl) (xj (xg Se 1 (Wd M) (by decide) (xa (xb Se 0) (xa (xb Se 1) (xa (xb Se 2) xc))) ⟨p,a.1,a.2,b.1,b.2,rfl,hp,hw,hl,rfl⟩) xf rfl)) ?_
 unfold alongS
 generalize lvS p a.1 a.2 b.1 b.2=t at*
 refine xp (Kl (xb Se 3) (xb Se 4)) (fun h=>?_) (fun h=>xn ?_)
 ·rw [mH (mC h)]
  exact xi (xg Se 0 (uH M) (by decide) (xa (xb Se 0) (xa (xb Se 1) (xa (yQ (xj (xb Se 1) xf rfl) (xb Se 3)) xc))) ⟨p,a.1,a.2,a.1 - j,rfl,hp,hw.f1,by omega,by omega,rfl⟩) rfl
 ·rw [mF (of_decide_eq_false h)]
  exact xi (xg Se 0 (uH M) (by decide) (xa (xb Se 0) (xa (xb Se 2) (xa (x8 (yQ (xj (xb Se 1) xf rfl) (xB xf (xb Se 4) (.of_left (intBits_le_64 (by decide) (by decide))))) (xb Se 3)) xc))) ⟨p,b.1,b.2,a.1 - 2*(a.1 - t)+j,rfl,hp,hw.f2,by omega,by omega,rfl⟩) rfl
theorem Wf {T:Tx} (M:Mo T):FnD T 1 "is_over_most" kc:=by
 refine x9 (M.A (i:=44) rfl) (by walk_at "S" :ScB ["p","r","count","ring","step"] ["p","r"] ["range","MOST_SPOTS"] _) (by walk_at "2") (by rintro _ _ ⟨_,_,rfl,_⟩;rfl) fun Y S Z ds d h=>?_
 have Se:=S.toSe
 obtain ⟨p,r,rfl,hp,r0,r1,rfl⟩:=h
 have p2:=hp.two_le
 refine xl S 2 xf ?_
 refine xl S 3 (x8 (xb Se 0) xf) ?_
 refine Yc S (zn Se 0 (xa (xb Se 1) xc) (by omega) (by omega) M.gJ) (fun i c=>(∀j,j<i->¬400<cntF p (j+1))/\∃s4:Slot,c=[.val (.int p),.val (.int r),.val (.int (cntF p i)),.val (.int ((p+1)*p^i)),s4]) ⟨fun j hj=>absurd hj (by omega),.un,by rw [Int.pow_zero,Int.mul_one];rfl⟩ ?_ ?_
 ·rintro m d _ hd ⟨hno,s4,rfl⟩
  obtain ⟨hm,rfl⟩:=yR hd
  refine ⟨_,zi S 4,?_⟩
  refine xl S 2 (d:= .int (cntF p (m+1))) (x8 (xb Se 2) (xb Se 3)) ?_
  refine xp (wq (xb Se 2) (yt Se.toSn 1 M.gW)) (fun h=>?_) (fun h=>xn ?_)
  ·refine xi yB ?_
   have e:ovM p r.toNat=true:=List.any_eq_true.mpr ⟨m,List.mem_range.mpr hm,h⟩
   show D.bl true=D.bl _
   rw [e]
  ·have b1:=ul hp m
   have b2:Bd (3*m+1+4) ((p+1)*p^m):=by
    have:=Bd.mul (show Bd 4 (p+1) from Bd.of 16 (by omega) (by omega) (by decide)) b1
    exact this.mono (by omega)
   refine xl S 3 (d:= .int ((p+1)*p^(m+1))) ?M ?_
   case M=>
    rw [Int.pow_succ,<-Int.mul_assoc]
    exact xB (xb Se 3) (xb Se 0) (mulOk b2 (show Bd 4 p from Bd.of 8 (by omega) (by omega) (by decide)) (by omega))
   refine xn ⟨fun j hj=>?_,_,rfl⟩
   by_cases e:j=m
   ·subst e;exact of_decide_eq_false h
   ·exact hno j (by omega)
 ·rintro _ ⟨hno,s4,rfl⟩
  rw [x5] at hno
  refine xi yB ?_
  have e:ovM p r.toNat=false:=by
   refine List.any_eq_false.mpr fun i hi=>?_
   simpa using hno i (List.mem_range.mp hi)
  show D.bl false=D.bl _
  rw [e]
theorem Yp {T:Tx} (M:Mo T):FnX T 2 "within" ZD:=by
 refine zj (M.A (i:=43) rfl) (by walk_at "S" :ScB ["p","spot","r","told","ring","step","one"] ["p","spot","r"] ["is_over_most","range","list","TooMany","ring_behind","MOST_SPOTS"] _) (by walk_at "3") (by rintro _ _ ⟨_,_,rfl,_⟩;rfl) fun Y S Z ds r h hz=>?_
 have Se:=S.toSe
 obtain ⟨p,s,rfl,hp,p2,rfl⟩:=h
 have hov:ovM p (7:Int).toNat=true:=by rcases hp with rfl | rfl | rfl | rfl<;>first | exact absurd rfl p2 | decide+kernel
 refine xp (xR (xg Se 0 (Wf M) (by decide) (xa (xb Se 0) (xa (xb Se 2) xc)) ⟨p,7,rfl,hp,by decide,by decide,rfl⟩)) (fun h=>?_) (fun h=>by rw [hov] at h;cases h)
 refine yD S 3 M.gB (xa (XO (yi xk ?_ (yi (qT (yt Se.toSn 5 M.gW) ?_) ?_ (yi xk ?_ v4))) ?_) xc) (hz _ rfl _).2
 all_goals decide+kernel
theorem Qo {T:Tx} (M:Mo T):FnD T 5 "slide" XY:=by
 refine x9 (M.A (i:=46) rfl) (by walk_at "S" :ScB ["p","table","power"] ["p","table"] ["power_in","max","trace","measure"] _) (by walk_at "2") (by rintro _ _ ⟨_,_,_,_,rfl,_⟩;rfl) fun Y S Z ds d h=>?_
 have Se:=S.toSe
 obtain ⟨p,t,v1,v2,rfl,hp,tb,mo,h1,h2,rfl⟩:=h
 refine xl S 2 (d:= .int v1) (xg Se 0 (yE M) (by decide) (xa (xb Se 0) (xa (xg Se 2 (U1 M) (by decide) (xa (xb Se 1) xc) ⟨t,rfl,tb,rfl⟩) xc)) ⟨p,t.a+t.d,rfl,hp,by rw [h1];rfl⟩) ?_
 refine xp (KG (d:= .int v1) (xb Se 2)) (fun h=>nomatch h) (fun _=>xn ?_)
 exact xi (QL Se 1 (xa xf (xa (yQ (i:=v2) (xg Se 0 (yE M) (by decide) (xa (xb Se 0) (xa (xg Se 3 (y4 M) (by decide) (xa (xb Se 1) xc) ⟨t,rfl,mo,rfl⟩) xc)) ⟨p,t.det,rfl,hp,by rw [h2];rfl⟩) (xB xf (xb Se 2) (.of_left (intBits_le_64 (by decide) (by decide))))) xc)) M.ma) rfl
theorem Qj {T:Tx} (M:Mo T):FnX T 9 "kind" ZM:=by
 refine zj (M.A (i:=45) rfl) (by walk_at "S" :ScB ["p","table","there","one","other","steps"] ["p","table"] ["moved","FIRST","spot_along","slide","SLIDES","KEEPS","TURNS","road","way","min","max"] _) (by walk_at "2") (by rintro _ _ ⟨rfl,_⟩;rfl) fun Y S Z ds r h hz=>?_
 have Se:=S.toSe
 obtain ⟨e,rfl⟩:=h
 subst e
 refine xl S 2 (d:=stD (192,zh)) (xg Se 0 (uE M) (by decide) (xa (xb Se 0) (xa (xb Se 1) (xa (wQ Se.toSn 1 M.gZ) xc))) xbe) ?_
 refine xl S 3 (d:=stD (-96,ze)) ?ON ?_
 case ON=>
  rw [<-xbw]
  exact (xg Se 2 (Qr M) (by decide) (xa (xb Se 0) (xa (wQ Se.toSn 1 M.gZ) (xa (xb Se 2) (xa (xD (xg Se 8 (Zc M) (by decide) (xa (xb Se 0) (xa (wQ Se.toSn 1 M.gZ) (xa (xb Se 2) xc))) ⟨2,0,0,192,zh,rfl,yK,W5,by rw [kn]⟩) xf (by decide) (by decide+kernel)) xc)))) ⟨2,(0,0),(192,zh),288,rfl,yK,W5,by show -3000<=lvS 2 0 0 192 zh;unfold lvS;rw [jf];decide,by decide,by decide,rfl⟩)
 refine xl S 4 (d:=stD (480,q9)) (xg Se 0 (uE M) (by decide) (xa (xb Se 0) (xa (xb Se 1) (xa (xb Se 3) xc))) xbd) ?_
 refine xp (zD Se (d1:=stD (-96,ze)) (d2:=stD (480,q9)) (xb Se 3) (xb Se 4) rfl rfl) (fun h=>?_) (fun _=>xn ?_)
 ·exfalso
  rw [JS] at h
  have h:=congrArg Prod.fst (mC h)
  exact absurd (show (-96:Int)=480 from h) (by decide)
 refine xl S 5 (d:= .int 576) (xg Se 3 (Qo M) (by decide) (xa (xb Se 0) (xa (xb Se 1) xc)) xa4) ?_
 refine xp (yp (xb Se 5) xf) (fun h=>absurd (mC h) (by decide)) (fun _=>xn ?_)
 exact xZ (JI (zO (wP Se.toSn 4 M.mj) (zO (xb Se 5) (Xt (xI Se 7 (uA M) (by decide) (xa (xb Se 0) (xa (xb Se 3) (xa (xb Se 4) xc))) ⟨_,⟨2,(-96,ze),(480,q9),rfl,yK,KA,by rw [QW];decide,by rw [QW];decide,rfl⟩,rfl⟩ (hz _ rfl _).1) y7))))
theorem Yq {T:Tx} (M:Mo T):FnX T 1 "check_unlike" QR:=by
 refine zj (M.A (i:=47) rfl) (by walk_at "S" :ScB ["one","other"] ["one","other"] ["NoLine"] _) (by walk_at "2") (by rintro _ _ ⟨_,rfl,_⟩;rfl) fun Y S Z ds r h hz=>?_
 have Se:=S.toSe
 obtain ⟨e,rfl,he,rfl⟩:=h
 exact xp (zD Se (d1:=e) (d2:=e) (xb Se 0) (xb Se 1) he.1 he.1) (fun _=>yD S 0 M.gI (xa xk xc) (hz _ rfl _).2) (fun h=>by rw [he.2] at h;cases h)
theorem Xl {T:Tx} (M:Mo T):FnX T 2 "nearest" ZK:=by
 refine zj (M.A (i:=48) rfl) (by walk_at "S" :ScB ["p","spot","one","other","turns","there"] ["p","spot","one","other"] ["check_unlike","max","len","way","turn_of_ends"] _) (by walk_at "4") (by rintro _ _ ⟨_,_,_,rfl,_⟩;rfl) fun Y S Z ds r h hz=>?_
 have Se:=S.toSe
 obtain ⟨p,s,e,rfl,he,rfl⟩:=h
 exact Uq (xI Se 0 (Yq M) (by decide) (xa (xb Se 2) (xa (xb Se 3) xc)) ⟨e,rfl,he,rfl⟩ (hz _ rfl _).1)
theorem Qp {T:Tx} (M:Mo T):FnD T 2 "is_number_to" W1:=by
 refine x9 (M.A (i:=50) rfl) (by walk_at "S" :ScB ["most","word"] ["most","word"] ["is_figures","MOST_NUMBER_FIGURES","int"] _) (by walk_at "2") (by rintro _ _ ⟨_,_,rfl,_,rfl⟩;rfl) fun Y S Z ds d h=>?_
 have Se:=S.toSe
 obtain ⟨m,x,rfl,hT,rfl⟩:=h
 unfold numTo
 by_cases hf:okFig x.cps.toList 3=true
 ·have hn:figs x.cps.toList 3=some (dv x.cps.toList):=by unfold figs;rw [mH hf]
  rw [hn]
  refine xi (yW (z5 (xg Se 0 (zG M) (by decide) (xa (xb Se 1) (xa (yt Se.toSn 1 M.gz) xc)) ⟨x,3,rfl,hT,rfl⟩) fun _=>YI (xbr (YL Se 2 (xa (xb Se 1) xc) (uX (by decide) hn) (by rw [xJ];have:=(zu hf).2.1;omega) M.gG) (xb Se 0))) ?_) rfl
  rw [mH hf]
 ·have hn:figs x.cps.toList 3=none:=by unfold figs;rw [mF hf]
  rw [hn]
  refine xi (yW (z5 (d:= .non) (xg Se 0 (zG M) (by decide) (xa (xb Se 1) (xa (yt Se.toSn 1 M.gz) xc)) ⟨x,3,rfl,hT,rfl⟩) fun h=>absurd h hf) ?_) rfl
  rw [mF hf]
theorem Qk {T:Tx} (M:Mo T):FnX T 3 "form_of" ZO:=by
 refine zj (M.A (i:=49) rfl) (by walk_at "S" :ScB ["words","form","i"] ["words"] ["range","FORMS","NoRow","len","MOST","is_number_to"] _) (by walk_at "1") (by rintro _ _ ⟨_,rfl,_⟩;rfl) fun Y S Z ds r h hz=>?_
 have Se:=S.toSe
 obtain ⟨ws,rfl,hne,hl,hT,hr⟩:=h
 obtain ⟨w,ws',rfl⟩:∃w ws',ws=w::ws':=by
  cases ws with
  | nil=>exact absurd rfl hne
  | cons a b=>exact ⟨a,b,rfl⟩
 have w0:atI ((w::ws').map D.str) 0=some (.str w):=yo (m:=0) rfl rfl
 have RZ:∀c P (hc:r= .ex "NoRow") {q1 q2 q3 q4:Pos} {t:Str} {rest:List Stmt},SsD Y (.Raise (some (.Call (.Name "NoRow" q1) [.Constant (.str t) 0 q2] [] q3)) none q4::rest) c P:=fun c P hc {_ _ _ _ _ _}=>by
  subst hc
  exact yD S 2 M.gQ (xa xk xc) (hz _ rfl _).2
 refine xp (yu (KH Se (d:= .str "") xk (xb Se 0) (by decide+kernel) (V0 hT)) fun _=>yO (Ue Se 1 (l:=formsL) M.hJ (xG (xb Se 0) xf w0))).pt (fun h=>?_) (fun h=>xn ?_)
 ·refine RZ _ _ ?_
  rw [XW] at h
  rw [hr,zv]
  by_cases hc:(w::ws').contains ("" :Str)=true
  ·rw [mH hc]
  ·rw [mF hc]
   have hn:lkD formsL w=none:=by
    cases q:lkD formsL w with
    | none=>rfl
    | some v=>rw [q] at h;simp at h;exact absurd (by simpa using h) hc
   rw [hn]
 obtain ⟨h1,h2⟩:=Bool.or_eq_false_iff.mp h
 rw [XW] at h1
 cases q:lkD formsL w with
 | none=>rw [q] at h2;cases h2
 | some v=>
  obtain ⟨y,rfl,y1,y2,y3⟩:=WB q
  rw [zv,mF (by rw [h1];decide),q] at hr
  dsimp only at hr
  refine xl S 1 (d:= .lst ((wordsS y).map D.str)) (WH (xaF Se 1 (l:=formsL) M.hJ (xG (xb Se 0) xf w0) q (by intro _ _;rfl)) (by omega) (by omega)) ?_
  generalize wordsS y=f at hr y3 ⊢
  have lw:((w::ws').map D.str).length=ws'.length+1:=by rw [mB];rfl
  have lf:(f.map D.str).length=f.length:=mB ..
  refine xp (yY (yr Se 3 (n:=((w::ws').map D.str).length) (xa (xb Se 0) xc) rfl M.gk) (x8 (yr Se 3 (n:=(f.map D.str).length) (xa (xb Se 1) xc) rfl M.gk) xf)) (fun h=>?_) (fun h=>xn ?_)
  ·refine RZ _ _ ?_
   rw [lw,lf] at h
   rw [if_neg (fun z=>by rw [z] at h;simp at h)] at hr
   exact hr
  rw [lw,lf] at h
  have hlen:ws'.length=f.length:=by
   have h:=of_decide_eq_true (show decide (((ws'.length+1:Nat):Int)=(f.length:Int)+1)=true by simpa using h)
   omega
  rw [mH hlen] at hr
  refine Yc S (zn Se 0 (xa (yr Se 3 (n:=(f.map D.str).length) (xa (xb Se 1) xc) rfl M.gk) xc) (by omega) (by omega) M.gJ)
   (fun m c'=>(∀j,j<m->badN f (w::ws') j=false)/\∃z:Slot,c'=[.val (.lst ((w::ws').map D.str)),.val (.lst (f.map D.str)),z]) ⟨fun j hj=>absurd hj (by omega),_,rfl⟩ ?_ ?_
  ·rintro m d _ hd ⟨hb,z,rfl⟩
   obtain ⟨hm,rfl⟩:=yR hd
   refine ⟨_,zi S 2,?_⟩
   rw [show (0:Int)+(m:Int)*1=(m:Int) by omega]
   have hm':m<f.length:=by rw [lf] at hm;omega
   have gf:f[m]? =some f[m]:=mD hm'
   have hx:m<ws'.length:=by omega
   have gx:(w::ws')[m+1]? =some ws'[m]:=by rw [List.getElem?_cons_succ];exact mD hx
   have af:=yo gf rfl
   have ax:=yo (i:=(m:Int)+1) gx (by omega)
   have hTx:Tl (ws'[m]).cps.toList:=hT _ (mI _ (List.getElem_mem hx))
   cases qm:lkD mostL f[m] with
   | none=>
    refine xp (qc (w:=false) (zw Se 4 (l:=mostL) M.gR (xG (xb Se 1) (xb Se 2) af)) fun h=>by rw [qm] at h;cases h).pt (fun h=>by rw [qm] at h;cases h) (fun _=>xn (xn ⟨fun j hj=>?_,_,rfl⟩))
    by_cases e:j<m
    ·exact hb j e
    ·have e:j=m:=by omega
     subst e
     unfold badN
     rw [gf,gx]
     dsimp only
     rw [qm]
   | some v=>
    obtain ⟨n,rfl⟩:=ja qm
    have eb:badN f (w::ws') m= !numTo n (ws'[m]).cps.toList:=by
     unfold badN
     rw [gf,gx]
     dsimp only
     rw [qm]
    refine xp (qc (zw Se 4 (l:=mostL) M.gR (xG (xb Se 1) (xb Se 2) af)) fun _=>qz (xU (xR (xg Se 5 (Qp M) (by decide) (xa (xaG Se 4 (l:=mostL) M.gR (xG (xb Se 1) (xb Se 2) af) qm (by intro _ _;rfl)) (xa (xG (xb Se 0) (x8 (xb Se 2) xf) ax) xc)) ⟨n,ws'[m],rfl,hTx,rfl⟩)))).pt (fun h=>?_) (fun h=>xn (xn ⟨fun j hj=>?_,_,rfl⟩))
    ·refine RZ _ _ ?_
     rw [qm] at h
     have h:(!numTo n (ws'[m]).cps.toList)=true:=by simpa using h
     rw [<-eb] at h
     rw [mH (List.any_eq_true.mpr ⟨m,List.mem_range.mpr hm',h⟩)] at hr
     exact hr
    ·by_cases e:j<m
     ·exact hb j e
     ·have e:j=m:=by omega
      subst e
      rw [qm] at h
      rw [eb]
      simpa using h
  ·rintro _ ⟨hb,z,rfl⟩
   rw [x5,lf] at hb
   rw [mF (fun h=>by
    obtain ⟨j,hj,hbj⟩:=List.any_eq_true.mp h
    rw [hb j (by have:=List.mem_range.mp hj;omega)] at hbj
    cases hbj)] at hr
   have hr:r= .ok (.lst (f.map D.str)):=hr
   subst hr
   exact xi (xb Se 1) rfl
theorem qg {T:Tx} (M:Mo T):FnX T 6 "read_word" ye:=by
 refine zj (M.A (i:=51) rfl) (by walk_at "S" :ScB ["p","name","word"] ["p","name","word"] ["MOST","read_fraction","int","read_spot","read_end"] _) (by walk_at "3") (by rintro _ _ ⟨_,_,_,rfl,_⟩;rfl) fun Y S Z ds r h hz=>?_
 have Se:=S.toSe
 obtain ⟨p,n,x,rfl,h⟩:=h
 rcases h with ⟨rfl,hR⟩ | ⟨rfl,hR⟩ | ⟨hn,hR⟩ | ⟨hn,v,hv,rfl⟩
 case inr.inr.inr=>
  have e:(lkD mostL n).isSome=true:=by
   simp only [List.mem_cons,List.not_mem_nil,or_false] at hn
   rcases hn with rfl | rfl<;>decide+kernel
  refine xp (zw Se 0 (l:=mostL) M.gR (w:=n) (xb Se 1)) (fun _=>?_) (fun h=>by rw [e] at h;cases h)
  have hl:(okFig x.cps.toList 3)=true:=by
   cases q:okFig x.cps.toList 3 with
   | true=>rfl
   | false=>unfold figs at hv;rw [q] at hv;cases hv
  exact xi (YL Se 2 (xa (xb Se 2) xc) (uX (by decide) hv) (by rw [xJ];have:=(zu hl).2.1;omega) M.gG) rfl
 case inl=>
  refine xp (zw Se 0 (l:=mostL) M.gR (w:= "SPOT") (xb Se 1)) (fun h=>absurd h (by decide+kernel)) (fun _=>xn ?_)
  refine xp (yv (x:= "SPOT") (y:= "SPOT") (xb Se 1) xk) (fun _=>?_) (fun h=>absurd h (by decide+kernel))
  cases r with
  | ok d=>exact xi (xM Se 3 (z8 M) (by decide) (xa (xb Se 0) (xa (xb Se 2) xc)) hR) rfl
  | ex y=>exact xZ (xI Se 3 (z8 M) (by decide) (xa (xb Se 0) (xa (xb Se 2) xc)) hR (hz _ rfl _).1)
 case inr.inl=>
  refine xp (zw Se 0 (l:=mostL) M.gR (w:= "END") (xb Se 1)) (fun h=>absurd h (by decide+kernel)) (fun _=>xn ?_)
  refine xp (yv (x:= "END") (y:= "SPOT") (xb Se 1) xk) (fun h=>absurd h (by decide+kernel)) (fun _=>xn ?_)
  refine xp (yv (x:= "END") (y:= "END") (xb Se 1) xk) (fun _=>?_) (fun h=>absurd h (by decide+kernel))
  cases r with
  | ok d=>exact xi (xM Se 4 (vi M) (by decide) (xa (xb Se 2) xc) hR) rfl
  | ex y=>exact xZ (xI Se 4 (vi M) (by decide) (xa (xb Se 2) xc) hR (hz _ rfl _).1)
 case inr.inr.inl=>
  have e:(lkD mostL n).isSome=false/\(n==("SPOT" :Str))=false/\(n==("END" :Str))=false:=by
   simp only [List.mem_cons,List.not_mem_nil,or_false] at hn
   rcases hn with rfl | rfl | rfl | rfl | rfl<;>decide+kernel
  refine xp (zw Se 0 (l:=mostL) M.gR (w:=n) (xb Se 1)) (fun h=>by rw [e.1] at h;cases h) (fun _=>xn ?_)
  refine xp (yv (x:=n) (y:= "SPOT") (xb Se 1) xk) (fun h=>by rw [e.2.1] at h;cases h) (fun _=>xn ?_)
  refine xp (yv (x:=n) (y:= "END") (xb Se 1) xk) (fun h=>by rw [e.2.2] at h;cases h) (fun _=>xn ?_)
  cases r with
  | ok d=>exact xi (xM Se 1 (x6 M) (by decide) (xa (xb Se 2) xc) hR) rfl
  | ex y=>exact xZ (xI Se 1 (x6 M) (by decide) (xa (xb Se 2) xc) hR (hz _ rfl _).1)
theorem zy {T:Tx} (M:Mo T):FnX T 6 "table_from" WW:=by
 refine zj (M.A (i:=52) rfl) (by walk_at "S" :ScB ["read"] ["read"] ["table_of"] _) (by walk_at "1") (by rintro _ _ ⟨_,rfl,_⟩;rfl) fun Y S Z ds r h hz=>?_
 have Se:=S.toSe
 obtain ⟨t,rfl,hR⟩:=h
 cases r with
 | ok d=>exact xi (xM Se 0 (vg M) (by decide) (xa (xG (xb Se 0) xf rfl) (xa (xG (xb Se 0) xf rfl) (xa (xG (xb Se 0) xf rfl) (xa (xG (xb Se 0) xf rfl) xc)))) hR) rfl
 | ex y=>exact xZ (xI Se 0 (vg M) (by decide) (xa (xG (xb Se 0) xf rfl) (xa (xG (xb Se 0) xf rfl) (xa (xG (xb Se 0) xf rfl) (xa (xG (xb Se 0) xf rfl) xc)))) hR (hz _ rfl _).1)
theorem Wj {T:Tx} (M:Mo T):FnD T 1 "gone" ZN:=by
 refine x9 (M.A (i:=53) rfl) (by walk_at "S" :ScB ["p","spot","read"] ["p","spot","read"] [] _) (by walk_at "3") (by rintro _ _ ⟨_,_,_,rfl⟩;rfl) fun Y S Z ds d h=>?_
 have Se:=S.toSe
 obtain ⟨p,s,r,rfl⟩:=h
 exact xi (xG (xb Se 2) xf (by rw [zN (by decide) (by rw [List.length_cons];omega)];rfl)) rfl
theorem wu {T:Tx} (M:Mo T):FnX T 7 "moved_by" wj:=by
 refine zj (M.A (i:=54) rfl) (by walk_at "S" :ScB ["p","spot","read"] ["p","spot","read"] ["moved","table_from"] _) (by walk_at "3") (by rintro _ _ ⟨_,_,_,rfl,_⟩;rfl) fun Y S Z ds r h hz=>?_
 have Se:=S.toSe
 obtain ⟨t,p,s,rfl,hm,h0,rfl⟩:=h
 exact xZ (vF Se 0 (M.A (i:=38) rfl) (zO (xb Se 0) (Xt (xI Se 1 (zy M) (by decide) (xa (xb Se 2) xc) ⟨t,rfl,t,rfl,hm,.inr ⟨h0,rfl⟩⟩ (hz _ rfl _).1) y7)))
theorem Xj:ScB ["self","number"] ["self","number"] ["NOUGHT","NoFraction"] (defScope zR):=by walk_at "S"
theorem Xn {T:Tx} (M:Mo T):∃C f fd,T.mg "Scale" =some (.ref C)/\Mk T.K C f/\Binds T.K fd ["self","number"] []/\FnOk T.prog T.w T.K T.mg T.base (CXE T.prog T.w) 1 f fd ["self","number"] (spD1X T C "number" (fun _=>False) QU "NoFraction"):=by
 obtain ⟨C0,f0,fd0,hC0,hm0,F0⟩:=M.g7
 refine ⟨C0,f0,fd0,hC0,hm0,F0.binds fun _ _ _ _ _ _ us hl=>match us,hl with | [_,_],_=>rfl,xax F0 Xj fun Y S q=>⟨fun hq=>?ok,fun hq hz=>?ex⟩⟩
 all_goals have Se:=S.toSe
 case ok=>exact hq.elim
 case ex=>
  have hq:q=frD 0:=hq
  subst hq
  exact xp (zD Se (xb Se 1) (yJ Se.toSn 0 M.gq)) (fun _=>yD S 1 M.gm (xa xk xc) (hz _).2) (fun h=>absurd h (by decide+kernel))
theorem vh {T:Tx} (M:Mo T):FnX T 3 "scaled" Xf:=by
 refine zj (M.A (i:=55) rfl) (by walk_at "S" :ScB ["p","spot","read"] ["p","spot","read"] ["Scale"] _) (by walk_at "3") (by rintro _ _ ⟨_,_,rfl,_⟩;rfl) fun Y S Z ds r h hz=>?_
 have Se:=S.toSe
 obtain ⟨p,s,rfl,rfl⟩:=h
 obtain ⟨C,fI,fdI,hC,hMk,hBd,hIn⟩:=Xn M
 exact xZ (jL (jD Se 0 hMk hIn (by decide) hBd hC (q:=frD 0) (xG (xb Se 2) xf rfl) rfl (hz _ rfl _).1))
theorem Y9 {T:Tx} (M:Mo T):FnX T 9 "road_text" XZ:=by
 refine zj (M.A (i:=57) rfl) (by walk_at "S" :ScB ["p","spot","read"] ["p","spot","read"] ["spots_text","road"] _) (by walk_at "3") (by rintro _ _ ⟨_,_,_,rfl,_⟩;rfl) fun Y S Z ds r h hz=>?_
 have Se:=S.toSe
 obtain ⟨p,s,a,rfl,hR⟩:=h
 obtain ⟨_,_,rfl⟩:=id hR
 exact xZ (vF Se 0 (M.A (i:=56) rfl) (Xt (xI Se 1 (uA M) (by decide) (xa (xb Se 0) (xa (xb Se 1) (xa (xG (xb Se 2) xf rfl) xc))) hR (hz _ rfl _).1) y7))
theorem Za {T:Tx} (M:Mo T):FnX T 3 "near_text" X4:=by
 refine zj (M.A (i:=58) rfl) (by walk_at "S" :ScB ["p","spot","read","told","there","far"] ["p","spot","read"] ["nearest","spot_text"] _) (by walk_at "3") (by rintro _ _ ⟨_,_,_,rfl,_⟩;rfl) fun Y S Z ds r h hz=>?_
 have Se:=S.toSe
 obtain ⟨p,s,e,rfl,he,rfl⟩:=h
 exact yT S 3 (xI Se 0 (Xl M) (by decide) (xa (xb Se 0) (xa (xb Se 1) (xa (xG (xb Se 2) xf rfl) (xa (xG (xb Se 2) xf rfl) xc)))) ⟨p,s,e,rfl,he,rfl⟩ (hz _ rfl _).1)
theorem Y8 {T:Tx} (M:Mo T):FnX T 3 "within_text" XX:=by
 refine zj (M.A (i:=59) rfl) (by walk_at "S" :ScB ["p","spot","read"] ["p","spot","read"] ["str","len","within"] _) (by walk_at "3") (by rintro _ _ ⟨_,_,rfl,_⟩;rfl) fun Y S Z ds r h hz=>?_
 have Se:=S.toSe
 obtain ⟨p,s,rfl,hR⟩:=h
 obtain ⟨_,_,_,_,_,rfl⟩:=id hR
 exact xZ (QK Se 0 1 (xI Se 2 (Yp M) (by decide) (xa (xb Se 0) (xa (xb Se 1) (xa (xG (xb Se 2) xf rfl) xc))) hR (hz _ rfl _).1) M.gv M.gk)
theorem Zb {T:Tx} (M:Mo T):FnX T 10 "kind_text" X5:=by
 refine zj (M.A (i:=60) rfl) (by walk_at "S" :ScB ["p","spot","read","told","word","steps"] ["p","spot","read"] ["kind","SLIDES","table_from"] _) (by walk_at "3") (by rintro _ _ ⟨_,_,_,rfl,_⟩;rfl) fun Y S Z ds r h hz=>?_
 have Se:=S.toSe
 obtain ⟨t,p,s,rfl,hm,h⟩:=h
 rcases h with ⟨h0,rfl⟩ | ⟨h0,hR⟩
 ·exact yT S 3 (vF Se 0 (M.A (i:=45) rfl) (zO (xb Se 0) (Xt (xI Se 2 (zy M) (by decide) (xa (xb Se 2) xc) ⟨t,rfl,t,rfl,hm,.inr ⟨h0,rfl⟩⟩ (hz _ rfl _).1) y7)))
 ·obtain ⟨_,rfl⟩:=id hR
  exact yT S 3 (xI Se 0 (Qj M) (by decide) (xa (xb Se 0) (xa (xM Se 2 (zy M) (by decide) (xa (xb Se 2) xc) ⟨t,rfl,t,rfl,hm,.inl ⟨h0,rfl⟩⟩) xc)) hR (hz _ rfl _).1)
theorem Qi {T:Tx} (M:Mo T):FnX T 7 "numbers_text" ZJ:=by
 refine zj (M.A (i:=61) rfl) (by walk_at "S" :ScB ["p","spot","read","numbers","low","high"] ["p","spot","read"] ["two_numbers","table_from"] _) (by walk_at "3") (by rintro _ _ ⟨_,_,_,rfl,_⟩;rfl) fun Y S Z ds r h hz=>?_
 have Se:=S.toSe
 obtain ⟨t,p,s,rfl,hm,h0,rfl⟩:=h
 exact yT S 3 (vF Se 0 (M.A (i:=26) rfl) (zO (xb Se 0) (Xt (xI Se 1 (zy M) (by decide) (xa (xb Se 2) xc) ⟨t,rfl,t,rfl,hm,.inr ⟨h0,rfl⟩⟩ (hz _ rfl _).1) y7)))
theorem Ql {T:Tx} (M:Mo T):FnX T 3 "figures_text" ZP:=by
 refine zj (M.A (i:=62) rfl) (by walk_at "S" :ScB ["p","spot","read","told","first","head","again"] ["p","spot","read"] ["figures","row_text"] _) (by walk_at "3") (by rintro _ _ ⟨_,_,_,rfl,_⟩;rfl) fun Y S Z ds r h hz=>?_
 have Se:=S.toSe
 obtain ⟨p,a,s,rfl,hR⟩:=h
 obtain ⟨_,_,_,_,_,_,rfl⟩:=id hR
 exact yT S 3 (xI Se 0 (Xm M) (by decide) (xa (xb Se 0) (xa (xG (xb Se 2) xf rfl) xc)) hR (hz _ rfl _).1)
abbrev kS:Stmt:=top 133
theorem Zh {T:Tx} (M:Mo T):FnD T 1 "_law_cell" Ke:=by
 refine x9 (M.A (i:=63) rfl) (by walk_at "S" :ScB ["_law_script","_law_k","_law_cell_here"] ["_law_script","_law_k"] ["len","abs"] _) (by walk_at "2") (by rintro _ _ ⟨a,b,rfl,_,_,_,rfl⟩;rfl) fun Y S Z ds d h=>?_
 have Se:=S.toSe
 obtain ⟨ns,k,rfl,h63,h0,h1,rfl⟩:=h
 refine xl S 2 xf ?_
 have key:∀x:Int,SsD Y (((defBody kS).drop 2)) [.val (.lst (ns.map D.int)),.val (.int k),.val (.int x)] (Ret (.int (fmix x k))):=by
  intro x
  refine xl S 2 (x8 (x8 (x8 (xz (xb Se 2) xf (by decide)) (xB (xB xf (xb Se 1) (.of_left (intBits_le_64 (by decide) (by decide)))) (xb Se 1) (.of_right (intBits_le_64 (by omega) (by omega))))) (xB xf (xb Se 1) (.of_left (intBits_le_64 (by decide) (by decide))))) xf) ?_
  refine xl S 2 (xz (xB (xb Se 2) xf (.of_right (intBits_le_64 (by decide) (by decide)))) xf (by decide)) ?_
  exact xi (xz (xB (xb Se 2) xf (.of_right (intBits_le_64 (by decide) (by decide)))) xf (by decide)) rfl
 unfold fcell
 refine xp (wn (xb Se 1) (yr Se 0 (xa (xb Se 0) xc) rfl M.gk)) (fun h=>?_) (fun h=>?_)
 ·have h':k<(ns.length:Int):=by simpa using h
  rw [mH h']
  refine xl S 2 (xG (xb Se 0) (xb Se 1) (VG h0 h')) ?_
  refine xp (qc (wq (xb Se 1) xf) fun _=>qz (yp (xz (xG (xb Se 0) xf (VG (by decide) (by omega))) xf (by decide)) xf)).pt (fun h2=>?_) (fun h2=>xn (xn ?_))
  ·have h3:0<k/\ns.getD 0 0%2=1:=by simpa using h2
   rw [mH h3]
   exact xi (u3 Se 1 (xa (xb Se 2) xc) M.g8) rfl
  ·have h3:¬(0<k/\ns.getD 0 0%2=1):=by
    intro z
    simp [z.1] at h2
    exact h2 (by simpa using z.2)
   rw [mF h3]
   exact key _
 ·have h':¬k<(ns.length:Int):=by simpa using h
  rw [mF h']
  exact xn (key 0)
theorem Wg {T:Tx} (M:Mo T):FnD T 1 "_law_more" ke:=by
 refine x9 (M.A (i:=64) rfl) (by walk_at "S" :ScB ["_law_cell_here","_law_j"] ["_law_cell_here","_law_j"] [] _) (by walk_at "2") (by rintro _ _ ⟨_,_,rfl,_⟩;rfl) fun Y S Z ds d h=>?_
 have Se:=S.toSe
 obtain ⟨c,j,rfl,rfl⟩:=h
 exact xi (xz (xB (x8 (x8 (xb Se 0) (xB xf (xb Se 1) (.of_left (intBits_le_64 (by decide) (by decide))))) xf) xf (.of_right (intBits_le_64 (by decide) (by decide)))) xf (by decide)) rfl
theorem Yv {T:Tx} (M:Mo T):FnD T 1 "_law_low" xaY:=by
 refine x9 (M.A (i:=65) rfl) (by walk_at "S" :ScB ["_law_top","_law_bottom","_law_one","_law_other"] ["_law_top","_law_bottom"] ["abs"] _) (by walk_at "2") (by rintro _ _ ⟨a,b,rfl,_,_,rfl⟩;rfl) fun Y S Z ds d h=>?_
 have Se:=S.toSe
 obtain ⟨t,b,rfl,hb0,bb,rfl⟩:=h
 have hb:b≠0:=by omega
 have hx:Y.X.env.scope.names.lookup ("_law_one" :Str)=some NameKind.local:=by rw [Z.sc];decide+kernel
 have hy:Y.X.env.scope.names.lookup ("_law_other" :Str)=some NameKind.local:=by rw [Z.sc];decide+kernel
 refine xl S 2 (u3 Se 0 (xa (xb Se 0) xc) M.g8) ?_
 refine xl S 3 (xb Se 1) ?_
 refine zo S (fun c=>∃x y:Int,c=[.val (.int t),.val (.int b),.val (.int x),.val (.int y)]/\0<=x/\0<=y/\Int.gcd x y=Int.gcd t b) (fun c=>match c with | [_,_,_,.val (.int y)]=>y.natAbs | _=>0) ⟨_,_,rfl,by omega,by omega,by simp [Int.gcd]⟩ ?_
 rintro _ ⟨x,y,rfl,hx0,hy0,hg⟩
 refine ⟨_,wq (xb Se 3) xf,fun h=>?_,fun h=>?_⟩
 ·have h1:0<y:=by simpa using h
  have h0:y≠0:=by omega
  refine KM S 2 3 (xa (xb Se 3) (xa (jB (xb Se 2) (xb Se 3) h0) xc)) hx hy (kz Z.sc fun _=>rfl) ?_
  refine xn ⟨⟨y,x.fmod y,rfl,hy0,Int.fmod_nonneg_of_pos x (by omega),?_⟩,?_⟩
  ·rw [Zr];exact hg
  ·exact uV x h0
 ·have h1:¬0<y:=by simpa using h
  have h0:y=0:=by omega
  subst h0
  have hx1:x=(Int.gcd t b:Int):=by rw [Int.gcd_zero_right] at hg;omega
  subst hx1
  have q:=jc (t:=t) hb bb
  have l:=vx t hb
  rw [mF (by omega)] at q l
  refine xi (xu (xa (vC (xb Se 0) (xb Se 2) q.1 q.2) (xa (vC (xb Se 1) (xb Se 2) q.1 q.2) xc))) ?_
  show D.tup _=D.tup _
  rw [l.1,l.2]
theorem Yu {T:Tx} (M:Mo T):FnD T 1 "_law_power" xbF:=by
 refine x9 (M.A (i:=66) rfl) (by walk_at "S" :ScB ["_law_p","_law_n","_law_found","_law_turn"] ["_law_p","_law_n"] ["range"] _) (by walk_at "2") (by rintro _ _ ⟨a,b,rfl,_,_,_,rfl⟩;rfl) fun Y S Z ds d h=>?_
 have Se:=S.toSe
 obtain ⟨p,n,rfl,hp,n0,n1,rfl⟩:=h
 have p2:=hp.two_le
 refine xl S 2 xf ?_
 refine Yc S (zn Se 0 (xa (xb Se 1) xc) (by omega) (by omega) M.gJ) (fun m c=>m<=3000/\∃s3:Slot,c=[.val (.int p),.val (.int n),.val (.int (p^m)),s3]) ⟨by decide,_,by rw [Int.pow_zero];rfl⟩ ?_ ?_
 ·rintro m d _ hd ⟨_,s3,rfl⟩
  obtain ⟨hm',rfl⟩:=yR hd
  refine ⟨_,zi S 3,?_⟩
  have hm2:m<3000:=by omega
  refine xl S 2 (xB (xb Se 2) (xb Se 0) (mulOk (ul hp m) (Bd.of (n:=4) 8 (by omega) (by omega) (by decide)) (by omega))) (xn ⟨by omega,.val (.int (0+(m:Int)*1)),?_⟩)
  rw [Int.pow_succ]
  rfl
 ·rintro _ ⟨_,s3,rfl⟩
  rw [x5]
  exact xi (xb Se 2) rfl
theorem We {T:Tx} (M:Mo T):FnD T 2 "_law_spot" j5:=by
 refine x9 (M.A (i:=67) rfl) (by walk_at "S" :ScB ["_law_p","_law_cell_here","_law_k","_law_deep","_law_number"] ["_law_p","_law_cell_here"] ["max","_law_low","int","_law_power"] _) (by walk_at "2") (by rintro _ _ ⟨_,_,rfl,_,_,rfl⟩;rfl) fun Y S Z ds d h=>?_
 have Se:=S.toSe
 obtain ⟨p,n,rfl,hp,n0,rfl⟩:=h
 refine xl S 2 (yQ (xz (xb Se 1) xf (by decide)) xf) ?_
 refine xl S 1 (xD (xb Se 1) xf (by decide) (by decide+kernel)) ?_
 refine xp (yp (xz (xb Se 1) xf (by decide)) xf) (fun h=>?_) (fun h=>xn ?_)
 ·have h1:n / 25%8=1:=mC h
  unfold spt93
  rw [mH h1]
  refine xl S 2 (d:= .int (fk93 n)) (xB (x8 xf (xz (xD (xb Se 1) xf (by decide) (by decide+kernel)) xf (by decide))) (yQ xf (xB xf (xz (xD (xb Se 1) xf (by decide) (by decide+kernel)) xf (by decide)) (.of_left (intBits_le_64 (by omega) (by omega))))) (.of_left (intBits_le_64 (by omega) (by omega)))) ?_
  refine xi (yW (xu (xa (xb Se 2) (xa (xu (xa (xB (xz (xD (xb Se 1) xf (by decide) (by decide+kernel)) xf (by decide)) (Zy Se 2 (xa (xbs (xb Se 2) xf) xc) M.gG) (.of_left (intBits_le_64 (by omega) (by omega)))) (xa xf xc))) xc))) ?_) rfl
  show D.tup [.int (fk93 n),.tup [.int (n / 25 / 1616%9*(if decide (0<fk93 n)=true then 1 else 0)),.int 1]]=sptD (fk93 n) ((n / 25 / 1616%9*(if 0<fk93 n then 1 else 0):Int):Rat)
  have e:(if decide (0<fk93 n)=true then (1:Int) else 0)=(if 0<fk93 n then 1 else 0):=by simp
  rw [e]
  rfl
 have h1:¬n / 25%8=1:=of_decide_eq_false h
 unfold spt93
 rw [mF h1]
 refine xl S 3 (x8 (QL Se 0 (xa xf (xa (wc (xb Se 2)) xc)) M.ma) (xz (xD (xb Se 1) xf (by decide) (by decide+kernel)) xf (by decide))) ?_
 refine xl S 4 (xD (xb Se 1) xf (by decide) (by decide+kernel)) ?_
 have hN:0<=n / 25 / 56:=by omega
 have eN:nm93 n=if n / 25 / 56<2^61 then (if n / 25 / 56%5=1 then n / 25 / 56 / 5%9 else (n / 25 / 56+1)*1442695040888963407^2+n / 25 / 56) else n / 25 / 56:=rfl
 have b:=VB n
 show SsD Y _ [.val (.int p),.val (.int (n / 25)),.val (.int (n%25 - 12)),.val (.int (dp93 n)),.val (.int (n / 25 / 56))] _
 generalize dp93 n=ee at*
 generalize n%25 - 12=k at*
 generalize n / 25 / 56=N at*
 generalize nm93 n=u at*
 refine ZZ S 4 (b:=N) (a:=if N%5=1 then N / 5%9 else (N+1)*1442695040888963407^2+N) (wn (xb Se 4) (uZ xf xf ⟨by decide,by decide,by decide⟩)) (fun h=>?_) ?_
 ·have h61:N<2^61:=mC h
  have hat:atI [D.int ((N+1)*1442695040888963407^2+N),D.int (N / 5%9)] (if decide (N%5=1)=true then (1:Int) else 0)=some (.int (if N%5=1 then N / 5%9 else (N+1)*1442695040888963407^2+N)):=by
   by_cases h5:N%5=1
   ·rw [if_pos h5,if_pos (by simpa using h5)];rfl
   ·rw [if_neg h5,if_neg (by simpa using h5)];rfl
  refine xG (ds:=[D.int ((N+1)*1442695040888963407^2+N),D.int (N / 5%9)]) ?ls (Zy Se 2 (xa (jG (xz (xb Se 4) xf (by decide)) xf) xc) M.gG) hat
  case ls=>exact ym (xa (x8 (xB (x8 (xb Se 4) xf) (uZ xf xf ⟨by decide,by decide,by decide⟩) (.of_left (intBits_le_64 (by omega) (by omega)))) (xb Se 4)) (xa (xz (xD (xb Se 4) xf (by decide) (by decide+kernel)) xf (by decide)) xc))
 have e2:(if decide (N<2^(61:Int).toNat)=true then (if N%5=1 then N / 5%9 else (N+1)*1442695040888963407^2+N) else N)=u:=by
  rw [eN]
  simp
 rw [e2]
 have pb:=ul hp ee.toNat
 exact xi (xu (xa (xb Se 2) (xa (xg Se 1 (Yv M) (by decide) (xa (xz (xb Se 4) (xg Se 3 (Yu M) (by decide) (xa (xb Se 0) (xa (x8 (xb Se 2) (xb Se 3)) xc)) ⟨p,k+ee,rfl,hp,by omega,by omega,rfl⟩) (yg hp _)) (xa (xg Se 3 (Yu M) (by decide) (xa (xb Se 0) (xa (xb Se 3) xc)) ⟨p,ee,rfl,hp,by omega,by omega,rfl⟩) xc)) ⟨_,_,rfl,yg hp _,pb.mono (by omega),rfl⟩) xc))) rfl
theorem qo {T:Tx} (M:Mo T):FnD T 1 "_law_fraction_text" VO:=by
 refine x9 (M.A (i:=68) rfl) (by walk_at "S" :ScB ["_law_a"] ["_law_a"] ["str"] _) (by walk_at "1") (by rintro _ _ ⟨_,rfl,_⟩;rfl) fun Y S Z ds d h=>?_
 have Se:=S.toSe
 obtain ⟨a,rfl,hB,rfl⟩:=h
 have l1:=zW hB.1
 have l2:=zW (i:=(a.den:Int)) (by simpa using hB.2)
 have n1:=yM (k:=499) hB.1
 have n2:=yM (i:=(a.den:Int)) (k:=499) (by simpa using hB.2)
 have eq2:∀y:Str,y.cps.toList=wr a.num++47::wr (a.den:Int)->a.den≠1->D.str y=D.str (tx (ftx a)):=fun y hy hd=>by
  unfold ftx
  rw [mF hd,<-W4 a.den,<-hy,yX]
 refine xp (yp (xj (xb Se 0) xf rfl) xf) (fun h=>?_) (fun h=>xn ?_)
 ·have hd:a.den=1:=by have h':(a.den:Int)=1:=(by simpa using h);omega
  refine xi (yA Se 0 (xa (xj (xb Se 0) xf rfl) xc) l1 M.gv) ?_
  show D.str _=D.str _
  unfold ftx
  rw [mH hd,y9]
 ·have hd:a.den≠1:=by have h':¬(a.den:Int)=1:=(by simpa using h);omega
  refine xi (xC (xC (yA Se 0 (xa (xj (xb Se 0) xf rfl) xc) l1 M.gv) xk ?_) (yA Se 0 (xa (xj (xb Se 0) xf rfl) xc) l2 M.gv) ?_) ?_
  ·rw [y9,yN];simp [show ("/" :Str).length=1 from rfl];omega
  ·rw [y9,y9,yN,xJ,xq,xr];simp [show ("/" :Str).cps.toList=[47] from rfl];omega
  ·refine eq2 _ ?_ hd
   rw [xq,xq,y9,y9,xr,xr];simp [show ("/" :Str).cps.toList=[47] from rfl]
theorem U3 {T:Tx} (M:Mo T):FnD T 2 "_law_spot_text" J9:=by
 refine x9 (M.A (i:=69) rfl) (by walk_at "S" :ScB ["_law_spot_here"] ["_law_spot_here"] ["_law_fraction_text","str"] _) (by walk_at "1") (by rintro _ _ ⟨_,rfl,_⟩;rfl) fun Y S Z ds d h=>?_
 have Se:=S.toSe
 obtain ⟨u,rfl,hk,hB,rfl⟩:=h
 obtain ⟨k,a⟩:=u
 have hk:k.natAbs<=300:=hk
 have hB:B60 a:=hB
 have hj:k.natAbs<10^(3+1):=by omega
 have lj:k.natAbs.log2<1920:=jd (mE hj (by decide+kernel))
 exact xi (xaA (y:=tx (stx k a)) (xC (xC (yA Se 1 (xa (xj (d:= .int k) (xb Se 0) xf rfl) xc) lj M.gv) xk (KQ hj)) (xg Se 0 (qo M) (by decide) (xa (xj (d:=frD a) (xb Se 0) xf rfl) xc) ⟨_,rfl,hB.up,rfl⟩) (kN hj (by rw [yN];have:=Jx hB;omega))) xa5) rfl
theorem Zf {T:Tx} (M:Mo T):FnD T 2 "_law_fraction" Ka:=by
 refine x9 (M.A (i:=70) rfl) (by walk_at "S" :ScB ["_law_p","_law_cell_here","_law_top","_law_bottom","_law_deep"] ["_law_p","_law_cell_here"] ["_law_low","_law_power"] _) (by walk_at "2") (by rintro _ _ ⟨_,_,rfl,_⟩;rfl) fun Y S Z ds d h=>?_
 have Se:=S.toSe
 obtain ⟨p,n,rfl,hp,rfl⟩:=h
 have bb:=YS hp n
 refine xl S 2 (d:= .int (n%41 - 20)) (yQ (xz (xb Se 1) xf (by decide)) xf) ?_
 refine xl S 3 (d:= .int (1+n / 41%12)) (x8 xf (xz (xD (xb Se 1) xf (by decide) (by decide+kernel)) xf (by decide))) ?_
 refine xl S 4 (d:= .int (n / 492%5)) (xz (xD (xb Se 1) xf (by decide) (by decide+kernel)) xf (by decide)) ?_
 have pw:=Z9 hp (d:=(n / 492%5).toNat) (by omega)
 refine xp (yp (xz (xD (xb Se 1) xf (by decide) (by decide+kernel)) xf (by decide)) xf) (fun h=>?_) (fun h=>xn ?_)
 ·have h1:n / 2460%2=1:=mC h
  unfold fr91 tp91
  unfold bt91 at bb ⊢
  rw [mH h1] at bb ⊢
  rw [mH h1]
  exact xi (xg Se 0 (Yv M) (by decide) (xa (xB (xb Se 2) (xg Se 1 (Yu M) (by decide) (xa (xb Se 0) (xa (xb Se 4) xc)) ⟨p,_,rfl,hp,by omega,by omega,rfl⟩) (.of_left (intBits_le_64 (by omega) (by omega)))) (xa (xb Se 3) xc)) ⟨_,_,rfl,by omega,Bd.of (n:=8900) 30000 (by omega) (by omega) (by decide+kernel),rfl⟩) rfl
 ·have h1:¬n / 2460%2=1:=of_decide_eq_false h
  unfold fr91 tp91
  unfold bt91 at bb ⊢
  rw [mF h1] at bb ⊢
  rw [mF h1]
  exact xi (xg Se 0 (Yv M) (by decide) (xa (xb Se 2) (xa (xB (xb Se 3) (xg Se 1 (Yu M) (by decide) (xa (xb Se 0) (xa (xb Se 4) xc)) ⟨p,_,rfl,hp,by omega,by omega,rfl⟩) (.of_left (intBits_le_64 (by omega) (by omega)))) xc)) ⟨_,_,rfl,by omega,Bd.of (n:=8900) 30000 (by omega) (by omega) (by decide+kernel),rfl⟩) rfl
theorem Yt {T:Tx} (M:Mo T):FnH T 1 "_law_refusal" ZH:=by
 refine xbK (M.A (i:=71) rfl) (by walk_at "S" :ScB ["_law_error","_law_told","_law_names"] ["_law_error"] ["isinstance","NoPrime","NoFraction","NoText","NoSpot","NoTable","TooMany","NoLine","NoRow","NothingDone","TooFar","ValueError"] _) (by walk_at "1") rfl fun Y S C y d hC h=>?_
 obtain ⟨c_NoPrime,h_NoPrime⟩:=M.gS
 obtain ⟨gm,h_NoFraction⟩:=M.gw
 obtain ⟨gC,h_NoText⟩:=M.gM
 obtain ⟨gH,h_NoSpot⟩:=M.gN
 obtain ⟨gA,h_NoTable⟩:=M.gK
 obtain ⟨gB,h_TooMany⟩:=M.gL
 obtain ⟨gI,h_NoLine⟩:=M.gO
 obtain ⟨gQ,h_NoRow⟩:=M.gU
 obtain ⟨gn,h_NothingDone⟩:=M.gr
 obtain ⟨c_TooFar,h_TooFar⟩:=M.gP
 obtain ⟨z,rfl,h⟩:=h
 have qq:∀jj∈[1,2,3,4,5,6,9],([jj==0,jj==1,jj==2,jj==3,jj==4,jj==5,jj==6,jj==7,jj==8,jj==9]:List Bool).count true=1/\([jj==0,jj==1,jj==2,jj==3,jj==4,jj==5,jj==6,jj==7,jj==8,jj==9]:List Bool)[jj]? =some true/\∀m,m<jj->([jj==0,jj==1,jj==2,jj==3,jj==4,jj==5,jj==6,jj==7,jj==8,jj==9]:List Bool)[m]?≠some true:=by decide
 obtain ⟨jj,hj,hL,h4⟩:∃jj:Nat,jj∈[1,2,3,4,5,6,9]/\(["NoPrime","NoFraction","NoText","NoSpot","NoTable","TooMany","NoLine","NoRow","NothingDone","TooFar"]:List Str)[jj]? =some y/\atI names93 ((jj:Nat):Int)=some (.str z):=by
  rcases h with ⟨rfl,rfl⟩ | ⟨rfl,rfl⟩ | ⟨rfl,rfl⟩ | ⟨rfl,rfl⟩ | ⟨rfl,rfl⟩ | ⟨rfl,rfl⟩ | ⟨rfl,rfl⟩
  ·exact ⟨1,by decide,rfl,rfl⟩
  ·exact ⟨2,by decide,rfl,rfl⟩
  ·exact ⟨3,by decide,rfl,rfl⟩
  ·exact ⟨4,by decide,rfl,rfl⟩
  ·exact ⟨5,by decide,rfl,rfl⟩
  ·exact ⟨6,by decide,rfl,rfl⟩
  ·exact ⟨9,by decide,rfl,rfl⟩
 obtain ⟨h1,h2,h3⟩:=qq jj hj
 clear qq
 obtain ⟨hE,hV,-,hI⟩:=M.tb jj y (by revert hj;generalize jj=q;revert q;decide) hL
 have hE:=hE C hC
 have hV:=hV C hC
 refine qA S 1 (ym (xa (zJ S.toSn 0 0 1 rfl hE h_NoPrime (hI 0 _ rfl C _ hC h_NoPrime) M.gb) (xa (zJ S.toSn 0 0 2 rfl hE h_NoFraction (hI 1 _ rfl C _ hC h_NoFraction) M.gb) (xa (zJ S.toSn 0 0 3 rfl hE h_NoText (hI 2 _ rfl C _ hC h_NoText) M.gb) xc)))) ?_
 refine qA S 1 (zk (qH S.toSn 1) (ym (xa (zJ S.toSn 0 0 4 rfl hE h_NoSpot (hI 3 _ rfl C _ hC h_NoSpot) M.gb) (xa (zJ S.toSn 0 0 5 rfl hE h_NoTable (hI 4 _ rfl C _ hC h_NoTable) M.gb) (xa (zJ S.toSn 0 0 6 rfl hE h_TooMany (hI 5 _ rfl C _ hC h_TooMany) M.gb) xc))))) ?_
 refine qA S 1 (zk (qH S.toSn 1) (ym (xa (zJ S.toSn 0 0 7 rfl hE h_NoLine (hI 6 _ rfl C _ hC h_NoLine) M.gb) (xa (zJ S.toSn 0 0 8 rfl hE h_NoRow (hI 7 _ rfl C _ hC h_NoRow) M.gb) (xa (zJ S.toSn 0 0 9 rfl hE h_NothingDone (hI 8 _ rfl C _ hC h_NothingDone) M.gb) xc))))) ?_
 refine qA S 1 (d:= .lst (([jj==0,jj==1,jj==2,jj==3,jj==4,jj==5,jj==6,jj==7,jj==8,jj==9]:List Bool).map D.bl)) (yW (zk (qH S.toSn 1) (ym (xa (zJ S.toSn 0 0 10 rfl hE h_TooFar (hI 9 _ rfl C _ hC h_TooFar) M.gb) xc))) rfl) ?_
 refine qA S 2 (d:= .lst names93) ?nm ?_
 case nm=>
  refine ym ?_
  refine wT (xs:=["prime","fraction","text","spot","table","many","line","row","nothing","far"]) ?_
  exact rfl
 refine xp (yu (yY (WJ (bs:=[jj==0,jj==1,jj==2,jj==3,jj==4,jj==5,jj==6,jj==7,jj==8,jj==9]) (qH S.toSn 1) yB) xf) fun _=>yO (xU (xR (JP S.toSn 0 0 11 rfl hE M.g6 Xs hV M.gb)))).pt (fun h=>by rw [h1] at h;exact absurd h (by decide)) (fun _=>xn ?_)
 exact xi (xG (qH S.toSn 2) (WI (bs:=[jj==0,jj==1,jj==2,jj==3,jj==4,jj==5,jj==6,jj==7,jj==8,jj==9]) (j:=jj) (qH S.toSn 1) yB h2 h3) h4) rfl
theorem V2:ScB ["self"] ["self"] ["spot_text","NothingDone"] (defScope ua):=by walk_at "S"
theorem XE {T:Tx} (M:Mo T):FnMt T 5 "undo" Xd:=by
 obtain ⟨C0,f0,fd0,hC0,hm0,F0⟩:=M.mh
 refine ⟨C0,f0,fd0,["self"],hC0,(M.gg C0 hC0).cl,hm0,F0.binds fun _ _ _ _ _ _ us hl=>match us,hl with | [_],_=>rfl,Zw F0 V2 (by rintro _ _ _ _ _ ⟨rfl,_⟩;rfl) fun Y S Z ad l C pr s past ds r hC h hz=>?_⟩
 have Se:=S.toSe
 obtain ⟨rfl,hsh,h⟩:=h
 refine xp (VS Se 0 rfl (M.gg C hC) hsh) (fun h1=>?_) (fun h1=>xn ?_)
 ·rw [Vz] at h1
  have h1:=mC h1
  rcases h with ⟨_,rfl⟩ | ⟨d,past',rfl,_⟩
  ·exact yD S 1 M.gn (xa xk xc) (hz _ rfl _ rfl).2
  ·simp at h1
 ·rw [Vz] at h1
  have h1:=of_decide_eq_false h1
  rcases h with ⟨rfl,_⟩ | ⟨d,past',rfl,⟨k,a,rfl,hk,hB⟩,rfl⟩
  ·exact absurd rfl h1
  ·refine kG S 0 rfl (fun j hj=>by rcases j with _ | _ | _ | _ | _ | _ | _ | _ | _ | j<;>first | rfl | exact absurd rfl hj) (M.gg C hC) ?_
   exact y6 (i:=0) (v7 (xg Se 0 (vm M) (by decide) (xa (yk Se.toSn 0 rfl (M.gg C hC)) xc) ⟨k,a,rfl,hk,hB,by rw [X9]⟩)) rfl rfl
theorem Uz:ScB ["self","spot"] ["self","spot"] ["spot_text"] (defScope Yg):=by walk_at "S"
theorem ql {T:Tx} (M:Mo T):FnMt T 5 "lay" Kc:=by
 obtain ⟨C0,f0,fd0,hC0,hm0,F0⟩:=M.mq
 refine ⟨C0,f0,fd0,["self","spot"],hC0,(M.gg C0 hC0).cl,hm0,F0.binds fun _ _ _ _ _ _ us hl=>match us,hl with | [_,_],_=>rfl,Zw F0 Uz (by rintro _ _ _ _ _ ⟨_,rfl,_⟩;rfl) fun Y S Z ad l C pr s past ds r hC h hz=>?_⟩
 have Se:=S.toSe
 obtain ⟨d,rfl,⟨k,a,rfl,hk,hB⟩,hl,rfl⟩:=h
 refine kK S 0 rfl (fun j hj=>by rcases j with _ | _ | _ | _ | _ | _ | _ | _ | _ | j<;>first | rfl | exact absurd rfl hj) (M.gg C hC) hl ?_
 refine kJ S 0 rfl (fun j hj=>by rcases j with _ | _ | _ | _ | _ | _ | _ | _ | _ | j<;>first | rfl | exact absurd rfl hj) (M.gg C hC) (d:=sptD k a) (xb Se 1) ?_
 exact y6 (i:=0) (v7 (xg Se 0 (vm M) (by decide) (xa (xb Se 1) xc) ⟨k,a,rfl,hk,hB,by rw [X9]⟩)) rfl rfl
theorem Uy:ScB ["self","row","words","form","read","first","change","question"] ["self","row"] ["form_of","CHANGES","QUESTIONS","range","len"] (defScope Yf):=by walk_at "S"
theorem Zd {T:Tx} (M:Mo T):FnMt T 11 "say" yC:=by
 obtain ⟨C0,f0,fd0,hC0,hm0,F0⟩:=M.mn
 refine ⟨C0,f0,fd0,["self","row"],hC0,(M.gg C0 hC0).cl,hm0,F0.binds fun _ _ _ _ _ _ us hl=>match us,hl with | [_,_],_=>rfl,jv F0 Uy (by rintro _ _ _ _ _ ⟨_,_,_,_,_,rfl,rfl,_⟩;rfl) fun Y S Z ad l C pr s past ds r hC h hz=>?_⟩
 have Se:=S.toSe
 obtain ⟨p,x,w,tz,fs,rfl,rfl,hT,hl,hsp,hfo,h⟩:=h
 have ew:(splitL 32 x.cps.toList).map (fun q=>D.str (tx q))=(splitS x).map D.str:=by unfold splitS;rw [List.map_map];rfl
 refine xl S 2 (d:= .lst ((splitS x).map D.str)) (yW (jz (cd:=32) (xb Se 1) xk (by have:=hT.len;omega)) (by rw [ew])) ?_
 obtain ⟨s1,s2,s3⟩:=YZ hT
 have hF:ZO [.lst ((splitS x).map D.str)] (.ok (.lst (fs.map D.str))):=⟨splitS x,rfl,s1,s2,s3,by rw [hsp,hfo]⟩
 rw [hsp] at hF s2 ⊢
 have hft:=z3 hfo
 have lf:(fs.map D.str).length=fs.length:=mB ..
 have htz:tz.length+1<=4000:=s2
 refine xl S 3 (d:= .lst (fs.map D.str)) (xM Se 0 (Qk M) (by decide) (xa (xb Se 2) xc) hF) ?_
 rcases h with ⟨rs,m0,y,hm0,hrd,hok,hex,rfl⟩ | ⟨rd,hrl,hrd,h⟩
 ·refine VX (y:=y) S (tn:=["i"]) (fs:=["self","form","words"]) (ix:=[0,3,2]) (G':=["read_word"]) (ds:=(List.range fs.length).map fun i=>match rs i with | .ok d=>d | .ex _=> .non) (items:=rangeD 0 1 ((fs.map D.str).length:Int).toNat) Z.sc ?B (zn Se 3 (xa (yr Se 4 (n:=(fs.map D.str).length) (xa (xb Se 3) xc) rfl M.gk) xc) (by omega) (by omega) M.gJ) m0 (by rw [x5,List.length_map,List.length_range];omega) (by rw [List.length_map,List.length_range];omega) (by rw [x5];omega) (hz _ rfl _ rfl).2 ?T (q8 Z.sc fun _=>rfl)
  case B=>exact ⟨rfl,rfl,by decide+kernel,by decide+kernel,by decide+kernel,by decide+kernel,by decide+kernel,by decide+kernel,rfl,by decide+kernel⟩
  case T=>
   intro Y' S' hl m d r hd hr hm1 ts hts
   obtain ⟨hm,rfl⟩:=yR hd
   obtain ⟨t1,rfl⟩:∃t1,ts=[t1]:=List.length_eq_one_iff.mp hts
   have hm':m<fs.length:=by omega
   have hm2:m<tz.length:=by omega
   have gf:fs[m]? =some fs[m]:=mD hm'
   have gt:(w::tz)[m+1]? =some tz[m]:=by rw [List.getElem?_cons_succ];exact mD hm2
   have hR:=hrd m fs[m] tz[m] hm1 gf (mD hm2)
   refine ⟨[_],rfl,rfl,za S'.toSn 0 (.inr (hl _ (by simp))),fun hne=>?_,fun he hzn=>?_⟩
   ·obtain ⟨d,hd⟩:=hok m (by omega)
    rw [List.getElem?_map,List.getElem?_range hm'] at hr
    have hr:some (match rs m with | .ok d=>d | .ex _=>D.non)=some r:=hr
    rw [hd] at hr hR
    cases hr
    exact xM S' 0 (qg M) (by decide) (xa (wb S'.toSn 1 rfl (M.gg C hC)) (xa (xG (xb S' 2) (xb S' 0) (yo gf (by omega))) (xa (xG (xb S' 3) (x8 (xb S' 0) xf) (yo gt (by omega))) xc))) hR
   ·subst he
    rw [hex] at hR
    exact xI S' 0 (qg M) (by decide) (xa (wb S'.toSn 1 rfl (M.gg C hC)) (xa (xG (xb S' 2) (xb S' 0) (yo gf (by omega))) (xa (xG (xb S' 3) (x8 (xb S' 0) xf) (yo gt (by omega))) xc))) hR hzn
 refine Uo S 4 (ds:=rd) (tn:=["i"]) (fs:=["self","form","words"]) (ix:=[0,3,2]) (G':=["read_word"]) (items:=rangeD 0 1 ((fs.map D.str).length:Int).toNat) Z.sc ?B2 (zn Se 3 (xa (yr Se 4 (n:=(fs.map D.str).length) (xa (xb Se 3) xc) rfl M.gk) xc) (by omega) (by omega) M.gJ) (by rw [x5,hrl];omega) (by omega) ?T2 (q8 Z.sc fun _=>rfl) ?_
 case B2=>exact ⟨rfl,rfl,by decide+kernel,by decide+kernel,by decide+kernel,by decide+kernel,by decide+kernel,by decide+kernel,rfl,by decide+kernel⟩
 case T2=>
  intro Y' S' hl m d r hd hr ts hts
  obtain ⟨hm,rfl⟩:=yR hd
  obtain ⟨t1,rfl⟩:∃t1,ts=[t1]:=List.length_eq_one_iff.mp hts
  have hm':m<fs.length:=by omega
  have hm2:m<tz.length:=by omega
  have gf:fs[m]? =some fs[m]:=mD hm'
  have gt:(w::tz)[m+1]? =some tz[m]:=by rw [List.getElem?_cons_succ];exact mD hm2
  have hR:=hrd m fs[m] tz[m] r gf (mD hm2) hr
  exact ⟨[_],rfl,rfl,za S'.toSn 0 (.inr (hl _ (by simp))),xM S' 0 (qg M) (by decide) (xa (wb S'.toSn 1 rfl (M.gg C hC)) (xa (xG (xb S' 2) (xb S' 0) (yo gf (by omega))) (xa (xG (xb S' 3) (x8 (xb S' 0) xf) (yo gt (by omega))) xc))) hR⟩
 refine xl S 5 (d:= .str w) (xG (xb Se 2) xf (yo (m:=0) rfl rfl)) ?_
 rcases h with ⟨rfl,hU⟩ | ⟨hw,g,rs,hg,hR,hr⟩ | ⟨hw,hc,g,y,hg,hR,rfl⟩
 ·refine xp (yv (x:= "undo") (y:= "undo") (xb Se 5) xk) (fun _=>?_) (fun h=>absurd h (by decide+kernel))
  cases r with
  | ok d s' past'=>exact y6 (i:=0) (wa Se 0 (XE M) (by decide) rfl (fun j hj=>by rcases j with _ | _ | _ | _ | _ | _ | _ | _ | _ | j<;>first | rfl | exact absurd rfl hj) hC (fun _ _ _=>rfl) hU) rfl rfl
  | ex y=>exact xZ (WF Se 0 (XE M) (by decide) rfl (fun j hj=>by rcases j with _ | _ | _ | _ | _ | _ | _ | _ | _ | j<;>first | rfl | exact absurd rfl hj) hC (fun _ _ _=>rfl) hU (hz _ rfl _ rfl).1.1)
 ·refine xp (yv (x:=w) (y:= "undo") (xb Se 5) xk) (fun h=>absurd (by simpa using h) hw) (fun _=>xn ?_)
  refine xp (zw Se 1 (l:=changesL) M.gX (w:=w) (xb Se 5)) (fun _=>?_) (fun h=>by rw [hg] at h;cases h)
  refine Ur S 6 1 (l:=changesL) (g:=g) M.gX (w:=w) (xb Se 5) hg (by intro _ _;rfl) fun f hf=>?_
  rcases hR with ⟨rfl,hR⟩ | ⟨rfl,hR⟩ | ⟨rfl,hR⟩
  ·obtain ⟨d,hR,rfl⟩:=hR
   rcases hr with ⟨s',e,hO,rfl⟩ | ⟨y,e,_⟩
   ·cases e
    exact y6 (i:=0) (vB Se 0 (ql M) (by decide) rfl (fun j hj=>by rcases j with _ | _ | _ | _ | _ | _ | _ | _ | _ | j<;>first | rfl | exact absurd rfl hj) hC (fun _ _ _=>rfl) (xa (jK Se 6 rfl (Wj M) hf (by decide) (xa (yF Se.toSn 0 rfl (M.gg C hC)) (xa (yk Se.toSn 0 rfl (M.gg C hC)) (xa (xb Se 4) xc))) hR) xc) ⟨d,rfl,hO,hl,rfl⟩) rfl rfl
   ·cases e
  ·rcases hr with ⟨s',rfl,hO,rfl⟩ | ⟨y,rfl,rfl⟩
   ·exact y6 (i:=0) (vB Se 0 (ql M) (by decide) rfl (fun j hj=>by rcases j with _ | _ | _ | _ | _ | _ | _ | _ | _ | j<;>first | rfl | exact absurd rfl hj) hC (fun _ _ _=>rfl) (xa (XR Se 6 rfl (wu M) hf (by decide) (xa (yF Se.toSn 0 rfl (M.gg C hC)) (xa (yk Se.toSn 0 rfl (M.gg C hC)) (xa (xb Se 4) xc))) hR) xc) ⟨s',rfl,hO,hl,rfl⟩) rfl rfl
   ·exact xZ (XM Se 0 (ql M) (by decide) rfl hC (fun _ _ _=>rfl) (Xt (yS Se 6 rfl (wu M) hf (by decide) (xa (yF Se.toSn 0 rfl (M.gg C hC)) (xa (yk Se.toSn 0 rfl (M.gg C hC)) (xa (xb Se 4) xc))) hR (hz _ rfl _ rfl).1.1) y7))
  ·rcases hr with ⟨s',rfl,hO,rfl⟩ | ⟨y,rfl,rfl⟩
   ·exact y6 (i:=0) (vB Se 0 (ql M) (by decide) rfl (fun j hj=>by rcases j with _ | _ | _ | _ | _ | _ | _ | _ | _ | j<;>first | rfl | exact absurd rfl hj) hC (fun _ _ _=>rfl) (xa (XR Se 6 rfl (vh M) hf (by decide) (xa (yF Se.toSn 0 rfl (M.gg C hC)) (xa (yk Se.toSn 0 rfl (M.gg C hC)) (xa (xb Se 4) xc))) hR) xc) ⟨s',rfl,hO,hl,rfl⟩) rfl rfl
   ·exact xZ (XM Se 0 (ql M) (by decide) rfl hC (fun _ _ _=>rfl) (Xt (yS Se 6 rfl (vh M) hf (by decide) (xa (yF Se.toSn 0 rfl (M.gg C hC)) (xa (yk Se.toSn 0 rfl (M.gg C hC)) (xa (xb Se 4) xc))) hR (hz _ rfl _ rfl).1.1) y7))
 ·refine xp (yv (x:=w) (y:= "undo") (xb Se 5) xk) (fun h=>absurd (by simpa using h) hw) (fun _=>xn ?_)
  refine xp (zw Se 1 (l:=changesL) M.gX (w:=w) (xb Se 5)) (fun h=>by rw [hc] at h;cases h) (fun _=>xn ?_)
  refine Ur S 7 2 (l:=questL) (g:=g) M.g9 (w:=w) (xb Se 5) hg (by intro _ _;rfl) fun f hf=>?_
  rcases hR with ⟨rfl,hR⟩ | ⟨rfl,hR⟩ | ⟨rfl,hR⟩ | ⟨rfl,hR⟩ | ⟨rfl,hR⟩ | ⟨rfl,hR⟩
  ·exact xZ (yS Se 7 rfl (Za M) hf (by decide) (xa (yF Se.toSn 0 rfl (M.gg C hC)) (xa (yk Se.toSn 0 rfl (M.gg C hC)) (xa (xb Se 4) xc))) hR (hz _ rfl _ rfl).1.1)
  ·exact xZ (yS Se 7 rfl (Ql M) hf (by decide) (xa (yF Se.toSn 0 rfl (M.gg C hC)) (xa (yk Se.toSn 0 rfl (M.gg C hC)) (xa (xb Se 4) xc))) hR (hz _ rfl _ rfl).1.1)
  ·exact xZ (yS Se 7 rfl (Y9 M) hf (by decide) (xa (yF Se.toSn 0 rfl (M.gg C hC)) (xa (yk Se.toSn 0 rfl (M.gg C hC)) (xa (xb Se 4) xc))) hR (hz _ rfl _ rfl).1.1)
  ·exact xZ (yS Se 7 rfl (Zb M) hf (by decide) (xa (yF Se.toSn 0 rfl (M.gg C hC)) (xa (yk Se.toSn 0 rfl (M.gg C hC)) (xa (xb Se 4) xc))) hR (hz _ rfl _ rfl).1.1)
  ·exact xZ (yS Se 7 rfl (Qi M) hf (by decide) (xa (yF Se.toSn 0 rfl (M.gg C hC)) (xa (yk Se.toSn 0 rfl (M.gg C hC)) (xa (xb Se 4) xc))) hR (hz _ rfl _ rfl).1.1)
  ·exact xZ (yS Se 7 rfl (Y8 M) hf (by decide) (xa (yF Se.toSn 0 rfl (M.gg C hC)) (xa (yk Se.toSn 0 rfl (M.gg C hC)) (xa (xb Se 4) xc))) hR (hz _ rfl _ rfl).1.1)
theorem vX {T:Tx} (M:Mo T):FnS T 12 "_law_said" vJ:=by
 refine xbI (M.A (i:=72) rfl) (by walk_at "S" :ScB ["_law_desk","_law_row_here","_law_answer","_law_word_here","_law_error"] ["_law_desk","_law_row_here"] ["TreeError","_law_refusal","isinstance","str"] _) (by walk_at "2") (by rintro _ _ _ _ _ ⟨_,_,rfl,_⟩;rfl) fun Y S Z ad l C pr s past ds r hC h hz=>?_
 have Se:=S.toSe
 obtain ⟨x,rs,rfl,hS,hr⟩:=h
 refine xl S 2 YJ ?_
 refine xl S 3 xk ?_
 obtain ⟨Ct,hCt⟩:=M.gE
 cases rs with
 | ok d s' past'=>
  obtain ⟨⟨y,rfl⟩,rfl⟩:=hr
  refine Ul S Z 4 0 (fun _=>False) (by decide+kernel) hCt (fun y C hy=>hy.elim) (fun Y' S' hz'=>?_) (fun Yh Sh y C hy hC=>hy.elim)
  refine kB S' 2 (vB S'.toSe 0 (Zd M) (by decide) rfl (fun j hj=>by rcases j with _ | _ | _ | _ | _ | _ | _ | _ | _ | j<;>first | rfl | exact absurd rfl hj) hC (fun _ _ _=>rfl) (xa (xb S'.toSe 1) xc) hS) (xn ?_)
  refine xp (qc (yv (x:= "") (y:= "") (xb Se 3) xk) fun _=>qz (xU (xR (xY Se 2 3 (d:= .str y) (xb Se 2) (b:=true) rfl M.gb M.gv QQ)))).pt (fun h=>absurd h (by decide+kernel)) (fun _=>xn ?_)
  exact y6 (i:=0) (v7 (xu (xa (xb Se 3) (xa (xb Se 2) xc)))) rfl rfl
 | ex y=>
  obtain ⟨z,hN,rfl⟩:=hr
  obtain ⟨hm,hz0⟩:ExN T y "TreeError" true/\(z==("" :Str))=false:=by
   rcases hN with ⟨rfl,rfl⟩ | ⟨rfl,rfl⟩ | ⟨rfl,rfl⟩ | ⟨rfl,rfl⟩ | ⟨rfl,rfl⟩ | ⟨rfl,rfl⟩ | ⟨rfl,rfl⟩
   ·exact ⟨(M.tb 1 _ (by decide) rfl).2.2.1,by decide+kernel⟩
   ·exact ⟨(M.tb 2 _ (by decide) rfl).2.2.1,by decide+kernel⟩
   ·exact ⟨(M.tb 3 _ (by decide) rfl).2.2.1,by decide+kernel⟩
   ·exact ⟨(M.tb 4 _ (by decide) rfl).2.2.1,by decide+kernel⟩
   ·exact ⟨(M.tb 5 _ (by decide) rfl).2.2.1,by decide+kernel⟩
   ·exact ⟨(M.tb 6 _ (by decide) rfl).2.2.1,by decide+kernel⟩
   ·exact ⟨(M.tb 9 _ (by decide) rfl).2.2.1,by decide+kernel⟩
  refine Ul S Z 4 0 (fun q=>q=y) (by decide+kernel) hCt (fun q C1 hq hC1=>by subst hq;exact hm C1 Ct hC1 hCt) (fun Y' S' hz'=>?_) (fun Yh Sh q C1 hq hC1=>?_)
  ·exact yT S' 2 (jy S'.toSe 0 (Zd M) (by decide) rfl (fun j hj=>by rcases j with _ | _ | _ | _ | _ | _ | _ | _ | _ | j<;>first | rfl | exact absurd rfl hj) hC (fun _ _ _=>rfl) (xa (xb S'.toSe 1) xc) hS (hz' _ rfl))
  ·subst hq
   refine qA Sh 3 (d:= .str z) (jJ Sh 4 1 (Yt M) (by decide) rfl hC1 ⟨z,rfl,hN⟩) (xn ?_)
   refine xp (qc (w:=false) (yv (x:=z) (y:= "") (xb Se 3) xk) fun h=>by rw [hz0] at h;cases h).pt (fun h=>by rw [hz0] at h;cases h) (fun _=>xn ?_)
   exact y6 (i:=0) (v7 (xu (xa (xb Se 3) (xa (xb Se 2) xc)))) rfl rfl
theorem Zg {T:Tx} (M:Mo T):FnD T 1 "_law_ill" Kd:=by
 refine x9 (M.A (i:=73) rfl) (by walk_at "S" :ScB ["_law_p","_law_form","_law_cell_here","_law_some","_law_none"] ["_law_p","_law_form","_law_cell_here"] ["str","len"] _) (by walk_at "3") (by rintro _ _ ⟨_,_,_,rfl,_⟩;rfl) fun Y S Z ds d h=>?_
 have Se:=S.toSe
 obtain ⟨p,f,c,rfl,hp,rfl⟩:=h
 have p7:=hp.two_le
 have lp:p.natAbs.log2<1920:=by rcases hp with rfl | rfl | rfl | rfl<;>decide+kernel
 have lq:(p*p).natAbs.log2<1920:=by rcases hp with rfl | rfl | rfl | rfl<;>decide+kernel
 have lr:(p+1).natAbs.log2<1920:=by rcases hp with rfl | rfl | rfl | rfl<;>decide+kernel
 refine xl S 3 (d:= .lst ((["-0","01","1/1","2/4","1/0","1/-2","+1","1.5","--1","/2","1/","1/02","x","1:0","Far","-"]:List Str).map D.str)) ?a0 ?_
 case a0=>
  refine ym ?_
  refine wT (xs:=["-0","01","1/1","2/4","1/0","1/-2","+1","1.5","--1","/2","1/","1/02","x","1:0","Far","-"]) ?_
  exact rfl
 refine xl S 3 (d:= .lst (frM94.map D.str)) ?a1 ?_
 case a1=>
  refine yW (zk (xs:=(["-0","01","1/1","2/4","1/0","1/-2","+1","1.5","--1","/2","1/","1/02","x","1:0","Far","-"]:List Str).map D.str) (ys:=[.str "1/2/3",.str "0/5",.str (tx (List.replicate (61:Int).toNat 57)),.str (("1/" :Str)++tx (List.replicate (61:Int).toNat 55))]) (xb Se 3) ?b1 (by decide)) rfl
  refine ym ?_
  refine qx 2 (xs:=["1/2/3","0/5"]) rfl rfl ?_
  refine yh (YK (cd:=57) xk xf (by decide) (by decide)) ?_
  refine yh (xC xk (YK (cd:=55) xk xf (by decide) (by decide)) (by decide+kernel)) ?_
  exact xc
 refine xp (yv (x:=f) (y:= "spot") (xb Se 1) xk) (fun h=>?_) (fun h=>xn ?_)
 ·have hf:f= "spot" :=by simpa using h
  subst hf
  refine xl S 3 (d:= .lst ((["far","1",":","1:",":0","-0:0","00:0","1:-0","01:0","1:02","1:1/1","1:2/4","1:0:0","+1:0"]:List Str).map D.str)) ?a2 ?_
  case a2=>
   refine ym ?_
   refine wT (xs:=["far","1",":","1:",":0","-0:0","00:0","1:-0","01:0","1:02","1:1/1","1:2/4","1:0:0","+1:0"]) ?_
   exact rfl
  refine xl S 3 (d:= .lst (spM94.map D.str)) ?a3 ?_
  case a3=>
   refine yW (zk (xs:=(["far","1",":","1:",":0","-0:0","00:0","1:-0","01:0","1:02","1:1/1","1:2/4","1:0:0","+1:0"]:List Str).map D.str) (ys:=[.str "1:1/0",.str "1000:0",.str "-1000:0",.str "1.0",.str "1;0",.str "x:0",.str "1:x",.str "--1:0",.str (("1:" :Str)++tx (List.replicate (61:Int).toNat 49))]) (xb Se 3) ?b3 (by decide)) rfl
   refine ym ?_
   refine qx 8 (xs:=["1:1/0","1000:0","-1000:0","1.0","1;0","x:0","1:x","--1:0"]) rfl rfl ?_
   refine yh (xC xk (YK (cd:=49) xk xf (by decide) (by decide)) (by decide+kernel)) ?_
   exact xc
  have s1:(toString p:Str).length<=10:=by rcases hp with rfl | rfl | rfl | rfl<;>decide+kernel
  have s2:(toString (p*p):Str).length<=10:=by rcases hp with rfl | rfl | rfl | rfl<;>decide+kernel
  have s3:(toString (p+1):Str).length<=10:=by rcases hp with rfl | rfl | rfl | rfl<;>decide+kernel
  refine xl S 4 (d:= .lst [.str "0:1",.str (("1:" :Str)++(toString p:Str)),.str "2:-1",.str "3:1/11",.str "301:0",.str "-301:0",.str "999:0",.str "-999:0",.str (("-1:1/" :Str)++(toString p:Str))]) ?a4 ?_
  case a4=>
   refine ym ?_
   refine qx 1 (xs:=["0:1"]) rfl rfl ?_
   refine yh (xC xk (yA Se 0 (xa (xb Se 0) xc) lp M.gv) (by have:("1:" :Str).length=2:=rfl;omega)) ?_
   refine qx 6 (xs:=["2:-1","3:1/11","301:0","-301:0","999:0","-999:0"]) rfl rfl ?_
   refine yh (xC xk (yA Se 0 (xa (xb Se 0) xc) lp M.gv) (by have:("-1:1/" :Str).length=5:=rfl;omega)) ?_
   exact xc
  refine xl S 4 (d:= .lst ((noM94 p).map D.str)) ?a5 ?_
  case a5=>
   refine yW (zk (ys:=[.str (("2:" :Str)++(toString (p*p):Str)++("/13" :Str)),.str (("0:" :Str)++(toString (p+1):Str)++("/" :Str)++(toString p:Str))]) (xb Se 4) ?b5 (by show 9+2<=1000000;decide)) rfl
   have t1:(("2:" :Str)++(toString (p*p):Str)).length<=12:=by rcases hp with rfl | rfl | rfl | rfl<;>decide+kernel
   have t2:(("0:" :Str)++(toString (p+1):Str)).length<=12:=by rcases hp with rfl | rfl | rfl | rfl<;>decide+kernel
   have t3:(("0:" :Str)++(toString (p+1):Str)++("/" :Str)).length<=13:=by rcases hp with rfl | rfl | rfl | rfl<;>decide+kernel
   refine ym ?_
   refine yh (xC (xC xk (yA Se 0 (xa (xB (xb Se 0) (xb Se 0) (.of_left (intBits_le_64 (by omega) (by omega)))) xc) lq M.gv) (by have:("2:" :Str).length=2:=rfl;omega)) xk (by have:("/13" :Str).length=3:=rfl;omega)) ?_
   refine yh (xC (xC (xC xk (yA Se 0 (xa (x8 (xb Se 0) xf) xc) lr M.gv) (by have:("0:" :Str).length=2:=rfl;omega)) xk (by have:("/" :Str).length=1:=rfl;omega)) (yA Se 0 (xa (xb Se 0) xc) lp M.gv) (by omega)) ?_
   exact xc
  refine xp (yp (xz (xb Se 2) xf (by decide)) xf) (fun h=>?_) (fun h=>xn (xn ?_))
  ·have h3:c%3=0:=mC h
   refine xi (xu (xa (xG (xb Se 4) (xz (xD (xb Se 2) xf (by decide) (by decide+kernel)) (yr Se 1 (n:=11) (d:= .lst ((noM94 p).map D.str)) (xa (xb Se 4) xc) rfl M.gk) (by decide)) (yo (Xa (l:=noM94 p) (N:=11) rfl (c / 3) (by decide)).1 (by omega))) (xa xk xc))) ?_
   unfold il94
   rw [mH rfl,mH h3]
   rfl
  ·have h3:¬c%3=0:=of_decide_eq_false h
   refine xi (xu (xa (xG (xb Se 3) (xz (xD (xb Se 2) xf (by decide) (by decide+kernel)) (yr Se 1 (n:=23) (d:= .lst (spM94.map D.str)) (xa (xb Se 3) xc) rfl M.gk) (by decide)) (yo (Xa (l:=spM94) (N:=23) rfl (c / 3) (by decide)).1 (by omega))) (xa xk xc))) ?_
   unfold il94
   rw [mH rfl,mF h3]
   rfl
 ·have hf:¬f= "spot" :=by simpa using h
  refine xi (xu (xa (xG (xb Se 3) (xz (xD (xb Se 2) xf (by decide) (by decide+kernel)) (yr Se 1 (n:=20) (d:= .lst (frM94.map D.str)) (xa (xb Se 3) xc) rfl M.gk) (by decide)) (yo (Xa (l:=frM94) (N:=20) rfl (c / 3) (by decide)).1 (by omega))) (xa xk xc))) ?_
  unfold il94
  rw [mF hf]
  rfl
theorem Wc {T:Tx} (M:Mo T):FnD T 3 "_law_word" jZ:=by
 refine x9 (M.A (i:=74) rfl) (by walk_at "S" :ScB ["_law_p","_law_form","_law_cell_here"] ["_law_p","_law_form","_law_cell_here"] ["_law_ill","_law_fraction_text","_law_spot_text","_law_fraction","_law_spot"] _) (by walk_at "3") (by rintro _ _ ⟨_,_,_,rfl,_⟩;rfl) fun Y S Z ds d h=>?_
 have Se:=S.toSe
 obtain ⟨p,f,c,rfl,hp,c0,rfl⟩:=h
 unfold wd94
 refine xp (yp (xz (xb Se 2) xf (by decide)) xf) (fun h=>?_) (fun h=>xn ?_)
 ·rw [mH (mC h)]
  exact xi (xg Se 0 (Zg M) (by decide) (xa (xb Se 0) (xa (xb Se 1) (xa (xD (xb Se 2) xf (by decide) (by decide+kernel)) xc))) ⟨p,f,c / 3,rfl,hp,rfl⟩) rfl
 rw [mF (of_decide_eq_false h)]
 refine xp (yv (x:=f) (y:= "spot") (xb Se 1) xk) (fun h=>?_) (fun h=>xn ?_)
 ·have hf:f= "spot" :=by simpa using h
  rw [mH hf]
  have g:=YX hp (c / 3)
  exact xi (xu (xa (xg Se 2 (U3 M) (by decide) (xa (xg Se 4 (We M) (by decide) (xa (xb Se 0) (xa (xD (xb Se 2) xf (by decide) (by decide+kernel)) xc)) ⟨p,c / 3,rfl,hp,by omega,rfl⟩) xc) ⟨_,rfl,g.kb,g.b,rfl⟩) (xa xk xc))) rfl
 have hf:¬f= "spot" :=by simpa using h
 rw [mF hf]
 have b:=qF hp (c / 12)
 refine xp (qc (yv (x:=f) (y:= "end") (xb Se 1) xk) fun _=>qz (yp (xz (xD (xb Se 2) xf (by decide) (by decide+kernel)) xf (by decide)) xf)).pt (fun h=>?_) (fun h=>xn ?_)
 ·rw [if_pos (show f= "end" /\c / 3%4=0 by simpa using h)]
  exact xi (xu (xa xk (xa xk xc))) rfl
 ·rw [if_neg (show ¬(f= "end" /\c / 3%4=0) by simpa using h)]
  exact xi (xu (xa (xg Se 1 (qo M) (by decide) (xa (xg Se 3 (Zf M) (by decide) (xa (xb Se 0) (xa (xD (xb Se 2) xf (by decide) (by decide+kernel)) xc)) ⟨p,c / 12,rfl,hp,rfl⟩) xc) ⟨_,rfl,b.up,rfl⟩) (xa xk xc))) rfl
theorem Ys {T:Tx} (M:Mo T):FnD T 3 "_law_special" j6:=by
 refine x9 (M.A (i:=75) rfl) (by walk_at "S" :ScB ["_law_p","_law_cell_here","_law_zero","_law_two","_law_some"] ["_law_p","_law_cell_here"] ["_law_fraction_text","_law_fraction","len","str"] _) (by walk_at "2") (by rintro _ _ ⟨_,_,rfl,_⟩;rfl) fun Y S Z ds d h=>?_
 have Se:=S.toSe
 obtain ⟨p,c,rfl,hp,rfl⟩:=h
 have b:=qF hp (c / 20)
 have l7:(307*p).natAbs.log2<1920:=by rcases hp with rfl | rfl | rfl | rfl<;>decide+kernel
 have s7:(toString (307*p):Str).length<=10:=by rcases hp with rfl | rfl | rfl | rfl<;>decide+kernel
 refine xl S 2 (d:= .str (tx (ftx (fr91 p (c / 20))))) (xg Se 0 (qo M) (by decide) (xa (xg Se 1 (Zf M) (by decide) (xa (xb Se 0) (xa (xD (xb Se 1) xf (by decide) (by decide+kernel)) xc)) ⟨p,c / 20,rfl,hp,rfl⟩) xc) ⟨_,rfl,b.up,rfl⟩) ?_
 have zl:(tx (ftx (fr91 p (c / 20)))).length<=130:=by rw [yN];exact qE b
 generalize tx (ftx (fr91 p (c / 20)))=z at zl ⊢
 refine xl S 3 (d:= .int T94) (yW (xB (xB (uZ xf xf ⟨by decide,by decide,by decide⟩) (uZ xf xf ⟨by decide,by decide,by decide⟩) (mulOk (m:=70) (n:=70) (by unfold Bd;decide+kernel) (by unfold Bd;decide+kernel) (by decide))) (uZ xf xf ⟨by decide,by decide,by decide⟩) (mulOk (m:=140) (n:=70) (by unfold Bd;decide+kernel) (by unfold Bd;decide+kernel) (by decide))) (congrArg D.int (by decide+kernel))) ?_
 refine xl S 4 (d:= .lst [pr94 ("scale 0","fraction"),pr94 ("near far far","line"),pr94 (("near " :Str)++z++(" " :Str)++z,"line")]) ?a1 ?_
 case a1=>
  refine ym ?_
  refine yh (d:=pr94 ("scale 0","fraction")) ?ay0 ?_
  case ay0=>exact xu (yh xk (yh xk xc))
  refine yh (d:=pr94 ("near far far","line")) ?ay1 ?_
  case ay1=>exact xu (yh xk (yh xk xc))
  refine yh (d:=pr94 (("near " :Str)++z++(" " :Str)++z,"line")) ?ay2 ?_
  case ay2=>exact xu (yh (xC (xC (xC xk (xb Se 2) (by have e0:("near " :Str).length=5:=rfl;(try simp only [PySem.Str.length_append]);omega)) xk (by have e0:("near " :Str).length=5:=rfl;have e1:(" " :Str).length=1:=rfl;(try simp only [PySem.Str.length_append]);omega)) (xb Se 2) (by have e0:("near " :Str).length=5:=rfl;have e1:(" " :Str).length=1:=rfl;(try simp only [PySem.Str.length_append]);omega)) (yh xk xc))
  exact xc
 refine xl S 4 (d:= .lst [pr94 ("scale 0","fraction"),pr94 ("near far far","line"),pr94 (("near " :Str)++z++(" " :Str)++z,"line"),pr94 ("figures 1/307","many"),pr94 (("figures -11/" :Str)++(toString (307*p):Str),"many"),pr94 ("road 300:1","far")]) (yW (zk (xs:=[pr94 ("scale 0","fraction"),pr94 ("near far far","line"),pr94 (("near " :Str)++z++(" " :Str)++z,"line")]) (ys:=[pr94 ("figures 1/307","many"),pr94 (("figures -11/" :Str)++(toString (307*p):Str),"many"),pr94 ("road 300:1","far")]) (xb Se 4) ?a2 (by show 3+3<=1000000;decide)) rfl) ?_
 case a2=>
  refine ym ?_
  refine yh (d:=pr94 ("figures 1/307","many")) ?by0 ?_
  case by0=>exact xu (yh xk (yh xk xc))
  refine yh (d:=pr94 (("figures -11/" :Str)++(toString (307*p):Str),"many")) ?by1 ?_
  case by1=>exact xu (yh (xC xk (yA Se 3 (xa (xB xf (xb Se 0) (.of_left (intBits_le_64 (by decide) (by decide)))) xc) l7 M.gv) (by have e0:("figures -11/" :Str).length=12:=rfl;omega)) (yh xk xc))
  refine yh (d:=pr94 ("road 300:1","far")) ?by2 ?_
  case by2=>exact xu (yh xk (yh xk xc))
  exact xc
 refine xl S 4 (d:= .lst [pr94 ("scale 0","fraction"),pr94 ("near far far","line"),pr94 (("near " :Str)++z++(" " :Str)++z,"line"),pr94 ("figures 1/307","many"),pr94 (("figures -11/" :Str)++(toString (307*p):Str),"many"),pr94 ("road 300:1","far"),pr94 (("move 0 0 " :Str)++z++(" 1" :Str),"table"),pr94 (("kind " :Str)++z++(" 0 " :Str)++z++(" 0" :Str),"table")]) (yW (zk (xs:=[pr94 ("scale 0","fraction"),pr94 ("near far far","line"),pr94 (("near " :Str)++z++(" " :Str)++z,"line"),pr94 ("figures 1/307","many"),pr94 (("figures -11/" :Str)++(toString (307*p):Str),"many"),pr94 ("road 300:1","far")]) (ys:=[pr94 (("move 0 0 " :Str)++z++(" 1" :Str),"table"),pr94 (("kind " :Str)++z++(" 0 " :Str)++z++(" 0" :Str),"table")]) (xb Se 4) ?a3 (by show 6+2<=1000000;decide)) rfl) ?_
 case a3=>
  refine ym ?_
  refine yh (d:=pr94 (("move 0 0 " :Str)++z++(" 1" :Str),"table")) ?dy0 ?_
  case dy0=>exact xu (yh (xC (xC xk (xb Se 2) (by have e0:("move 0 0 " :Str).length=9:=rfl;(try simp only [PySem.Str.length_append]);omega)) xk (by have e0:("move 0 0 " :Str).length=9:=rfl;have e1:(" 1" :Str).length=2:=rfl;(try simp only [PySem.Str.length_append]);omega)) (yh xk xc))
  refine yh (d:=pr94 (("kind " :Str)++z++(" 0 " :Str)++z++(" 0" :Str),"table")) ?dy1 ?_
  case dy1=>exact xu (yh (xC (xC (xC (xC xk (xb Se 2) (by have e0:("kind " :Str).length=5:=rfl;(try simp only [PySem.Str.length_append]);omega)) xk (by have e0:("kind " :Str).length=5:=rfl;have e1:(" 0 " :Str).length=3:=rfl;(try simp only [PySem.Str.length_append]);omega)) (xb Se 2) (by have e0:("kind " :Str).length=5:=rfl;have e1:(" 0 " :Str).length=3:=rfl;(try simp only [PySem.Str.length_append]);omega)) xk (by have e0:("kind " :Str).length=5:=rfl;have e1:(" 0 " :Str).length=3:=rfl;have e2:(" 0" :Str).length=2:=rfl;(try simp only [PySem.Str.length_append]);omega)) (yh xk xc))
  exact xc
 refine Up S 4 (ds:=[pr94 ("scale 0","fraction"),pr94 ("near far far","line"),pr94 (("near " :Str)++z++(" " :Str)++z,"line"),pr94 ("figures 1/307","many"),pr94 (("figures -11/" :Str)++(toString (307*p):Str),"many"),pr94 ("road 300:1","far"),pr94 (("move 0 0 " :Str)++z++(" 1" :Str),"table"),pr94 (("kind " :Str)++z++(" 0 " :Str)++z++(" 0" :Str),"table"),pr94 (("numbers 2 " :Str)++z++(" 2 " :Str)++z,"table"),pr94 ("move 0 0 0 0","table"),pr94 ("within 7","many")]) (Jg (xs:=[pr94 ("scale 0","fraction"),pr94 ("near far far","line"),pr94 (("near " :Str)++z++(" " :Str)++z,"line"),pr94 ("figures 1/307","many"),pr94 (("figures -11/" :Str)++(toString (307*p):Str),"many"),pr94 ("road 300:1","far"),pr94 (("move 0 0 " :Str)++z++(" 1" :Str),"table"),pr94 (("kind " :Str)++z++(" 0 " :Str)++z++(" 0" :Str),"table")]) (ys:=[pr94 (("numbers 2 " :Str)++z++(" 2 " :Str)++z,"table"),pr94 ("move 0 0 0 0","table"),pr94 ("within 7","many")]) (xb Se 4) ?a4 (by show 8+3<=1000000;decide)) ?_
 case a4=>
  refine ym ?_
  refine yh (d:=pr94 (("numbers 2 " :Str)++z++(" 2 " :Str)++z,"table")) ?ey0 ?_
  case ey0=>exact xu (yh (xC (xC (xC xk (xb Se 2) (by have e0:("numbers 2 " :Str).length=10:=rfl;(try simp only [PySem.Str.length_append]);omega)) xk (by have e0:("numbers 2 " :Str).length=10:=rfl;have e1:(" 2 " :Str).length=3:=rfl;(try simp only [PySem.Str.length_append]);omega)) (xb Se 2) (by have e0:("numbers 2 " :Str).length=10:=rfl;have e1:(" 2 " :Str).length=3:=rfl;(try simp only [PySem.Str.length_append]);omega)) (yh xk xc))
  refine yh (d:=pr94 ("move 0 0 0 0","table")) ?ey1 ?_
  case ey1=>exact xu (yh xk (yh xk xc))
  refine yh (d:=pr94 ("within 7","many")) ?ey2 ?_
  case ey2=>exact xu (yh xk (yh xk xc))
  exact xc
 refine xp (yp (xb Se 0) xf) (fun h=>?_) (fun h=>xn ?_)
 ·have h2:p=2:=mC h
  subst h2
  have t0:(toString T94:Str).length<=60:=by decide+kernel
  have t1:(toString (1 - T94):Str).length<=60:=by decide+kernel
  have lt:T94.natAbs.log2<1920:=by decide+kernel
  have lt1:(1 - T94).natAbs.log2<1920:=by decide+kernel
  refine Z0 S 4 (d:=pr94 (kT94,"far")) rfl ?kt ?_ (by show 11<1000000;decide)
  case kt=>exact xu (yh (xC (xC (xC (xC (xC xk (yA Se 3 (xa (xb Se 3) xc) lt M.gv) (by have e0:("kind 1/" :Str).length=7:=rfl;(try simp only [PySem.Str.length_append]);omega)) xk (by have e0:("kind 1/" :Str).length=7:=rfl;have e1:(" 1 " :Str).length=3:=rfl;(try simp only [PySem.Str.length_append]);omega)) (yA Se 3 (xa (yQ xf (xb Se 3)) xc) lt1 M.gv) (by have e0:("kind 1/" :Str).length=7:=rfl;have e1:(" 1 " :Str).length=3:=rfl;(try simp only [PySem.Str.length_append]);omega)) xk (by have e0:("kind 1/" :Str).length=7:=rfl;have e1:(" 1 " :Str).length=3:=rfl;have e2:(" " :Str).length=1:=rfl;(try simp only [PySem.Str.length_append]);omega)) (yA Se 3 (xa (xb Se 3) xc) lt M.gv) (by have e0:("kind 1/" :Str).length=7:=rfl;have e1:(" 1 " :Str).length=3:=rfl;have e2:(" " :Str).length=1:=rfl;(try simp only [PySem.Str.length_append]);omega)) (yh xk xc))
  refine kH S 4 10 rfl xf (by show 10<12;decide) (by show 12<=1000000;decide) (xn ?_)
  exact xi (QM Se 4 rfl (xz (xb Se 1) (Vy Se 2 4 rfl M.gk) (by show (0:Int)<11;decide)) (VI (l:=sL94 2 z) (N:=11) rfl (by decide) c)) rfl
 ·have h2:¬p=2:=of_decide_eq_false h
  have e:sL94 p z=([("scale 0","fraction"),("near far far","line"),(("near " :Str)++z++(" " :Str)++z,"line"),("figures 1/307","many"),(("figures -11/" :Str)++(toString (307*p):Str),"many"),("road 300:1","far"),(("move 0 0 " :Str)++z++(" 1" :Str),"table"),(("kind " :Str)++z++(" 0 " :Str)++z++(" 0" :Str),"table"),(("numbers 2 " :Str)++z++(" 2 " :Str)++z,"table"),("move 0 0 0 0","table"),("within 7","many")]:List (Str×Str)):=by unfold sL94;rw [if_neg h2]
  have q:=VI (l:=sL94 p z) (N:=11) rfl (by decide) c
  rw [e] at q ⊢
  exact xi (QM Se 4 rfl (xz (xb Se 1) (Vy Se 2 4 rfl M.gk) (by show (0:Int)<11;decide)) q) rfl
theorem U2 {T:Tx} (M:Mo T):FnD T 4 "_law_row" J8:=by
 refine x9 (M.A (i:=76) rfl) (by walk_at "S" :ScB ["_law_p","_law_cell_here","_law_word_here","_law_form","_law_many","_law_words","_law_refused","_law_row_here"] ["_law_p","_law_cell_here"] ["_law_special","_law_ill","range"] _) (by walk_at "2") (by rintro _ _ ⟨_,_,rfl,_⟩;rfl) fun Y S Z ds d h=>?_
 have Se:=S.toSe
 obtain ⟨p,c,rfl,hp,rfl⟩:=h
 unfold row94
 refine xp (yp (xz (xb Se 1) xf (by decide)) xf) (fun h=>?_) (fun h=>xn ?_)
 ·rw [mH (mC h)]
  exact xi (xg Se 0 (Ys M) (by decide) (xa (xb Se 0) (xa (xD (xb Se 1) xf (by decide) (by decide+kernel)) xc)) ⟨p,c / 4,rfl,hp,rfl⟩) rfl
 rw [mF (of_decide_eq_false h)]
 obtain ⟨e,he⟩:∃e,tab94[(c / 4%12).toNat]? =some e:=⟨_,mD (by show _<12;omega)⟩
 rw [he]
 have hat:=jX he
 have EN:=jO e (mz he)
 obtain ⟨w,f,n⟩:=e
 have n1:1<=n.toNat:=EN.n1
 have n4:n.toNat<=4:=EN.n4
 show SsD Y _ _ (Ret (pr94 (rw94 w (fw94 p f c n.toNat),due94 (fw94 p f c n.toNat))))
 with_reducible refine Us (c':=[.val (.int p),.val (.int c),.val (.str w),.val (.str f),.val (.int n),.un,.un,.un]) (d:= .tup [.str w,.str f,.int n]) ?v ?t ?r ?hs ?hw ?h1
 case hs=>rfl
 case hw=>rfl
 case h1=>rfl
 case t=>exact Q1 Se.calm (qa (zi S 2) (qa (zi S 3) (qa (zi S 4) Q0)))
 case v=>
  with_reducible refine xG (ds:=tab94.map en3) ?tb ?ti hat ?pi
  case pi=>intro _ _;rfl
  case ti=>exact xz (xD (xb Se 1) xf (by decide) (by decide+kernel)) xf (by decide)
  case tb=>
   with_reducible refine ym ?_ ?hz
   case hz=>decide
   with_reducible refine VL (xs:=tab94) ?_
   exact rfl
 have wl:(ws94 p f c n.toNat).length=n.toNat:=by unfold ws94;rw [mB,List.length_range]
 have fwo:=Vt hp (f:=f) (c:=c) n1
 refine kI S 5 (tn:=["_law_j"]) (fs:=["_law_p","_law_form","_law_cell_here"]) (ix:=[0,3,1]) (G':=["_law_word","_law_more"]) Z.sc ?B1 (zn Se 2 (xa (xb Se 4) xc) (by omega) (by omega) M.gJ) ((ws94 p f c n.toNat).map fun u=>some (pr94 u)) (by rw [List.length_map,x5,wl]) (by rw [List.length_map,wl];omega) ?T1 (q8 Z.sc fun _=>rfl) ?_
 case B1=>exact ⟨rfl,rfl,by decide+kernel,by decide+kernel,by decide+kernel,by decide+kernel,by decide+kernel,by decide+kernel,rfl,by decide+kernel⟩
 case T1=>
  intro Y' S' hl m d r hd hr ts hts
  obtain ⟨hm,rfl⟩:=yR hd
  obtain ⟨t1,rfl⟩:∃t1,ts=[t1]:=List.length_eq_one_iff.mp hts
  unfold ws94 at hr
  rw [List.getElem?_map,List.getElem?_map,List.getElem?_range (by omega)] at hr
  cases hr
  refine ⟨[_],rfl,rfl,za S'.toSn 0 (.inr (hl _ (by simp))),rfl,?_⟩
  exact xg S' 0 (Wc M) (by decide) (xa (xb S' 1) (xa (xb S' 2) (xa (xg S' 1 (Wg M) (by decide) (xa (xb S' 3) (xa (xb S' 0) xc)) ⟨c,0+(m:Int)*1,rfl,rfl⟩) xc))) ⟨p,f,_,rfl,hp,by unfold mr94;omega,rfl⟩
 rw [JA]
 have w2:=ki (p:=p) (f:=f) (c:=c) (n:=n.toNat)
 have fwE:fw94 p f c n.toNat=if fl94 (ws94 p f c n.toNat)=[] then (ws94 p f c n.toNat).set (n.toNat - 1) (il94 p f (c / 48)) else ws94 p f c n.toNat:=rfl
 generalize ws94 p f c n.toNat=us at wl w2 fwE ⊢
 generalize fw94 p f c n.toNat=vs at fwo fwE ⊢
 obtain ⟨vl,vw,_⟩:=fwo
 refine Um S 6 5 rfl (tn:=["_law_one"]) (fs:=[]) (ix:=[]) (G':=[]) Z.sc ?B2 (Vq (ds:=us.map pr94) (xb Se 5)) (us.map fun u=>if u.2=("" :Str) then none else some (D.str u.2)) (by rw [List.length_map,List.length_map]) (by rw [List.length_map];omega) ?T2 (q8 Z.sc fun _=>rfl) (JB us) ?_
 case B2=>exact ⟨rfl,rfl,by decide+kernel,by decide+kernel,by decide+kernel,by decide+kernel,by decide+kernel,by decide+kernel,rfl,by decide+kernel⟩
 case T2=>
  intro Y' S' hl m d r hd hr ts hts
  obtain ⟨t1,rfl⟩:∃t1,ts=[t1]:=List.length_eq_one_iff.mp hts
  rw [List.getElem?_map] at hd hr
  cases q:us[m]? with
  | none=>rw [q] at hd;cases hd
  | some u=>
   rw [q] at hd hr
   cases hd
   have hr:some (if u.2=("" :Str) then none else some (D.str u.2))=some r:=hr
   refine ⟨[.val (pr94 u)],rfl,rfl,za S'.toSn 0 (.inr (hl _ (by simp))),?_⟩
   by_cases h0:u.2=("" :Str)
   ·rw [mH h0] at hr
    cases hr
    show TeD Y' _ _ false
    exact Q3 (ZW (x:=u.2) (y:= "") (xj (d:= .str u.2) (xb S' 0) xf rfl) xk) (by simp [h0])
   ·rw [mF h0] at hr
    cases hr
    show TeD Y' _ _ true/\EvD Y' _ _ _
    exact ⟨Q3 (ZW (x:=u.2) (y:= "") (xj (d:= .str u.2) (xb S' 0) xf rfl) xk) (by simp [h0]),xj (d:= .str u.2) (xb S' 0) xf rfl⟩
 have du:due94 vs=((fl94 vs).map fun u=>u.2).headD ("" :Str):=rfl
 refine KN (fun c'=>∃r:List D,c'=[.val (.int p),.val (.int c),.val (.str w),.val (.str f),.val (.int n),.own (vs.map pr94),.val (.lst (.str (due94 vs)::r)),.un]) (zD Se (d1:= .lst (((fl94 us).map fun u=>u.2).map D.str)) (d2:= .lst []) (xb Se 6) (ym xc) (kO w2) (by decide+kernel)) (fun h=>?_) (fun h=>?_) ?_
 ·rw [VA] at h
  have h0:fl94 us=[]:=List.map_eq_nil_iff.mp (mC h)
  rw [mH h0] at fwE
  refine kC S 5 rfl (xg Se 1 (Zg M) (by decide) (xa (xb Se 0) (xa (xb Se 3) (xa (xD (xb Se 1) xf (by decide) (by decide+kernel)) xc))) ⟨p,f,c / 48,rfl,hp,rfl⟩) (wc xf) (n:=n.toNat - 1) (by unfold ixN;rw [mB,wl,mF (by decide),mH (by omega)];congr 1;omega) ?_
  have eS:(us.map pr94).set (n.toNat - 1) (pr94 (il94 p f (c / 48)))=vs.map pr94:=by rw [fwE,List.map_set]
  rw [eS]
  have dI:due94 vs=(il94 p f (c / 48)).2:=by
   have i2:(il94 p f (c / 48)).2≠("" :Str):=by rcases Zp p f (c / 48) with e | e<;>rw [e]<;>decide
   rw [fwE]
   exact WP h0 (by omega) i2
  refine xl S 6 (d:= .lst [.str (due94 vs)]) (ym (xa (xj (QM Se 5 (d:=pr94 (il94 p f (c / 48))) rfl (wc xf) (by rw [fwE];exact Js wl n1)) xf (by rw [dI];rfl)) xc)) (xn ⟨[],rfl⟩)
 ·rw [VA] at h
  have h0:¬fl94 us=[]:=fun z=>of_decide_eq_false h (by rw [z];rfl)
  rw [mF h0] at fwE
  subst fwE
  cases q:fl94 vs with
  | nil=>exact absurd q h0
  | cons u r=>exact ⟨(r.map fun u=>u.2).map D.str,by rw [du,q];rfl⟩
 rintro _ ⟨r,rfl⟩
 refine vP 5 rfl ?_
 have vo:∀u∈vs,okW94 u.1=true:=fun u hu=>by
  obtain ⟨fs,hf1,hf2⟩:=EN.fs
  have z:=hf1 (List.replicate n.toNat "3") (by simp) (fun t ht=>by rw [(List.mem_replicate.mp ht).2];decide)
  have zl:=z3 z
  rw [List.length_append,List.length_replicate] at zl
  obtain ⟨i,hi⟩:=List.mem_iff_getElem?.mp hu
  exact (vw i u _ hi (hf2 0 _ n1 (mD (by omega)))).1
 have wo:=qr (show okW94 w=true from EN.ok)
 refine xl S 7 (d:= .str (jn94 w vs)) (jF (sep:= " ") (xs:=w::vs.map fun u=>u.1) xk ?JL (joinOk96 (by rw [List.length_cons,List.length_map];omega) ?JK)) ?_
 case JK=>
  intro x hx
  rcases List.mem_cons.mp hx with rfl | hx
  ·rw [xJ];omega
  ·obtain ⟨u,hu,rfl⟩:=List.mem_map.mp hx
   have:=(qr (vo u hu)).2.1
   rw [xJ];omega
 case JL=>
  refine jE (zk (xs:=[D.str w]) (ys:=vs.map fun u=>D.str u.1) (ym (xa (xb Se 2) xc)) ?CC (by rw [mB];show 1+vs.length<=1000000;omega)) (by rw [List.map_cons,List.map_map];rfl)
  refine jH (tn:=["_law_one"]) (fs:=[]) (ix:=[]) (G':=[]) (items:=vs.map pr94) (ds:=vs.map fun u=>D.str u.1) Se Z.sc ?BB ?IT (by rw [List.length_map,List.length_map]) (by rw [List.length_map];omega) ?TT ?HS
  case HS=>intro _;rfl
  case IT=>exact Vq (ds:=vs.map pr94) (xb Se 5)
  case BB=>exact ⟨rfl,rfl,by decide+kernel,by decide+kernel,by decide+kernel,by decide+kernel,by decide+kernel,by decide+kernel,rfl,by decide+kernel⟩
  case TT=>
   intro Y' S' hl m d r hd hr ts hts
   obtain ⟨t1,rfl⟩:∃t1,ts=[t1]:=List.length_eq_one_iff.mp hts
   rw [List.getElem?_map] at hd hr
   cases q:vs[m]? with
   | none=>rw [q] at hd;cases hd
   | some u=>
    rw [q] at hd hr
    cases hd
    cases hr
    exact ⟨[_],rfl,rfl,za S'.toSn 0 (.inr (hl _ (by simp))),xj (d:= .str u.1) (xb S' 0) xf rfl⟩
 unfold rw94
 refine xp (yv (x:=w) (y:= "towards") (xb Se 2) xk) (fun h=>?_) (fun h=>xn ?_)
 ·have hw:w= "towards" :=by simpa using h
  rw [mH hw]
  refine xl S 7 (xC (xb Se 7) xk (by have:=jh wo.2.1 (fun u hu=>(qr (vo u hu)).2.1);have e0:(" 3" :Str).length=2:=rfl;omega)) (xn ?_)
  exact xi (xu (xa (xb Se 7) (xa (xG (d:= .str (due94 vs)) (xb Se 6) xf (by rw [zN (by decide) (by rw [List.length_cons];omega)];rfl)) xc))) rfl
 ·have hw:¬w= "towards" :=by simpa using h
  rw [mF hw]
  exact xi (xu (xa (xb Se 7) (xa (xG (d:= .str (due94 vs)) (xb Se 6) xf (by rw [zN (by decide) (by rw [List.length_cons];omega)];rfl)) xc))) rfl
theorem V4:ScB ["self","p"] ["self","p"] ["FIRST"] (defScope uf):=by walk_at "S"
theorem Wi {T:Tx} (M:Mo T):∃C f fd,T.mg "Desk" =some (.ref C)/\Mk T.K C f/\Binds T.K fd ["self","p"] []/\FnOk T.prog T.w T.K T.mg T.base CX0 1 f fd ["self","p"] (spN T C):=by
 obtain ⟨C0,f0,fd0,hC0,hm0,F0⟩:=M.me
 refine ⟨C0,f0,fd0,hC0,hm0,F0.binds fun _ _ _ _ _ _ us hl=>match us,hl with | [_,_],_=>rfl,xbJ F0 V4 fun Y S pr=>?_⟩
 have Se:=S.toSe
 exact UM S (M.gg _ hC0) (wQ Se.toSn 0 M.gZ)
theorem V3:ScB ["self"] ["self"] [] (defScope uc):=by walk_at "S"
theorem Wh {T:Tx} (M:Mo T):FnMt T 1 "lies" kg:=by
 obtain ⟨C0,f0,fd0,hC0,hm0,F0⟩:=M.mf
 refine ⟨C0,f0,fd0,["self"],hC0,(M.gg C0 hC0).cl,hm0,F0.binds fun _ _ _ _ _ _ us hl=>match us,hl with | [_],_=>rfl,Zw F0 V3 (by rintro _ _ _ _ _ ⟨rfl,_⟩;rfl) fun Y S Z ad l C pr s past ds r hC h hz=>?_⟩
 have Se:=S.toSe
 obtain ⟨rfl,rfl⟩:=h
 exact y6 (i:=0) (v7 (yk Se.toSn 0 rfl (M.gg C hC))) rfl rfl
theorem Z3:ScB ["self"] ["self"] ["len"] (defScope vR):=by walk_at "S"
theorem Qm {T:Tx} (M:Mo T):FnMt T 1 "steps" WX:=by
 obtain ⟨C0,f0,fd0,hC0,hm0,F0⟩:=M.hW
 refine ⟨C0,f0,fd0,["self"],hC0,(M.gg C0 hC0).cl,hm0,F0.binds fun _ _ _ _ _ _ us hl=>match us,hl with | [_],_=>rfl,Zw F0 Z3 (by rintro _ _ _ _ _ ⟨rfl,_⟩;rfl) fun Y S Z ad l C pr s past ds r hC h hz=>?_⟩
 have Se:=S.toSe
 obtain ⟨rfl,rfl⟩:=h
 exact y6 (i:=0) (v7 (JO Se 0 0 rfl (M.gg C hC) M.gk)) rfl rfl
abbrev ud:Stmt:=top 150
theorem KR:ScB ["_law_script","_law_p","_law_desk","_law_k","_law_row_here","_law_word_here"] ["_law_script"] ["Desk","range","_law_said","max","_law_row","_law_cell","min","len"] (defScope ud):=by walk_at "S"
theorem okk_law {T:Tx} (M:Mo T) {f:Addr} {fd:FuncData} (F:Fun T.K "law" "law" ud f fd):FnOk T.prog T.w T.K T.mg T.base CX0 13 f fd ["_law_script"] (spD T.K ZL):=by
 refine Ks F KR (by rintro _ _ ⟨_,rfl,_,rfl⟩;rfl) fun Y S Z ds d h=>?_
 have Se:=S.toSe
 obtain ⟨ns,rfl,h63,rfl⟩:=h
 have c0:=jx ns 0
 obtain ⟨p,hp,hpa⟩:=UP (i:=fcell ns 0%4) (by omega) (by omega)
 refine xl S 1 (d:= .int p) (xj (xu (xa xf (xa xf (xa xf (xa xf xc))))) (xz (xg Se 5 (Zh M) (by decide) (xa (xb Se 0) (xa xf xc)) ⟨ns,0,rfl,h63,by decide,by decide,rfl⟩) xf (by decide)) hpa) ?_
 obtain ⟨C,fI,fdI,hC,hMk,hBd,hIn⟩:=Wi M
 refine xa2 S 2 0 hMk hIn (by decide) hBd hC (xb Se 1) fun ad l=>?_
 refine ZY (Ya Se (uY Se 2 2 (vX M) (by decide) rfl (fun j hj=>by rcases j with _ | _ | _ | _ | _ | _ | j<;>first | rfl | exact absurd rfl hj) hC (xa xk xc) (xbn hp)) (xu (xa xk (xa xk xc))) (by decide+kernel) (by decide+kernel)) (fun h=>absurd h (by decide+kernel)) (fun _=>xn ?_)
 have ml:(ns.map D.int).length=ns.length:=mB ..
 refine Yc S (Wv Se 1 (xa xf (xa (QL Se 3 (xa xf (xa (jC Se 6 (xa (yr Se 7 (n:=ns.length) (d:= .lst (ns.map D.int)) (xa (xb Se 0) xc) (congrArg some ml) M.gk) (xa xf xc)) M.hZ) xc)) M.ma) xc)) (by refine ⟨?_,?_,?_,?_⟩<;>omega) M.gJ)
  (fun _ c=>∃s3 s4 s5:Slot,c=[.val (.lst (ns.map D.int)),.val (.int p),.dsk ad l C (.int p) (stD (300,0)) [stD (0,0)],s3,s4,s5]/\isDsk s3=false/\isDsk s4=false/\isDsk s5=false) ⟨_,_,_,rfl,rfl,rfl,rfl⟩ ?_ ?_
 ·rintro m d _ hd ⟨s3,s4,s5,rfl,h3,h4,h5⟩
  obtain ⟨hm,rfl⟩:=yR hd
  refine ⟨_,zi S 3,?_⟩
  rw [show (1:Int)+(m:Int)*1=1+(m:Int) by omega]
  have hm60:m<60:=by omega
  have R:=xa6 (UD hp (fcell ns (1+(m:Int))))
  refine Us (d:= .tup [.str (row94 p (fcell ns (1+(m:Int)))).1,.str (row94 p (fcell ns (1+(m:Int)))).2]) (xg Se 4 (U2 M) (by decide) (xa (xb Se 1) (xa (xg Se 5 (Zh M) (by decide) (xa (xb Se 0) (xa (xb Se 3) xc)) ⟨ns,1+(m:Int),rfl,h63,by omega,by omega,rfl⟩) xc)) ⟨p,_,rfl,hp,rfl⟩) (Q1 Se.calm (qa (zi S 4) (qa (zi S 5) Q0))) ?_
  generalize row94 p (fcell ns (1+(m:Int)))=u at R ⊢
  obtain ⟨R1,R2,R3⟩:=R
  clear h3 h4 h5
  refine ZY (Ya Se (uY Se 2 2 (vX M) (by decide) rfl (fun j hj=>by rcases j with _ | _ | _ | _ | _ | _ | j<;>first | rfl | exact absurd rfl hj) hC (xa (xb Se 4) xc) R1) (xu (xa (xb Se 5) (xa YJ xc))) R2 R2) (fun h=>by rw [R3] at h;cases h) (fun _=>xn ?_)
  refine ZY (v:= !decide ((([stD (0,0)]:List D).length:Int)=1)) (KD (ZV (Ya Se (wa Se 2 (Wh M) (by decide) rfl (fun j hj=>by rcases j with _ | _ | _ | _ | _ | _ | j<;>first | rfl | exact absurd rfl hj) hC (fun _ _ _=>rfl) ⟨rfl,rfl⟩) (xu (xa xf (xa (xu (xa xf (xa xf xc))) xc)))) (by decide+kernel)) (kx (VR (wa Se 2 (Qm M) (by decide) rfl (fun j hj=>by rcases j with _ | _ | _ | _ | _ | _ | j<;>first | rfl | exact absurd rfl hj) hC (fun _ _ _=>rfl) ⟨rfl,rfl⟩) xf))).pt (fun h=>absurd h (by decide+kernel)) (fun _=>xn (xn ⟨_,_,_,rfl,rfl,rfl,rfl⟩))
 rintro _ ⟨s3,s4,s5,rfl,h3,h4,h5⟩
 refine kF (JH Se (uY Se 2 2 (vX M) (by decide) rfl (fun j hj=>by rcases j with _ | _ | _ | _ | _ | _ | j<;>first | rfl | exact h3 | exact h4 | exact h5 | exact absurd rfl hj) hC (xa xk xc) xa0) (xu (xa xk (xa xk xc))) (by decide+kernel) (by decide+kernel)) ?_
 show D.bl _=D.bl true
 rw [show eqD (.tup [.str "",.str "0:0"]) (.tup [.str "",.str "0:0"])=true by decide+kernel]
theorem all_mk {l:W.OpenLaw} {w:World} {K:W.Frag} {h:Heap} {mg:Str->Option Value} {fa f6 c_TreeError c_NoPrime gm gC gH gA gB gI gQ gn c_TooFar c_NOUGHT c_ONE:Addr} (X:K.In h) (G:h.Ns mainGlobals mg) (hfa:mg "law" =some (.ref fa))
  {od6 an6:Option Addr} {sl6:Array (Option Value)} {oc6 toc6 kV6 dc6 pm6 cd6 ct6:Value} {Td6:Addr} {ttk6:Tok} {tn6:Nat} {tod6:Option Addr} {tsl6:Array (Option Value)}
  (a6:W.nsIn K mainGlobals "fraction" =some (some (.ref f6))) (l6:K.lookup f6=some ⟨oc6,od6,.func (W.fnOf "fraction" "fraction" (defArgs zS) (defBody zS) (defScope zS) (.ref Td6) kV6 dc6 pm6 an6 cd6 ct6),sl6⟩) (c6:W.codeIn K cd6 "fraction" =true) (k6:W.keepIn K (.ref f6)=true)
  (aL:AtL K dl)
  (d6:K.lookup Td6=some ⟨toc6,tod6,.seq #[.int 1 ttk6] tn6,tsl6⟩)
  (z_isinstance:W.nsIn K mainGlobals "isinstance" =some none)
  (z_int:W.nsIn K mainGlobals "int" =some none)
  (z_bool:W.nsIn K mainGlobals "bool" =some none)
  (z_abs:W.nsIn K mainGlobals "abs" =some none)
  (z_tuple:W.nsIn K mainGlobals "tuple" =some none)
  (z_len:W.nsIn K mainGlobals "len" =some none)
  (z_min:W.nsIn K mainGlobals "min" =some none)
  (z_str:W.nsIn K mainGlobals "str" =some none)
  (z_reversed:W.nsIn K mainGlobals "reversed" =some none)
  (z_all:W.nsIn K mainGlobals "all" =some none)
  (z_range:W.nsIn K mainGlobals "range" =some none)
  (z_list:W.nsIn K mainGlobals "list" =some none)
  (z_max:W.nsIn K mainGlobals "max" =some none)
  (z_ValueError:W.nsIn K mainGlobals "ValueError" =some none)
  {c_Desk:Addr}
  {c_Scale:Addr}
  {c_FORMS:Addr} {kn_FORMS:Nat} {ta_FORMS_0 tb_FORMS_0 ta_FORMS_1 tb_FORMS_1 ta_FORMS_2 tb_FORMS_2 ta_FORMS_3 tb_FORMS_3 ta_FORMS_4 tb_FORMS_4 ta_FORMS_5 tb_FORMS_5 ta_FORMS_6 tb_FORMS_6 ta_FORMS_7 tb_FORMS_7 ta_FORMS_8 tb_FORMS_8 ta_FORMS_9 tb_FORMS_9 ta_FORMS_10 tb_FORMS_10 ta_FORMS_11 tb_FORMS_11 ta_FORMS_12 tb_FORMS_12 ta_FORMS_13 tb_FORMS_13 ta_FORMS_14 tb_FORMS_14 ta_FORMS_15 tb_FORMS_15:Tok}
  {c_MOST:Addr} {kn_MOST:Nat} {ta_MOST_0 tb_MOST_0 ta_MOST_1 tb_MOST_1:Tok}
  {c_CHANGES:Addr} {kn_CHANGES:Nat} {ta_CHANGES_0 ta_CHANGES_1 ta_CHANGES_2 ta_CHANGES_3 ta_CHANGES_4:Tok}
  {cf_CHANGES_0 cf_CHANGES_1 cf_CHANGES_2 cf_CHANGES_3 cf_CHANGES_4:Addr}
  {c_QUESTIONS:Addr} {kn_QUESTIONS:Nat} {ta_QUESTIONS_0 ta_QUESTIONS_1 ta_QUESTIONS_2 ta_QUESTIONS_3 ta_QUESTIONS_4 ta_QUESTIONS_5 ta_QUESTIONS_6 ta_QUESTIONS_7 ta_QUESTIONS_8 ta_QUESTIONS_9:Tok}
  {cf_QUESTIONS_0 cf_QUESTIONS_1 cf_QUESTIONS_2 cf_QUESTIONS_3 cf_QUESTIONS_4 cf_QUESTIONS_5 cf_QUESTIONS_6 cf_QUESTIONS_7 cf_QUESTIONS_8 cf_QUESTIONS_9:Addr}
  {fi_TooFar:Addr} {oc_i kV_i dc_i pm_i cd_i ct_i:Value} {od_i an_i:Option Addr} {sl_i:Array (Option Value)}
  {ko_NOUGHT:Option Addr} {kn_NOUGHT:Nat} {ks_NOUGHT:Array (Option Value)} {kt_NOUGHT_0 kt_NOUGHT_1:Tok}
  {ko_ONE:Option Addr} {kn_ONE:Nat} {ks_ONE:Array (Option Value)} {kt_ONE_0 kt_ONE_1:Tok}
  {c_FIRST c2_FIRST:Addr} {ko_FIRST kp_FIRST:Option Addr} {kn_FIRST kq_FIRST:Nat} {ks_FIRST kr_FIRST:Array (Option Value)} {kt_FIRST_0 kt_FIRST_1 kt_FIRST_2:Tok}
  {kt_FAR:Tok}
  {kt_FIGURES:Tok}
  {kt_MOST_FIGURES:Tok}
  {kt_MOST_FIRST_FIGURES:Tok}
  {kt_FURTHEST_FIRST:Tok}
  {kt_PIECE_FIGURES:Tok}
  {kt_MOST_BOTTOM:Tok}
  {kt_FURTHEST_WAY:Tok}
  {kt_MOST_SPOTS:Tok}
  {kt_KEEPS:Tok}
  {kt_TURNS:Tok}
  {kt_SLIDES:Tok}
  {kt_MOST_NUMBER_FIGURES:Tok}
  (nd:ndK K=true)
  (gF:W.nsIn K mainGlobals "Desk" =some (some (.ref c_Desk)))
  (dk_Desk:dskKb K c_Desk=true)
  (dm_Desk:W.makesIn K c_Desk=true)
  (dp_Desk:W.keepIn K (.ref c_Desk)=true)
  (mt_init93:MtK K c_Desk "__init__" "Desk.__init__" uf)
  (mt_say94:MtK K c_Desk "say" "Desk.say" Yf)
  (mt_lies93:MtK K c_Desk "lies" "Desk.lies" uc)
  (mt_steps93:MtK K c_Desk "steps" "Desk.steps" vR)
  (mt_lay93:MtK K c_Desk "lay" "Desk.lay" Yg)
  (mt_undo93:MtK K c_Desk "undo" "Desk.undo" ua)
  (g_Scale:W.nsIn K mainGlobals "Scale" =some (some (.ref c_Scale)))
  (dk_Scale:deKb K c_Scale=true)
  (dm_Scale:W.makesIn K c_Scale=true)
  (dp_Scale:W.keepIn K (.ref c_Scale)=true)
  (mt_iniScale94:MtK K c_Scale "__init__" "Scale.__init__" zR)
  (ka_FORMS:W.nsIn K mainGlobals "FORMS" =some (some (.ref c_FORMS)))
  (kl_FORMS:K.lookup c_FORMS=some ⟨.type "dict",none,.dict #[⟨PyData.keyHash w.params "go",.str "go" ta_FORMS_0,.str "SPOT" tb_FORMS_0⟩,⟨PyData.keyHash w.params "move",.str "move" ta_FORMS_1,.str "A B C D" tb_FORMS_1⟩,⟨PyData.keyHash w.params "scale",.str "scale" ta_FORMS_2,.str "F" tb_FORMS_2⟩,⟨PyData.keyHash w.params "shift",.str "shift" ta_FORMS_3,.str "F" tb_FORMS_3⟩,⟨PyData.keyHash w.params "flip",.str "flip" ta_FORMS_4,.str "" tb_FORMS_4⟩,⟨PyData.keyHash w.params "undo",.str "undo" ta_FORMS_5,.str "" tb_FORMS_5⟩,⟨PyData.keyHash w.params "ties",.str "ties" ta_FORMS_6,.str "" tb_FORMS_6⟩,⟨PyData.keyHash w.params "road",.str "road" ta_FORMS_7,.str "SPOT" tb_FORMS_7⟩,⟨PyData.keyHash w.params "towards",.str "towards" ta_FORMS_8,.str "END STEPS" tb_FORMS_8⟩,⟨PyData.keyHash w.params "way",.str "way" ta_FORMS_9,.str "SPOT" tb_FORMS_9⟩,⟨PyData.keyHash w.params "meet",.str "meet" ta_FORMS_10,.str "SPOT SPOT" tb_FORMS_10⟩,⟨PyData.keyHash w.params "near",.str "near" ta_FORMS_11,.str "END END" tb_FORMS_11⟩,⟨PyData.keyHash w.params "within",.str "within" ta_FORMS_12,.str "REACH" tb_FORMS_12⟩,⟨PyData.keyHash w.params "kind",.str "kind" ta_FORMS_13,.str "A B C D" tb_FORMS_13⟩,⟨PyData.keyHash w.params "numbers",.str "numbers" ta_FORMS_14,.str "A B C D" tb_FORMS_14⟩,⟨PyData.keyHash w.params "figures",.str "figures" ta_FORMS_15,.str "F" tb_FORMS_15⟩] kn_FORMS,#[]⟩)
  (ks_FORMS:(c_FORMS==sysModules)=false)
  (ka_MOST:W.nsIn K mainGlobals "MOST" =some (some (.ref c_MOST)))
  (kl_MOST:K.lookup c_MOST=some ⟨.type "dict",none,.dict #[⟨PyData.keyHash w.params "STEPS",.str "STEPS" ta_MOST_0,.int 300 tb_MOST_0⟩,⟨PyData.keyHash w.params "REACH",.str "REACH" ta_MOST_1,.int 7 tb_MOST_1⟩] kn_MOST,#[]⟩)
  (ks_MOST:(c_MOST==sysModules)=false)
  (ka_CHANGES:W.nsIn K mainGlobals "CHANGES" =some (some (.ref c_CHANGES)))
  (tg_CHANGES_0:W.nsIn K mainGlobals "gone" =some (some (.ref cf_CHANGES_0)))
  (tg_CHANGES_1:W.nsIn K mainGlobals "moved_by" =some (some (.ref cf_CHANGES_1)))
  (tg_CHANGES_2:W.nsIn K mainGlobals "scaled" =some (some (.ref cf_CHANGES_2)))
  (tg_CHANGES_3:W.nsIn K mainGlobals "shifted" =some (some (.ref cf_CHANGES_3)))
  (tg_CHANGES_4:W.nsIn K mainGlobals "flipped" =some (some (.ref cf_CHANGES_4)))
  (kl_CHANGES:K.lookup c_CHANGES=some ⟨.type "dict",none,.dict #[⟨PyData.keyHash w.params "go",.str "go" ta_CHANGES_0,.ref cf_CHANGES_0⟩,⟨PyData.keyHash w.params "move",.str "move" ta_CHANGES_1,.ref cf_CHANGES_1⟩,⟨PyData.keyHash w.params "scale",.str "scale" ta_CHANGES_2,.ref cf_CHANGES_2⟩,⟨PyData.keyHash w.params "shift",.str "shift" ta_CHANGES_3,.ref cf_CHANGES_3⟩,⟨PyData.keyHash w.params "flip",.str "flip" ta_CHANGES_4,.ref cf_CHANGES_4⟩] kn_CHANGES,#[]⟩)
  (ks_CHANGES:(c_CHANGES==sysModules)=false)
  (ka_QUESTIONS:W.nsIn K mainGlobals "QUESTIONS" =some (some (.ref c_QUESTIONS)))
  (tg_QUESTIONS_0:W.nsIn K mainGlobals "ties_text" =some (some (.ref cf_QUESTIONS_0)))
  (tg_QUESTIONS_1:W.nsIn K mainGlobals "road_text" =some (some (.ref cf_QUESTIONS_1)))
  (tg_QUESTIONS_2:W.nsIn K mainGlobals "towards_text" =some (some (.ref cf_QUESTIONS_2)))
  (tg_QUESTIONS_3:W.nsIn K mainGlobals "way_text" =some (some (.ref cf_QUESTIONS_3)))
  (tg_QUESTIONS_4:W.nsIn K mainGlobals "meet_text" =some (some (.ref cf_QUESTIONS_4)))
  (tg_QUESTIONS_5:W.nsIn K mainGlobals "near_text" =some (some (.ref cf_QUESTIONS_5)))
  (tg_QUESTIONS_6:W.nsIn K mainGlobals "within_text" =some (some (.ref cf_QUESTIONS_6)))
  (tg_QUESTIONS_7:W.nsIn K mainGlobals "kind_text" =some (some (.ref cf_QUESTIONS_7)))
  (tg_QUESTIONS_8:W.nsIn K mainGlobals "numbers_text" =some (some (.ref cf_QUESTIONS_8)))
  (tg_QUESTIONS_9:W.nsIn K mainGlobals "figures_text" =some (some (.ref cf_QUESTIONS_9)))
  (kl_QUESTIONS:K.lookup c_QUESTIONS=some ⟨.type "dict",none,.dict #[⟨PyData.keyHash w.params "ties",.str "ties" ta_QUESTIONS_0,.ref cf_QUESTIONS_0⟩,⟨PyData.keyHash w.params "road",.str "road" ta_QUESTIONS_1,.ref cf_QUESTIONS_1⟩,⟨PyData.keyHash w.params "towards",.str "towards" ta_QUESTIONS_2,.ref cf_QUESTIONS_2⟩,⟨PyData.keyHash w.params "way",.str "way" ta_QUESTIONS_3,.ref cf_QUESTIONS_3⟩,⟨PyData.keyHash w.params "meet",.str "meet" ta_QUESTIONS_4,.ref cf_QUESTIONS_4⟩,⟨PyData.keyHash w.params "near",.str "near" ta_QUESTIONS_5,.ref cf_QUESTIONS_5⟩,⟨PyData.keyHash w.params "within",.str "within" ta_QUESTIONS_6,.ref cf_QUESTIONS_6⟩,⟨PyData.keyHash w.params "kind",.str "kind" ta_QUESTIONS_7,.ref cf_QUESTIONS_7⟩,⟨PyData.keyHash w.params "numbers",.str "numbers" ta_QUESTIONS_8,.ref cf_QUESTIONS_8⟩,⟨PyData.keyHash w.params "figures",.str "figures" ta_QUESTIONS_9,.ref cf_QUESTIONS_9⟩] kn_QUESTIONS,#[]⟩)
  (ks_QUESTIONS:(c_QUESTIONS==sysModules)=false)
  (gE:W.nsIn K mainGlobals "TreeError" =some (some (.ref c_TreeError)))
  (gS:W.nsIn K mainGlobals "NoPrime" =some (some (.ref c_NoPrime)))
  (gw:W.nsIn K mainGlobals "NoFraction" =some (some (.ref gm)))
  (gM:W.nsIn K mainGlobals "NoText" =some (some (.ref gC)))
  (gN:W.nsIn K mainGlobals "NoSpot" =some (some (.ref gH)))
  (gK:W.nsIn K mainGlobals "NoTable" =some (some (.ref gA)))
  (gL:W.nsIn K mainGlobals "TooMany" =some (some (.ref gB)))
  (gO:W.nsIn K mainGlobals "NoLine" =some (some (.ref gI)))
  (gU:W.nsIn K mainGlobals "NoRow" =some (some (.ref gQ)))
  (gr:W.nsIn K mainGlobals "NothingDone" =some (some (.ref gn)))
  (gP:W.nsIn K mainGlobals "TooFar" =some (some (.ref c_TooFar)))
  (fi_a_TooFar:W.findIn K (.ref c_TooFar) "__init__" =some (some (.ref fi_TooFar)))
  (fk_TooFar:farKb K c_TooFar c_TreeError fi_TooFar=true)
  (kc_TooFar:W.keepIn K (.ref c_TooFar)=true)
  (li_TooFar:K.lookup fi_TooFar=some ⟨oc_i,od_i,.func (W.fnOf "__init__" "TooFar.__init__" (defArgs vS) (defBody vS) (defScope vS) .none kV_i dc_i pm_i an_i cd_i ct_i),sl_i⟩)
  (ci_TooFar:W.codeIn K cd_i "TooFar.__init__" =true)
  (ki_TooFar:W.keepIn K (.ref fi_TooFar)=true)
  (x_NoFraction:W.excIn K gm [.type "ValueError",.type "Exception",.type "BaseException",.type "object"] "ValueError.__new__" =true)
  (x_NoTable:W.excIn K gA [.type "ValueError",.type "Exception",.type "BaseException",.type "object"] "ValueError.__new__" =true)
  (x_NoText:W.excIn K gC [.type "ValueError",.type "Exception",.type "BaseException",.type "object"] "ValueError.__new__" =true)
  (x_NoSpot:W.excIn K gH [.type "ValueError",.type "Exception",.type "BaseException",.type "object"] "ValueError.__new__" =true)
  (x_TooMany:W.excIn K gB [.type "ValueError",.type "Exception",.type "BaseException",.type "object"] "ValueError.__new__" =true)
  (x_NoLine:W.excIn K gI [.type "ValueError",.type "Exception",.type "BaseException",.type "object"] "ValueError.__new__" =true)
  (x_NoRow:W.excIn K gQ [.type "ValueError",.type "Exception",.type "BaseException",.type "object"] "ValueError.__new__" =true)
  (x_NothingDone:W.excIn K gn [.type "ValueError",.type "Exception",.type "BaseException",.type "object"] "ValueError.__new__" =true)
  (tb:tabB K c_TreeError [c_NoPrime,gm,gC,gH,gA,gB,gI,gQ,gn,c_TooFar] [1,4,2,3,5,6,7,8,9]=true)
  (ka_NOUGHT:W.nsIn K mainGlobals "NOUGHT" =some (some (.ref c_NOUGHT)))
  (kl_NOUGHT:K.lookup c_NOUGHT=some ⟨.type "tuple",ko_NOUGHT,.seq #[.int 0 kt_NOUGHT_0,.int 1 kt_NOUGHT_1] kn_NOUGHT,ks_NOUGHT⟩)
  (ka_ONE:W.nsIn K mainGlobals "ONE" =some (some (.ref c_ONE)))
  (kl_ONE:K.lookup c_ONE=some ⟨.type "tuple",ko_ONE,.seq #[.int 1 kt_ONE_0,.int 1 kt_ONE_1] kn_ONE,ks_ONE⟩)
  (ka_FIRST:W.nsIn K mainGlobals "FIRST" =some (some (.ref c_FIRST)))
  (kl_FIRST:K.lookup c_FIRST=some ⟨.type "tuple",ko_FIRST,.seq #[.int 0 kt_FIRST_0,.ref c2_FIRST] kn_FIRST,ks_FIRST⟩)
  (km_FIRST:K.lookup c2_FIRST=some ⟨.type "tuple",kp_FIRST,.seq #[.int 0 kt_FIRST_1,.int 1 kt_FIRST_2] kq_FIRST,kr_FIRST⟩)
  (ka_FAR:W.nsIn K mainGlobals "FAR" =some (some (.str "far" kt_FAR)))
  (ka_FIGURES:W.nsIn K mainGlobals "FIGURES" =some (some (.str "0123456789" kt_FIGURES)))
  (ka_MOST_FIGURES:W.nsIn K mainGlobals "MOST_FIGURES" =some (some (.int 60 kt_MOST_FIGURES)))
  (ka_MOST_FIRST_FIGURES:W.nsIn K mainGlobals "MOST_FIRST_FIGURES" =some (some (.int 3 kt_MOST_FIRST_FIGURES)))
  (ka_FURTHEST_FIRST:W.nsIn K mainGlobals "FURTHEST_FIRST" =some (some (.int 300 kt_FURTHEST_FIRST)))
  (ka_PIECE_FIGURES:W.nsIn K mainGlobals "PIECE_FIGURES" =some (some (.int 1000 kt_PIECE_FIGURES)))
  (ka_MOST_BOTTOM:W.nsIn K mainGlobals "MOST_BOTTOM" =some (some (.int 300 kt_MOST_BOTTOM)))
  (ka_FURTHEST_WAY:W.nsIn K mainGlobals "FURTHEST_WAY" =some (some (.int 500 kt_FURTHEST_WAY)))
  (ka_MOST_SPOTS:W.nsIn K mainGlobals "MOST_SPOTS" =some (some (.int 400 kt_MOST_SPOTS)))
  (ka_KEEPS:W.nsIn K mainGlobals "KEEPS" =some (some (.str "keeps" kt_KEEPS)))
  (ka_TURNS:W.nsIn K mainGlobals "TURNS" =some (some (.str "turns" kt_TURNS)))
  (ka_SLIDES:W.nsIn K mainGlobals "SLIDES" =some (some (.str "slides" kt_SLIDES)))
  (ka_MOST_NUMBER_FIGURES:W.nsIn K mainGlobals "MOST_NUMBER_FIGURES" =some (some (.int 3 kt_MOST_NUMBER_FIGURES)))
  :∃fd:FuncData,(∀(s:Shared) (v:Value),BindsTo s fd ⟨[v],[]⟩ [("_law_script",v)])/\∀base:Heap,K.In base->base.Ns mainGlobals mg->FnOk l.prog w K mg base CX0 13 fa fd ["_law_script"] (spD K ZL):=by
 obtain ⟨f,oc,kV,dc,pm,cd,ct,od,an,sl,h1,h2,h3,h4⟩:=(AtL.at (i:=77) (x:= "law") (st:=ud) aL rfl)
 have e:=hfa.symm.trans (W.mg_of X G h1)
 cases e
 have FL:=uT (st:=ud) h2 h3 h4
 refine ⟨W.fnOf "law" "law" (defArgs ud) (defBody ud) (defScope ud) .none kV dc pm an cd ct,fun s v=> .of_eq rfl,fun base _ _=>?_⟩
 have M:Mo ⟨l.prog,w,K,mg,base⟩:={
  nd:=nd
  gb:=W.mg_none_of X G z_isinstance
  gG:=W.mg_none_of X G z_int
  md:=W.mg_none_of X G z_bool
  g8:=W.mg_none_of X G z_abs
  gh:=W.mg_none_of X G z_tuple
  gk:=W.mg_none_of X G z_len
  hZ:=W.mg_none_of X G z_min
  gv:=W.mg_none_of X G z_str
  g5:=W.mg_none_of X G z_reversed
  mt:=W.mg_none_of X G z_all
  gJ:=W.mg_none_of X G z_range
  my:=W.mg_none_of X G z_list
  ma:=W.mg_none_of X G z_max
  g6:=W.mg_none_of X G z_ValueError
  hG:=⟨_,_,_,_,_,_,_,_,_,_,_,_,_,_,l6,d6,rfl,c6,k6,W.mg_of X G a6⟩
  A:=fun h=>xbv X G (aL.at h)
  gE:=⟨_,W.mg_of X G gE⟩
  gS:=⟨_,W.mg_of X G gS⟩
  gw:=⟨_,W.mg_of X G gw⟩
  gM:=⟨_,W.mg_of X G gM⟩
  gN:=⟨_,W.mg_of X G gN⟩
  gK:=⟨_,W.mg_of X G gK⟩
  gL:=⟨_,W.mg_of X G gL⟩
  gO:=⟨_,W.mg_of X G gO⟩
  gU:=⟨_,W.mg_of X G gU⟩
  gr:=⟨_,W.mg_of X G gr⟩
  gP:=⟨_,W.mg_of X G gP⟩
  mi:=⟨_,_,_,_,W.mg_of X G gP,W.mg_of X G gE,JE fk_TooFar,kc_TooFar,uT (st:=vS) li_TooFar ci_TooFar ki_TooFar⟩
  gm:=⟨_,W.mg_of X G gw,x_NoFraction⟩
  gA:=⟨_,W.mg_of X G gK,x_NoTable⟩
  gC:=⟨_,W.mg_of X G gM,x_NoText⟩
  gH:=⟨_,W.mg_of X G gN,x_NoSpot⟩
  gB:=⟨_,W.mg_of X G gL,x_TooMany⟩
  gI:=⟨_,W.mg_of X G gO,x_NoLine⟩
  gQ:=⟨_,W.mg_of X G gU,x_NoRow⟩
  gn:=⟨_,W.mg_of X G gr,x_NothingDone⟩
  tb:=KI X G gE (.cons gS (.cons gw (.cons gM (.cons gN (.cons gK (.cons gL (.cons gO (.cons gU (.cons gr (.cons gP (.nil))))))))))) tb
  gF:=⟨_,W.mg_of X G gF⟩
  gg:=fun C h1=>by cases h1.symm.trans (W.mg_of X G gF);exact JU dk_Desk
  me:=Kr dm_Desk dp_Desk (W.mg_of X G gF) mt_init93
  mn:=Zk (W.mg_of X G gF) mt_say94
  mf:=Zk (W.mg_of X G gF) mt_lies93
  hW:=Zk (W.mg_of X G gF) mt_steps93
  mq:=Zk (W.mg_of X G gF) mt_lay93
  mh:=Zk (W.mg_of X G gF) mt_undo93
  mv:=fun C h1=>by cases h1.symm.trans (W.mg_of X G g_Scale);exact xaN dk_Scale
  g7:=Kr dm_Scale dp_Scale (W.mg_of X G g_Scale) mt_iniScale94
  hJ:=⟨_,wR (l:=[("go",ta_FORMS_0,.str "SPOT" tb_FORMS_0),("move",ta_FORMS_1,.str "A B C D" tb_FORMS_1),("scale",ta_FORMS_2,.str "F" tb_FORMS_2),("shift",ta_FORMS_3,.str "F" tb_FORMS_3),("flip",ta_FORMS_4,.str "" tb_FORMS_4),("undo",ta_FORMS_5,.str "" tb_FORMS_5),("ties",ta_FORMS_6,.str "" tb_FORMS_6),("road",ta_FORMS_7,.str "SPOT" tb_FORMS_7),("towards",ta_FORMS_8,.str "END STEPS" tb_FORMS_8),("way",ta_FORMS_9,.str "SPOT" tb_FORMS_9),("meet",ta_FORMS_10,.str "SPOT SPOT" tb_FORMS_10),("near",ta_FORMS_11,.str "END END" tb_FORMS_11),("within",ta_FORMS_12,.str "REACH" tb_FORMS_12),("kind",ta_FORMS_13,.str "A B C D" tb_FORMS_13),("numbers",ta_FORMS_14,.str "A B C D" tb_FORMS_14),("figures",ta_FORMS_15,.str "F" tb_FORMS_15)]) (W.mg_of X G ka_FORMS) ks_FORMS kl_FORMS (show (["go","move","scale","shift","flip","undo","ties","road","towards","way","meet","near","within","kind","numbers","figures"]:List Str).Nodup by decide+kernel),.cons ⟨_,rfl⟩ (.cons ⟨_,rfl⟩ (.cons ⟨_,rfl⟩ (.cons ⟨_,rfl⟩ (.cons ⟨_,rfl⟩ (.cons ⟨_,rfl⟩ (.cons ⟨_,rfl⟩ (.cons ⟨_,rfl⟩ (.cons ⟨_,rfl⟩ (.cons ⟨_,rfl⟩ (.cons ⟨_,rfl⟩ (.cons ⟨_,rfl⟩ (.cons ⟨_,rfl⟩ (.cons ⟨_,rfl⟩ (.cons ⟨_,rfl⟩ (.cons ⟨_,rfl⟩ (.nil))))))))))))))))⟩
  gR:=⟨_,wR (l:=[("STEPS",ta_MOST_0,.int 300 tb_MOST_0),("REACH",ta_MOST_1,.int 7 tb_MOST_1)]) (W.mg_of X G ka_MOST) ks_MOST kl_MOST (show (["STEPS","REACH"]:List Str).Nodup by decide+kernel),.cons ⟨_,rfl⟩ (.cons ⟨_,rfl⟩ (.nil))⟩
  gX:=⟨_,wR (l:=[("go",ta_CHANGES_0,.ref cf_CHANGES_0),("move",ta_CHANGES_1,.ref cf_CHANGES_1),("scale",ta_CHANGES_2,.ref cf_CHANGES_2),("shift",ta_CHANGES_3,.ref cf_CHANGES_3),("flip",ta_CHANGES_4,.ref cf_CHANGES_4)]) (W.mg_of X G ka_CHANGES) ks_CHANGES kl_CHANGES (show (["go","move","scale","shift","flip"]:List Str).Nodup by decide+kernel),.cons ⟨_,W.mg_of X G tg_CHANGES_0,rfl⟩ (.cons ⟨_,W.mg_of X G tg_CHANGES_1,rfl⟩ (.cons ⟨_,W.mg_of X G tg_CHANGES_2,rfl⟩ (.cons ⟨_,W.mg_of X G tg_CHANGES_3,rfl⟩ (.cons ⟨_,W.mg_of X G tg_CHANGES_4,rfl⟩ (.nil)))))⟩
  g9:=⟨_,wR (l:=[("ties",ta_QUESTIONS_0,.ref cf_QUESTIONS_0),("road",ta_QUESTIONS_1,.ref cf_QUESTIONS_1),("towards",ta_QUESTIONS_2,.ref cf_QUESTIONS_2),("way",ta_QUESTIONS_3,.ref cf_QUESTIONS_3),("meet",ta_QUESTIONS_4,.ref cf_QUESTIONS_4),("near",ta_QUESTIONS_5,.ref cf_QUESTIONS_5),("within",ta_QUESTIONS_6,.ref cf_QUESTIONS_6),("kind",ta_QUESTIONS_7,.ref cf_QUESTIONS_7),("numbers",ta_QUESTIONS_8,.ref cf_QUESTIONS_8),("figures",ta_QUESTIONS_9,.ref cf_QUESTIONS_9)]) (W.mg_of X G ka_QUESTIONS) ks_QUESTIONS kl_QUESTIONS (show (["ties","road","towards","way","meet","near","within","kind","numbers","figures"]:List Str).Nodup by decide+kernel),.cons ⟨_,W.mg_of X G tg_QUESTIONS_0,rfl⟩ (.cons ⟨_,W.mg_of X G tg_QUESTIONS_1,rfl⟩ (.cons ⟨_,W.mg_of X G tg_QUESTIONS_2,rfl⟩ (.cons ⟨_,W.mg_of X G tg_QUESTIONS_3,rfl⟩ (.cons ⟨_,W.mg_of X G tg_QUESTIONS_4,rfl⟩ (.cons ⟨_,W.mg_of X G tg_QUESTIONS_5,rfl⟩ (.cons ⟨_,W.mg_of X G tg_QUESTIONS_6,rfl⟩ (.cons ⟨_,W.mg_of X G tg_QUESTIONS_7,rfl⟩ (.cons ⟨_,W.mg_of X G tg_QUESTIONS_8,rfl⟩ (.cons ⟨_,W.mg_of X G tg_QUESTIONS_9,rfl⟩ (.nil))))))))))⟩
  gq:=⟨_,W.mg_of X G ka_NOUGHT,_,_,_,kl_NOUGHT,rfl,rfl,mC rfl,.cons ⟨_,rfl⟩ (.cons ⟨_,rfl⟩ (.nil))⟩
  mr:=⟨_,W.mg_of X G ka_ONE,_,_,_,kl_ONE,rfl,rfl,mC rfl,.cons ⟨_,rfl⟩ (.cons ⟨_,rfl⟩ (.nil))⟩
  gZ:=⟨_,_,W.mg_of X G ka_FIRST,⟨_,_,_,kl_FIRST,rfl,rfl,mC rfl,.cons ⟨_,rfl⟩ (.cons rfl .nil)⟩,⟨_,_,_,km_FIRST,rfl,rfl,mC rfl,.cons ⟨_,rfl⟩ (.cons ⟨_,rfl⟩ .nil)⟩⟩
  ms:=⟨_,W.mg_of X G ka_FAR⟩
  hX:=⟨_,W.mg_of X G ka_FIGURES⟩
  gy:=⟨_,W.mg_of X G ka_MOST_FIGURES⟩
  gD:=⟨_,W.mg_of X G ka_MOST_FIRST_FIGURES⟩
  gV:=⟨_,W.mg_of X G ka_FURTHEST_FIRST⟩
  gY:=⟨_,W.mg_of X G ka_PIECE_FIGURES⟩
  gT:=⟨_,W.mg_of X G ka_MOST_BOTTOM⟩
  g4:=⟨_,W.mg_of X G ka_FURTHEST_WAY⟩
  gW:=⟨_,W.mg_of X G ka_MOST_SPOTS⟩
  mw:=⟨_,W.mg_of X G ka_KEEPS⟩
  mx:=⟨_,W.mg_of X G ka_TURNS⟩
  mj:=⟨_,W.mg_of X G ka_SLIDES⟩
  gz:=⟨_,W.mg_of X G ka_MOST_NUMBER_FIGURES⟩
  }
 exact okk_law M FL
theorem walk {l:W.OpenLaw} {q:Program} {loose:List Str} {XP:(Str->Option Value)->Heap->Prop} {YP:World->Heap->Prop} {d:DefRec} {K:Params->W.Frag} (hn:l.most=some 63) (hdf:d.params.defaults=[])
  (hY:∀(w:World) (h:Heap),YP w h->(K w.params).In h)
  (F:∀(w:World) (mg:Str->Option Value) (fa:Addr) (h:Heap),(K w.params).In h->h.Ns mainGlobals mg->mg d.name=some (.ref fa)->
   ∃fd:FuncData,(∀(s:Shared) (u:Value),BindsTo s fd ⟨[u],[]⟩ [("_law_script",u)])/\∀base:Heap,(K w.params).In base->base.Ns mainGlobals mg->FnOk l.prog w (K w.params) mg base CX0 13 fa fd ["_law_script"] (spD (K w.params) ZL)):
  W.WalkO q loose XP YP l.row.toRowW d [] (fun f vs=>PySem.call f vs):=
 L2.walk_of (n:=63) (k:=13) (x:= "_law_script") (CX:=fun _=>CX0) (sp:=fun w=>spD (K w.params) ZL) hn (by decide) hdf ⟨rfl,by decide,by decide⟩ hY F (fun w H a ns hl _ hS=>law_sp _ H a ns hl hS) fun _ _ _ _ _ z=>z
end R
open PySem PySem.W PyProof.Rows
local macro_rules | `(tactic| walk_at "F")=> `(tactic| (refine' DL.atK_of ?a ?l ?c ?k;(case a=>k_is);(case l=>k_is);(case c=>k_is);(case k=>k_is)))
local macro_rules | `(tactic| walk_at "M")=> `(tactic| (refine' DL.mtK_of ?a ?l ?c ?k ?f;(case a=>k_is);(case l=>k_is);(case c=>k_is);(case k=>k_is);(case f=>kernel_rfl)))
def PySem.W.Fast.tw13628961547921295339 : Unit := ()
def PySem.W.Fast.tw16138152180732382502 : Unit := ()
def PySem.W.Fast.tw8066696512007422674 : Unit := ()
def PySem.W.Fast.tw2973549234623869864 : Unit := ()
def PySem.W.Fast.tw1125843180697990154 : Unit := ()
def PySem.W.Fast.tw1699587215781177110 : Unit := ()
def PySem.W.Fast.tw15710081641852298495 : Unit := ()
def PySem.W.Fast.tw5484226296193192140 : Unit := ()
def PySem.W.Fast.tw2321485574556287566 : Unit := ()
def PySem.W.Fast.tw1544439629927182397 : Unit := ()
def PySem.W.Fast.tw14610071808758828011 : Unit := ()
def PySem.W.Fast.tw12657843477703001431 : Unit := ()
def PySem.W.Fast.tw4459295531627365923 : Unit := ()
def PySem.W.Fast.tw4938732290826437952 : Unit := ()
def PySem.W.Fast.tw1946457241762763578 : Unit := ()
def PySem.W.Fast.tw12911832143938239096 : Unit := ()
def PySem.W.Fast.tw12419188261543962229 : Unit := ()
def PySem.W.Fast.tw3756486991894700529 : Unit := ()
def PySem.W.Fast.tw12266982861669108730 : Unit := ()
def PySem.W.Fast.tw18036722415505307255 : Unit := ()
def PySem.W.Fast.tw5598921466922608928 : Unit := ()
def PySem.W.Fast.tw11155537704168516102 : Unit := ()
def PySem.W.Fast.tw9855978371121553806 : Unit := ()
def PySem.W.Fast.tw10590585297984047321 : Unit := ()
def PySem.W.Fast.tw12385391889354487003 : Unit := ()
def PySem.W.Fast.tw9895297160809343159 : Unit := ()
def PySem.W.Fast.tw10957589134325556551 : Unit := ()
def PySem.W.Fast.tw14688456106969152233 : Unit := ()
def PySem.W.Fast.tw14595081514101714374 : Unit := ()
def PySem.W.Fast.tw5458645365023755685 : Unit := ()
def PySem.W.Fast.tw6735048593296109481 : Unit := ()
def PySem.W.Fast.tw17933564034722594352 : Unit := ()
def PySem.W.Fast.tw11772440729935797686 : Unit := ()
def PySem.W.Fast.tw11138289731257443897 : Unit := ()
def PySem.W.Fast.tw105028055674763604 : Unit := ()
def PySem.W.Fast.tw4253120371772375758 : Unit := ()
def PySem.W.Fast.tw16454460980190056216 : Unit := ()
def PySem.W.Fast.tw18240120082843938424 : Unit := ()
def PySem.W.Fast.tw12231793483335125670 : Unit := ()
def PySem.W.Fast.tw8125265752492903842 : Unit := ()
def PySem.W.Fast.tw15533253500357245342 : Unit := ()
def PySem.W.Fast.tw13552744865923618228 : Unit := ()
def PySem.W.Fast.tw319811544628959207 : Unit := ()
def PySem.W.Fast.tw9629713939055137982 : Unit := ()
def PySem.W.Fast.tw15349865367705629342 : Unit := ()
def PySem.W.Fast.tw8150767978957080473 : Unit := ()
def PySem.W.Fast.tw11998417978491188235 : Unit := ()
def PySem.W.Fast.tw5235503765857766818 : Unit := ()
def PySem.W.Fast.tw3565341043918184359 : Unit := ()
def PySem.W.Fast.tw2590650287604677764 : Unit := ()
def PySem.W.Fast.tw13659846223333563959 : Unit := ()
def PySem.W.Fast.tw13939340622849604619 : Unit := ()
def PySem.W.Fast.tw8395293256191315536 : Unit := ()
def PySem.W.Fast.tw18444038304628789522 : Unit := ()
def PySem.W.Fast.tw10563808252388591731 : Unit := ()
def PySem.W.Fast.tw4463694641623399778 : Unit := ()
def PySem.W.Fast.tw13728651990179692287 : Unit := ()
def PySem.W.Fast.tw7597020762345382498 : Unit := ()
def PySem.W.Fast.tw4721003661377548663 : Unit := ()
def PySem.W.Fast.tw3221154934750448033 : Unit := ()
def PySem.W.Fast.tw10159292326072645223 : Unit := ()
def PySem.W.Fast.tw9545628428615020522 : Unit := ()
def PySem.W.Fast.tw5094808698940227841 : Unit := ()
def PySem.W.Fast.tw12025127044228420899 : Unit := ()
def PySem.W.Fast.tw5482272614435235137 : Unit := ()
def PySem.W.Fast.tw16730796403076021780 : Unit := ()
def PySem.W.Fast.tw14566281666861804397 : Unit := ()
def PySem.W.Fast.tw6283654443194944263 : Unit := ()
def PySem.W.Fast.tw12738092043425782180 : Unit := ()
def PySem.W.Fast.tw14951071902290104376 : Unit := ()
def PySem.W.Fast.tw10385508581871779198 : Unit := ()
def PySem.W.Fast.tw3350295014445337178 : Unit := ()
def PySem.W.Fast.tw17171997449328286192 : Unit := ()
def PySem.W.Fast.tw13369695526302541789 : Unit := ()
def PySem.W.Fast.tw8283169348639468484 : Unit := ()
def PySem.W.Fast.tw17013034428608498145 : Unit := ()
def PySem.W.Fast.tw4048821874889872629 : Unit := ()
def PySem.W.Fast.tw16716260351239510230 : Unit := ()
def PySem.W.Fast.tw4386607286663313856 : Unit := ()
def PySem.W.Fast.tw14406456813145526802 : Unit := ()
def PySem.W.Fast.tw12855475496204240404 : Unit := ()
def PySem.W.Fast.tw5793175424576812280 : Unit := ()
def PySem.W.Fast.tw8385457145564514876 : Unit := ()
def PySem.W.Fast.tw15984433924301971223 : Unit := ()
def PySem.W.Fast.tw16026243757901081478 : Unit := ()
def PySem.W.Fast.tw12200730158490744993 : Unit := ()
def PySem.W.Fast.tw4775620753235361019 : Unit := ()
def PySem.W.Fast.tw12579189985340109401 : Unit := ()
def PySem.W.Fast.tw12118468646498933119 : Unit := ()
def PySem.W.Fast.tw8447012591320355727 : Unit := ()
def PySem.W.Fast.tw2604488741059989001 : Unit := ()
def PySem.W.Fast.tw17817138442542945933 : Unit := ()
def PySem.W.Fast.tw5661998971926173307 : Unit := ()
def PySem.W.Fast.tw10825619496309501021 : Unit := ()
def PySem.W.Fast.tw3159145886926969782 : Unit := ()
def PySem.W.Fast.tw12122189140335122929 : Unit := ()
def PySem.W.Fast.tw8150955434567066494 : Unit := ()
def PySem.W.Fast.tw16156293502521746270 : Unit := ()
def PySem.W.Fast.tw7994033318434755502 : Unit := ()
def PySem.W.Fast.tw2296246965066301021 : Unit := ()
def PySem.W.Fast.tw10611842116415132559 : Unit := ()
def PySem.W.Fast.tw9234101337326636575 : Unit := ()
def PySem.W.Fast.tw17930280347025007268 : Unit := ()
def PySem.W.Fast.tw3130811503194364822 : Unit := ()
def PySem.W.Fast.tw7651003575110941377 : Unit := ()
def PySem.W.Fast.tw1452957364486884703 : Unit := ()
def PySem.W.Fast.tw7984520925529234608 : Unit := ()
def PySem.W.Fast.tw5723617596212736544 : Unit := ()
def PySem.W.Fast.tw13314714011323609452 : Unit := ()
def PySem.W.Fast.tw17898084250308733921 : Unit := ()
def PySem.W.Fast.tw3771868733303280764 : Unit := ()
def PySem.W.Fast.tw3410404447522072618 : Unit := ()
def PySem.W.Fast.tw3250269706644232779 : Unit := ()
def PySem.W.Fast.tw11349825130771773713 : Unit := ()
def PySem.W.Fast.tw5115932609051014800 : Unit := ()
def PySem.W.Fast.tw16190313578635526951 : Unit := ()
def PySem.W.Fast.tw4787996079800380222 : Unit := ()
def PySem.W.Fast.tw6374141609522601023 : Unit := ()
def PySem.W.Fast.tw2108303670548143306 : Unit := ()
set_option maxRecDepth 100000 in
set_option maxHeartbeats 0 in
theorem PySem.Challenge.cw_primetree_k94_words_refused_holds : PySem.Challenge.rw_primetree_k94_words_refused.Holds := by
 w_on;o_law;k_head;(case hw=>w_witness2)
 k_fill
 refine R.walk (l:=PySem.Challenge.rw_primetree_k94_words_refused) rfl rfl (fun w h Y=>PySem.W.kIn_of Y) ?F
 case F=>
  intro w mg fa h KX G hmg
  refine' R.all_mk KX G hmg ?a6 ?l6 ?c6 ?k6 ?aL ?d6 ?z_isinstance ?z_int ?z_bool ?z_abs ?z_tuple ?z_len ?z_min ?z_str ?z_reversed ?z_all ?z_range ?z_list ?z_max ?z_ValueError ?_ ?qgF ?_ ?_ ?_ ?q_mt_init93 ?q_mt_say94 ?q_mt_lies93 ?q_mt_steps93 ?q_mt_lay93 ?q_mt_undo93 ?q_g_Scale ?_ ?_ ?_ ?q_mt_iniScale94 ?q_ka_FORMS ?q_kl_FORMS ?_ ?q_ka_MOST ?q_kl_MOST ?_ ?q_ka_CHANGES ?q_tg_CHANGES_0 ?q_tg_CHANGES_1 ?q_tg_CHANGES_2 ?q_tg_CHANGES_3 ?q_tg_CHANGES_4 ?q_kl_CHANGES ?_ ?q_ka_QUESTIONS ?q_tg_QUESTIONS_0 ?q_tg_QUESTIONS_1 ?q_tg_QUESTIONS_2 ?q_tg_QUESTIONS_3 ?q_tg_QUESTIONS_4 ?q_tg_QUESTIONS_5 ?q_tg_QUESTIONS_6 ?q_tg_QUESTIONS_7 ?q_tg_QUESTIONS_8 ?q_tg_QUESTIONS_9 ?q_kl_QUESTIONS ?_ ?qgE ?qgS ?qgw ?qgM ?qgN ?qgK ?qgL ?qgO ?qgU ?qgr ?qgP ?q_fi_a_TooFar ?_ ?_ ?q_li_TooFar ?q_ci_TooFar ?q_ki_TooFar ?_ ?_ ?_ ?_ ?_ ?_ ?_ ?_ ?_ ?q_ka_NOUGHT ?q_kl_NOUGHT ?q_ka_ONE ?q_kl_ONE ?q_ka_FIRST ?q_kl_FIRST ?q_km_FIRST ?q_ka_FAR ?q_ka_FIGURES ?q_ka_MOST_FIGURES ?q_ka_MOST_FIRST_FIGURES ?q_ka_FURTHEST_FIRST ?q_ka_PIECE_FIGURES ?q_ka_MOST_BOTTOM ?q_ka_FURTHEST_WAY ?q_ka_MOST_SPOTS ?q_ka_KEEPS ?q_ka_TURNS ?q_ka_SLIDES ?q_ka_MOST_NUMBER_FIGURES
  (case a6=>k_is);(case l6=>k_is);(case c6=>k_is);(case k6=>k_is)
  (case aL=>(iterate 78 (refine' .cons ?_ ?_; · walk_at "F"));exact .nil)
  (case d6=>k_is)
  (case z_isinstance=>k_is)
  (case z_int=>k_is)
  (case z_bool=>k_is)
  (case z_abs=>k_is)
  (case z_tuple=>k_is)
  (case z_len=>k_is)
  (case z_min=>k_is)
  (case z_str=>k_is)
  (case z_reversed=>k_is)
  (case z_all=>k_is)
  (case z_range=>k_is)
  (case z_list=>k_is)
  (case z_max=>k_is)
  (case z_ValueError=>k_is)
  (case qgF=>k_is)
  (case q_mt_init93=>walk_at "M")
  (case q_mt_say94=>walk_at "M")
  (case q_mt_lies93=>walk_at "M")
  (case q_mt_steps93=>walk_at "M")
  (case q_mt_lay93=>walk_at "M")
  (case q_mt_undo93=>walk_at "M")
  (case q_g_Scale=>k_is)
  (case q_mt_iniScale94=>walk_at "M")
  (case q_ka_FORMS=>k_is)
  (case q_kl_FORMS=>k_is)
  (case q_ka_MOST=>k_is)
  (case q_kl_MOST=>k_is)
  (case q_ka_CHANGES=>k_is)
  (case q_tg_CHANGES_0=>k_is)
  (case q_tg_CHANGES_1=>k_is)
  (case q_tg_CHANGES_2=>k_is)
  (case q_tg_CHANGES_3=>k_is)
  (case q_tg_CHANGES_4=>k_is)
  (case q_kl_CHANGES=>k_is)
  (case q_ka_QUESTIONS=>k_is)
  (case q_tg_QUESTIONS_0=>k_is)
  (case q_tg_QUESTIONS_1=>k_is)
  (case q_tg_QUESTIONS_2=>k_is)
  (case q_tg_QUESTIONS_3=>k_is)
  (case q_tg_QUESTIONS_4=>k_is)
  (case q_tg_QUESTIONS_5=>k_is)
  (case q_tg_QUESTIONS_6=>k_is)
  (case q_tg_QUESTIONS_7=>k_is)
  (case q_tg_QUESTIONS_8=>k_is)
  (case q_tg_QUESTIONS_9=>k_is)
  (case q_kl_QUESTIONS=>k_is)
  (case qgE=>k_is)
  (case qgS=>k_is)
  (case qgw=>k_is)
  (case qgM=>k_is)
  (case qgN=>k_is)
  (case qgK=>k_is)
  (case qgL=>k_is)
  (case qgO=>k_is)
  (case qgU=>k_is)
  (case qgr=>k_is)
  (case qgP=>k_is)
  (case q_fi_a_TooFar=>k_is)
  (case q_li_TooFar=>k_is)
  (case q_ci_TooFar=>k_is)
  (case q_ki_TooFar=>k_is)
  (case q_ka_NOUGHT=>k_is)
  (case q_kl_NOUGHT=>k_is)
  (case q_ka_ONE=>k_is)
  (case q_kl_ONE=>k_is)
  (case q_ka_FIRST=>k_is)
  (case q_kl_FIRST=>k_is)
  (case q_km_FIRST=>k_is)
  (case q_ka_FAR=>k_is)
  (case q_ka_FIGURES=>k_is)
  (case q_ka_MOST_FIGURES=>k_is)
  (case q_ka_MOST_FIRST_FIGURES=>k_is)
  (case q_ka_FURTHEST_FIRST=>k_is)
  (case q_ka_PIECE_FIGURES=>k_is)
  (case q_ka_MOST_BOTTOM=>k_is)
  (case q_ka_FURTHEST_WAY=>k_is)
  (case q_ka_MOST_SPOTS=>k_is)
  (case q_ka_KEEPS=>k_is)
  (case q_ka_TURNS=>k_is)
  (case q_ka_SLIDES=>k_is)
  (case q_ka_MOST_NUMBER_FIGURES=>k_is)
  all_goals kernel_rfl
#print axioms PySem.Challenge.cw_primetree_k94_words_refused_holds
